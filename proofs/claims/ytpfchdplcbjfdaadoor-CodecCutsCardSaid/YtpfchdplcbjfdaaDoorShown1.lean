/-
  LAYER 1: the chapter's examples hold ('shown' returns true).
-/
import Derived.Test.YtpfchdplcbjfdaaDoorCodecMath2
namespace Go.Proofs.YtpfchdplcbjfdaaDoor
open Go.RowKit
set_option linter.unusedVariables false

theorem frame_a : frameL [97] = [0, 0, 0, 1, UInt8.ofNat (crc [0, 0, 0, 1, 97] / 16777216), UInt8.ofNat (crc [0, 0, 0, 1, 97] / 65536 % 256), UInt8.ofNat (crc [0, 0, 0, 1, 97] / 256 % 256), UInt8.ofNat (crc [0, 0, 0, 1, 97] % 256), 97] := by decide +kernel

set_option maxRecDepth 100000 in
theorem shown_facts : ∃ F : ByteArray, mk (frameL [97]) = F ∧ F.size = 9 ∧ F.data.toList.take 4 = [0, 0, 0, 1] ∧ unfrRes (F ++ ⟨#[122]⟩).data.toList = .tuple #[.string ⟨#[97]⟩, .int .i64 9, .int .i64 0] ∧
    unfrRes (F.data.toList.take 8) = .tuple #[.string ⟨#[]⟩, .int .i64 0, .int .i64 8] ∧ unfrRes (mk (F.data.toList.take 8) ++ ⟨#[98]⟩).data.toList = .tuple #[.string ⟨#[]⟩, .int .i64 0, .int .i64 9] := by
  refine ⟨_, rfl, by decide +kernel, by decide +kernel, ?_, ?_, ?_⟩
  · rw [append_data, mk_data]
    have : unframe (frameL [97] ++ [122]) = ([97], 9, 0) := by decide +kernel
    show unfrRes (frameL [97] ++ [122]) = _
    unfold unfrRes; rw [this]; rfl
  · rw [mk_data]
    have : unframe ((frameL [97]).take 8) = ([], 0, 8) := by decide +kernel
    unfold unfrRes; rw [this]; rfl
  · rw [append_data, mk_data, mk_data]
    have : unframe ((frameL [97]).take 8 ++ [98]) = ([], 0, 9) := by decide +kernel
    show unfrRes ((frameL [97]).take 8 ++ [98]) = _
    unfold unfrRes; rw [this]; rfl

theorem encs_shown : encs [0, -1, 1, 64, -300] = [0, 1, 2, 129, 0, 132, 87] := by decide +kernel
theorem txts_shown : txts [⟨#[97, 98]⟩] = [4, 97, 98] := by decide +kernel
theorem crc_shown : crc [49, 50, 51, 52, 53, 54, 55, 56, 57] = 3808858755 := by decide +kernel
theorem toInt_shown : toInt [128, 1] = none := by decide +kernel

theorem shown_h1 (w : World) : Calls Tryd.prog 12 #[.string ⟨#[128, 1]⟩] w fun e w' => e = .returned (.tuple #[.int .i64 0, .string ⟨#[]⟩, .bool false]) ∧ Below w.heap.size w w' :=
  (toInt_any ⟨#[128, 1]⟩ w (by decide)).mono fun e w' ⟨he, m, hm⟩ => ⟨by
    have h : toInt (ByteArray.mk #[128, 1]).data.toList = none := toInt_shown
    rw [h] at he; exact he, by rw [hm]; exact below_drew (Below.refl _ _) _⟩
theorem shown_h2 {F : ByteArray} (hF : mk (frameL [97]) = F) (w : World) (h1 : Steps w) (h2 : 0 < w.heap.size) : Calls Tryd.prog 24 #[.string ⟨#[97]⟩] w fun e w' => e = .returned (.tuple #[.string F, .int .i64 0]) ∧ Below w.heap.size w w' :=
  (frame_any ⟨#[97]⟩ w (by decide) h1 h2).mono fun e w' ⟨he, hb⟩ => ⟨by
    have h : mk (frameL (ByteArray.mk #[97]).data.toList) = F := hF
    rw [h] at he; exact he, hb⟩
theorem shown_h5 (w : World) (h1 : Steps w) : Calls Tryd.prog 28 #[.string ⟨#[49, 50, 51, 52, 53, 54, 55, 56, 57]⟩] w fun e w' => e = .returned (.int .u32 3808858755) ∧ w = w' :=
  (crc_any ⟨#[49, 50, 51, 52, 53, 54, 55, 56, 57]⟩ w (by decide) h1).mono fun e w' ⟨he, hb⟩ => ⟨by
    have h : crc (ByteArray.mk #[49, 50, 51, 52, 53, 54, 55, 56, 57]).data.toList = 3808858755 := crc_shown
    rw [h] at he; exact he, hb⟩
theorem alloc_here (w : World) (c : Array Value) (t : TypeId) : (w.alloc (.cells c t)).heap[w.heap.size]? = some (.cells c t) := heap_alloc_new w _
theorem shown_h3 (w : World) : Calls Tryd.prog 14 #[.slice (some ⟨w.heap.size, 0, none⟩) 5 5] (w.alloc (.cells #[.int .i64 0, .int .i64 (-1), .int .i64 1, .int .i64 64, .int .i64 (-300)] 3)) fun e w' => e = .returned (.string ⟨#[0, 1, 2, 129, 0, 132, 87]⟩) ∧ Below w.heap.size w w' := by
  refine (int_any (.slice (some ⟨w.heap.size, 0, none⟩) 5 5) [0, -1, 1, 64, -300] _ ⟨some ⟨w.heap.size, 0, none⟩, 5, rfl, fun _ => ⟨w.heap.size, 0, rfl, by simp, fun j x hj => ?_⟩⟩ ?_ ?_).mono fun e w' ⟨he, hb⟩ => ⟨?_, (Below.alloc (Below.refl _ _) (Nat.le_refl _) _).trans (hb.mono (by simp))⟩
  · rw [Lib.cell_of_heap (alloc_here w _ _)]
    match j, hj with
    | 0, hj | 1, hj | 2, hj | 3, hj | 4, hj => simp at hj; subst hj; rfl
    | j + 5, hj => simp at hj
  · intro n hn
    simp at hn
    omega
  · simp
  · rw [encs_shown] at he; exact he
theorem shown_h4 (w : World) : Calls Tryd.prog 20 #[.slice (some ⟨w.heap.size, 0, none⟩) 1 1] (w.alloc (.cells #[.string ⟨#[97, 98]⟩] 9)) fun e w' => e = .returned (.string ⟨#[4, 97, 98]⟩) ∧ Below w.heap.size w w' := by
  refine (textS_any (.slice (some ⟨w.heap.size, 0, none⟩) 1 1) [⟨#[97, 98]⟩] _ ⟨some ⟨w.heap.size, 0, none⟩, 1, rfl, fun _ => ⟨w.heap.size, 0, rfl, by simp, fun j x hj => ?_⟩⟩ ?_ ?_).mono fun e w' ⟨he, hb⟩ => ⟨?_, (Below.alloc (Below.refl _ _) (Nat.le_refl _) _).trans (hb.mono (by simp))⟩
  · rw [Lib.cell_of_heap (alloc_here w _ _)]
    match j, hj with
    | 0, hj => simp at hj; subst hj; rfl
    | j + 1, hj => simp at hj
  · intro k x hk
    match k, hk with
    | 0, hk => simp at hk; subst hk; simp [txts, ByteArray.size]
    | k + 1, hk => simp at hk
  · simp
  · rw [txts_shown] at he; exact he

theorem shown_un (s : ByteArray) (r : Value) (hr : unfrRes s.data.toList = r) (hs : s.size ≤ maxLen) (w : World) (h1 : Steps w) :
    Calls Tryd.prog 26 #[.string s] w fun e w' => e = .returned r ∧ Below w.heap.size w w' := by
  subst hr
  exact unframe_any s w hs h1

set_option maxHeartbeats 2000000 in
set_option maxRecDepth 100000 in
theorem shown_any (w : World) (hT : Steps w) (h0 : 0 < w.heap.size) :
    Calls Tryd.prog 11 #[] w fun e w' => e = .returned (.bool true) ∧ Below w.heap.size w w' := by
  obtain ⟨F, hF, z9, hf4, hu1, hu2, hu3⟩ := shown_facts
  have H1 := hid shown_h1
  have H2 := hid (shown_h2 hF)
  have H3 := hid shown_h3
  have H4 := hid shown_h4
  have H5 := hid shown_h5
  have hz8 : (mk (F.data.toList.take 8)).size ≤ 8 := by rw [mk_size, List.length_take]; omega
  have H6 := hid (fun w h1 => shown_un (F ++ ⟨#[122]⟩) _ hu1 (by rw [ByteArray.size_append, z9]; have : (ByteArray.mk #[122]).size = 1 := rfl; unfold maxLen; omega) w h1)
  have H7 := hid (fun w h1 => shown_un (mk (F.data.toList.take 8)) _ hu2 (by unfold maxLen; omega) w h1)
  have H8 := hid (fun w h1 => shown_un (mk (F.data.toList.take 8) ++ ⟨#[98]⟩) _ hu3 (by rw [ByteArray.size_append]; have : (ByteArray.mk #[98]).size = 1 := rfl; unfold maxLen; omega) w h1)
  have l4 : ∀ wx : World, (Instr.slice 9 (.string F) none (some (.int .i64 4)) none).run Tryd.prog wx = .ok (.string ⟨#[0, 0, 0, 1]⟩) wx := fun wx => slice_h (s := F) (hi := 4) (l := [0, 0, 0, 1]) (by omega) (by omega) hf4 wx
  have l8 := fun wx => slice_h (s := F) (hi := 8) (l := F.data.toList.take 8) (by omega) (by omega) rfl wx
  clear hF hf4 hu1 hu2 hu3
  generalize mk (F.data.toList.take 8) = G at *
  go_enter Tryd.func11, Tryd.ntmps11
  go_wp2_with (first
    | (go_at_call 12; (with_reducible refine (H1.out _).mono ?_); rintro e w1 ⟨rfl, hb1⟩)
    | (go_at_call 24; (with_reducible refine (H2.out _ (hT.below hb1 h0) (by have := hb1.size; omega)).mono ?_); rintro e w2 ⟨rfl, hb2⟩; have hb2 := hb1.trans (hb2.mono hb1.size))
    | (go_at_call 14; (with_reducible refine (H3.out _).mono ?_); rintro e w3 ⟨rfl, hb3⟩; have hb3 := hb2.trans (hb3.mono hb2.size))
    | (go_at_call 20; (with_reducible refine (H4.out _).mono ?_); rintro e w4 ⟨rfl, hb4⟩; have hb4 := hb3.trans (hb4.mono hb3.size))
    | (go_at_call 28; (with_reducible refine (H5.out _ (hT.below hb4 h0)).mono ?_); rintro e w5 ⟨rfl, rfl⟩)
    | (go_at_call 26; first
        | ((with_reducible refine (H6.out _ (hT.below hb4 h0)).mono ?_); rintro e w6 ⟨rfl, hb6⟩; have hb6 := hb4.trans (hb6.mono hb4.size))
        | ((with_reducible refine (H7.out _ (hT.below hb6 h0)).mono ?_); rintro e w7 ⟨rfl, hb7⟩; have hb7 := hb6.trans (hb7.mono hb6.size))
        | ((with_reducible refine (H8.out _ (hT.below hb7 h0)).mono ?_); rintro e w8 ⟨rfl, hb8⟩; have hb8 := hb7.trans (hb8.mono hb7.size))))
  go_ret
  exact ⟨rfl, hb8⟩

theorem int_one (n : Int) (hn : -9223372036854775808 ≤ n ∧ n ≤ 9223372036854775807) (w : World) :
    Calls Tryd.prog 14 #[.slice (some ⟨w.heap.size, 0, none⟩) 1 1] (w.alloc (.cells #[.int .i64 n] 3)) fun e w' => e = .returned (.string (mk (enc (nat64 n)))) ∧ Below w.heap.size w w' := by
  refine (int_any (.slice (some ⟨w.heap.size, 0, none⟩) 1 1) [n] _ ⟨some ⟨w.heap.size, 0, none⟩, 1, rfl, fun _ => ⟨w.heap.size, 0, rfl, by simp, fun j x hj => ?_⟩⟩ ?_ ?_).mono fun e w' ⟨he, hb⟩ => ⟨?_, (Below.alloc (Below.refl _ _) (Nat.le_refl _) _).trans (hb.mono (by simp))⟩
  · rw [Lib.cell_of_heap (alloc_here w _ _)]
    match j, hj with
    | 0, hj => simp at hj; subst hj; rfl
    | j + 1, hj => simp at hj
  · intro x hx; simp at hx; omega
  · simp
  · rw [show enc (nat64 n) = encs [n] by simp [encs]]; exact he
theorem text_one (t : ByteArray) (ht : t.size ≤ 3000) (w : World) :
    Calls Tryd.prog 20 #[.slice (some ⟨w.heap.size, 0, none⟩) 1 1] (w.alloc (.cells #[.string t] 9)) fun e w' => e = .returned (.string (mk (txt t.data.toList))) ∧ Below w.heap.size w w' := by
  refine (textS_any (.slice (some ⟨w.heap.size, 0, none⟩) 1 1) [t] _ ⟨some ⟨w.heap.size, 0, none⟩, 1, rfl, fun _ => ⟨w.heap.size, 0, rfl, by simp, fun j x hj => ?_⟩⟩ ?_ ?_).mono fun e w' ⟨he, hb⟩ => ⟨?_, (Below.alloc (Below.refl _ _) (Nat.le_refl _) _).trans (hb.mono (by simp))⟩
  · rw [Lib.cell_of_heap (alloc_here w _ _)]
    match j, hj with
    | 0, hj => simp at hj; subst hj; rfl
    | j + 1, hj => simp at hj
  · intro k x hk
    match k, hk with
    | 0, hk => simp at hk; subst hk; simp [txts]; omega
    | k + 1, hk => simp at hk
  · simp
  · rw [show txt t.data.toList = txts [t] by simp [txts]]; exact he

/-- ToInt of bytes, by what it says. -/
theorem toInt_is (s : ByteArray) (hs : s.size ≤ maxLen) (r : Value) (h : intRes (toInt s.data.toList) = r) (w : World) :
    Calls Tryd.prog 12 #[.string s] w fun e w' => e = .returned r ∧ Below w.heap.size w w' := by
  subst h
  exact (toInt_any s w hs).mono fun e w' ⟨he, m, hm⟩ => ⟨he, by rw [hm]; exact below_drew (Below.refl _ _) _⟩
theorem toText_is (s : ByteArray) (hs : s.size ≤ maxLen) (r : Value) (h : textRes (toText s.data.toList) = r) (w : World) :
    Calls Tryd.prog 16 #[.string s] w fun e w' => e = .returned r ∧ Below w.heap.size w w' := by
  subst h; exact toText_any s w hs
theorem toBool_is (s : ByteArray) (hs : s.size ≤ maxLen) (r : Value) (h : boolRes s.data.toList = r) (w : World) :
    Calls Tryd.prog 18 #[.string s] w fun e w' => e = .returned r ∧ Below w.heap.size w w' := by
  subst h; exact toBool_any s w hs

end Go.Proofs.YtpfchdplcbjfdaaDoor
