/-
  LAYER 1, the law CodecBack: what was written is read as it was, whatever stands behind it; what is read was written so. No condition but the table that the row lists.
-/
import Derived.Test.YtpfchdplcbjfdaaDoorShown1
import Derived.Test.YtpfchdplcbjfdaaDoorLaid1
namespace Go.Proofs.YtpfchdplcbjfdaaDoor
open Go.RowKit
set_option linter.unusedVariables false


theorem int_one (n : Int) (hn : -9223372036854775808 ≤ n ∧ n ≤ 9223372036854775807) (w : World) :
    Calls Tryd.prog 14 #[.slice (some ⟨w.heap.size, 0, none⟩) 1 1] (w.alloc (.cells #[.int .i64 n] 3)) fun e w' => e = .returned (.string (mk (enc (nat64 n)))) ∧ Below w.heap.size w w' := by
  refine (int_any (.slice (some ⟨w.heap.size, 0, none⟩) 1 1) [n] _ ⟨some ⟨w.heap.size, 0, none⟩, 1, rfl, fun _ => ⟨w.heap.size, 0, rfl, by simp, fun j x hj => ?_⟩⟩ ?_ ?_).mono fun e w' ⟨he, hb⟩ => ⟨?_, (Below.alloc (Below.refl _ _) (Nat.le_refl _) _).trans (hb.mono (by simp))⟩
  · rw [Lib.cell_of_heap (alloc_here w _ _)]
    match j, hj with
    | 0, hj => simp at hj; subst hj; rfl
    | j + 1, hj => simp at hj
  · intro x hx; simp at hx; omega
  · simp
  · rw [show enc (nat64 n) = encs [n] by simp [encs]]; exact he
theorem text_one (t : ByteArray) (ht : t.size ≤ 3000) (w : World) :
    Calls Tryd.prog 20 #[.slice (some ⟨w.heap.size, 0, none⟩) 1 1] (w.alloc (.cells #[.string t] 9)) fun e w' => e = .returned (.string (mk (txt t.data.toList))) ∧ Below w.heap.size w w' := by
  refine (textS_any (.slice (some ⟨w.heap.size, 0, none⟩) 1 1) [t] _ ⟨some ⟨w.heap.size, 0, none⟩, 1, rfl, fun _ => ⟨w.heap.size, 0, rfl, by simp, fun j x hj => ?_⟩⟩ ?_ ?_).mono fun e w' ⟨he, hb⟩ => ⟨?_, (Below.alloc (Below.refl _ _) (Nat.le_refl _) _).trans (hb.mono (by simp))⟩
  · rw [Lib.cell_of_heap (alloc_here w _ _)]
    match j, hj with
    | 0, hj => simp at hj; subst hj; rfl
    | j + 1, hj => simp at hj
  · intro k x hk
    match k, hk with
    | 0, hk => simp at hk; subst hk; simp [txts]; omega
    | k + 1, hk => simp at hk
  · simp
  · rw [show txt t.data.toList = txts [t] by simp [txts]]; exact he

/-- ToInt of bytes, by what it says. -/
theorem toInt_is (s : ByteArray) (hs : s.size ≤ maxLen) (r : Value) (h : intRes (toInt s.data.toList) = r) (w : World) :
    Calls Tryd.prog 12 #[.string s] w fun e w' => e = .returned r ∧ Below w.heap.size w w' := by
  subst h
  exact (toInt_any s w hs).mono fun e w' ⟨he, m, hm⟩ => ⟨he, by rw [hm]; exact below_drew (Below.refl _ _) _⟩
theorem toText_is (s : ByteArray) (hs : s.size ≤ maxLen) (r : Value) (h : textRes (toText s.data.toList) = r) (w : World) :
    Calls Tryd.prog 16 #[.string s] w fun e w' => e = .returned r ∧ Below w.heap.size w w' := by
  subst h; exact toText_any s w hs
theorem toBool_is (s : ByteArray) (hs : s.size ≤ maxLen) (r : Value) (h : boolRes s.data.toList = r) (w : World) :
    Calls Tryd.prog 18 #[.string s] w fun e w' => e = .returned r ∧ Below w.heap.size w w' := by
  subst h; exact toBool_any s w hs

set_option maxHeartbeats 4000000 in
set_option maxRecDepth 100000 in
theorem codecBack_walk (n : Int) (t s : ByteArray) (w : World) (hT : Steps w) (h0 : 0 < w.heap.size) (hn : -9223372036854775808 ≤ n ∧ n ≤ 9223372036854775807) (ht : t.size ≤ maxLen) (hs : s.size ≤ maxLen) :
    Calls Tryd.prog 6 #[.int .i64 n, .string t, .string s] w fun e w' => e = .returned (.bool true) ∧ Below w.heap.size w w' := by
  have HSH := hid (shown_any w hT h0)
  by_cases hlong : 3000 < t.size
  · unfold maxLen at *
    go_enter Tryd.func6, Tryd.ntmps6
    go_wp2_with (go_at_call 11; (with_reducible refine HSH.out.mono ?_); rintro e w1 ⟨rfl, hb1⟩)
    go_ret
    exact ⟨rfl, hb1⟩
  · by_cases hlong2 : 3000 < s.size
    · unfold maxLen at *
      go_enter Tryd.func6, Tryd.ntmps6
      go_wp2_with (go_at_call 11; (with_reducible refine HSH.out.mono ?_); rintro e w1 ⟨rfl, hb1⟩)
      go_ret
      exact ⟨rfl, hb1⟩
    · have hlt : t.size ≤ 3000 := by omega
      have hls : s.size ≤ 3000 := by omega
      have hA : (mk (enc (nat64 n))).size ≤ 10 := by rw [mk_size]; exact enc_length (nat64_lt hn.1 hn.2)
      have hX : (mk (txt t.data.toList)).size ≤ 4000 := by rw [mk_size]; have := txt_length t (by omega); omega
      have hF : (mk (frameL t.data.toList)).size = 8 + t.size := by rw [mk_size, frameL_length, str_len]
      have HI := hid (fun w => int_one n hn w)
      have HTx := hid (fun w => text_one t hlt w)
      have HI2 := hid (fun w => toInt_is (mk (enc (nat64 n)) ++ s) (by rw [ByteArray.size_append]; unfold maxLen; omega) (.tuple #[.int .i64 n, .string s, .bool true]) (by rw [append_data, mk_data, toInt_enc (nat64_lt hn.1 hn.2), intRes, unz_nat64, mk_of]) w)
      have HT2 := hid (fun w => toText_is (mk (txt t.data.toList) ++ s) (by rw [ByteArray.size_append]; unfold maxLen; omega) (.tuple #[.string t, .string s, .bool true]) (by rw [append_data, mk_data, toText_txt _ _ (by rw [str_len]; omega), textRes, mk_of, mk_of]) w)
      have hz : ∀ b : Bool, (ByteArray.mk #[if b = true then 1 else 0]).size ≤ 1 := fun b => Nat.le_refl 1
      have HB := hid (fun w => bool_any (n.tmod 2 == 0) w)
      have HB2 := hid (fun w => toBool_is (ByteArray.mk #[if (n.tmod 2 == 0) = true then 1 else 0] ++ s) (by rw [ByteArray.size_append]; have := hz (n.tmod 2 == 0); unfold maxLen; omega) (.tuple #[.bool (n.tmod 2 == 0), .string s, .bool true]) (by
        rw [append_data]
        show boolRes ((if (n.tmod 2 == 0) = true then (1 : UInt8) else 0) :: s.data.toList) = _
        rw [boolRes_cons, mk_of]
        cases (n.tmod 2 == 0) <;> rfl) w)
      have hzb := hz (n.tmod 2 == 0)
      generalize ByteArray.mk #[if (n.tmod 2 == 0) = true then 1 else 0] = Z at HB HB2 hzb
      have HF := hid (fun w h1 h2 => frame_any t w (by omega) h1 h2)
      have HU := hid (fun w h1 => shown_un (mk (frameL t.data.toList) ++ s) (.tuple #[.string t, .int .i64 (8 + t.size : Nat), .int .i64 0]) (by
        unfold unfrRes; rw [append_data, mk_data, unframe_frame _ _ (by rw [str_len]; omega), mk_of, str_len]; rfl) (by rw [ByteArray.size_append, hF]; unfold maxLen; omega) w h1)
      generalize mk (enc (nat64 n)) = A at *
      generalize mk (txt t.data.toList) = X at *
      generalize mk (frameL t.data.toList) = F at *
      clear hz
      rcases unframe_cases s.data.toList with ⟨e, hu, he⟩ | ⟨p, hu, hp1, hp2, hp3⟩
      · have HU2 := hid (fun w h1 => shown_un s (.tuple #[.string ⟨#[]⟩, .int .i64 0, .int .i64 e]) (by unfold unfrRes; rw [hu]; rfl) hs w h1)
        clear hu
        cases hti : toInt s.data.toList with
        | none =>
          have HI3 := fun w => toInt_is s hs (.tuple #[.int .i64 0, .string ⟨#[]⟩, .bool false]) (by rw [hti]; rfl) w
          clear hti
          rcases he with rfl | rfl | rfl
          all_goals
            have HS3 := hid HI3
            clear HI3
            go_enter Tryd.func6, Tryd.ntmps6
            go_wp2_with (first
              | (go_at_call 11; (with_reducible refine HSH.out.mono ?_); rintro e w1 ⟨rfl, hb⟩)
              | (go_at_call 14; first
                  | ((with_reducible refine (HI.out _).mono ?_); rintro e w2 ⟨rfl, hb2⟩; have hb := hb.trans (hb2.mono hb.size)))
              | (go_at_call 12; first
                  | ((with_reducible refine (HI2.out _).mono ?_); rintro e w2 ⟨rfl, hb2⟩; have hb := hb.trans (hb2.mono hb.size))
                  | ((with_reducible refine (HS3.out _).mono ?_); rintro e w2 ⟨rfl, hb2⟩; have hb := hb.trans (hb2.mono hb.size)))
              | (go_at_call 20; (with_reducible refine (HTx.out _).mono ?_); rintro e w2 ⟨rfl, hb2⟩; have hb := hb.trans (hb2.mono hb.size))
              | (go_at_call 16; (with_reducible refine (HT2.out _).mono ?_); rintro e w2 ⟨rfl, hb2⟩; have hb := hb.trans (hb2.mono hb.size))
              | (go_at_call 22; (with_reducible refine (HB.out _).mono ?_); rintro e w2 ⟨rfl, rfl⟩)
              | (go_at_call 18; (with_reducible refine (HB2.out _).mono ?_); rintro e w2 ⟨rfl, hb2⟩; have hb := hb.trans (hb2.mono hb.size))
              | (go_at_call 24; first
                  | ((with_reducible refine (HF.out _ (hT.below hb h0) (by have := hb.size; omega)).mono ?_); rintro e w2 ⟨rfl, hb2⟩; have hb := hb.trans (hb2.mono hb.size)))
              | (go_at_call 26; first
                  | ((with_reducible refine (HU.out _ (hT.below hb h0)).mono ?_); rintro e w2 ⟨rfl, hb2⟩; have hb := hb.trans (hb2.mono hb.size))
                  | ((with_reducible refine (HU2.out _ (hT.below hb h0)).mono ?_); rintro e w2 ⟨rfl, hb2⟩; have hb := hb.trans (hb2.mono hb.size))))
            go_ret
            exact ⟨rfl, hb⟩
        | some x =>
          obtain ⟨v, r⟩ := x
          obtain ⟨hv, hsv⟩ := toInt_sound hti
          have HI3 := fun w => toInt_is s hs (.tuple #[.int .i64 (unz v), .string (mk r), .bool true]) (by rw [hti]; rfl) w
          have HI4 := hid (fun w => int_one (unz v) (unz_lo hv) w)
          rw [nat64_unz] at HI4
          have hcat : mk (enc v) ++ mk r = s := by rw [mk_append, ← hsv, mk_of]
          have hq : ((mk (enc v) ++ mk r).toList == s.toList) = true := by rw [hcat]; exact beq_self_eq_true _
          have hz1 : (mk (enc v)).size + (mk r).size ≤ 3000 := by rw [← ByteArray.size_append, hcat]; exact hls
          clear hti hsv hcat
          generalize unz v = x at *
          rcases he with rfl | rfl | rfl
          all_goals
            have HS3 := hid HI3
            clear HI3
            go_enter Tryd.func6, Tryd.ntmps6
            go_wp2_with (first
              | (go_at_call 11; (with_reducible refine HSH.out.mono ?_); rintro e w1 ⟨rfl, hb⟩)
              | (go_at_call 14; first
                  | ((with_reducible refine (HI.out _).mono ?_); rintro e w2 ⟨rfl, hb2⟩; have hb := hb.trans (hb2.mono hb.size))
                  | ((with_reducible refine (HI4.out _).mono ?_); rintro e w2 ⟨rfl, hb2⟩; have hb := hb.trans (hb2.mono hb.size)))
              | (go_at_call 12; first
                  | ((with_reducible refine (HI2.out _).mono ?_); rintro e w2 ⟨rfl, hb2⟩; have hb := hb.trans (hb2.mono hb.size))
                  | ((with_reducible refine (HS3.out _).mono ?_); rintro e w2 ⟨rfl, hb2⟩; have hb := hb.trans (hb2.mono hb.size)))
              | (go_at_call 20; (with_reducible refine (HTx.out _).mono ?_); rintro e w2 ⟨rfl, hb2⟩; have hb := hb.trans (hb2.mono hb.size))
              | (go_at_call 16; (with_reducible refine (HT2.out _).mono ?_); rintro e w2 ⟨rfl, hb2⟩; have hb := hb.trans (hb2.mono hb.size))
              | (go_at_call 22; (with_reducible refine (HB.out _).mono ?_); rintro e w2 ⟨rfl, rfl⟩)
              | (go_at_call 18; (with_reducible refine (HB2.out _).mono ?_); rintro e w2 ⟨rfl, hb2⟩; have hb := hb.trans (hb2.mono hb.size))
              | (go_at_call 24; first
                  | ((with_reducible refine (HF.out _ (hT.below hb h0) (by have := hb.size; omega)).mono ?_); rintro e w2 ⟨rfl, hb2⟩; have hb := hb.trans (hb2.mono hb.size)))
              | (go_at_call 26; first
                  | ((with_reducible refine (HU.out _ (hT.below hb h0)).mono ?_); rintro e w2 ⟨rfl, hb2⟩; have hb := hb.trans (hb2.mono hb.size))
                  | ((with_reducible refine (HU2.out _ (hT.below hb h0)).mono ?_); rintro e w2 ⟨rfl, hb2⟩; have hb := hb.trans (hb2.mono hb.size))))
            go_ret
            exact ⟨rfl, hb⟩
      · have HU2 := hid (fun w h1 => shown_un s (.tuple #[.string (mk p), .int .i64 (8 + p.length : Nat), .int .i64 0]) (by unfold unfrRes; rw [hu]; rfl) hs w h1)
        have HF2 := hid (fun w h1 h2 => frame_any (mk p) w (by rw [mk_size]; exact hp1) h1 h2)
        rw [mk_data] at HF2
        rw [str_len] at hp2
        have l9 := fun wx => slice_h (s := s) (hi := ((8 + p.length : Nat) : Int)) (l := frameL p) (by omega) (by omega) (by rw [Int.toNat_natCast]; exact hp3.symm) wx
        have hcast : ((8 + p.length : Nat) : Int) = 8 + (p.length : Int) := by omega
        rw [hcast] at l9 HU2
        clear hu hp3 hcast
        cases hti : toInt s.data.toList with
        | none =>
          have HI3 := fun w => toInt_is s hs (.tuple #[.int .i64 0, .string ⟨#[]⟩, .bool false]) (by rw [hti]; rfl) w
          clear hti
          have HS3 := hid HI3
          clear HI3
          go_enter Tryd.func6, Tryd.ntmps6
          go_wp2_with (first
            | (go_at_call 11; (with_reducible refine HSH.out.mono ?_); rintro e w1 ⟨rfl, hb⟩)
            | (go_at_call 14; first
                | ((with_reducible refine (HI.out _).mono ?_); rintro e w2 ⟨rfl, hb2⟩; have hb := hb.trans (hb2.mono hb.size)))
            | (go_at_call 12; first
                | ((with_reducible refine (HI2.out _).mono ?_); rintro e w2 ⟨rfl, hb2⟩; have hb := hb.trans (hb2.mono hb.size))
                | ((with_reducible refine (HS3.out _).mono ?_); rintro e w2 ⟨rfl, hb2⟩; have hb := hb.trans (hb2.mono hb.size)))
            | (go_at_call 20; (with_reducible refine (HTx.out _).mono ?_); rintro e w2 ⟨rfl, hb2⟩; have hb := hb.trans (hb2.mono hb.size))
            | (go_at_call 16; (with_reducible refine (HT2.out _).mono ?_); rintro e w2 ⟨rfl, hb2⟩; have hb := hb.trans (hb2.mono hb.size))
            | (go_at_call 22; (with_reducible refine (HB.out _).mono ?_); rintro e w2 ⟨rfl, rfl⟩)
            | (go_at_call 18; (with_reducible refine (HB2.out _).mono ?_); rintro e w2 ⟨rfl, hb2⟩; have hb := hb.trans (hb2.mono hb.size))
            | (go_at_call 24; first
                | ((with_reducible refine (HF.out _ (hT.below hb h0) (by have := hb.size; omega)).mono ?_); rintro e w2 ⟨rfl, hb2⟩; have hb := hb.trans (hb2.mono hb.size))
                | ((with_reducible refine (HF2.out _ (hT.below hb h0) (by have := hb.size; omega)).mono ?_); rintro e w2 ⟨rfl, hb2⟩; have hb := hb.trans (hb2.mono hb.size)))
            | (go_at_call 26; first
                | ((with_reducible refine (HU.out _ (hT.below hb h0)).mono ?_); rintro e w2 ⟨rfl, hb2⟩; have hb := hb.trans (hb2.mono hb.size))
                | ((with_reducible refine (HU2.out _ (hT.below hb h0)).mono ?_); rintro e w2 ⟨rfl, hb2⟩; have hb := hb.trans (hb2.mono hb.size))))
          go_ret
          exact ⟨rfl, hb⟩
        | some x =>
          obtain ⟨v, r⟩ := x
          obtain ⟨hv, hsv⟩ := toInt_sound hti
          have HI3 := fun w => toInt_is s hs (.tuple #[.int .i64 (unz v), .string (mk r), .bool true]) (by rw [hti]; rfl) w
          have HI4 := hid (fun w => int_one (unz v) (unz_lo hv) w)
          rw [nat64_unz] at HI4
          have hcat : mk (enc v) ++ mk r = s := by rw [mk_append, ← hsv, mk_of]
          have hq : ((mk (enc v) ++ mk r).toList == s.toList) = true := by rw [hcat]; exact beq_self_eq_true _
          have hz1 : (mk (enc v)).size + (mk r).size ≤ 3000 := by rw [← ByteArray.size_append, hcat]; exact hls
          clear hti hsv hcat
          generalize unz v = x at *
          have HS3 := hid HI3
          clear HI3
          go_enter Tryd.func6, Tryd.ntmps6
          go_wp2_with (first
            | (go_at_call 11; (with_reducible refine HSH.out.mono ?_); rintro e w1 ⟨rfl, hb⟩)
            | (go_at_call 14; first
                | ((with_reducible refine (HI.out _).mono ?_); rintro e w2 ⟨rfl, hb2⟩; have hb := hb.trans (hb2.mono hb.size))
                | ((with_reducible refine (HI4.out _).mono ?_); rintro e w2 ⟨rfl, hb2⟩; have hb := hb.trans (hb2.mono hb.size)))
            | (go_at_call 12; first
                | ((with_reducible refine (HI2.out _).mono ?_); rintro e w2 ⟨rfl, hb2⟩; have hb := hb.trans (hb2.mono hb.size))
                | ((with_reducible refine (HS3.out _).mono ?_); rintro e w2 ⟨rfl, hb2⟩; have hb := hb.trans (hb2.mono hb.size)))
            | (go_at_call 20; (with_reducible refine (HTx.out _).mono ?_); rintro e w2 ⟨rfl, hb2⟩; have hb := hb.trans (hb2.mono hb.size))
            | (go_at_call 16; (with_reducible refine (HT2.out _).mono ?_); rintro e w2 ⟨rfl, hb2⟩; have hb := hb.trans (hb2.mono hb.size))
            | (go_at_call 22; (with_reducible refine (HB.out _).mono ?_); rintro e w2 ⟨rfl, rfl⟩)
            | (go_at_call 18; (with_reducible refine (HB2.out _).mono ?_); rintro e w2 ⟨rfl, hb2⟩; have hb := hb.trans (hb2.mono hb.size))
            | (go_at_call 24; first
                | ((with_reducible refine (HF.out _ (hT.below hb h0) (by have := hb.size; omega)).mono ?_); rintro e w2 ⟨rfl, hb2⟩; have hb := hb.trans (hb2.mono hb.size))
                | ((with_reducible refine (HF2.out _ (hT.below hb h0) (by have := hb.size; omega)).mono ?_); rintro e w2 ⟨rfl, hb2⟩; have hb := hb.trans (hb2.mono hb.size)))
            | (go_at_call 26; first
                | ((with_reducible refine (HU.out _ (hT.below hb h0)).mono ?_); rintro e w2 ⟨rfl, hb2⟩; have hb := hb.trans (hb2.mono hb.size))
                | ((with_reducible refine (HU2.out _ (hT.below hb h0)).mono ?_); rintro e w2 ⟨rfl, hb2⟩; have hb := hb.trans (hb2.mono hb.size))))
          go_ret
          exact ⟨rfl, hb⟩

namespace rowCodecBack
open Go.ChangeShapes Go.WideShapes Go.ChangeAt Go.RowKit
open Go.WideMaps Go.WideElems
open Go.ChangeMaps (open_string shut_string)
theorem contract (H : Type) (enc : TypeId × Value → H) (W : World) (base : Nat) (args : Array Value) (ds gs : List (DataW H)) (before : List MemPlace)
    (hval : ∀ (j : Nat) t v, Tryd.f6.params[j]? = some t → args[j]? = some v → Value.okWide Tryd.prog W .any base t v)
    (hW : DataW.Whole enc Tryd.prog Tryd.f6.params.toList Rows.codecBackSpec.vars false W args.toList ds gs before) (hL : laidMetH Tryd.prog Rows.codecBackRow.laid W) :
    Calls Tryd.prog 6 args W fun e W' => ∃ v, e = .returned v ∧ Rows.codecBackSpec.post enc Tryd.prog Tryd.f6 false true false false W args v W' := by
  have hW' := hW
  obtain ⟨p, q, hA0, hV, rfl, hfz, hnd⟩ := hW
  have hlt := hW'.lt
  have hA : DataW.TrodAll enc Tryd.prog W 0 (fun _ => true) true Tryd.f6.params.toList args.toList ds p := hA0
  rw [Tryd.params6] at hA hval
  obtain ⟨v0, vs0, d0, ds0, p0, q0, hargs, rfl, rfl, h0, r0⟩ := trodAll_cons hA
  obtain ⟨v1, vs1, d1, ds1, p1, q1, rfl, rfl, rfl, h1, r1⟩ := trodAll_cons r0
  obtain ⟨v2, vs2, d2, ds2, p2, q2, rfl, rfl, rfl, h2, r2⟩ := trodAll_cons r1
  obtain ⟨rfl, rfl, rfl⟩ := trodAll_nil r2
  obtain rfl : args = #[v0, v1, v2] := by cases args; simp_all
  obtain ⟨rfl, rfl⟩ := trodVars_none hV
  have hpost : ∀ W', Below W.heap.size W W' → Rows.codecBackSpec.post enc Tryd.prog Tryd.f6 false true false false W #[v0, v1, v2] (.bool true) W' := fun W' hb => law_post hW' hb rfl (by rw [Tryd.params6]; simp only [List.forall_mem_cons]; exact ⟨okTy (by kernel_rfl) (by kernel_rfl), okTy (by kernel_rfl) (by kernel_rfl), okTy (by kernel_rfl) (by kernel_rfl), fun _ h => by cases h⟩) (by kernel_rfl) ⟨rfl, rfl, rfl⟩
  suffices hc : Calls Tryd.prog 6 #[v0, v1, v2] W fun e W' => e = .returned (.bool true) ∧ Below W.heap.size W W' from hc.mono fun e W' ⟨he, hb⟩ => ⟨_, he, hpost W' hb⟩
  clear hpost
  obtain ⟨hS, h0W⟩ := steps_of hL
  obtain ⟨a0, rfl, rfl, rfl, w0⟩ := open_int Tryd.underlying3 (hval 0 3 v0 rfl rfl) h0
  obtain ⟨a1, rfl, rfl, rfl, w1⟩ := open_string Tryd.underlying9 (hval 1 9 v1 rfl rfl) h1
  obtain ⟨a2, rfl, rfl, rfl, w2⟩ := open_string Tryd.underlying9 (hval 2 9 v2 rfl rfl) h2
  have b0 : -9223372036854775808 ≤ a0 ∧ a0 ≤ 9223372036854775807 := by simpa [Lit.wf, IntKind.min, IntKind.max, IntKind.signed, IntKind.bits] using w0
  exact codecBack_walk a0 a1 a2 W hS h0W b0 w1 w2

theorem laid_met (os : Os) : laidMet Tryd.prog Rows.codecBackRow.laid ((laidWorld os).forCall (fun _ _ => 0) ⟨#[], #[.int .i64 0, .string ⟨#[]⟩, .string ⟨#[]⟩], []⟩).memory :=
  laidMet_of_run' 8 (by kernel_rfl) (by kernel_rfl)
theorem reads (os : Os) {H : Type} (enc : TypeId × Value → H) : ∃ places, DataW.whole enc Tryd.prog ((laidWorld os).forCall (fun _ _ => 0) ⟨#[], #[.int .i64 0, .string ⟨#[]⟩, .string ⟨#[]⟩], []⟩).memory Tryd.f6.params.toList Rows.codecBackSpec.vars false (#[.int .i64 0, .string ⟨#[]⟩, .string ⟨#[]⟩] : Array Value).toList 8 = some ([.lit (.int .i64 0), .lit (.string []), .lit (.string [])], [], places) :=
  ⟨[], by kernel_rfl⟩
set_option maxRecDepth 100000 in
theorem lifted (os : Os) (started : os.Started) (H : Type) (enc : TypeId × Value → H) (F : Stop.Interp) :
    ReturnsInHanded {} Tryd.checked os 6 .any ((OpenSpec.ofChange Rows.codecBackSpec).preRow enc Tryd.prog Tryd.f6 Rows.codecBackRow.domain false Rows.codecBackRow.laid) (((OpenSpec.ofChange Rows.codecBackSpec).at F).post enc Tryd.prog Tryd.f6 false true false false) := by
  obtain ⟨places, hx⟩ := reads os enc
  refine returnsInHanded_of_row (C := Tryd.checked) (s := OpenSpec.ofChange Rows.codecBackSpec) own started (by kernel_rfl) Tryd.func6
    (witness_row_at (enc := enc) (C := Tryd.checked) false (laidWorld os) #[.int .i64 0, .string ⟨#[]⟩, .string ⟨#[]⟩] rfl (by kernel_rfl) (by kernel_rfl) (by kernel_rfl)
      (OpenSpec.preRow_of_cond 8 hx (by kernel_rfl) (fun k hk => by cases hk) (by kernel_rfl) (laid_met os))) ?_
  intro W base args ds gs before hval hW _ _ _ hL _ _
  exact contract H enc W base args ds gs before hval hW hL
theorem said : Rows.CodecBackSaid :=
  OpenClaim.holds_of_cond 6 Tryd.f6 rfl rfl rfl rfl rfl rfl rfl ⟨rfl, rfl, rfl, rfl, rfl⟩ rfl rfl rfl rfl rfl (by kernel_rfl) Tryd.func6 (by kernel_rfl)
    (of_decide_eq_true (by kernel_rfl)) (by unfold Func.isWrapper; first | (rw [if_pos (by decide +kernel)]; kernel_rfl) | (rw [if_neg (by decide +kernel)]; exact ⟨rfl, rfl⟩))
    (fun os started H enc _ F => by rw [OpenClaim.pre_eq_preRow]; exact lifted os started H enc F)
theorem plain (f : FuncId) (fn : Func) (hf : Tryd.pinned.checked.prog.funcNamed "kiosk/kiosklaw1.CodecBack" = some f) (hfn : Tryd.pinned.checked.prog.funcs[f]? = some fn) :
    false = Tryd.pinned.checked.prog.looks [] ∧ ∀ (j : Nat) t, fn.params[j]? = some t → Tryd.pinned.checked.prog.wantsStandIn t = false := by
  obtain rfl : f = 6 := Option.some.inj ((show Tryd.prog.funcNamed "kiosk/kiosklaw1.CodecBack" = some 6 by kernel_rfl).symm.trans hf) |>.symm
  obtain rfl : fn = Tryd.f6 := (Option.some.inj (Tryd.func6.symm.trans hfn)).symm
  refine ⟨by kernel_rfl, fun j t ht => ?_⟩
  rw [Tryd.params6] at ht
  have hall : ∀ t ∈ ([3, 9, 9] : List TypeId), Tryd.prog.wantsStandIn t = false := by simp only [List.forall_mem_cons]; exact ⟨(by kernel_rfl), (by kernel_rfl), (by kernel_rfl), fun _ h => by cases h⟩
  exact hall t (by simpa using Array.mem_of_getElem? ht)
theorem card : Rows.CodecBackCardSaid :=
  Claim7.holds_tied_plain_at .later [] _ _ _ _ said (fun _ h => by cases h) (by kernel_rfl) (fun _ h => by cases h) codecBack_row_tie rfl ⟨rfl, rfl⟩ (by kernel_rfl) rfl plain (by kernel_rfl)
end rowCodecBack
end Go.Proofs.YtpfchdplcbjfdaaDoor
