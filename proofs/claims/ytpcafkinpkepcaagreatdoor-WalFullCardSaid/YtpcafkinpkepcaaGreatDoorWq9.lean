import Derived.Test.YtpcafkinpkepcaaGreatDoorWq8
import Derived.Test.YtpcafkinpkepcaaGreatDoorWq5
/-
  Wq9: Texts, in one text.
-/
/-
  LAYER 1: texts and bools: what the program's and the document's functions return.
-/
namespace Go.Proofs.YtpcafkinpkepcaaGreatDoor
open Go.RowKit
set_option linter.unusedVariables false
set_option maxRecDepth 100000

/-- What ToText says. -/
def toText (l : List UInt8) : Option (List UInt8 × List UInt8) :=
  match toInt l with
  | none => none
  | some (v, r) => if unz v < 0 ∨ (r.length : Int) < unz v then none else some (r.take (unz v).toNat, r.drop (unz v).toNat)
def textRes : Option (List UInt8 × List UInt8) → Value
  | none => .tuple #[.string ⟨#[]⟩, .string ⟨#[]⟩, .bool false]
  | some (a, r) => .tuple #[.string (mk a), .string (mk r), .bool true]
theorem toInt_rest {l : List UInt8} {v : Nat} {r : List UInt8} (h : toInt l = some (v, r)) : r.length ≤ l.length := by
  obtain ⟨_, rfl⟩ := toInt_sound h
  rw [List.length_append]; omega


set_option maxHeartbeats 1000000 in
set_option maxRecDepth 100000 in
theorem toText_any (s : ByteArray) (w : World) (hs : s.size ≤ maxLen) :
    Calls Tryz.prog 213 #[.string s] w fun e w' => e = .returned (textRes (toText s.data.toList)) ∧ Below w.heap.size w w' := by
  have hI := fun w => toInt_any s w hs
  unfold maxLen at hs
  cases hti : toInt s.data.toList with
  | none =>
    have HR : Hid (toText s.data.toList = none) := hid (by unfold toText; rw [hti])
    simp only [hti, intRes] at hI
    have HI := hid hI
    clear hI hti
    go_enter Tryz.func213, Tryz.ntmps213
    go_wp2_with (go_at_call 185; refine (HI.out _).mono ?_; rintro e w1 ⟨rfl, hm⟩)
    go_ret3
    exact ⟨by rw [HR.out]; rfl, (by obtain ⟨m, rfl⟩ := hm; exact below_drew (Below.refl _ _) _)⟩
  | some x =>
    obtain ⟨v, r⟩ := x
    have hr := toInt_rest hti
    rw [str_len] at hr
    have hv := (toInt_sound hti).1
    have hst : toText s.data.toList = if unz v < 0 ∨ (r.length : Int) < unz v then none else some (r.take (unz v).toNat, r.drop (unz v).toNat) := by unfold toText; rw [hti]
    simp only [hti, intRes] at hI
    have HI := hid hI
    have HS := hid hst
    have hb := unz_lo hv
    clear hI hti hst
    have hms := mk_size r
    have HM := hid hms
    clear hms
    by_cases hneg : unz v < 0
    · have HR : Hid (toText s.data.toList = none) := hid (by rw [HS.out, if_pos (.inl hneg)])
      go_enter Tryz.func213, Tryz.ntmps213
      go_wp2_with (go_at_call 185; refine (HI.out _).mono ?_; rintro e w1 ⟨rfl, hm⟩)
      go_ret3
      exact ⟨by rw [HR.out]; rfl, (by obtain ⟨m, rfl⟩ := hm; exact below_drew (Below.refl _ _) _)⟩
    · by_cases hlong : (r.length : Int) < unz v
      · have HR : Hid (toText s.data.toList = none) := hid (by rw [HS.out, if_pos (.inr hlong)])
        have hlong' : ((mk r).size : Int) < unz v := by rw [HM.out]; exact hlong
        have hneg' : 0 ≤ unz v := by omega
        go_enter Tryz.func213, Tryz.ntmps213
        go_wp2_with (go_at_call 185; refine (HI.out _).mono ?_; rintro e w1 ⟨rfl, hm⟩)
        go_ret3
        exact ⟨by rw [HR.out]; rfl, (by obtain ⟨m, rfl⟩ := hm; exact below_drew (Below.refl _ _) _)⟩
      · have HR := hid (HS.out.trans (if_neg (by omega)))
        have hlong' : unz v ≤ ((mk r).size : Int) := by rw [HM.out]; omega
        have hneg' : 0 ≤ unz v := by omega
        have l1 := fun wx => slice_h (s := mk r) (hi := unz v) (l := r.take (unz v).toNat) hneg' hlong' rfl wx
        have l2 := fun wx => slice_l (s := mk r) (lo := unz v) (l := r.drop (unz v).toNat) hneg' hlong' rfl wx
        generalize unz v = n at *
        go_enter Tryz.func213, Tryz.ntmps213
        go_wp2_with (go_at_call 185; refine (HI.out _).mono ?_; rintro e w1 ⟨rfl, hm⟩)
        have hm2 : Below w.heap.size w w1 := (by obtain ⟨m, rfl⟩ := hm; exact below_drew (Below.refl _ _) _)
        clear hm
        go_quiet (fail)
        go_wp2
        go_ret3
        exact ⟨by rw [HR.out]; rfl, below_drew hm2 _⟩


set_option maxHeartbeats 1000000 in
set_option maxRecDepth 100000 in
theorem refToText_any (s : ByteArray) (w : World) (hs : s.size ≤ maxLen) :
    Calls Tryz.prog 189 #[.string s] w fun e w' => e = .returned (textRes (toText s.data.toList)) ∧ Below w.heap.size w w' := by
  have hI := fun w => refToInt_any s w hs
  unfold maxLen at hs
  cases hti : toInt s.data.toList with
  | none =>
    have HR : Hid (toText s.data.toList = none) := hid (by unfold toText; rw [hti])
    simp only [hti, intRes] at hI
    have HI := hid hI
    clear hI hti
    go_enter Tryz.func189, Tryz.ntmps189
    go_wp2_with (go_at_call 158; refine (HI.out _).mono ?_; rintro e w1 ⟨rfl, hm⟩)
    go_ret3
    exact ⟨by rw [HR.out]; rfl, hm⟩
  | some x =>
    obtain ⟨v, r⟩ := x
    have hr := toInt_rest hti
    rw [str_len] at hr
    have hv := (toInt_sound hti).1
    have hst : toText s.data.toList = if unz v < 0 ∨ (r.length : Int) < unz v then none else some (r.take (unz v).toNat, r.drop (unz v).toNat) := by unfold toText; rw [hti]
    simp only [hti, intRes] at hI
    have HI := hid hI
    have HS := hid hst
    have hb := unz_lo hv
    clear hI hti hst
    have hms := mk_size r
    have HM := hid hms
    clear hms
    by_cases hneg : unz v < 0
    · have HR : Hid (toText s.data.toList = none) := hid (by rw [HS.out, if_pos (.inl hneg)])
      go_enter Tryz.func189, Tryz.ntmps189
      go_wp2_with (go_at_call 158; refine (HI.out _).mono ?_; rintro e w1 ⟨rfl, hm⟩)
      go_ret3
      exact ⟨by rw [HR.out]; rfl, hm⟩
    · by_cases hlong : (r.length : Int) < unz v
      · have HR : Hid (toText s.data.toList = none) := hid (by rw [HS.out, if_pos (.inr hlong)])
        have hlong' : ((mk r).size : Int) < unz v := by rw [HM.out]; exact hlong
        have hneg' : 0 ≤ unz v := by omega
        go_enter Tryz.func189, Tryz.ntmps189
        go_wp2_with (go_at_call 158; refine (HI.out _).mono ?_; rintro e w1 ⟨rfl, hm⟩)
        go_ret3
        exact ⟨by rw [HR.out]; rfl, hm⟩
      · have HR := hid (HS.out.trans (if_neg (by omega)))
        have hlong' : unz v ≤ ((mk r).size : Int) := by rw [HM.out]; omega
        have hneg' : 0 ≤ unz v := by omega
        have l1 := fun wx => slice_h (s := mk r) (hi := unz v) (l := r.take (unz v).toNat) hneg' hlong' rfl wx
        have l2 := fun wx => slice_l (s := mk r) (lo := unz v) (l := r.drop (unz v).toNat) hneg' hlong' rfl wx
        generalize unz v = n at *
        go_enter Tryz.func189, Tryz.ntmps189
        go_wp2_with (go_at_call 158; refine (HI.out _).mono ?_; rintro e w1 ⟨rfl, hm⟩)
        have hm2 : Below w.heap.size w w1 := hm
        clear hm
        go_quiet (fail)
        go_wp2
        go_ret3
        exact ⟨by rw [HR.out]; rfl, below_drew hm2 _⟩


theorem txts_snoc (l : List ByteArray) (s : ByteArray) : txts (l ++ [s]) = txts l ++ txt s.data.toList := by simp [txts]
theorem txt_length (s : ByteArray) (h : s.size ≤ 9223372036854775807) : (txt s.data.toList).length ≤ 10 + s.size := by
  have := enc_length (nat64_lt (n := (s.data.toList.length : Int)) (by omega) (by rw [str_len]; omega))
  rw [txt, List.length_append, str_len] at *
  omega

set_option maxHeartbeats 1000000 in
set_option maxRecDepth 100000 in
/-- (*output).text writes a text behind what the builder holds. -/
theorem text_any {T : TypeId} (hT : BlkOk T) (B b : Nat) (l : List UInt8) (s : ByteArray) (w : World) (h : Lib.IsBuilder T 5 B b (Lib.byteCells l) w) (hlen : l.length + 10 + s.size ≤ 140737488355328) (hBw : B ≤ w.heap.size) :
    Calls Tryz.prog 195 #[.pointer (some ⟨b, 0, none⟩), .string s] w fun e w' => e = .returned (.tuple #[]) ∧ Lib.IsBuilder T 5 B b (Lib.byteCells (l ++ txt s.data.toList)) w' ∧ Below B w w' := by
  have HN := hid (number_any hT B b l (s.size : Int) w (by omega) (by omega) h (by omega) hBw)
  have hel := enc_length (nat64_lt (n := (s.size : Int)) (by omega) (by omega))
  have HS := hid (fun W (hW : Lib.IsBuilder T 5 B b (Lib.byteCells (l ++ enc (nat64 (s.size : Int)))) W) (hB : B ≤ W.heap.size) => writeString_list hT B b (l ++ enc (nat64 (s.size : Int))) s W hW (by rw [List.length_append]; omega) hB)
  clear h
  go_enter Tryz.func195, Tryz.ntmps195
  go_wp2_with (first
    | (go_at_call 193; refine HN.out.mono ?_; rintro e w1 ⟨rfl, h1, hb1⟩)
    | (go_at_call 103; refine (HS.out _ h1 (by have := hb1.size; omega)).mono ?_; rintro e w2 ⟨rfl, h2, hb2⟩))
  go_end0
  exact ⟨rfl, by rw [txt, str_len, ← List.append_assoc]; exact h2, hb1.trans hb2⟩

set_option maxHeartbeats 1000000 in
set_option maxRecDepth 100000 in
theorem eachStr_any {T : TypeId} (hT : BlkOk T) (B b : Nat) (l : List UInt8) (sb so cap : Nat) (xs : List ByteArray) (w : World)
    (hc : ∀ j x, xs[j]? = some x → w.cell? ⟨sb, so + j, none⟩ = some (.string x)) (M : Nat) (hx : ∀ k x, xs[k]? = some x → l.length + (txts (xs.take k)).length + 10 + x.size ≤ 140737488355328) (hsb : sb < B)
    (h : Lib.IsBuilder T 5 B b (Lib.byteCells l) w) (hn : xs.length ≤ 9223372036854775807) (hBw : B ≤ w.heap.size) :
    Calls Tryz.prog 194 #[.slice (some ⟨sb, so, none⟩) xs.length cap, .func (.func 195) #[.pointer (some ⟨b, 0, none⟩)] #[]] w fun e w' =>
      e = .returned (.tuple #[]) ∧ Lib.IsBuilder T 5 B b (Lib.byteCells (l ++ txts xs)) w' ∧ Below B w w' := by
  have HB := hid h
  have HX := hid hx
  have HC := hid hc
  clear h hx hc
  go_enter Tryz.func194, Tryz.ntmps194
  go_wp2
  go_loopw [8] (fun i wr => ∃ k : Nat, k ≤ xs.length ∧ i = .int .i64 k ∧ Hid (Lib.IsBuilder T 5 B b (Lib.byteCells (l ++ txts (xs.take k))) wr) ∧ Below B w wr) (fun i _ => xs.length - (intOf i).toNat)
  case atStart => exact ⟨0, Nat.zero_le _, rfl, hid (by simpa [txts] using HB.out), Below.refl _ _⟩
  case round =>
    obtain ⟨k, hk, rfl, hI, hbl⟩ := hrel
    by_cases hlt : k < xs.length
    · have hx := HX.out k xs[k] (by simp [hlt])
      have c1 : wr.cell? ⟨sb, so + k, none⟩ = some (.string xs[k]) := (hbl.cell (p := ⟨sb, so + k, none⟩) hsb).trans (HC.out k _ (by simp [hlt]))
      have ht : xs.take (k + 1) = xs.take k ++ [xs[k]] := by rw [List.take_succ_eq_append_getElem hlt]
      have HT := hid ht
      clear ht
      generalize xs[k] = x at *
      go_wp2_with (go_at_call 195; refine (text_any hT B b _ x _ hI.out (by rw [List.length_append]; omega) (by have := hbl.size; omega)).mono ?_; rintro e w1 ⟨rfl, h1, hb2⟩)
      go_roundw
      case rel => exact ⟨k + 1, by omega, by go_num, hid (by rw [HT.out, txts_snoc, ← List.append_assoc]; exact h1), hbl.trans hb2⟩
      case measure => simp [intOf]; omega
    · go_wp2
      go_end0
      exact ⟨rfl, by have := hI.out; rw [List.take_of_length_le (by omega)] at this; exact this, hbl⟩

theorem eachStr_none (a : Option Addr) (cap : Nat) (f : Value) (w : World) :
    Calls Tryz.prog 194 #[.slice a 0 cap, f] w fun e w' => e = .returned (.tuple #[]) ∧ w = w' := by
  go_enter Tryz.func194, Tryz.ntmps194
  go_wp2
  refine wp_loop_rounds 1 ?_
  rw [rounds_succ]
  go_wp2
  go_end0
  exact ⟨rfl, rfl⟩

set_option maxHeartbeats 1000000 in
set_option maxRecDepth 100000 in
/-- codec.Text. -/
theorem textS_any (v : Value) (xs : List ByteArray) (w : World) (hv : StrsAt w w.heap.size v xs) (hx : ∀ k x, xs[k]? = some x → (txts (xs.take k)).length + 10 + x.size ≤ 140737488355328) (hn : xs.length ≤ 9223372036854775807) :
    Calls Tryz.prog 146 #[v] w fun e w' => e = .returned (.string (mk (txts xs))) ∧ Below w.heap.size w w' := by
  obtain ⟨a, cap, rfl, ha⟩ := hv
  have HX := hid hx
  have hfr : Lib.IsBuilder 226 5 w.heap.size w.heap.size [] (w.alloc (.cells #[.pointer none, .slice none 0 0] 226)) := Lib.fresh_isBuilder _ _ _
  have HF := hid hfr
  clear hfr hx
  have heach : ∀ W, Hid (W = w.alloc (.cells #[.pointer none, .slice none 0 0] 226)) → Calls Tryz.prog 194 #[.slice a xs.length cap, .func (.func 195) #[.pointer (some ⟨w.heap.size, 0, none⟩)] #[]] W fun e w' =>
      e = .returned (.tuple #[]) ∧ Lib.IsBuilder 226 5 w.heap.size w.heap.size (Lib.byteCells (txts xs)) w' ∧ Below w.heap.size W w' := by
    intro W hW
    have hW := hW.out
    subst hW
    by_cases h0 : xs = []
    · subst h0
      refine (eachStr_none a cap _ _).mono ?_
      rintro e w' ⟨rfl, rfl⟩
      exact ⟨rfl, HF.out, Below.refl _ _⟩
    · obtain ⟨sb, so, rfl, hsb, hc⟩ := ha h0
      refine (eachStr_any blkOk_output w.heap.size w.heap.size [] sb so cap xs _ ?_ 0 (fun k x h => by have := HX.out k x h; simpa using this) hsb (by simpa [Lib.byteCells] using HF.out) hn (by simp)).mono ?_
      · intro j x hj
        exact ((Below.alloc (Below.refl w.heap.size w) (Nat.le_refl _) _).cell (p := ⟨sb, so + j, none⟩) hsb).trans (hc j x hj)
      · rintro e w' ⟨rfl, h1, h2⟩
        exact ⟨rfl, by simpa using h1, h2⟩
  have HE := hid heach
  clear heach ha
  go_enter Tryz.func146, Tryz.ntmps146
  go_wp2_with (first
    | (go_at_call 194; refine (HE.out _ (hid rfl)).mono ?_; rintro e w1 ⟨rfl, h1, h2⟩)
    | (go_at_call 104; refine (string_any w.heap.size w.heap.size (txts xs) _ h1 (by have := h2.size; simp at this; omega)).mono ?_; rintro e w2 ⟨rfl, h3⟩))
  go_ret
  exact ⟨rfl, (Below.alloc (Below.refl _ _) (Nat.le_refl _) _).trans (h2.trans h3)⟩

set_option maxHeartbeats 1000000 in
/-- The document's Text. -/
theorem refText_any (s : ByteArray) (w : World) (hs : s.size ≤ 140737488355328) :
    Calls Tryz.prog 167 #[.string s] w fun e w' => e = .returned (.string (mk (txt s.data.toList))) ∧ Below w.heap.size w w' := by
  have HI := hid (fun w => refInt_any (s.size : Int) w (by omega) (by omega))
  have hel := enc_length (nat64_lt (n := (s.size : Int)) (by omega) (by omega))
  have hz : (ByteArray.mk (enc (nat64 (s.size : Int))).toArray).size ≤ 10 := by
    have := mk_size (enc (nat64 (s.size : Int))); unfold mk at this; rw [this]; exact hel
  have HF : Hid (ByteArray.mk (enc (nat64 (s.size : Int))).toArray ++ s = mk (txt s.data.toList)) := hid (str_ext (by rw [append_data, mk_data, txt, str_len]))
  go_enter Tryz.func167, Tryz.ntmps167
  go_wp2_with (go_at_call 153; refine (HI.out _).mono ?_; rintro e w1 ⟨rfl, hb⟩)
  go_ret
  exact ⟨by rw [← HF.out]; rfl, hb⟩
end Go.Proofs.YtpcafkinpkepcaaGreatDoor

