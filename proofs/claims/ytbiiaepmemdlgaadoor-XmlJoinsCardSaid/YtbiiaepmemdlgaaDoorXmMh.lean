/-
  LAYER 11 (xml), THE PROGRAM: quoted, the reader's reference, value, attribute.
-/
import Derived.Test.YtbiiaepmemdlgaaDoorXmGo
namespace Go.Proofs.YtbiiaepmemdlgaaDoor
open Go.RowKit
set_option linter.unusedVariables false
set_option maxRecDepth 100000

section
variable {B : Nat} {F : Nat → Prop} {w w1 : World} {b : Nat} {s : RSt}
/-- The call is over with some answer, the reader somewhere. -/
def GFail (B : Nat) (F : Nat → Prop) (w : World) (b : Nat) (v : Value) (e : Ending) (w2 : World) : Prop := e = .returned v ∧ ∃ s', RGo B F w w2 b s'

set_option maxHeartbeats 1000000 in
theorem gQuoted_yes (k : RGo B F w w1 b s) (hl : s.rest.length ≤ 100000) (hw : s.words.length ≤ 200000) {x y : List UInt8} (hu : upTo eData s.rest = some (x, y)) :
    Calls Tryd.prog 21 #[.pointer (some ⟨b, 0, none⟩)] w1 fun e w2 => e = .returned (.bool true) ∧ RGo B F w w2 b ⟨y, s.words ++ x, s.toks⟩ := by
  have hlt := (upTo_lt hu).1
  have HU : Hid (Calls Tryd.prog 19 #[.pointer (some ⟨b, 0, none⟩), .string ⟨#[93, 93, 62]⟩] w1 fun q w2 => q = .returned (.tuple #[.string (mk x), .bool true]) ∧ RGo B F w w2 b ⟨y, s.words, s.toks⟩) := hid (gUpTo_yes k hl ⟨#[93, 93, 62]⟩ (by decide) hu)
  have HW := hid (fun (w2 : World) (k2 : RGo B F w w2 b ⟨y, s.words, s.toks⟩) => gWrite k2 (mk x) (by rw [mk_size]; show s.words.length + x.length ≤ 1000000; omega))
  clear k hu hlt
  go_enter Tryd.func21, Tryd.ntmps21
  go_wp2_with (first
    | (go_at_call 19; (with_reducible refine HU.out.mono ?_); rintro e w2 ⟨rfl, k2⟩)
    | (go_at_call 28; (with_reducible refine (HW.out _ k2).mono ?_); rintro e w3 ⟨rfl, k3⟩))
  go_ret
  exact ⟨rfl, k3⟩
set_option maxHeartbeats 1000000 in
theorem gQuoted_no (k : RGo B F w w1 b s) (hl : s.rest.length ≤ 100000) (hw : s.words.length ≤ 200000) (hu : upTo eData s.rest = none) :
    Calls Tryd.prog 21 #[.pointer (some ⟨b, 0, none⟩)] w1 (GFail B F w b (.bool false)) := by
  have HU : Hid (Calls Tryd.prog 19 #[.pointer (some ⟨b, 0, none⟩), .string ⟨#[93, 93, 62]⟩] w1 fun q w2 => q = .returned (.tuple #[.string (mk s.rest), .bool false]) ∧ RGo B F w w2 b ⟨[], s.words, s.toks⟩) := hid (gUpTo_no k hl ⟨#[93, 93, 62]⟩ (by decide) hu)
  have HW := hid (fun (w2 : World) (k2 : RGo B F w w2 b ⟨[], s.words, s.toks⟩) => gWrite k2 (mk s.rest) (by rw [mk_size]; show s.words.length + s.rest.length ≤ 1000000; omega))
  clear k hu
  go_enter Tryd.func21, Tryd.ntmps21
  go_wp2_with (first
    | (go_at_call 19; (with_reducible refine HU.out.mono ?_); rintro e w2 ⟨rfl, k2⟩)
    | (go_at_call 28; (with_reducible refine (HW.out _ k2).mono ?_); rintro e w3 ⟨rfl, k3⟩))
  go_ret
  exact ⟨rfl, _, k3⟩
set_option maxHeartbeats 1000000 in
theorem gRef_yes (k : RGo B F w w1 b s) (hl : s.rest.length ≤ 100000) (hw : s.words.length ≤ 200000) {t r : List UInt8} (hu : refX s.rest = some (t, r)) :
    Calls Tryd.prog 24 #[.pointer (some ⟨b, 0, none⟩)] w1 fun e w2 => e = .returned (.bool true) ∧ RGo B F w w2 b ⟨r, s.words ++ t, s.toks⟩ := by
  have htl := refX_len hu
  obtain ⟨c0, f0⟩ := rGo_rest k
  have HU : Hid (Calls Tryd.prog 40 #[.string (mk s.rest)] w1 fun q w2 => q = .returned (.tuple #[.string (mk t), .string (mk r), .bool true]) ∧ RGo B F w w2 b s) := hid (rGo_quiet k (fun G hB => (reference_any G hB (mk s.rest) (by rw [mk_size]; omega)).mono fun e w2 ⟨h1, _, h3⟩ => ⟨h1 _ (by rw [mk_data]; exact hu), h3⟩))
  have HW := hid (fun (w2 : World) (k2 : RGo B F w w2 b s) => gWrite k2 (mk t) (by rw [mk_size]; omega))
  clear k hu
  go_enter Tryd.func24, Tryd.ntmps24
  go_wp2_with (first
    | (go_at_call 40; (with_reducible refine HU.out.mono ?_); rintro e w2 ⟨rfl, k2⟩)
    | (go_at_call 28; (with_reducible refine (HW.out _ k2).mono ?_); rintro e w3 ⟨rfl, k3⟩; obtain ⟨d0, g0⟩ := rGo_rest k3))
  go_ret
  exact ⟨rfl, rGo_store k3 r⟩
set_option maxHeartbeats 1000000 in
theorem gRef_no (k : RGo B F w w1 b s) (hl : s.rest.length ≤ 100000) (hw : s.words.length ≤ 200000) (hu : refX s.rest = none) :
    Calls Tryd.prog 24 #[.pointer (some ⟨b, 0, none⟩)] w1 (GFail B F w b (.bool false)) := by
  obtain ⟨c0, f0⟩ := rGo_rest k
  have HU : Hid (Calls Tryd.prog 40 #[.string (mk s.rest)] w1 fun q w2 => (∃ r : List UInt8, q = .returned (.tuple #[.string ⟨#[]⟩, .string (mk r), .bool false])) ∧ RGo B F w w2 b s) := hid (rGo_quiet k (fun G hB => (reference_any G hB (mk s.rest) (by rw [mk_size]; omega)).mono fun e w2 ⟨_, h2, h3⟩ => by
    rw [mk_data] at h2
    obtain ⟨r, _, he⟩ := h2 hu
    exact ⟨⟨r, he⟩, h3⟩))
  have HW := hid (fun (w2 : World) (k2 : RGo B F w w2 b s) => gWrite k2 ⟨#[]⟩ (by show s.words.length + 0 ≤ _; omega))
  clear k hu
  go_enter Tryd.func24, Tryd.ntmps24
  go_wp2_with (first
    | (go_at_call 40; (with_reducible refine HU.out.mono ?_); rintro e w2 ⟨⟨r, rfl⟩, k2⟩)
    | (go_at_call 28; (with_reducible refine (HW.out _ k2).mono ?_); rintro e w3 ⟨rfl, k3⟩; obtain ⟨d0, g0⟩ := rGo_rest k3))
  go_ret
  exact ⟨rfl, _, rGo_store k3 r⟩
end
/-! ### a value -/
def valX : List UInt8 → Option (List UInt8 × List UInt8)
  | q :: r4 => if q = 34 ∨ q = 39 then (upTo [q] r4).bind fun x => if (60 : UInt8) ∈ x.1 then none else (saidX x.1).map fun v => (v, x.2) else none
  | [] => none
theorem attrX_val (s : List UInt8) : attrX s = if (nameX s).1 = [] then none else match past [61] ((nameX s).2.dropWhile spcX) with
    | some r2 => (valX (r2.dropWhile spcX)).map fun x => (⟨(nameX s).1, x.1⟩, x.2)
    | none => none := by
  unfold attrX
  by_cases hn : (nameX s).1 = []
  · rw [if_pos hn, if_pos hn]
  rw [if_neg hn, if_neg hn]
  split
  · rename_i r2 e
    rw [e]
    have : past [61] (61 :: r2) = some r2 := rfl
    rw [this]
    simp only
    cases hd : r2.dropWhile spcX with
    | nil => rfl
    | cons q r4 =>
      simp only [valX]
      by_cases hq : q = 34 ∨ q = 39
      · rw [if_pos hq, if_pos hq]
        cases hu : upTo [q] r4 with
        | none => rfl
        | some x =>
          simp only [Option.bind_some]
          by_cases h6 : (60 : UInt8) ∈ x.1
          · rw [if_pos h6, if_pos h6]; rfl
          · rw [if_neg h6, if_neg h6]
            cases saidX x.1 <;> rfl
      · rw [if_neg hq, if_neg hq]; rfl
  · rename_i h61
    cases hd : (nameX s).2.dropWhile spcX with
    | nil => rfl
    | cons q r =>
      have hq : q ≠ 61 := fun e => h61 r (by rw [hd, e])
      have : past [61] (q :: r) = none := by simp [past, List.isPrefixOf, Ne.symm hq]
      rw [this]
/-- What a quoted text makes. -/
def rawX (x : List UInt8 × List UInt8) : Option (List UInt8 × List UInt8) := if (60 : UInt8) ∈ x.1 then none else (saidX x.1).map fun v => (v, x.2)
theorem valX_cases (l : List UInt8) : (∃ r, past [34] l = some r ∧ valX l = (upTo [34] r).bind rawX) ∨ (∃ r, past [34] l = none ∧ past [39] l = some r ∧ valX l = (upTo [39] r).bind rawX) ∨ (past [34] l = none ∧ past [39] l = none ∧ valX l = none) := by
  cases l with
  | nil => right; right; exact ⟨rfl, rfl, rfl⟩
  | cons q r =>
    by_cases h1 : q = 34
    · left; subst h1; exact ⟨r, rfl, rfl⟩
    · have p1 : past [34] (q :: r) = none := by simp [past, List.isPrefixOf, Ne.symm h1]
      by_cases h2 : q = 39
      · right; left; subst h2; exact ⟨r, rfl, rfl, rfl⟩
      · right; right
        have p2 : past [39] (q :: r) = none := by simp [past, List.isPrefixOf, Ne.symm h2]
        exact ⟨p1, p2, by simp [valX, h1, h2]⟩
end Go.Proofs.YtbiiaepmemdlgaaDoor
