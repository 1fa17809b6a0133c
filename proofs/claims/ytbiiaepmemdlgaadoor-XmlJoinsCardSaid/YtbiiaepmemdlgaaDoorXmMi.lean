/-
  LAYER 11 (xml), THE PROGRAM: the reader's value (written by tools/gen11_val.py).
-/
import Derived.Test.YtbiiaepmemdlgaaDoorXmMh
namespace Go.Proofs.YtbiiaepmemdlgaaDoor
open Go.RowKit
set_option linter.unusedVariables false
set_option maxRecDepth 100000

section
variable {B : Nat} {F : Nat → Prop} {w w1 : World} {b : Nat} {s : RSt}
def vNo : Value := .tuple #[.string ⟨#[]⟩, .bool false]
def GVal (B : Nat) (F : Nat → Prop) (w : World) (b : Nat) (s : RSt) (o : Option (List UInt8 × List UInt8)) (e : Ending) (w2 : World) : Prop :=
  (∀ x, o = some x → e = .returned (.tuple #[.string (mk x.1), .bool true]) ∧ RGo B F w w2 b { s with rest := x.2 }) ∧ (o = none → e = .returned vNo ∧ ∃ l : List UInt8, l.length ≤ s.rest.length ∧ RGo B F w w2 b { s with rest := l })
theorem gVal_no {e : Ending} {w2 : World} {l : List UInt8} {o : Option (List UInt8 × List UInt8)} (ho : o = none) (he : e = .returned vNo) (hl : l.length ≤ s.rest.length) (k : RGo B F w w2 b { s with rest := l }) : GVal B F w b s o e w2 :=
  ⟨fun x hx => (by rw [ho] at hx; cases hx), fun _ => ⟨he, l, hl, k⟩⟩
set_option maxHeartbeats 2000000 in
theorem gValueA (k : RGo B F w w1 b s) (hl : s.rest.length ≤ 100000) {r : List UInt8} (hp : past [34] s.rest = some r) (hv : valX s.rest = (upTo [34] r).bind rawX) :
    Calls Tryd.prog 52 #[.pointer (some ⟨b, 0, none⟩)] w1 (GVal B F w b s (valX s.rest)) := by
  have hrl := (past_lt hp).2
  have hrs : r.length ≤ s.rest.length := by omega
  have HP1 := hid (gPast_yes k ⟨#[34]⟩ hp)
  rw [hv]
  clear k hp hv hrl
  cases hu : upTo [34] r with
  | none =>
    have HU := hid (fun (w2 : World) (k2 : RGo B F w w2 b { s with rest := r }) => gUpTo_no k2 (by show r.length ≤ _; omega) ⟨#[34]⟩ (by decide) hu)
    clear hu
    go_enter Tryd.func52, Tryd.ntmps52
    go_wp2_with (first
      | (go_at_call 18; (with_reducible refine HP1.out.mono ?_); rintro e w2 ⟨rfl, k2⟩)
      | (go_at_call 19; (with_reducible refine (HU.out _ k2).mono ?_); rintro e w4 ⟨rfl, k3⟩))
    go_ret2
    exact gVal_no rfl rfl (by simp) k3
  | some ay =>
    obtain ⟨a, y⟩ := ay
    have hul := (upTo_lt hu).1
    have HU := hid (fun (w2 : World) (k2 : RGo B F w w2 b { s with rest := r }) => gUpTo_yes k2 (by show r.length ≤ _; omega) ⟨#[34]⟩ (by decide) hu)
    have HC : Hid (∀ w2, RGo B F w w2 b { s with rest := y } → Calls Tryd.prog 67 #[.string (mk a), .string ⟨#[60]⟩] w2 fun e w3 => e = .returned (.bool (decide ((60 : UInt8) ∈ a))) ∧ RGo B F w w3 b { s with rest := y }) := hid (fun w2 k2 => rGo_quiet k2 (fun G _ => contains_any G (mk a) (by rw [mk_size]; omega)))
    have hyl : y.length ≤ s.rest.length := by omega
    have hal : a.length ≤ 100000 := by omega
    clear hu hul
    rw [Option.bind_some]
    by_cases h60 : (60 : UInt8) ∈ a
    · rw [decide_eq_true h60] at HC
      have hr : rawX (a, y) = none := if_pos h60
      rw [hr]
      clear h60 hr
      go_enter Tryd.func52, Tryd.ntmps52
      go_wp2_with (first
        | (go_at_call 18; (with_reducible refine HP1.out.mono ?_); rintro e w2 ⟨rfl, k2⟩)
        | (go_at_call 19; (with_reducible refine (HU.out _ k2).mono ?_); rintro e w4 ⟨rfl, k3⟩)
        | (go_at_call 67; (with_reducible refine (HC.out _ k3).mono ?_); rintro e w5 ⟨rfl, k4⟩))
      go_ret2
      exact gVal_no rfl rfl hyl k4
    · rw [decide_eq_false h60] at HC
      have hr : rawX (a, y) = (saidX a).map fun v => (v, y) := if_neg h60
      rw [hr]
      have HD : Hid (∀ w2, RGo B F w w2 b { s with rest := y } → Calls Tryd.prog 68 #[.string (mk a)] w2 fun e w3 => e = .returned (saidV (saidX a)) ∧ RGo B F w w3 b { s with rest := y }) := hid (fun w2 k2 => rGo_quiet k2 (fun G hB => denoted_any G hB (mk a) (by rw [mk_size]; omega)))
      clear h60 hr
      cases hs : saidX a with
      | none =>
        rw [hs] at HD
        have HE : Hid (∀ w2, RGo B F w w2 b { s with rest := y } → Calls Tryd.prog 68 #[.string (mk a)] w2 fun e w3 => e = .returned (.tuple #[.string ⟨#[]⟩, .bool false]) ∧ RGo B F w w3 b { s with rest := y }) := hid HD.out
        clear HD hs
        go_enter Tryd.func52, Tryd.ntmps52
        go_wp2_with (first
          | (go_at_call 18; (with_reducible refine HP1.out.mono ?_); rintro e w2 ⟨rfl, k2⟩)
          | (go_at_call 19; (with_reducible refine (HU.out _ k2).mono ?_); rintro e w4 ⟨rfl, k3⟩)
          | (go_at_call 67; (with_reducible refine (HC.out _ k3).mono ?_); rintro e w5 ⟨rfl, k4⟩)
          | (go_at_call 68; (with_reducible refine (HE.out _ k4).mono ?_); rintro e w6 ⟨rfl, k5⟩))
        go_ret2
        exact gVal_no rfl rfl hyl k5
      | some v =>
        rw [hs] at HD
        have HE : Hid (∀ w2, RGo B F w w2 b { s with rest := y } → Calls Tryd.prog 68 #[.string (mk a)] w2 fun e w3 => e = .returned (.tuple #[.string (mk v), .bool true]) ∧ RGo B F w w3 b { s with rest := y }) := hid HD.out
        clear HD hs
        go_enter Tryd.func52, Tryd.ntmps52
        go_wp2_with (first
          | (go_at_call 18; (with_reducible refine HP1.out.mono ?_); rintro e w2 ⟨rfl, k2⟩)
          | (go_at_call 19; (with_reducible refine (HU.out _ k2).mono ?_); rintro e w4 ⟨rfl, k3⟩)
          | (go_at_call 67; (with_reducible refine (HC.out _ k3).mono ?_); rintro e w5 ⟨rfl, k4⟩)
          | (go_at_call 68; (with_reducible refine (HE.out _ k4).mono ?_); rintro e w6 ⟨rfl, k5⟩))
        go_ret2
        exact ⟨fun x hx => (by cases hx; exact ⟨rfl, k5⟩), fun hx => (by cases hx)⟩
set_option maxHeartbeats 2000000 in
theorem gValueB (k : RGo B F w w1 b s) (hl : s.rest.length ≤ 100000) {r : List UInt8} (hp0 : past [34] s.rest = none) (hp : past [39] s.rest = some r) (hv : valX s.rest = (upTo [39] r).bind rawX) :
    Calls Tryd.prog 52 #[.pointer (some ⟨b, 0, none⟩)] w1 (GVal B F w b s (valX s.rest)) := by
  have hrl := (past_lt hp).2
  have hrs : r.length ≤ s.rest.length := by omega
  have HP1 := hid (gPast_no k ⟨#[34]⟩ hp0)
  have HP2 := hid (fun (w2 : World) (k2 : RGo B F w w2 b s) => gPast_yes k2 ⟨#[39]⟩ hp)
  rw [hv]
  clear k hp0 hp hv hrl
  cases hu : upTo [39] r with
  | none =>
    have HU := hid (fun (w2 : World) (k2 : RGo B F w w2 b { s with rest := r }) => gUpTo_no k2 (by show r.length ≤ _; omega) ⟨#[39]⟩ (by decide) hu)
    clear hu
    go_enter Tryd.func52, Tryd.ntmps52
    go_wp2_with (first
      | (go_at_call 18; (with_reducible refine HP1.out.mono ?_); rintro e w2 ⟨rfl, k2⟩)
      | (go_at_call 18; (with_reducible refine (HP2.out _ k2).mono ?_); rintro e w3 ⟨rfl, k2⟩)
      | (go_at_call 19; (with_reducible refine (HU.out _ k2).mono ?_); rintro e w4 ⟨rfl, k3⟩))
    go_ret2
    exact gVal_no rfl rfl (by simp) k3
  | some ay =>
    obtain ⟨a, y⟩ := ay
    have hul := (upTo_lt hu).1
    have HU := hid (fun (w2 : World) (k2 : RGo B F w w2 b { s with rest := r }) => gUpTo_yes k2 (by show r.length ≤ _; omega) ⟨#[39]⟩ (by decide) hu)
    have HC : Hid (∀ w2, RGo B F w w2 b { s with rest := y } → Calls Tryd.prog 67 #[.string (mk a), .string ⟨#[60]⟩] w2 fun e w3 => e = .returned (.bool (decide ((60 : UInt8) ∈ a))) ∧ RGo B F w w3 b { s with rest := y }) := hid (fun w2 k2 => rGo_quiet k2 (fun G _ => contains_any G (mk a) (by rw [mk_size]; omega)))
    have hyl : y.length ≤ s.rest.length := by omega
    have hal : a.length ≤ 100000 := by omega
    clear hu hul
    rw [Option.bind_some]
    by_cases h60 : (60 : UInt8) ∈ a
    · rw [decide_eq_true h60] at HC
      have hr : rawX (a, y) = none := if_pos h60
      rw [hr]
      clear h60 hr
      go_enter Tryd.func52, Tryd.ntmps52
      go_wp2_with (first
        | (go_at_call 18; (with_reducible refine HP1.out.mono ?_); rintro e w2 ⟨rfl, k2⟩)
        | (go_at_call 18; (with_reducible refine (HP2.out _ k2).mono ?_); rintro e w3 ⟨rfl, k2⟩)
        | (go_at_call 19; (with_reducible refine (HU.out _ k2).mono ?_); rintro e w4 ⟨rfl, k3⟩)
        | (go_at_call 67; (with_reducible refine (HC.out _ k3).mono ?_); rintro e w5 ⟨rfl, k4⟩))
      go_ret2
      exact gVal_no rfl rfl hyl k4
    · rw [decide_eq_false h60] at HC
      have hr : rawX (a, y) = (saidX a).map fun v => (v, y) := if_neg h60
      rw [hr]
      have HD : Hid (∀ w2, RGo B F w w2 b { s with rest := y } → Calls Tryd.prog 68 #[.string (mk a)] w2 fun e w3 => e = .returned (saidV (saidX a)) ∧ RGo B F w w3 b { s with rest := y }) := hid (fun w2 k2 => rGo_quiet k2 (fun G hB => denoted_any G hB (mk a) (by rw [mk_size]; omega)))
      clear h60 hr
      cases hs : saidX a with
      | none =>
        rw [hs] at HD
        have HE : Hid (∀ w2, RGo B F w w2 b { s with rest := y } → Calls Tryd.prog 68 #[.string (mk a)] w2 fun e w3 => e = .returned (.tuple #[.string ⟨#[]⟩, .bool false]) ∧ RGo B F w w3 b { s with rest := y }) := hid HD.out
        clear HD hs
        go_enter Tryd.func52, Tryd.ntmps52
        go_wp2_with (first
          | (go_at_call 18; (with_reducible refine HP1.out.mono ?_); rintro e w2 ⟨rfl, k2⟩)
          | (go_at_call 18; (with_reducible refine (HP2.out _ k2).mono ?_); rintro e w3 ⟨rfl, k2⟩)
          | (go_at_call 19; (with_reducible refine (HU.out _ k2).mono ?_); rintro e w4 ⟨rfl, k3⟩)
          | (go_at_call 67; (with_reducible refine (HC.out _ k3).mono ?_); rintro e w5 ⟨rfl, k4⟩)
          | (go_at_call 68; (with_reducible refine (HE.out _ k4).mono ?_); rintro e w6 ⟨rfl, k5⟩))
        go_ret2
        exact gVal_no rfl rfl hyl k5
      | some v =>
        rw [hs] at HD
        have HE : Hid (∀ w2, RGo B F w w2 b { s with rest := y } → Calls Tryd.prog 68 #[.string (mk a)] w2 fun e w3 => e = .returned (.tuple #[.string (mk v), .bool true]) ∧ RGo B F w w3 b { s with rest := y }) := hid HD.out
        clear HD hs
        go_enter Tryd.func52, Tryd.ntmps52
        go_wp2_with (first
          | (go_at_call 18; (with_reducible refine HP1.out.mono ?_); rintro e w2 ⟨rfl, k2⟩)
          | (go_at_call 18; (with_reducible refine (HP2.out _ k2).mono ?_); rintro e w3 ⟨rfl, k2⟩)
          | (go_at_call 19; (with_reducible refine (HU.out _ k2).mono ?_); rintro e w4 ⟨rfl, k3⟩)
          | (go_at_call 67; (with_reducible refine (HC.out _ k3).mono ?_); rintro e w5 ⟨rfl, k4⟩)
          | (go_at_call 68; (with_reducible refine (HE.out _ k4).mono ?_); rintro e w6 ⟨rfl, k5⟩))
        go_ret2
        exact ⟨fun x hx => (by cases hx; exact ⟨rfl, k5⟩), fun hx => (by cases hx)⟩
set_option maxHeartbeats 2000000 in
theorem gValueN (k : RGo B F w w1 b s) (hp0 : past [34] s.rest = none) (hp : past [39] s.rest = none) (hv : valX s.rest = none) :
    Calls Tryd.prog 52 #[.pointer (some ⟨b, 0, none⟩)] w1 (GVal B F w b s (valX s.rest)) := by
  have HP1 := hid (gPast_no k ⟨#[34]⟩ hp0)
  have HP2 := hid (fun (w2 : World) (k2 : RGo B F w w2 b s) => gPast_no k2 ⟨#[39]⟩ hp)
  rw [hv]
  clear k hp0 hp hv
  go_enter Tryd.func52, Tryd.ntmps52
  go_wp2_with (first
    | (go_at_call 18; (with_reducible refine HP1.out.mono ?_); rintro e w2 ⟨rfl, k2⟩)
    | (go_at_call 18; (with_reducible refine (HP2.out _ k2).mono ?_); rintro e w3 ⟨rfl, k2⟩))
  go_ret2
  exact gVal_no rfl rfl (Nat.le_refl _) k2
theorem gValue (k : RGo B F w w1 b s) (hl : s.rest.length ≤ 100000) :
    Calls Tryd.prog 52 #[.pointer (some ⟨b, 0, none⟩)] w1 (GVal B F w b s (valX s.rest)) := by
  rcases valX_cases s.rest with ⟨r, h1, h2⟩ | ⟨r, h1, h2, h3⟩ | ⟨h1, h2, h3⟩
  · exact gValueA k hl h1 h2
  · exact gValueB k hl h1 h2 h3
  · exact gValueN k h1 h2 h3
end
end Go.Proofs.YtbiiaepmemdlgaaDoor
