import Derived.Test.YtbccikefccdekaaGreatDoorSnCJ
/-
  LAYER 4 (snap), THE PROGRAM: a base as a value; Right. (Written by tools/gen4_right.py.)
-/
namespace Go.Proofs.YtbccikefccdekaaGreatDoor
open Go.RowKit
set_option linter.unusedVariables false
set_option maxRecDepth 100000

abbrev bcells (b : Bs) (vv : Value) : Array Value := #[.int .i64 b.ix, .int .i64 b.tm, vv, .string (mk b.data)]
abbrev bval (b : Bs) (vv : Value) : Value := .agg #[.int .i64 b.ix, .int .i64 b.tm, vv, .string (mk b.data)]
theorem IntsAt.up {w : World} {B B' : Nat} {v : Value} {xs : List Int} (h : IntsAt w B v xs) (hB : B ≤ B') : IntsAt w B' v xs := by
  obtain ⟨a, cap, hv, hc⟩ := h
  refine ⟨a, cap, hv, fun hne => ?_⟩
  obtain ⟨sb, so, h1, h2, h3⟩ := hc hne
  exact ⟨sb, so, h1, by omega, h3⟩
/-- A base whose voters lie in the world. -/
structure BAt (w : World) (vv : Value) (b : Bs) : Prop where
  ix : I64s b.ix
  tm : I64s b.tm
  vot : IntsAt w w.heap.size vv b.vot
  vl : b.vot.length ≤ 1000000
  v64 : ∀ v ∈ b.vot, I64s v
  dl : b.data.length ≤ 100000000
theorem IntsAt.later {w w' : World} {B : Nat} {v : Value} {xs : List Int} (h : IntsAt w B v xs) (hB : B ≤ w.heap.size) (hb : Below w.heap.size w w') : IntsAt w' B v xs := by
  obtain ⟨a, cap, hv, hc⟩ := h
  refine ⟨a, cap, hv, fun hne => ?_⟩
  obtain ⟨sb, so, h1, h2, h3⟩ := hc hne
  exact ⟨sb, so, h1, h2, fun j x hx => (hb.cell (p := ⟨sb, so + j, none⟩) (show sb < w.heap.size by omega)).trans (h3 j x hx)⟩
theorem BAt.below {w w' : World} {vv : Value} {b : Bs} (h : BAt w vv b) (hb : Below w.heap.size w w') : BAt w' vv b := ⟨h.ix, h.tm, (h.vot.later (Nat.le_refl _) hb).up hb.size, h.vl, h.v64, h.dl⟩
theorem rightS_is (b : Bs) : rightS b = (decide (1 ≤ b.ix) && decide (b.ix ≤ 1099511627776) && decide (0 ≤ b.tm) && decide (b.tm ≤ 1099511627776) && (risingF 0 b.vot && decide (b.vot ≠ [])) && decide ((b.data.length : Int) ≤ 4000000)) := by
  unfold rightS
  rw [Bool.eq_iff_iff]
  simp only [Bool.and_eq_true, decide_eq_true_eq]
  constructor
  · rintro ⟨⟨⟨h1, h2⟩, h3⟩, h4⟩
    exact ⟨⟨⟨⟨⟨h1.1, h1.2⟩, h2.1⟩, h2.2⟩, h3⟩, by omega⟩
  · rintro ⟨⟨⟨⟨⟨h1, h2⟩, h3⟩, h4⟩, h5⟩, h6⟩
    exact ⟨⟨⟨⟨h1, h2⟩, h3, h4⟩, h5⟩, by omega⟩
set_option maxHeartbeats 8000000 in
theorem snRight_any {w : World} {b : Bs} {vv : Value} (h : BAt w vv b) : Calls Tryz.prog 10 #[bval b vv] w fun e w' => e = .returned (.bool (rightS b)) ∧ Below w.heap.size w w' := by
  have hb1 : Below w.heap.size w (w.alloc (.cells #[.int .i64 b.ix, .int .i64 b.tm, vv, .string (mk b.data)] 24)) := (Below.refl _ _).alloc (Nat.le_refl _) _
  dsimp only [bval]
  have HR := hid (rightVoters_any (h.below hb1).vot (Nat.le_refl _) (by have := h.vl; omega))
  have HB := hid hb1
  obtain ⟨r, hr⟩ : ∃ r, rightS b = r := ⟨_, rfl⟩
  rw [hr]
  have HRes : Hid (r = _) := hid (hr.symm.trans (rightS_is b))
  have hsz : (mk b.data).size = b.data.length := mk_size _
  clear hr h hb1
  generalize mk b.data = ds at *
  rw [← hsz] at HRes
  generalize (risingF 0 b.vot && decide (b.vot ≠ [])) = rv at *
  generalize b.ix = ix at *
  generalize b.tm = tm at *
  clear hsz
  by_cases h0 : (1 : Int) ≤ ix
  rotate_left
  · have d0 : decide ((1 : Int) ≤ ix) = false := decide_eq_false h0
    obtain rfl : r = false := by rw [HRes.out]; simp [h0]
    clear HRes
    go_enter Tryz.func10, Tryz.ntmps10
    go_wp2_with (go_at_call 28; (with_reducible refine HR.out.mono ?_); rintro e w1 ⟨rfl, rfl⟩)
    go_ret
    exact ⟨rfl, HB.out⟩
  have d0 : decide ((1 : Int) ≤ ix) = true := decide_eq_true h0
  by_cases h1 : ix ≤ (1099511627776 : Int)
  rotate_left
  · have d1 : decide (ix ≤ (1099511627776 : Int)) = false := decide_eq_false h1
    obtain rfl : r = false := by rw [HRes.out]; simp [h1]
    clear HRes
    go_enter Tryz.func10, Tryz.ntmps10
    go_wp2_with (go_at_call 28; (with_reducible refine HR.out.mono ?_); rintro e w1 ⟨rfl, rfl⟩)
    go_ret
    exact ⟨rfl, HB.out⟩
  have d1 : decide (ix ≤ (1099511627776 : Int)) = true := decide_eq_true h1
  by_cases h2 : (0 : Int) ≤ tm
  rotate_left
  · have d2 : decide ((0 : Int) ≤ tm) = false := decide_eq_false h2
    obtain rfl : r = false := by rw [HRes.out]; simp [h2]
    clear HRes
    go_enter Tryz.func10, Tryz.ntmps10
    go_wp2_with (go_at_call 28; (with_reducible refine HR.out.mono ?_); rintro e w1 ⟨rfl, rfl⟩)
    go_ret
    exact ⟨rfl, HB.out⟩
  have d2 : decide ((0 : Int) ≤ tm) = true := decide_eq_true h2
  by_cases h3 : tm ≤ (1099511627776 : Int)
  rotate_left
  · have d3 : decide (tm ≤ (1099511627776 : Int)) = false := decide_eq_false h3
    obtain rfl : r = false := by rw [HRes.out]; simp [h3]
    clear HRes
    go_enter Tryz.func10, Tryz.ntmps10
    go_wp2_with (go_at_call 28; (with_reducible refine HR.out.mono ?_); rintro e w1 ⟨rfl, rfl⟩)
    go_ret
    exact ⟨rfl, HB.out⟩
  have d3 : decide (tm ≤ (1099511627776 : Int)) = true := decide_eq_true h3
  cases rv with
  | false =>
    obtain rfl : r = false := by rw [HRes.out]; simp
    clear HRes
    go_enter Tryz.func10, Tryz.ntmps10
    go_wp2_with (go_at_call 28; (with_reducible refine HR.out.mono ?_); rintro e w1 ⟨rfl, rfl⟩)
    go_ret
    exact ⟨rfl, HB.out⟩
  | true =>
    by_cases h5 : (ds.size : Int) ≤ (4000000 : Int)
    · have d5 : decide ((ds.size : Int) ≤ (4000000 : Int)) = true := decide_eq_true h5
      obtain rfl : r = true := by rw [HRes.out]; simp [h0, h1, h2, h3, h5]
      clear HRes
      go_enter Tryz.func10, Tryz.ntmps10
      go_wp2_with (go_at_call 28; (with_reducible refine HR.out.mono ?_); rintro e w1 ⟨rfl, rfl⟩)
      go_ret
      exact ⟨rfl, HB.out⟩
    · have d5 : decide ((ds.size : Int) ≤ (4000000 : Int)) = false := decide_eq_false h5
      obtain rfl : r = false := by rw [HRes.out]; simp [h5]
      clear HRes
      go_enter Tryz.func10, Tryz.ntmps10
      go_wp2_with (go_at_call 28; (with_reducible refine HR.out.mono ?_); rintro e w1 ⟨rfl, rfl⟩)
      go_ret
      exact ⟨rfl, HB.out⟩
end Go.Proofs.YtbccikefccdekaaGreatDoor

