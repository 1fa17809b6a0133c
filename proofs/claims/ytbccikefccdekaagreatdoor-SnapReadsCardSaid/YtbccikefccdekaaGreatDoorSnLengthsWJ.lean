import Derived.Test.YtbccikefccdekaaGreatDoorSnBackWJ
/-
  LAYER 4 (snap), the law SnapLengths: what the call does. (Written by wip/tools/gen4_len.py.)
-/
namespace Go.Proofs.YtbccikefccdekaaGreatDoor
open Go.RowKit Go.Shelf
attribute [local go_sem] Oper.semAt_some
set_option linter.unusedVariables false
set_option maxRecDepth 100000

theorem pick4_any (c n : Int) (w : World) (hn : 0 < n) (hn2 : n ≤ 1000000) (hc : I64s c) :
    Calls Tryz.prog 15 #[.int .i64 c, .int .i64 n] w fun e w' => e = .returned (.int .i64 (pickZ c n)) ∧ w = w' := by
  obtain ⟨h0, h1⟩ := hc
  unfold pickZ
  by_cases h : c < 0
  · rw [if_pos h]
    have hc : 0 ≤ -(c + 1) := by omega
    have hc2 : -(c + 1) ≤ 9223372036854775807 := by omega
    go_enter Tryz.func15, Tryz.ntmps15
    go_wp2
    go_ret
    refine ⟨?_, rfl⟩
    show Ending.returned (.int .i64 _) = _
    congr 2
    first | rfl | (rw [← Int.tmod_eq_emod_of_nonneg hc]; simp [Int.neg_tmod])
  · rw [if_neg h]
    have hc : 0 ≤ c := by omega
    go_enter Tryz.func15, Tryz.ntmps15
    go_wp2
    go_ret
    exact ⟨by first | rfl | (congr 2; exact Int.tmod_eq_emod_of_nonneg hc), rfl⟩
theorem pick4_at (c : Int) {n : Nat} (hn : 0 < n) : ∃ p : Nat, pickZ c (n : Int) = (p : Int) ∧ p < n := by
  unfold pickZ
  have h1 := Int.emod_nonneg (if c < 0 then -(c + 1) else c) (show (n : Int) ≠ 0 by omega)
  have h2 := Int.emod_lt_of_pos (if c < 0 then -(c + 1) else c) (show (0 : Int) < (n : Int) by omega)
  exact ⟨((if c < 0 then -(c + 1) else c) % (n : Int)).toNat, by omega, by omega⟩
abbrev bare (b : Bs) : Bs := { b with data := [] }
theorem bare_right {b : Bs} (h : rightS b = true) : rightS (bare b) = true := by
  unfold rightS at *
  simp only [Bool.and_eq_true, decide_eq_true_eq] at *
  exact ⟨h.1, by show ([] : List UInt8).length ≤ 4000000; simp⟩
theorem snUp_any {S : ByteArray} {wx : World} {B0 er : Nat} (hS : S.size ≤ 100000000) (hu : (unpackS S.data.toList).2 = er) (hg : Sn.Glob wx B0) (hB0 : B0 ≤ wx.heap.size) : Calls Tryz.prog 12 #[.string S] wx fun e w' => ∃ i j n d va vc, e = .returned (.tuple #[.agg #[.int .i64 i, .int .i64 j, .slice va n vc, .string d], .int .i64 (er : Int)]) ∧ Below wx.heap.size wx w' := by
  obtain ⟨r, hr⟩ : ∃ r, unpackS S.data.toList = r := ⟨_, rfl⟩
  obtain ⟨U, e⟩ := r
  rw [hr] at hu
  obtain rfl : e = er := hu
  refine (snUp_c hS hr hg hB0).mono ?_
  rintro x w' ⟨va, vc, rfl, hb, -⟩
  exact ⟨_, _, _, _, va, vc, rfl, hb⟩
end Go.Proofs.YtbccikefccdekaaGreatDoor


