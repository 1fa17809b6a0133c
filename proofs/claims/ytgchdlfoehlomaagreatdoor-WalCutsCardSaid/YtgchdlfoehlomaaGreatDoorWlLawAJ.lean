import Derived.Test.YtgchdlfoehlomaaGreatDoorWlRecsJ
import Derived.Test.YtgchdlfoehlomaaGreatDoorWlActMJ
import Derived.BigRegion
/-
  LAYER 3 (wal), the laws' own helpers: pick, entry, hard, entries.
-/
namespace Go.Proofs.YtgchdlfoehlomaaGreatDoor
open Go.RowKit Go.Maps
set_option linter.unusedVariables false
set_option maxRecDepth 100000

theorem pick3_any (c n : Int) (w : World) (hn : 0 < n) (hn2 : n ≤ 1000000) (hc : I64 c) :
    Calls Tryz.prog 10 #[.int .i64 c, .int .i64 n] w fun e w' => e = .returned (.int .i64 (pickZ c n)) ∧ w = w' := by
  obtain ⟨h0, h1⟩ := hc
  unfold pickZ
  by_cases h : c < 0
  · rw [if_pos h]
    have hc : 0 ≤ -(c + 1) := by omega
    have hc2 : -(c + 1) ≤ 9223372036854775807 := by omega
    go_enter Tryz.func10, Tryz.ntmps10
    go_wp2
    go_ret
    refine ⟨?_, rfl⟩
    show Ending.returned (.int .i64 _) = _
    congr 2
    first | rfl | (rw [← Int.tmod_eq_emod_of_nonneg hc]; simp [Int.neg_tmod])
  · rw [if_neg h]
    have hc : 0 ≤ c := by omega
    go_enter Tryz.func10, Tryz.ntmps10
    go_wp2
    go_ret
    exact ⟨by first | rfl | (congr 2; exact Int.tmod_eq_emod_of_nonneg hc), rfl⟩
theorem entry3_any (i t : Int) (d : ByteArray) (w : World) :
    Calls Tryz.prog 25 #[.int .i64 i, .int .i64 t, .string d] w fun e w' => e = .returned (.agg #[.int .i64 i, .int .i64 t, .int .i64 2, .string d]) ∧ Below w.heap.size w w' := by
  go_enter Tryz.func25, Tryz.ntmps25
  go_wp2
  exact bodyPost_ret (v := .agg #[.int .i64 i, .int .i64 t, .int .i64 2, .string d]) (by simp [results, Tryz.results25, go_sem]) rfl ⟨rfl, (Below.refl _ _).alloc (Nat.le_refl _) _⟩
/-- An act as a value. -/
def waV (a : Wa) (kv nv : Value) : Value := .agg #[.int .i64 a.op, .int .i64 a.term, .int .i64 a.vote, .int .i64 a.idx, .int .i64 a.n, .string a.data, kv, nv]
set_option maxHeartbeats 4000000 in
theorem hardA_any (a : Wa) (h : WaOk a) (kv nv : Value) (hk : ∃ x n c, kv = .slice x n c) (hn : ∃ x n c, nv = .slice x n c) (w : World) :
    Calls Tryz.prog 14 #[waV a kv nv] w fun e w' => e = .returned (.agg #[.int .i64 (hdA a).term, .int .i64 (hdA a).vote]) ∧ Below w.heap.size w w' := by
  obtain ⟨ka, kn, kc, rfl⟩ := hk
  obtain ⟨na, nn, nc, rfl⟩ := hn
  have HP1 := hid (fun wx => pick3_any a.term 20 wx (by omega) (by omega) h.term)
  have HP2 := hid (fun wx => pick3_any a.vote 4 wx (by omega) (by omega) h.vote)
  have hb0 : Below w.heap.size w (w.alloc (.cells #[.int .i64 a.op, .int .i64 a.term, .int .i64 a.vote, .int .i64 a.idx, .int .i64 a.n, .string a.data, .slice ka kn kc, .slice na nn nc] 42)) := (Below.refl _ _).alloc (Nat.le_refl _) _
  have hr1 := pkRange a.term 20 (by omega)
  have hr2 := pkRange a.vote 4 (by omega)
  have htm := h.term
  have hvt := h.vote
  unfold I64 at htm hvt
  unfold waV hdA oddH
  generalize a.op = x0 at *
  generalize hx1 : a.term = x1 at *
  generalize hx2 : a.vote = x2 at *
  generalize a.idx = x3 at *
  generalize a.n = x4 at *
  generalize a.data = x5 at *
  generalize pickZ x1 20 = q1 at *
  generalize pickZ x2 4 = q2 at *
  clear hx1 hx2 h
  by_cases h1 : Int.tmod x1 41 = 0 ∧ x1 ≠ 0
  · rw [show decide (Int.tmod x1 41 = 0 ∧ x1 ≠ 0) = true by simpa using h1]
    simp only [if_true]
    have e1 : (Int.tmod x1 41 == 0) = true := by simpa using h1.1
    have e2 : (x1 != 0) = true := by simpa using h1.2
    clear h1
    go_enter Tryz.func14, Tryz.ntmps14
    go_wp2
    exact bodyPost_ret (v := .agg #[.int .i64 x1, .int .i64 x2]) (by simp [results, Tryz.results14, go_sem]) rfl ⟨rfl, (((Below.refl _ _).alloc (Nat.le_refl _) _).alloc (by simp) _)⟩
  · rw [show decide (Int.tmod x1 41 = 0 ∧ x1 ≠ 0) = false by simpa using h1]
    simp only [Bool.false_eq_true, if_false]
    have e1 : (Int.tmod x1 41 == 0) = false ∨ ((Int.tmod x1 41 == 0) = true ∧ (x1 != 0) = false) := by
      by_cases h2 : Int.tmod x1 41 = 0
      · right
        exact ⟨by simpa using h2, by simpa using fun e => h1 ⟨h2, e⟩⟩
      · left; simpa using h2
    clear h1
    rcases e1 with e1 | ⟨e1, e2⟩
    all_goals
      go_enter Tryz.func14, Tryz.ntmps14
      go_wp2
      go_region_with (go_at_call 10; first | ((with_reducible refine (HP1.out _).mono ?_); rintro e w1 ⟨rfl, rfl⟩) | ((with_reducible refine (HP2.out _).mono ?_); rintro e w1 ⟨rfl, rfl⟩))
      all_goals
        go_wp2
        exact bodyPost_ret (v := .agg #[.int .i64 q1, .int .i64 q2]) (by simp [results, Tryz.results14, go_sem]) rfl ⟨rfl, (((Below.refl _ _).alloc (Nat.le_refl _) _).alloc (by simp) _).drew⟩
end Go.Proofs.YtgchdlfoehlomaaGreatDoor

