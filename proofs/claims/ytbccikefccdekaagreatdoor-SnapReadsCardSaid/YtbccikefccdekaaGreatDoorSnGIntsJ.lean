import Derived.Test.YtbccikefccdekaaGreatDoorWlGRowJ
/-
  GENERAL: rows of ints.
-/
namespace Go.Proofs.YtbccikefccdekaaGreatDoor.Gr
open Go.RowKit
set_option linter.unusedVariables false
set_option maxRecDepth 100000

def numTy : RowTy Int := ⟨22, 3, 1, 8, fun x => [.int .i64 x], .int .i64 0⟩
theorem numTy_ok : numTy.Ok := ⟨fun _ => rfl, fun x u hu => by simp [numTy] at hu; subst hu; rfl, by decide, Tryz.underlying22, by kernel_rfl, by kernel_rfl, rfl, by decide⟩
theorem num_flat (xs : List Int) : numTy.flat xs = xs.map (.int .i64) := by
  induction xs with
  | nil => rfl
  | cons x r ih => rw [flat_cons, ih]; rfl
/-- Where the k-th int lies. -/
theorem nums_at {w : World} {v : Value} {xs : List Int} (h : RAt numTy w v xs) : ∃ a cap, v = .slice a xs.length cap ∧ ∀ k, k < xs.length → ∃ sb so, a = some ⟨sb, so, none⟩ ∧ sb < w.heap.size ∧ w.cell? ⟨sb, so + k, none⟩ = some (.int .i64 (xs.getD k 0)) := by
  obtain ⟨a, cap, rfl, _, _, hc⟩ := h.at numTy_ok
  refine ⟨a, cap, rfl, fun k hk => ?_⟩
  obtain ⟨sb, so, e, hlt, h1⟩ := hc k (xs.getD k 0) (by simp [List.getD, hk])
  have := h1 0 _ rfl
  rw [show numTy.n = 1 from rfl, Nat.mul_one, Nat.add_zero] at this
  exact ⟨sb, so, e, hlt, this⟩
/-- A literal row that has just been laid. -/
theorem nums_lit (w : World) (xs : List Int) (T : TypeId) (n : Nat) (hn : n = xs.length) (hm : n ≤ maxLen) : RAt numTy (w.alloc (.cells (xs.map (Value.int .i64)).toArray T)) (.slice (some ⟨w.heap.size, 0, none⟩) n n) xs :=
  rAt_own numTy_ok (own.new w (xs.map (Value.int .i64)).toArray T) (by rw [num_flat]) n hn hm
def I64' (n : Int) : Prop := -9223372036854775808 ≤ n ∧ n ≤ 9223372036854775807
end Go.Proofs.YtbccikefccdekaaGreatDoor.Gr

