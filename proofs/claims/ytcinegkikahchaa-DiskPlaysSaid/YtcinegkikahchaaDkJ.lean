/-
  LAYER 2 (disk), the laws' own helpers: New, pick, does, small.
-/
import Derived.Test.YtcinegkikahchaaDkI
namespace Go.Proofs.Ytcinegkikahchaa
open Go.RowKit Go.Maps
set_option linter.unusedVariables false
set_option maxRecDepth 100000

theorem pickZ_range (c n : Int) (hn : 0 < n) : 0 ≤ pickZ c n ∧ pickZ c n < n := ⟨Int.emod_nonneg _ (by omega), Int.emod_lt_of_pos _ hn⟩
theorem pick_any (c n : Int) (w : World) (hn : 0 < n) (hn2 : n ≤ 1000000) (h0 : -9223372036854775808 ≤ c) (h1 : c ≤ 9223372036854775807) :
    Calls Try.prog 15 #[.int .i64 c, .int .i64 n] w fun e w' => e = .returned (.int .i64 (pickZ c n)) ∧ w = w' := by
  unfold pickZ
  by_cases h : c < 0
  · rw [if_pos h]
    have hc : 0 ≤ -(c + 1) := by omega
    have hc2 : -(c + 1) ≤ 9223372036854775807 := by omega
    go_enter Try.func15, Try.ntmps15
    go_wp2
    go_ret
    refine ⟨?_, rfl⟩
    show Ending.returned (.int .i64 _) = _
    congr 2
    first | rfl | (rw [← Int.tmod_eq_emod_of_nonneg hc]; simp [Int.neg_tmod])
  · rw [if_neg h]
    have hc : 0 ≤ c := by omega
    go_enter Try.func15, Try.ntmps15
    go_wp2
    go_ret
    exact ⟨by first | rfl | (congr 2; exact Int.tmod_eq_emod_of_nonneg hc), rfl⟩

def NewPost (w : World) (s : Dk) (e : Ending) (w' : World) : Prop := ∃ a S, e = .returned (.tuple #[.pointer (some ⟨a, 0, none⟩), .int .i64 0]) ∧ DiskIs w' S a s ∧ (∀ b, S b → w.heap.size ≤ b) ∧ Below w.heap.size w w'
set_option maxHeartbeats 1000000 in
theorem new_ok (m : Int) (w : World) (h0 : 0 ≤ m) (h1 : m ≤ 10000000) : Calls Try.prog 11 #[.int .i64 m] w (NewPost w (newD m)) := by
  have hfin : NewPost w (newD m) (.returned (.tuple #[.pointer (some ⟨w.heap.size + 1, 0, none⟩), .int .i64 0])) ((w.alloc (.map #[] 0)).alloc (.cells #[.int .i64 m, .map (some w.heap.size), .bool false, .int .i64 0, .bool false] 63)) := by
    have hz : (w.alloc (.map #[] 0)).heap.size = w.heap.size + 1 := by simp
    refine ⟨w.heap.size + 1, fun b => b = w.heap.size ∨ b = w.heap.size + 1, rfl, ⟨w.heap.size, [], ?_⟩, fun b hb => by omega, ((Below.refl _ w).alloc (Nat.le_refl _) _).alloc (by simp) _⟩
    refine ⟨⟨0, ?_, fun h => by simp [newD] at h⟩, rfl, ?_, by simp, by simp, by simp, fun b hb => ?_, Ok_new h0 h1⟩
    · have := own.new (w.alloc (.map #[] 0)) #[.int .i64 m, .map (some w.heap.size), .bool false, .int .i64 0, .bool false] 63
      rw [hz] at this
      exact this
    · exact (World.ownsMap_made w Try.prog 9 ptrElem).alloc _
    · simp; omega
  have HF := hid hfin
  clear hfin
  generalize newD m = s at *
  have hmk : (Instr.makeMap 61 none).run Try.prog w = .ok (.map (some w.heap.size)) (w.alloc (.map #[] 0)) := rfl
  go_enter Try.func11, Try.ntmps11
  go_wp2
  go_ret2
  exact HF.out
set_option maxHeartbeats 1000000 in
theorem new_bad (m : Int) (w : World) (h : m < 0 ∨ 10000000 < m) : Calls Try.prog 11 #[.int .i64 m] w fun e w' => e = .returned (.tuple #[.pointer none, .int .i64 2]) ∧ w = w' := by
  rcases h with h | h
  · go_enter Try.func11, Try.ntmps11
    go_wp2
    go_ret2
    exact ⟨rfl, rfl⟩
  · have h2 : 0 ≤ m := by omega
    go_enter Try.func11, Try.ntmps11
    go_wp2
    go_ret2
    exact ⟨rfl, rfl⟩
end Go.Proofs.Ytcinegkikahchaa
