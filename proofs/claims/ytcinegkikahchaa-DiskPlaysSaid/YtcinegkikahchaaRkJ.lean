/-
  LAYER 2 (disk), THE DOCUMENT's ANSWER: New, at.
-/
import Derived.Test.YtcinegkikahchaaRkI
namespace Go.Proofs.Ytcinegkikahchaa
open Go.RowKit Go.Maps
set_option linter.unusedVariables false
set_option maxRecDepth 100000

def RefNewPost (w : World) (s : Dk) (e : Ending) (w' : World) : Prop := ∃ (r : Nat) (S : Nat → Prop), e = .returned (.tuple #[.pointer (some ⟨r, 0, none⟩), .bool true]) ∧ RefIs w' S r s ∧ (∀ b, S b → w.heap.size ≤ b) ∧ Below w.heap.size w w'
theorem refNew_ok (m : Int) (w : World) (h0 : 0 ≤ m) (h1 : m ≤ 10000000) : Calls Try.prog 12 #[.int .i64 m] w (RefNewPost w (newD m)) := by
  have hfin : RefNewPost w (newD m) (.returned (.tuple #[.pointer (some ⟨w.heap.size, 0, none⟩), .bool true])) (w.alloc (.cells #[.slice none 0 0, .int .i64 m, .int .i64 (-1), .bool false] 42)) := by
    refine ⟨w.heap.size, fun b => b = w.heap.size, rfl, ⟨.slice none 0 0, ⟨own.new w _ _, ⟨rfl, .inl ⟨rfl, rfl⟩⟩, by simp [Value.ownBlock], ⟨rfl, fun b hb => by simp [Value.ownBlock] at hb⟩, fun b hb => by simp; omega, Ok_new h0 h1⟩⟩, fun b hb => by omega, (Below.refl _ w).alloc (Nat.le_refl _) _⟩
  have HF := hid hfin
  clear hfin
  generalize newD m = s at *
  go_enter Try.func12, Try.ntmps12
  go_wp2
  go_ret2
  exact HF.out
theorem refNew_bad (m : Int) (w : World) (h : m < 0 ∨ 10000000 < m) : Calls Try.prog 12 #[.int .i64 m] w fun e w' => ∃ p, e = .returned (.tuple #[.pointer (some p), .bool false]) ∧ Below w.heap.size w w' := by
  rcases h with h | h
  · have hq : decide (m ≥ 0) = false := by simp; omega
    go_enter Try.func12, Try.ntmps12
    go_wp2
    go_ret2
    exact ⟨_, rfl, (Below.refl _ w).alloc (Nat.le_refl _) _⟩
  · have h2 : 0 ≤ m := by omega
    have hq : decide (m ≤ 10000000) = false := by simp; omega
    go_enter Try.func12, Try.ntmps12
    go_wp2
    go_ret2
    exact ⟨_, rfl, (Below.refl _ w).alloc (Nat.le_refl _) _⟩
theorem refAt_any (v : Value) (xs : List Int) (w : World) {B : Nat} (hv : IntsAt w B v xs) (hx : xs.length ≤ 1000) (k : Nat) (hk : k ≤ 1000) :
    Calls Try.prog 53 #[v, .int .i64 (k : Int)] w fun e w' => e = .returned (.int .i64 (xs.getD k 0)) ∧ w = w' := by
  obtain ⟨a, cap, rfl, hc⟩ := hv
  by_cases h : k < xs.length
  · have hne : xs ≠ [] := fun e => by rw [e] at h; simp at h
    obtain ⟨sb, so, rfl, _, hcell⟩ := hc hne
    have c0 := hcell k _ (getD_at h)
    have hq : decide (k < xs.length) = true := by simpa using h
    have h1 : (k : Int) < (xs.length : Int) := by omega
    generalize xs.getD k 0 = z at *
    clear hcell hc hne
    go_enter Try.func53, Try.ntmps53
    go_wp2
    go_ret
    exact ⟨rfl, rfl⟩
  · have hz : xs.getD k 0 = 0 := by simp [List.getD, List.getElem?_eq_none (Nat.le_of_not_lt h)]
    have hq : decide (k < xs.length) = false := by simpa using h
    rw [hz]
    clear hc hz
    go_enter Try.func53, Try.ntmps53
    go_wp2
    go_ret
    exact ⟨rfl, rfl⟩

end Go.Proofs.Ytcinegkikahchaa
