/-
  GENERAL: a thing that lies in blocks of its own, any way: what a call of it turns; one that was made since a world w0.
-/
import Derived.Test.YtaefdknaidbplaaGreatDoorG0
namespace Go.Proofs.YtaefdknaidbplaaGreatDoor
open Go.RowKit
set_option linter.unusedVariables false
set_option maxRecDepth 100000

/-- How a thing may lie in memory: in the blocks F; its pointer names the block r. -/
structure Rep (σ : Type) where
  Is : World → (Nat → Prop) → Nat → σ → Prop
  same : ∀ {w w' : World} {F : Nat → Prop} {r : Nat} {s : σ}, Is w F r s → w.heap.size ≤ w'.heap.size → (∀ b, F b → w'.heap[b]? = w.heap[b]?) → Is w' F r s
  lt : ∀ {w : World} {F : Nat → Prop} {r : Nat} {s : σ}, Is w F r s → ∀ b, F b → b < w.heap.size
section
variable {σ : Type} {R : Rep σ} {w0 w w' w2 : World} {F F' : Nat → Prop} {r : Nat} {s s' : σ}
/-- A call has turned it: only its own blocks, and new ones. -/
def Rep.Turn (R : Rep σ) (F : Nat → Prop) (w w' : World) (r : Nat) (s : σ) : Prop := ∃ F', R.Is w' F' r s ∧ Chg F w w' ∧ ∀ b, F' b → F b ∨ w.heap.size ≤ b
/-- One at hand: made since w0. -/
structure Rep.Has (R : Rep σ) (w0 w : World) (F : Nat → Prop) (r : Nat) (s : σ) : Prop where
  is : R.Is w F r s
  new : ∀ b, F b → w0.heap.size ≤ b
  below : Below w0.heap.size w0 w
theorem Rep.later (h : R.Is w F r s) (hb : Below w.heap.size w w') : R.Is w' F r s := R.same h hb.size (fun b e => hb.block b (R.lt h b e))
theorem Rep.Turn.stay (h : R.Is w F r s) (hb : Below w.heap.size w w') : R.Turn F w w' r s := ⟨F, R.later h hb, Chg.of_below hb, fun b e => .inl e⟩
theorem Rep.Turn.later (h : R.Turn F w w' r s) (hb : Below w'.heap.size w' w2) : R.Turn F w w2 r s := by
  obtain ⟨F', hi, hc, hF⟩ := h
  exact ⟨F', R.later hi hb, Chg.trans hc (Chg.of_below (S := F) hb) (fun b e => .inl e), hF⟩
theorem Rep.Has.later (h : R.Has w0 w F r s) (hb : Below w.heap.size w w') : R.Has w0 w' F r s := ⟨R.later h.is hb, h.new, h.below.trans (hb.mono h.below.size)⟩
theorem Rep.Has.turn (h : R.Has w0 w F r s) (ht : R.Turn F w w' r s') : ∃ F', R.Has w0 w' F' r s' ∧ ∀ b, F' b → F b ∨ w.heap.size ≤ b := by
  obtain ⟨F', hi, hc, hF⟩ := ht
  refine ⟨F', ⟨hi, fun b e => ?_, h.below.trans (hc.below h.below.size (fun b e => h.new b e))⟩, hF⟩
  rcases hF b e with k | k
  · exact h.new b k
  · have := h.below.size; omega
/-- Another thing's blocks have turned. -/
theorem Rep.Has.beside (h : R.Has w0 w F r s) {G : Nat → Prop} (hc : Chg G w w') (hG : ∀ b, G b → w0.heap.size ≤ b) (hd : ∀ b, F b → ¬ G b) : R.Has w0 w' F r s :=
  ⟨R.same h.is hc.size (fun b e => hc.block b (R.lt h.is b e) (hd b e)), h.new, h.below.trans (hc.below h.below.size hG)⟩
theorem Rep.Has.made (h0 : Below w0.heap.size w0 w) (hi : R.Is w' F r s) (hn : ∀ b, F b → w.heap.size ≤ b) (hb : Below w.heap.size w w') : R.Has w0 w' F r s :=
  ⟨hi, fun b e => by have := hn b e; have := h0.size; omega, h0.trans (hb.mono h0.size)⟩
end
end Go.Proofs.YtaefdknaidbplaaGreatDoor
