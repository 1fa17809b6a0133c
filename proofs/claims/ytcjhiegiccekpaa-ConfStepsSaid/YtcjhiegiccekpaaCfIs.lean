/-
  LAYER 9 (conf), THE PROGRAM: all that the laws ask of it.
-/
import Derived.Test.YtcjhiegiccekpaaCfE
namespace Go.Proofs.Ytcjhiegiccekpaa
open Go.RowKit
set_option linter.unusedVariables false
set_option maxRecDepth 100000

theorem cfProg : CfProg where
  right := right_any
  next := next_any
  has := fun x h _ => (has_any x h.row (by have := h.len; omega)).mono (fun e w' ⟨he, hw⟩ => ⟨he, by rw [hw]; exact Below.refl _ _⟩)
  most := most_any
  agreed := agreed_any
  with_ := fun x h _ => with_any x h
  without := fun x h _ => without_any x h
end Go.Proofs.Ytcjhiegiccekpaa
