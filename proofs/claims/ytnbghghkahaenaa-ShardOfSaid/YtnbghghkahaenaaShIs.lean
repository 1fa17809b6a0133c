/-
  LAYER 14 (shard): the program keeps what the laws ask of it.
-/
import Derived.Test.YtnbghghkahaenaaShD
namespace Go.Proofs.Ytnbghghkahaenaa
open Go.RowKit
set_option linter.unusedVariables false
set_option maxRecDepth 100000

theorem shProg : ShProg where
  name := fun w s h => shName_any w s (by omega)
  hash := fun w s h => shHash_any w s (by omega)
  of := fun w s h => shOf_any w s (by omega)
  part := fun n hv hl hs => shPart_any n hv (by omega) (fun s h => by have := hs s h; omega)
  parts := fun hv hl hs => shParts_any hv (by omega) (fun s h => by have := hs s h; omega)
end Go.Proofs.Ytnbghghkahaenaa
