/-
  GENERAL: rows of ints.
-/
import Derived.Test.YtnbghghkahaenaaGRow
namespace Go.Proofs.Ytnbghghkahaenaa
open Go.RowKit
set_option linter.unusedVariables false
set_option maxRecDepth 100000

def I64' (n : Int) : Prop := -9223372036854775808 ≤ n ∧ n ≤ 9223372036854775807
end Go.Proofs.Ytnbghghkahaenaa

