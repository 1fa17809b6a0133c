/-
  LAYER 7 (msg): THE PROGRAM keeps what the laws ask of it.
-/
import Derived.Test.YtppjojjejabaeaaMsProg
import Derived.Test.YtppjojjejabaeaaMsUnp
import Derived.Test.YtppjojjejabaeaaMsPrJ
import Derived.Test.YtppjojjejabaeaaMsToW
namespace Go.Proofs.Ytppjojjejabaeaa
open Go.RowKit
set_option linter.unusedVariables false
set_option maxRecDepth 100000

theorem msProg : MsProg where
  right := fun m ev vv h hi => right_any m ev vv h hi
  pack := fun m ev vv h hi _ => pack_any m ev vv h hi
  unpack := unpack_any
  voters := fun h hx hl => voters_any h hx hl
  toVoters := toVoters_any
end Go.Proofs.Ytppjojjejabaeaa
