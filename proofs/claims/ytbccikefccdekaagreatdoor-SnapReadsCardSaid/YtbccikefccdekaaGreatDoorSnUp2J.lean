import Derived.Test.YtbccikefccdekaaGreatDoorSnUpJ
import Derived.Test.YtbccikefccdekaaGreatDoorSnThJ
/-
  LAYER 4 (snap), THE PROGRAM: Unpack, whole.
-/
namespace Go.Proofs.YtbccikefccdekaaGreatDoor
open Go.RowKit
set_option linter.unusedVariables false
set_option maxRecDepth 100000
theorem snUnpack_any (s : ByteArray) (w : World) (hs : s.size ≤ 100000000) (hT : Steps w) (hst : 0 < w.heap.size) : Calls Tryz.prog 12 #[.string s] w (UpPost w s.data.toList) := snUnpack_of toHead_any s w hs hT hst
end Go.Proofs.YtbccikefccdekaaGreatDoor

