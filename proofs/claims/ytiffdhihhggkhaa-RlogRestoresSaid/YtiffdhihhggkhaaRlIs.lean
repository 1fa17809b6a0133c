/-
  LAYER 8 (rlog): THE PROGRAM is what the laws ask.
-/
import Derived.Test.YtiffdhihhggkhaaMq6
import Derived.Test.YtiffdhihhggkhaaPlCompact
import Derived.Test.YtiffdhihhggkhaaPlMatch
namespace Go.Proofs.Ytiffdhihhggkhaa
open Go.RowKit
set_option linter.unusedVariables false
set_option maxRecDepth 100000

abbrev rlRep : RlRep := plRep
theorem rlProg : RlProg rlRep where
  new := fun bi bt vv vot bd ev l hv he hB hl _ => plNew_any bi bt vv vot bd ev l hv he hB hl
  base := fun h hB => (plBase_any h hB).mono fun e w' ⟨a, c, he, hm⟩ => ⟨_, he, hm.told⟩
  last := fun h hB => plLast_any h hB
  term := fun i h hB hi => plTerm_any i h hB hi
  slice := fun fr most h hB hf hm => plSlice_any fr most h hB hf hm
  newer := fun i t h hB hi ht => plNewer_any i t h hB hi ht
  voters := fun i h hB hi => (plVoters_any i h hB hi).mono fun e w' ⟨vv, he, hm⟩ => ⟨vv, he, hm.told⟩
  add := fun t k d h hB ht hk hd hl => plAdd_any t k d h hB ht hk hd hl
  match_ := fun index term fixed ev l h hB hA hl hm hi ht hf hfl => plMatch_any index term fixed ev l h hB hA hl hm hi ht hf hfl
  compact := fun i d h hB hi hd => plCompact_any i d h hB hi hd
  restore := fun bi bt vv vot bd h hB hA h0 h1 hbt _ hvl _ => plRestore_any bi bt vv vot bd h hB hA h0 h1 hbt hvl
end Go.Proofs.Ytiffdhihhggkhaa
