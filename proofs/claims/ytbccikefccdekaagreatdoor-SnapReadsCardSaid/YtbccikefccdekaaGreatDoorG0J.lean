import Derived.Test.YtbccikefccdekaaGreatDoorMq0J
import Derived.Test.YtbccikefccdekaaGreatDoorMq1J
import Derived.WalkKit
import Derived.KernelRfl
import Derived.Laws.OwnMore
import Derived.Deep.QuietTactic
import Derived.BigQuiet
import Derived.BigRegion
import Derived.Deep.RegionWith
import Derived.Deep.AppendLies
import Derived.Maps.RangeWalk
import Derived.Maps.OwnSet
import Derived.WalkMore
import Derived.Lib.Builder
import Derived.Lib.SliceRun
import Derived.Lib.Hide
/-
  GENERAL, for a seat that holds the codec (stages 3, 4, 7 ..): what G0 says stands in Base and Chg there: this text only imports.
-/

