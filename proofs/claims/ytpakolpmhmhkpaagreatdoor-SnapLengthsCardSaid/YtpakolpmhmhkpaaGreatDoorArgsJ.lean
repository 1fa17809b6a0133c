import Derived.Test.YtpakolpmhmhkpaaGreatDoorMq0J
import Derived.Test.YtpakolpmhmhkpaaGreatDoorMq1J
/-
  ARGUMENTS THAT ARE SLICES OF INTS OR OF STRINGS: in XSl.
-/

