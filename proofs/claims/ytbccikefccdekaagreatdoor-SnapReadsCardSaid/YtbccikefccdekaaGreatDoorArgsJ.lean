import Derived.Test.YtbccikefccdekaaGreatDoorMq0J
import Derived.Test.YtbccikefccdekaaGreatDoorMq1J
/-
  ARGUMENTS THAT ARE SLICES OF INTS OR OF STRINGS: in XSl.
-/

