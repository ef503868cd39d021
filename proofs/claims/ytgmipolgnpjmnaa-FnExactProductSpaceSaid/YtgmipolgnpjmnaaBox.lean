/-
  What the walks of the laws import, under one name.
-/
import Derived.Test.YtgmipolgnpjmnaaRow
import Derived.Deep.RegionHeld3
import Derived.Deep.DeepCutAuto
import Derived.StillTactics
import Derived.Laws.Pointers
