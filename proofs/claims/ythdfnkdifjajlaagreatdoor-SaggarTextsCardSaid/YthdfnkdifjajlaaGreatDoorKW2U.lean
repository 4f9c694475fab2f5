/- Nothing of its own. -/
import Derived.Test.YthdfnkdifjajlaaGreatDoorW1U
import Derived.Deep.RegionHeld3
import Derived.Test.YthdfnkdifjajlaaGreatDoorKLibU
set_option linter.unusedVariables false
set_option linter.unusedSimpArgs false
