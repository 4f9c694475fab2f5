/- Nothing of its own. -/
import Derived.Test.YtodmidchpbcnpaaGreatW1X
import Derived.Deep.RegionHeld3
import Derived.Test.YtodmidchpbcnpaaGreatKLibX
set_option linter.unusedVariables false
set_option linter.unusedSimpArgs false
