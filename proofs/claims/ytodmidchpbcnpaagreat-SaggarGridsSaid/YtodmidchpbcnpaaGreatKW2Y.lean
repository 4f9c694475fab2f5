/- Nothing of its own. -/
import Derived.Test.YtodmidchpbcnpaaGreatW1Y
import Derived.Deep.RegionHeld3
import Derived.Test.YtodmidchpbcnpaaGreatKLibY
set_option linter.unusedVariables false
set_option linter.unusedSimpArgs false
