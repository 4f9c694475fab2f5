/- Nothing of its own. -/
import Derived.Test.YtodmidchpbcnpaaGreatW1R
import Derived.Deep.RegionHeld3
import Derived.Test.YtodmidchpbcnpaaGreatKLibR
set_option linter.unusedVariables false
set_option linter.unusedSimpArgs false
