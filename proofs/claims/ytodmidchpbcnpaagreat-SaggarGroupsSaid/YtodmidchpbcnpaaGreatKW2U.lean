/- Nothing of its own. -/
import Derived.Test.YtodmidchpbcnpaaGreatW1U
import Derived.Deep.RegionHeld3
import Derived.Test.YtodmidchpbcnpaaGreatKLibU
set_option linter.unusedVariables false
set_option linter.unusedSimpArgs false
