/- Nothing of its own. -/
import Derived.Test.YtodmidchpbcnpaaGreatW1V
import Derived.Deep.RegionHeld3
import Derived.Test.YtodmidchpbcnpaaGreatKLibV
set_option linter.unusedVariables false
set_option linter.unusedSimpArgs false
