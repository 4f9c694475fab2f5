/- Nothing of its own. -/
import Derived.Test.YtodmidchpbcnpaaGreatG26U
import Derived.Test.YtodmidchpbcnpaaGreatG4U
import Derived.Test.YtodmidchpbcnpaaGreatKSmU
import Derived.Deep.LoopGhost
set_option linter.unusedVariables false
set_option linter.unusedSimpArgs false
