/- Nothing of its own. -/
import Derived.Test.YtodmidchpbcnpaaGreatG26X
import Derived.Test.YtodmidchpbcnpaaGreatG4X
import Derived.Test.YtodmidchpbcnpaaGreatKSpX
import Derived.Deep.LoopGhost
set_option linter.unusedVariables false
set_option linter.unusedSimpArgs false
