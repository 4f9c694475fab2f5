/- Nothing of its own. -/
import Derived.Test.YtodmidchpbcnpaaGreatKG14X
import Derived.Test.YtodmidchpbcnpaaGreatG6X
import Derived.Test.YtodmidchpbcnpaaGreatG4X
import Derived.Test.YtodmidchpbcnpaaGreatKTgX
import Derived.OwnWalkIn
import Derived.RangeFuncBox
import Derived.RangeFuncNested
import Derived.RangeFuncBound
import Derived.RangeFuncCalls
import Derived.RangeFuncLeaves
import Derived.Test.YtodmidchpbcnpaaGreatKSpX
import Derived.Test.YtodmidchpbcnpaaGreatKSdX
import Derived.Deep.LoopGhost
set_option linter.unusedVariables false
set_option linter.unusedSimpArgs false
