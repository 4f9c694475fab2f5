/- Nothing of its own. -/
import Derived.Test.YtodmidchpbcnpaaGreatW1U
import Derived.Deep.RegionHeld3
import Derived.Test.YtodmidchpbcnpaaGreatKLibU
