/- Part of a claim. -/
import Derived.Test.YtodmidchpbcnpaaGreatG52U
import Derived.Test.YtodmidchpbcnpaaGreatG6U
import Derived.Test.YtodmidchpbcnpaaGreatG4U
import Derived.Test.YtodmidchpbcnpaaGreatKG14U
import Derived.Test.YtodmidchpbcnpaaGreatKTjU
import Derived.OwnWalkIn
import Derived.RangeFuncBox
import Derived.RangeFuncNested
import Derived.RangeFuncBound
import Derived.RangeFuncCalls
import Derived.RangeFuncLeaves
set_option linter.unusedVariables false
set_option linter.unusedSimpArgs false
namespace Go.Proofs.YtodmidchpbcnpaaGreat
open Go.RowKit Go.Pb Go.Pb.Ware Go.Pb.Sag


open Go.Shelf
attribute [local go_sem] Oper.semAt_some
theorem stAt_cellsP {w : World} {base T : Nat} {v : Value} {l : List St} (h : w.ownsRow base T 3 v l.length (l.flatMap cellsP)) : StAt w v (l.map toSq) := by
 refine stAt_of_owns (qs := l.map toSq) (base := base) (e := T) ?_
 rw [List.length_map, ← flatP]; exact h
end Go.Proofs.YtodmidchpbcnpaaGreat