/- Part of a claim. -/
import Derived.Test.YtodmidchpbcnpaaGreatG37U
import Derived.Test.YtodmidchpbcnpaaGreatG27U
import Derived.Test.YtodmidchpbcnpaaGreatKSmU
set_option linter.unusedVariables false
set_option linter.unusedSimpArgs false
namespace Go.Proofs.YtodmidchpbcnpaaGreat
open Go.RowKit Go.Pb Go.Pb.Ware Go.Pb.Sag


def lastZ (zs : List Int) : Nat → Int
 | 0 => -1
 | k + 1 => zs.getD k 0
theorem lastZ_at {zs : List Int} {k : Nat} (h : k < zs.length) : lastZ zs (k + 1) = zs[k] := by
 show zs.getD k 0 = _
 rw [List.getD_eq_getElem?_getD, List.getElem?_eq_getElem h]; rfl
end Go.Proofs.YtodmidchpbcnpaaGreat