/- Part of a claim. -/
import Derived.Test.YtodmidchpbcnpaaGreatG31X
import Derived.Test.YtodmidchpbcnpaaGreatKSpX
import Derived.Test.YtodmidchpbcnpaaGreatKLibX
set_option linter.unusedVariables false
set_option linter.unusedSimpArgs false
namespace Go.Proofs.YtodmidchpbcnpaaGreat
open Go.RowKit Go.Pb Go.Pb.Ware Go.Pb.Sag


def MadeRes (W : World) (e : Ending) (w' : World) : Prop := ∃ (sv iv : Value) (ss : List (List Int)) (xs : List It) (bwi bde bce bhi bbe : Int),e = .returned (.agg #[sv, .slice none 0 0, .int .i64 1, .int .i64 bwi, .int .i64 bde, .int .i64 bce, .int .i64 bhi, .int .i64 bbe,iv]) ∧ Below W.heap.size W w' ∧
 RowsAt 11 w' sv ss ∧ RowsAt 3 w' iv (xs.map rowX) ∧ GoodS ss ∧ boxOk ⟨1,bwi,bde,bce,bhi,bbe⟩ = true ∧ xs.length ≤ 5 ∧ xs.all (itemB ss) = true
theorem modS_any {n m : Int} {w : World} (h1 : 1 ≤ m) (h2 : m ≤ 140737488355328) :
  Calls Tryz.prog 55 #[.int .i64 n, .int .i64 m] w fun e w' => e = .returned (.int .i64 (n % m)) ∧ w = w' := by
 obtain ⟨e1,e2,e3⟩ := mod_eq n m (by omega)
 have E : Hid ((n.tmod m + m) % m = n % m) := hid (by rw [← Int.tmod_eq_emod_of_nonneg (by omega)];exact e1)
 clear e1
 go_enter Tryz.func55,Tryz.ntmps55
 go_wp2
 all_goals go_ret
 all_goals exact ⟨ret_int E,rfl⟩
end Go.Proofs.YtodmidchpbcnpaaGreat