/- Part of a claim. -/
import Derived.Test.YthdfnkdifjajlaaGreatDoorW24U
import Derived.IntWalk
set_option linter.unusedVariables false
set_option linter.unusedSimpArgs false
namespace Go.Proofs.YthdfnkdifjajlaaGreatDoor
open Go.RowKit Go.Pb Go.Pb.Ware


def IsPair (v1 v2 : Value) (v : Value) (W : World) : Prop := ∃ B : Nat,v = .slice (some ⟨B,0,none⟩) 2 2 ∧ W.cell? ⟨B,0,none⟩ = some v1 ∧ W.cell? ⟨B,1,none⟩ = some v2
theorem keeps_pair {v1 v2 : Value} : Keeps (IsPair v1 v2) := fun _ _ _ ⟨B,h1,h2,h3⟩ hb => ⟨B,h1,bkeep hb h2,bkeep hb h3⟩
end Go.Proofs.YthdfnkdifjajlaaGreatDoor