/- Part of a claim. -/
import Derived.Test.YtodmidchpbcnpaaGreatG52Y
import Derived.Test.YtodmidchpbcnpaaGreatG6Y
import Derived.Test.YtodmidchpbcnpaaGreatG4Y
import Derived.Test.YtodmidchpbcnpaaGreatKG14Y
import Derived.Test.YtodmidchpbcnpaaGreatKSkY
import Derived.OwnWalkIn
import Derived.RangeFuncBox
import Derived.RangeFuncNested
import Derived.RangeFuncBound
import Derived.RangeFuncCalls
import Derived.RangeFuncLeaves
import Derived.Test.YtodmidchpbcnpaaGreatG55Y
import Derived.Deep.LoopGhost
set_option linter.unusedVariables false
set_option linter.unusedSimpArgs false
namespace Go.Proofs.YtodmidchpbcnpaaGreat
open Go.RowKit Go.Pb Go.Pb.Ware Go.Pb.Sag


open Go.Shelf
attribute [local go_sem] Oper.semAt_some
theorem stAt_cellsP {w : World} {base T : Nat} {v : Value} {l : List St} (h : w.ownsRow base T 3 v l.length (l.flatMap cellsP)) : StAt w v (l.map toSq) := by
 refine stAt_of_owns (qs := l.map toSq) (base := base) (e := T) ?_
 rw [List.length_map, ← flatP];exact h
end Go.Proofs.YtodmidchpbcnpaaGreat
namespace Go.Proofs.YtodmidchpbcnpaaGreat
open Go.RowKit Go.Pb Go.Pb.Ware Go.Pb.Sag


theorem rCells_eq {w : World} {bid bwi bde bce bhi bbe fw fd fh fg : Int} {y x : Nat} {t : Bool} {m : Nat} (hX : boxOk ⟨bid,bwi,bde,bce,bhi,bbe⟩ = true) (hF : FtOk ⟨fw,fd,fh,fg⟩) (hp : (⟨y,x,t⟩ : St) ∈ standsL ⟨bid,bwi,bde,bce,bhi,bbe⟩ ⟨fw,fd,fh,fg⟩) (hm : maskW ⟨bid,bwi,bde,bce,bhi,bbe⟩ ⟨fw,fd,fh,fg⟩ ⟨y,x,t⟩ = m) :
  Calls Tryz.prog 80 #[.agg #[.int .i64 bid, .int .i64 bwi, .int .i64 bde, .int .i64 bce, .int .i64 bhi, .int .i64 bbe], .agg #[.int .i64 fw, .int .i64 fd, .int .i64 fh, .int .i64 fg], .agg #[.int .i64 (y : Nat), .int .i64 (x : Nat), .bool t]] w (Ret w (.int .i64 (m : Int))) := by
 have h2 := boxOk_iff.1 hX
 dsimp only at h2
 obtain ⟨W,rfl⟩ : ∃ W : Nat,bwi = (W : Int) := ⟨bwi.toNat,by omega⟩
 have hF2 := hF
 unfold FtOk at hF2
 dsimp only at hF2
 obtain ⟨m1,m2,m3,m4⟩ := mem_stands.1 hp
 unfold okAt at m4
 rw [Bool.and_eq_true,decide_eq_true_eq,decide_eq_true_eq] at m4
 dsimp only at m4
 have h3 : (1 ≤ (sideV ⟨fw,fd,fh,fg⟩ t).1) ∧ 1 ≤ (sideV ⟨fw,fd,fh,fg⟩ t).2 := by unfold sideV;split <;> dsimp only <;> omega
 subst hm
 exact rCells (by omega) ⟨by omega,m4.1⟩ ⟨by omega,by omega⟩
end Go.Proofs.YtodmidchpbcnpaaGreat