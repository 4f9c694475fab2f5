/- Contracts of without and contradict; below the blocks that were there nothing turns. -/
import Derived.Test.YtodmidchpbcnpaaGreatW24T
import Derived.IntWalk
namespace Go.Proofs.YtodmidchpbcnpaaGreat
open Go.RowKit Go.Pb Go.Pb.Ware
set_option linter.unusedVariables false
set_option linter.unusedSimpArgs false

/-- Two slices in a new slice. -/
def IsPair (v1 v2 : Value) (v : Value) (W : World) : Prop := ∃ B : Nat, v = .slice (some ⟨B, 0, none⟩) 2 2 ∧ W.cell? ⟨B, 0, none⟩ = some v1 ∧ W.cell? ⟨B, 1, none⟩ = some v2
theorem keeps_pair {v1 v2 : Value} : Keeps (IsPair v1 v2) := fun _ _ _ ⟨B, h1, h2, h3⟩ hb => ⟨B, h1, bkeep hb h2, bkeep hb h3⟩
def IsNums (zs : List Int) (v : Value) (W : World) : Prop := NumsAt W v zs
theorem keeps_nums {zs : List Int} : Keeps (IsNums zs) := fun _ _ _ h hb => NumsAt.below h hb
theorem concat_fresh {c1 c2 l1 l2 : Nat} {a1 a2 : Addr} {xs ys zs : List Int} {v : Value} {w : World} (e1 : xs.length = l1) (e2 : ys.length = l2) (ez : xs ++ ys = zs) (h1 : NumsAt w (.slice (some a1) l1 c1) xs) (h2 : NumsAt w (.slice (some a2) l2 c2) ys)
    (hp : IsPair (.slice (some a1) l1 c1) (.slice (some a2) l2 c2) v w) (hx : l1 ≤ 1000) (hy : l2 ≤ 1000) :
    Calls Tryz.prog 149 #[v] w fun e w'' => ∃ u, e = .returned u ∧ Below w.heap.size w w'' ∧ IsNums zs u w'' := by
  subst e1; subst e2; subst ez
  obtain ⟨B, rfl, d0, d1⟩ := hp
  exact concat_any h1 h2 d0 d1 hx hy

/-- The closure that trialsBy hands back. -/
def IsBy (lv bv : Value) (v : Value) (W : World) : Prop := ∃ B1 B2 : Nat, v = .func (.func 99999) #[] #[.pointer (some ⟨B1, 0, none⟩), .pointer (some ⟨B2, 0, none⟩)] ∧ W.cell? ⟨B1, 0, none⟩ = some lv ∧ W.cell? ⟨B2, 0, none⟩ = some bv
theorem keeps_by {lv bv : Value} : Keeps (IsBy lv bv) := fun _ _ _ ⟨B1, B2, h1, h2, h3⟩ hb => ⟨B1, B2, h1, bkeep hb h2, bkeep hb h3⟩
def IsRg (c : Bool) (v : Value) (W : World) : Prop := ∃ r : Rg, v = .agg #[.int .i64 r.lo, .int .i64 r.hi] ∧ emptyB r = c
theorem keeps_rg {c : Bool} : Keeps (IsRg c) := fun _ _ _ h _ => h
end Go.Proofs.YtodmidchpbcnpaaGreat
