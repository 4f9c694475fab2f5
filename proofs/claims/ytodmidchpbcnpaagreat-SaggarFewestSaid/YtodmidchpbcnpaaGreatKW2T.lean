/- Contracts of layer 1's firing: Shrunk, Burnt, Mould and Fired, of the program and of the reference; below the blocks that were there nothing turns. -/
import Derived.Test.YtodmidchpbcnpaaGreatW1T
import Derived.Deep.RegionHeld3
import Derived.Test.YtodmidchpbcnpaaGreatKLibT
import Derived.Test.YtodmidchpbcnpaaGreatKP6T
namespace Go.Proofs.YtodmidchpbcnpaaGreat
open Go.RowKit Go.Pb Go.Pb.Ware
set_option linter.unusedVariables false
set_option linter.unusedSimpArgs false

/-- The closure that turner hands back, and what its two variables hold. -/
def Turner (f : FuncId) (c d : Int) (W : World) (e : Ending) (w' : World) : Prop :=
  ∃ p q : Nat, W.heap.size ≤ p ∧ W.heap.size ≤ q ∧ e = .returned (.func (.func f) #[] #[.pointer (some ⟨p, 0, none⟩), .pointer (some ⟨q, 0, none⟩)]) ∧ w'.cell? ⟨p, 0, none⟩ = some (.int .i64 (1000 - d)) ∧ w'.cell? ⟨q, 0, none⟩ = some (.int .i64 (1000 - c)) ∧ Below W.heap.size W w'

end Go.Proofs.YtodmidchpbcnpaaGreat

/- Contracts of layer 1's moulds and fired shapes, of the program and of the reference; below the blocks that were there nothing turns. -/
namespace Go.Proofs.YtodmidchpbcnpaaGreat
open Go.RowKit Go.Pb Go.Pb.Ware
set_option linter.unusedVariables false
set_option linter.unusedSimpArgs false

end Go.Proofs.YtodmidchpbcnpaaGreat

/- Contracts of what one trial tells, of the program and of the reference; below the blocks that were there nothing turns. -/
namespace Go.Proofs.YtodmidchpbcnpaaGreat
open Go.RowKit Go.Pb Go.Pb.Ware
set_option linter.unusedVariables false
set_option linter.unusedSimpArgs false

def ckT (t : Tr) : Int := if trOk t = true then 0 else 13

end Go.Proofs.YtodmidchpbcnpaaGreat

/- Contracts of ranges over trials: slices.Values, and what all trials allow; below the blocks that were there nothing turns. -/
namespace Go.Proofs.YtodmidchpbcnpaaGreat
open Go.RowKit Go.Pb Go.Pb.Ware Go.Shelf
set_option linter.unusedVariables false
set_option linter.unusedSimpArgs false
attribute [local go_sem] Oper.semAt_some

end Go.Proofs.YtodmidchpbcnpaaGreat

/- Contracts of CheckTrials, Narrow and Bar; below the blocks that were there nothing turns. -/
namespace Go.Proofs.YtodmidchpbcnpaaGreat
open Go.RowKit Go.Pb Go.Pb.Ware
set_option linter.unusedVariables false
set_option linter.unusedSimpArgs false

theorem rCheckBody_eq' {id sl sh ll lh hl hh c : Int} {w : World} (h : ckB ⟨id, ⟨sl, sh⟩, ⟨ll, lh⟩, ⟨hl, hh⟩⟩ = c) :
    Calls Tryz.prog 124 #[.agg #[.int .i64 id, .int .i64 sl, .int .i64 sh, .int .i64 ll, .int .i64 lh, .int .i64 hl, .int .i64 hh]] w (Ret w (.int .i64 c)) := by subst h; exact rCheckBody

end Go.Proofs.YtodmidchpbcnpaaGreat

/- Contracts of Narrow and Bar of the program; below the blocks that were there nothing turns. -/
namespace Go.Proofs.YtodmidchpbcnpaaGreat
open Go.RowKit Go.Pb Go.Pb.Ware
set_option linter.unusedVariables false
set_option linter.unusedSimpArgs false

/-- The closure that slices.Values hands back. -/
def IsVals (sv : Value) (v : Value) (W : World) : Prop := ∃ B : Nat, v = .func (.func 99999) #[] #[.pointer (some ⟨B, 0, none⟩)] ∧ W.cell? ⟨B, 0, none⟩ = some sv
theorem keeps_vals {sv : Value} : Keeps (IsVals sv) := fun _ _ _ ⟨B, h1, h2⟩ hb => ⟨B, h1, bkeep hb h2⟩
theorem keeps_some : Keeps (fun v _ => ∃ r : Rg, v = .agg #[.int .i64 r.lo, .int .i64 r.hi] ∧ emptyB r = true) := fun _ _ _ h _ => h

end Go.Proofs.YtodmidchpbcnpaaGreat

/- Contracts of searches in slices of sources, of trialsBy and contradict; below the blocks that were there nothing turns. -/
namespace Go.Proofs.YtodmidchpbcnpaaGreat
open Go.RowKit Go.Pb Go.Pb.Ware Go.Shelf
set_option linter.unusedVariables false
set_option linter.unusedSimpArgs false
attribute [local go_sem] Oper.semAt_some

/-- A place, from 0 on exactly if the number is there. -/
def Found (zs : List Int) (x : Int) (W : World) (e : Ending) (w' : World) : Prop := ∃ i : Int, e = .returned (.int .i64 i) ∧ (0 ≤ i ↔ zs.contains x = true) ∧ Below W.heap.size W w'

end Go.Proofs.YtodmidchpbcnpaaGreat
