/- For ranges over functions: blocks of cells that a round leaves as they are. -/
import Derived.Test.YtcadbcmldlammaaP4
import Derived.RangeFuncNested
import Derived.RangeFuncBound
import Derived.RangeFuncCalls
import Derived.RangeFuncLeaves
import Derived.Shelf.Abstract
import Derived.Shelf.RegionOpen
import Derived.OwnWalkIn
import Derived.TacticsInMore
import Derived.LoopNIn
import Derived.LoopIn
namespace Go.Pb
set_option linter.unusedVariables false
open Go.RowKit

/-- Block B holds these cells, and may be written. -/
def CellsAt (W : World) (B : Nat) (vs : List Value) : Prop := ∀ (o : Nat) (v : Value), vs[o]? = some v → W.cell? ⟨B, o, none⟩ = some v ∧ W.frozen? ⟨B, o, none⟩ = false
theorem CellsAt.kept {W W' : World} {row : Option Nat} {B : Nat} {vs : List Value} (h : CellsAt W B vs) (hg : W.grownBy W' row) (hrow : ∀ r, row = some r → ∃ o : Obj, W.heap[r]? = some o ∧ o.isCells = false) : CellsAt W' B vs :=
  fun o v hv => ⟨cell_kept (h o v hv).1 hg hrow, (frozen_kept (h o v hv).1 hg hrow).trans (h o v hv).2⟩
theorem CellsAt.below {W W' : World} {B : Nat} {vs : List Value} (h : CellsAt W B vs) (hb : Below W.heap.size W W') : CellsAt W' B vs :=
  fun o v hv => ⟨bkeep hb (h o v hv).1, bfree hb (h o v hv).1 (h o v hv).2⟩
theorem CellsAt.alloc {W : World} {B : Nat} {vs : List Value} (h : CellsAt W B vs) (o : Obj) : CellsAt (W.alloc o) B vs := h.below ((Below.refl _ _).alloc (Nat.le_refl _) _)
theorem CellsAt.new (W : World) (vs : List Value) (t : TypeId) : CellsAt (W.alloc (.cells vs.toArray t)) W.heap.size vs := fun o v hv => by
  refine ⟨?_, World.frozen?_alloc_new W vs.toArray t o⟩
  rw [World.cell?_alloc_new]; simpa using hv
theorem cells_own {β : Type} (B : Nat) (f : β → List Value) : Own (fun s W => CellsAt W B (f s)) := fun s X Y row hs hg hrow => hs.kept hg hrow
theorem keeps_of_below {W W' : World} (h : Below W.heap.size W W') : KeepsOthers W W' :=
  ⟨h.size, fun k o hk _ => by rw [h.block k (Array.getElem?_eq_some_iff.1 hk).1]; exact hk⟩
theorem CellsAt.two {W : World} {B : Nat} {a b : Value} (h : CellsAt W B [a, b]) : (W.cell? ⟨B, 0, none⟩ = some a ∧ W.frozen? ⟨B, 0, none⟩ = false) ∧ W.cell? ⟨B, 1, none⟩ = some b ∧ W.frozen? ⟨B, 1, none⟩ = false :=
  ⟨h 0 a rfl, h 1 b rfl⟩
theorem CellsAt.pair {W : World} {B : Nat} {a b : Value} (h0 : W.cell? ⟨B, 0, none⟩ = some a) (h1 : W.frozen? ⟨B, 0, none⟩ = false) (h2 : W.cell? ⟨B, 1, none⟩ = some b) (h3 : W.frozen? ⟨B, 1, none⟩ = false) : CellsAt W B [a, b] := by
  intro o v hv
  match o, hv with
  | 0, hv => cases hv; exact ⟨h0, h1⟩
  | 1, hv => cases hv; exact ⟨h2, h3⟩
  | o + 2, hv => simp at hv
theorem CellsAt.store2 {W : World} {B : Nat} {a b a' b' : Value} (h : CellsAt W B [a, b]) : CellsAt ((W.setCell ⟨B, 0, none⟩ a').setCell ⟨B, 1, none⟩ b') B [a', b'] := by
  obtain ⟨⟨h0, h1⟩, h2, h3⟩ := h.two
  refine CellsAt.pair ?_ (by simp [h1]) ?_ (by simp [h3]) <;> simp [h0, h2, go_sem]
theorem CellsAt.other {W : World} {B B' o' : Nat} {vs : List Value} (h : CellsAt W B vs) (hne : B ≠ B') (u : Value) : CellsAt (W.setCell ⟨B', o', none⟩ u) B vs :=
  fun o v hv => ⟨by have := (h o v hv).1; rw [World.cell?_setCell_other _ _ _ _ (by intro e; cases e; exact hne rfl)]; exact this, by have := (h o v hv).2; simp [this]⟩
end Go.Pb

namespace Go.Pb.Ware
open Go.Pb
/-- Valid trials. -/
abbrev TT := { t : Tr // trOk t = true }
def rowT (t : TT) : List Int := [t.1.source, t.1.wet.lo, t.1.wet.hi, t.1.dry.lo, t.1.dry.hi]
def cellsT (t : TT) : List Value := [.int .i64 t.1.source, .int .i64 t.1.wet.lo, .int .i64 t.1.wet.hi, .int .i64 t.1.dry.lo, .int .i64 t.1.dry.hi]
def encT (t : TT) : Array Value := #[.agg #[.int .i64 t.1.source, .int .i64 t.1.wet.lo, .int .i64 t.1.wet.hi, .int .i64 t.1.dry.lo, .int .i64 t.1.dry.hi]]
def tol (t : TT) : Rg := common ⟨0, 200⟩ (toldR t.1)
def accR (ts : List TT) (r : Rg) : Rg := ts.foldl (fun r t => common r (tol t)) r
theorem accR_snoc (ts : List TT) (t : TT) (r : Rg) : accR (ts ++ [t]) r = common (accR ts r) (tol t) := by simp [accR]
theorem common_empty {a b : Rg} (h : emptyB a = true) : emptyB (common a b) = true := by
  unfold emptyB common at *
  simp only [decide_eq_true_eq] at *
  omega
theorem accR_empty : ∀ (ts : List TT) (r : Rg), emptyB r = true → emptyB (accR ts r) = true
  | [], r, h => h
  | t :: ts, r, h => by simpa [accR] using accR_empty ts (common r (tol t)) (common_empty h)
theorem accR_part {pre ts : List TT} {r : Rg} (hp : pre <+: ts) (h : emptyB (accR pre r) = true) : emptyB (accR ts r) = true := by
  obtain ⟨rest, rfl⟩ := hp
  have : accR (pre ++ rest) r = accR rest (accR pre r) := by simp [accR]
  rw [this]; exact accR_empty rest _ h
/-- Rows all of which are valid trials are trials. -/
theorem toTT : ∀ {rows : List (List Int)}, (∀ r ∈ rows, r.length = 5) → rows.all okT = true → ∃ ts : List TT, rows = ts.map rowT
  | [], _, _ => ⟨[], rfl⟩
  | r :: rs, h, ho => by
    simp only [List.all_cons, Bool.and_eq_true] at ho
    obtain ⟨ts, hts⟩ := toTT (rows := rs) (fun x hx => h x (by simp [hx])) ho.2
    obtain ⟨a0, a1, a2, a3, a4, rfl⟩ := len5 (h r (by simp))
    refine ⟨⟨trR [a0, a1, a2, a3, a4], ho.1⟩ :: ts, ?_⟩
    subst hts; rfl
end Go.Pb.Ware
