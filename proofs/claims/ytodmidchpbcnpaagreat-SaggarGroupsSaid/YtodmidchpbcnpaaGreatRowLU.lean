/- Part of a claim. -/
import Derived.Test.YtodmidchpbcnpaaGreatKScU
import Derived.Test.YtodmidchpbcnpaaGreatG31U
set_option linter.unusedVariables false
set_option linter.unusedSimpArgs false
namespace Go.Proofs.YtodmidchpbcnpaaGreat
open Go Go.Pb Go.Pb.Ware Go.Pb.Sag Go.RowKit Go.ChangeShapes Go.WideShapes Go.ChangeAt Go.Deep
section
variable {H : Type} {enc : TypeId × Value → H} {P : Program} {w : World} {base : Nat} {spare : Nat → Bool} {held : Bool}
theorem open_lists {r : Reach} {b0 m : Nat} {t t2 e2 : TypeId} {v : Value} {d : DataW H} {p : List MemPlace} (ht : P.underlying t = some (.slice t2)) (u2 : P.underlying t2 = some (.slice e2)) (c2 : P.cellsOf t2 = 1) (hf2 : flatI P m e2 = true) (hn2 : P.cellsOf e2 = 1)
  (hv : Value.okWide P w r b0 t v) (h : DataW.Trod enc P w base spare held t v d p) : ∃ gs, ListsAt v gs w ∧ gs.length ≤ 9223372036854775807 := by
 obtain ⟨a0, l0, c0, rfl⟩ := okWide_slice ht hv
 obtain ⟨fuel, hf⟩ := h
 rcases Go.Deep.open_slice ht hf with ⟨h1, _⟩ | ⟨a, len, cap, k, f, D, Pl, hcs, hb, hl, hm, hk, _, hx⟩
 ·simp [Value.cells] at h1
  obtain ⟨rfl, rfl, rfl⟩ := h1
  exact ⟨[], ⟨none, 0, rfl, fun k g hg => by simp at hg⟩, by simp⟩
 ·have hlk : len ≤ k := by rw [hk]; split <;> omega
  have each : ∀ i, i < len → ∃ g : List Int, ∃ u, w.cell? (a.add i) = some u ∧ NumsAt w u g := by
   intro i hi
   obtain ⟨cs', h1, h2⟩ := hx i (by omega)
   rw [c2] at h1
   obtain ⟨_, hcl, hat⟩ := World.cells?_some h1
   obtain ⟨v2, r2, e2', h3⟩ := open_rows u2 hf2 hn2 h2
   obtain ⟨zs, hz⟩ := rows1_nums h3
   rcases h3 with ⟨rfl, _⟩ | ⟨q, qc, rfl, _⟩
   ·have h4 := hat 0 (by omega)
    subst e2'
    rw [Go.Deep.add_add, Nat.mul_one, Nat.add_zero] at h4
    exact ⟨zs, _, h4, hz⟩
   ·have h4 := hat 0 (by omega)
    subst e2'
    rw [Go.Deep.add_add, Nat.mul_one, Nat.add_zero] at h4
    exact ⟨zs, _, h4, hz⟩
  obtain ⟨R, hR⟩ := choose_lt each
  simp [Value.cells] at hcs
  obtain ⟨rfl, rfl, rfl⟩ := hcs
  refine ⟨(List.range l0).map R, ⟨some a, c0, by simp, fun i g hg => ?_⟩, by simp; unfold maxLen at hm; omega⟩
  have hi : i < l0 := by
   have := (List.getElem?_eq_some_iff.1 hg).1
   simpa using this
  rw [List.getElem?_map, List.getElem?_range hi] at hg
  simp at hg
  subst hg
  exact ⟨a, rfl, hR i hi⟩
end
end Go.Proofs.YtodmidchpbcnpaaGreat