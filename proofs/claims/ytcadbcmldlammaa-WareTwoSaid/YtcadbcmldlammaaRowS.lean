/- An argument that is a slice of int64s. -/
import Derived.Test.YtcadbcmldlammaaRow
import Derived.Test.YtcadbcmldlammaaSl
import Derived.ChangeSlices
import Derived.SizedLaws
namespace Go.Pb
open Go.RowKit Go.ChangeShapes Go.WideShapes Go.ChangeAt
section
variable {H : Type} {enc : TypeId × Value → H} {P : Program} {w : World} {base : Nat} {spare : Nat → Bool} {held : Bool}
theorem open_slice {r : Reach} {b0 : Nat} {t e : TypeId} {v : Value} {d : DataW H} {p : List MemPlace} (ht : P.underlying t = some (.slice e)) (he : P.underlying e = some (.int .i64)) (hc : P.cellsOf e = 1)
    (hv : Value.okWide P w r b0 t v) (h : DataW.Trod enc P w base spare held t v d p)
    (hs : ∀ el sp, d = .slice el sp → el.length + sp.length ≤ 140737488355328) (hsp : spare = fun _ => true) : ∃ zs : List Int, IntsAt w v zs := by
  obtain ⟨a0, l0, c0, rfl⟩ := okWide_slice ht hv
  obtain ⟨fuel, hf⟩ := h
  rcases open_ints ht he hc hf with ⟨h1, _⟩ | ⟨a, len, cap, zs, h1, _, h2, h3, h4, h5, h6, h7⟩
  · exact ⟨[], .inl ⟨by simpa [Value.cells] using h1, rfl⟩⟩
  · have hcap : cap ≤ 140737488355328 := by
      have := hs _ _ (congrArg Prod.fst h5)
      subst hsp
      simp [lits] at this h4
      omega
    have hl : len ≤ zs.length := by rw [h4]; split <;> omega
    refine ⟨zs.take len, .inr ⟨a, cap, ?_, ?_, hcap, fun k z hz => ?_⟩⟩
    · rw [List.length_take, Nat.min_eq_left hl]; simpa [Value.cells] using h1
    · rw [List.length_take, Nat.min_eq_left hl]; exact h2
    · have hk : k < len := by
        have := (List.getElem?_eq_some_iff.1 hz).1
        rw [List.length_take] at this; omega
      rw [List.getElem?_take, if_pos hk] at hz
      have hg : zs.getD k 0 = z := by simp [hz]
      refine ⟨by rw [h6 k (by omega), hg], h7 z (List.mem_of_getElem? hz)⟩
end
end Go.Pb
