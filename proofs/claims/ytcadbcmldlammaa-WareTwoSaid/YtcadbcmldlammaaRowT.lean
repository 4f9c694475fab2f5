/- An argument that is a slice of structs or arrays, all of whose cells are int64s. -/
import Derived.Test.YtcadbcmldlammaaRowR
namespace Go.Pb
open Go.RowKit Go.ChangeShapes Go.WideShapes Go.ChangeAt Go.Deep
section
variable {H : Type} {enc : TypeId × Value → H} {P : Program} {w : World} {base : Nat} {spare : Nat → Bool} {held : Bool}
theorem open_rowsT {r : Reach} {b0 m n : Nat} {t e : TypeId} {v : Value} {d : DataW H} {p : List MemPlace} (ht : P.underlying t = some (.slice e)) (hfl : flatI P m e = true) (hn : P.cellsOf e = n)
    (hv : Value.okWide P w r b0 t v) (h : DataW.Trod enc P w base spare held t v d p) : ∃ rows, RowsAt n w v rows := by
  obtain ⟨a0, l0, c0, rfl⟩ := okWide_slice ht hv
  obtain ⟨fuel, hf⟩ := h
  obtain ⟨u, rows, he, hr⟩ := open_rows ht hfl hn hf
  simp [Value.cells] at he
  subst he
  exact ⟨rows, hr⟩
end
end Go.Pb
