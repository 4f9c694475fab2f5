/- Slices of structs all of whose cells are int64s, read in a world; such an argument opened. -/
import Derived.Test.YtcadbcmldlammaaRowS
import Derived.Deep.Slices
namespace Go.Pb
open Go.RowKit Go.ChangeShapes Go.WideShapes Go.ChangeAt Go.Deep

/-- In the world w the slice v reads as rows of n int64s each. -/
def RowsAt (n : Nat) (w : World) (v : Value) (rows : List (List Int)) : Prop :=
  (v = .slice none 0 0 ∧ rows = []) ∨ ∃ (a : Addr) (cap : Nat), v = .slice (some a) rows.length cap ∧ rows.length ≤ cap ∧ cap ≤ 9223372036854775807 ∧
    ∀ k r, rows[k]? = some r → r.length = n ∧ ∀ j z, r[j]? = some z → w.cell? (a.add (k * n + j)) = some (.int .i64 z) ∧ I64 z
theorem RowsAt.below {n : Nat} {w w' : World} {v : Value} {rows : List (List Int)} (h : RowsAt n w v rows) (hb : Below w.heap.size w w') : RowsAt n w' v rows := by
  rcases h with h | ⟨a, cap, h1, h2, h3, h4⟩
  · exact .inl h
  · exact .inr ⟨a, cap, h1, h2, h3, fun k r hr => ⟨(h4 k r hr).1, fun j z hz => ⟨bkeep hb ((h4 k r hr).2 j z hz).1, ((h4 k r hr).2 j z hz).2⟩⟩⟩
theorem RowsAt.i64 {n : Nat} {w : World} {v : Value} {rows : List (List Int)} (h : RowsAt n w v rows) : ∀ r ∈ rows, r.length = n ∧ ∀ z ∈ r, I64 z := by
  rcases h with ⟨_, rfl⟩ | ⟨a, cap, h1, h2, h3, h4⟩
  · simp
  · intro r hr
    obtain ⟨k, hk⟩ := List.getElem?_of_mem hr
    refine ⟨(h4 k r hk).1, fun z hz => ?_⟩
    obtain ⟨j, hj⟩ := List.getElem?_of_mem hz
    exact ((h4 k r hk).2 j z hj).2
/-- A slice of rows shown: its length is theirs. -/
theorem RowsAt.shape {n : Nat} {w : World} {v : Value} {rows : List (List Int)} (h : RowsAt n w v rows) : ∃ (a : Option Addr) (cap : Nat), v = .slice a rows.length cap ∧ rows.length ≤ 9223372036854775807 := by
  rcases h with ⟨h, rfl⟩ | ⟨a, cap, h1, h2, h3, h4⟩
  · exact ⟨none, 0, h, by simp⟩
  · exact ⟨some a, cap, h1, by omega⟩

section
variable {H : Type} {enc : TypeId × Value → H} {P : Program} {w : World} {base : Nat} {spare : Nat → Bool} {held : Bool}
theorem open_rows {m n : Nat} {t e : TypeId} {fuel : Nat} {cs : List Value} {x : DataW H × List MemPlace} (ht : P.underlying t = some (.slice e)) (hfl : flatI P m e = true) (hn : P.cellsOf e = n)
    (h : DataW.trod enc P w base spare held fuel t cs = some x) : ∃ v rows, cs = [v] ∧ RowsAt n w v rows := by
  subst hn
  rcases Go.Deep.open_slice ht h with ⟨h1, _⟩ | ⟨a, len, cap, k, f, D, Pl, rfl, hb, hl, hm, hk, rfl, hx⟩
  · exact ⟨_, [], h1, .inl ⟨rfl, rfl⟩⟩
  · have hlk : len ≤ k := by rw [hk]; split <;> omega
    have each : ∀ i, i < len → ∃ r : List Int, r.length = P.cellsOf e ∧ ∀ j z, r[j]? = some z → w.cell? (a.add (i * P.cellsOf e + j)) = some (.int .i64 z) ∧ I64 z := by
      intro i hi
      obtain ⟨cs', h1, h2⟩ := hx i (by omega)
      obtain ⟨hlen, hc⟩ := flat_cells m hfl h2
      obtain ⟨zs, rfl, hw⟩ := ints_of cs' hc
      obtain ⟨_, _, hat⟩ := World.cells?_some h1
      refine ⟨zs, by simpa using hlen, fun j z hz => ?_⟩
      have hj : j < zs.length := (List.getElem?_eq_some_iff.1 hz).1
      have h3 := hat j (by simp at hlen; omega)
      rw [Go.Deep.add_add] at h3
      rw [h3, List.getElem?_map, hz]
      exact ⟨rfl, hw z (List.mem_of_getElem? hz)⟩
    obtain ⟨R, hR⟩ := choose_lt each
    refine ⟨_, (List.range len).map R, rfl, .inr ⟨a, cap, by simp, by simpa using hl, by unfold maxLen at hm; omega, fun i r hr => ?_⟩⟩
    have hi : i < len := by
      have := (List.getElem?_eq_some_iff.1 hr).1
      simpa using this
    rw [List.getElem?_map, List.getElem?_range hi] at hr
    simp at hr
    subst hr
    exact hR i hi
/-- A struct of two slices of such structs. -/
theorem open_rows2 {r : Reach} {b0 m n1 n2 : Nat} {t t1 t2 e1 e2 : TypeId} {f1 f2 : Field} {v : Value} {d : DataW H} {p : List MemPlace} (hu : P.underlying t = some (.struct #[f1, f2])) (hC : P.cellsOf t = 2)
    (ho1 : f1.offset = 0) (ho2 : f2.offset = 1) (ht1 : f1.type = t1) (ht2 : f2.type = t2) (c1 : P.cellsOf t1 = 1) (c2 : P.cellsOf t2 = 1)
    (u1 : P.underlying t1 = some (.slice e1)) (u2 : P.underlying t2 = some (.slice e2)) (hf1 : flatI P m e1 = true) (hf2 : flatI P m e2 = true) (hn1 : P.cellsOf e1 = n1) (hn2 : P.cellsOf e2 = n2)
    (hv : Value.okWide P w r b0 t v) (h : DataW.Trod enc P w base spare held t v d p) :
    ∃ v1 v2 rows1 rows2, v = .agg #[v1, v2] ∧ RowsAt n1 w v1 rows1 ∧ RowsAt n2 w v2 rows2 := by
  obtain ⟨cs, rfl, hsz⟩ := okWide_struct hu hv
  obtain ⟨fuel, hf⟩ := h
  obtain ⟨xs, k, _, _, hlen, hxl, hg⟩ := DataW.trod_struct hu hf
  obtain ⟨l⟩ := cs
  match l, hsz.trans hC with
  | [a1, a2], _ =>
    have g1 := hg 0 f1 rfl
    have g2 := hg 1 f2 rfl
    rw [ho1, ht1, c1] at g1
    rw [ho2, ht2, c2] at g2
    have x1 : xs[0]? = some (xs[0]'(by simp at hxl; omega)) := List.getElem?_eq_getElem _
    have x2 : xs[1]? = some (xs[1]'(by simp at hxl; omega)) := List.getElem?_eq_getElem _
    rw [x1] at g1
    rw [x2] at g2
    obtain ⟨v1, r1, e1', h1⟩ := open_rows u1 hf1 hn1 g1
    obtain ⟨v2, r2, e2', h2⟩ := open_rows u2 hf2 hn2 g2
    simp [Value.cells] at e1' e2'
    subst e1'; subst e2'
    exact ⟨_, _, r1, r2, rfl, h1, h2⟩
end
end Go.Pb
