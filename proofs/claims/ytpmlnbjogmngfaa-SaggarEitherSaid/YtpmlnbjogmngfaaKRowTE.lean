/- An argument that is a slice of structs or arrays, all of whose cells are int64s. -/
import Derived.Test.YtpmlnbjogmngfaaKLibE
import Derived.Test.YtpmlnbjogmngfaaKSbE
namespace Go.Pb
open Go.RowKit Go.ChangeShapes Go.WideShapes Go.ChangeAt Go.Deep
section
variable {H : Type} {enc : TypeId × Value → H} {P : Program} {w : World} {base : Nat} {spare : Nat → Bool} {held : Bool}
theorem open_rowsT {r : Reach} {b0 m n : Nat} {t e : TypeId} {v : Value} {d : DataW H} {p : List MemPlace} (ht : P.underlying t = some (.slice e)) (hfl : flatI P m e = true) (hn : P.cellsOf e = n)
    (hv : Value.okWide P w r b0 t v) (h : DataW.Trod enc P w base spare held t v d p) : ∃ rows, RowsAt n w v rows := by
  obtain ⟨a0, l0, c0, rfl⟩ := okWide_slice ht hv
  obtain ⟨fuel, hf⟩ := h
  obtain ⟨u, rows, he, hr⟩ := open_rows ht hfl hn hf
  simp [Value.cells] at he
  subst he
  exact ⟨rows, hr⟩
end
end Go.Pb

/- Arguments opened: numbers that make a floor (two slices of rows, and an array between them); a slice of stands; a reason. -/
namespace Go.Pb
open Go.RowKit Go.ChangeShapes Go.WideShapes Go.ChangeAt Go.Deep
section
variable {H : Type} {enc : TypeId × Value → H} {P : Program} {w : World} {base : Nat} {spare : Nat → Bool} {held : Bool}
/-- A struct of a slice of rows, an array of four int64s, and a slice of rows. -/
theorem open_raw {r : Reach} {b0 m n1 n3 : Nat} {t t1 t2 t3 e1 e3 : TypeId} {f1 f2 f3 : Field} {v : Value} {d : DataW H} {p : List MemPlace} (hu : P.underlying t = some (.struct #[f1, f2, f3])) (hC : P.cellsOf t = 6)
    (ho1 : f1.offset = 0) (ho2 : f2.offset = 1) (ho3 : f3.offset = 5) (ht1 : f1.type = t1) (ht2 : f2.type = t2) (ht3 : f3.type = t3) (c1 : P.cellsOf t1 = 1) (c2 : P.cellsOf t2 = 4) (c3 : P.cellsOf t3 = 1)
    (u1 : P.underlying t1 = some (.slice e1)) (u3 : P.underlying t3 = some (.slice e3)) (hf1 : flatI P m e1 = true) (hf2 : flatI P m t2 = true) (hf3 : flatI P m e3 = true) (hn1 : P.cellsOf e1 = n1) (hn3 : P.cellsOf e3 = n3)
    (hv : Value.okWide P w r b0 t v) (h : DataW.Trod enc P w base spare held t v d p) :
    ∃ v1 v3 rows1 rows3 b0 b1 b2 b3, v = .agg #[v1, .int .i64 b0, .int .i64 b1, .int .i64 b2, .int .i64 b3, v3] ∧ RowsAt n1 w v1 rows1 ∧ RowsAt n3 w v3 rows3 ∧ (I64 b0 ∧ I64 b1) ∧ I64 b2 ∧ I64 b3 := by
  obtain ⟨cs, rfl, hsz⟩ := okWide_struct hu hv
  obtain ⟨fuel, hf⟩ := h
  obtain ⟨xs, k, _, _, hlen, hxl, hg⟩ := DataW.trod_struct hu hf
  obtain ⟨l⟩ := cs
  match l, hsz.trans hC with
  | [a1, a2, a3, a4, a5, a6], _ =>
    have g1 := hg 0 f1 rfl
    have g2 := hg 1 f2 rfl
    have g3 := hg 2 f3 rfl
    rw [ho1, ht1, c1] at g1
    rw [ho2, ht2, c2] at g2
    rw [ho3, ht3, c3] at g3
    have x1 : xs[0]? = some (xs[0]'(by simp at hxl; omega)) := List.getElem?_eq_getElem _
    have x2 : xs[1]? = some (xs[1]'(by simp at hxl; omega)) := List.getElem?_eq_getElem _
    have x3 : xs[2]? = some (xs[2]'(by simp at hxl; omega)) := List.getElem?_eq_getElem _
    rw [x1] at g1
    rw [x2] at g2
    rw [x3] at g3
    obtain ⟨v1, r1, e1', h1⟩ := open_rows u1 hf1 hn1 g1
    obtain ⟨v3, r3, e3', h3⟩ := open_rows u3 hf3 hn3 g3
    obtain ⟨_, hi⟩ := flat_cells m hf2 g2
    obtain ⟨y0, hy0, hw0⟩ := hi 0 a2 rfl
    obtain ⟨y1, hy1, hw1⟩ := hi 1 a3 rfl
    obtain ⟨y2, hy2, hw2⟩ := hi 2 a4 rfl
    obtain ⟨y3, hy3, hw3⟩ := hi 3 a5 rfl
    simp [Value.cells] at e1' e3'
    subst e1'; subst e3'; subst hy0; subst hy1; subst hy2; subst hy3
    exact ⟨_, _, r1, r3, y0, y1, y2, y3, rfl, h1, h3, ⟨hw0, hw1⟩, hw2, hw3⟩
/-- A slice of stands. -/
theorem open_stands {r : Reach} {b0 : Nat} {t e ti tb : TypeId} {f1 f2 f3 : Field} {v : Value} {d : DataW H} {p : List MemPlace} (ht : P.underlying t = some (.slice e)) (hu : P.underlying e = some (.struct #[f1, f2, f3])) (hC : P.cellsOf e = 3)
    (ho1 : f1.offset = 0) (ho2 : f2.offset = 1) (ho3 : f3.offset = 2) (ht1 : f1.type = ti) (ht2 : f2.type = ti) (ht3 : f3.type = tb) (ci : P.cellsOf ti = 1) (cb : P.cellsOf tb = 1) (ui : P.underlying ti = some (.int .i64)) (ub : P.underlying tb = some .bool)
    (hv : Value.okWide P w r b0 t v) (h : DataW.Trod enc P w base spare held t v d p) : ∃ qs, Go.Pb.Sag.StAt w v qs ∧ ∀ q ∈ qs, I64 q.y ∧ I64 q.x := by
  obtain ⟨a0, l0, c0, rfl⟩ := okWide_slice ht hv
  obtain ⟨fuel, hf⟩ := h
  rcases Go.Deep.open_slice ht hf with ⟨h1, _⟩ | ⟨a, len, cap, k, f, D, Pl, hcs, hb, hl, hm, hk, _, hx⟩
  · simp [Value.cells] at h1
    obtain ⟨rfl, rfl, rfl⟩ := h1
    exact ⟨[], .inl ⟨rfl, rfl⟩, fun q hq => by cases hq⟩
  · have hlk : len ≤ k := by rw [hk]; split <;> omega
    have each : ∀ i, i < len → ∃ q : Go.Pb.Sag.Sq, (I64 q.y ∧ I64 q.x) ∧ ∀ j u, (Go.Pb.Sag.cellsQ q)[j]? = some u → w.cell? (a.add (i * 3 + j)) = some u := by
      intro i hi
      obtain ⟨cs', h1, h2⟩ := hx i (by omega)
      rw [hC] at h1
      obtain ⟨_, hcl, hat⟩ := World.cells?_some h1
      obtain ⟨xs, m, _, _, hlen, hxl, hg⟩ := DataW.trod_struct hu h2
      rw [hC] at hlen
      match cs', hlen with
      | [a1, a2, a3], _ =>
        have g1 := hg 0 f1 rfl
        have g2 := hg 1 f2 rfl
        have g3 := hg 2 f3 rfl
        rw [ho1, ht1, ci] at g1
        rw [ho2, ht2, ci] at g2
        rw [ho3, ht3, cb] at g3
        have x1 : xs[0]? = some (xs[0]'(by simp at hxl; omega)) := List.getElem?_eq_getElem _
        have x2 : xs[1]? = some (xs[1]'(by simp at hxl; omega)) := List.getElem?_eq_getElem _
        have x3 : xs[2]? = some (xs[2]'(by simp at hxl; omega)) := List.getElem?_eq_getElem _
        rw [x1] at g1
        rw [x2] at g2
        rw [x3] at g3
        obtain ⟨y1, e1, _, w1⟩ := DataW.trod_int ui g1
        obtain ⟨y2, e2, _, w2⟩ := DataW.trod_int ui g2
        obtain ⟨y3, e3, _⟩ := DataW.trod_bool ub g3
        simp at e1 e2 e3
        subst e1; subst e2; subst e3
        refine ⟨⟨y1, y2, y3⟩, ⟨w1, w2⟩, fun j u hu => ?_⟩
        have hj : j < 3 := (List.getElem?_eq_some_iff.1 hu).1
        have h3 := hat j (by simpa using hj)
        rw [Go.Deep.add_add] at h3
        rw [h3]
        exact hu
    haveI : Inhabited Go.Pb.Sag.Sq := ⟨⟨0, 0, false⟩⟩
    obtain ⟨R, hR⟩ := choose_lt each
    simp [Value.cells] at hcs
    obtain ⟨rfl, rfl, rfl⟩ := hcs
    refine ⟨(List.range l0).map R, .inr ⟨a, c0, by simp, by simpa using hl, by unfold maxLen at hm; omega, fun i q hq => ?_⟩, fun q hq => ?_⟩
    · have hi : i < l0 := by
        have := (List.getElem?_eq_some_iff.1 hq).1
        simpa using this
      rw [List.getElem?_map, List.getElem?_range hi] at hq
      simp at hq
      subst hq
      exact (hR i hi).2
    · obtain ⟨i, hi, rfl⟩ := List.mem_map.1 hq
      exact (hR i (List.mem_range.1 hi)).1
theorem rows1_nums {v : Value} {rows : List (List Int)} (h : RowsAt 1 w v rows) : ∃ zs, NumsAt w v zs := by
  rcases h with ⟨h1, h2⟩ | ⟨a, cap, h1, h2, h3, h4⟩
  · exact ⟨[], .inl ⟨h1, rfl⟩⟩
  · refine ⟨rows.map fun r => r.getD 0 0, .inr ⟨a, cap, by rw [List.length_map]; exact h1, by rw [List.length_map]; exact h2, h3, fun k z hz => ?_⟩⟩
    rw [List.getElem?_map] at hz
    cases hr : rows[k]? with
    | none => rw [hr] at hz; cases hz
    | some r =>
      rw [hr] at hz
      simp only [Option.map_some, Option.some.injEq] at hz
      obtain ⟨h5, h6⟩ := h4 k r hr
      have h7 := h6 0 z (by
        match r, h5, hz with
        | [x], _, hz => simpa using hz)
      rw [Nat.mul_one, Nat.add_zero] at h7
      exact h7
/-- A reason: a kind, and a slice of numbers. -/
theorem open_reason {r : Reach} {b0 m : Nat} {t ti t2 e2 : TypeId} {f1 f2 : Field} {v : Value} {d : DataW H} {p : List MemPlace} (hu : P.underlying t = some (.struct #[f1, f2])) (hC : P.cellsOf t = 2)
    (ho1 : f1.offset = 0) (ho2 : f2.offset = 1) (ht1 : f1.type = ti) (ht2 : f2.type = t2) (ci : P.cellsOf ti = 1) (c2 : P.cellsOf t2 = 1) (ui : P.underlying ti = some (.int .i64)) (u2 : P.underlying t2 = some (.slice e2)) (hf2 : flatI P m e2 = true) (hn2 : P.cellsOf e2 = 1)
    (hv : Value.okWide P w r b0 t v) (h : DataW.Trod enc P w base spare held t v d p) : ∃ k v2 zs, v = .agg #[.int .i64 k, v2] ∧ NumsAt w v2 zs := by
  obtain ⟨cs, rfl, hsz⟩ := okWide_struct hu hv
  obtain ⟨fuel, hf⟩ := h
  obtain ⟨xs, k, _, _, hlen, hxl, hg⟩ := DataW.trod_struct hu hf
  obtain ⟨l⟩ := cs
  match l, hsz.trans hC with
  | [a1, a2], _ =>
    have g1 := hg 0 f1 rfl
    have g2 := hg 1 f2 rfl
    rw [ho1, ht1, ci] at g1
    rw [ho2, ht2, c2] at g2
    have x1 : xs[0]? = some (xs[0]'(by simp at hxl; omega)) := List.getElem?_eq_getElem _
    have x2 : xs[1]? = some (xs[1]'(by simp at hxl; omega)) := List.getElem?_eq_getElem _
    rw [x1] at g1
    rw [x2] at g2
    obtain ⟨y1, e1, _, w1⟩ := DataW.trod_int ui g1
    obtain ⟨v2, r2, e2', h2⟩ := open_rows u2 hf2 hn2 g2
    simp [Value.cells] at e1 e2'
    subst e1; subst e2'
    obtain ⟨zs, hz⟩ := rows1_nums h2
    exact ⟨y1, _, zs, rfl, hz⟩
end
end Go.Pb
