/- Two own slices of pairs beside each other. -/
import Derived.Test.YtpmlnbjogmngfaaKAppT
import Derived.Maps.AppendAt
import Derived.Test.YtpmlnbjogmngfaaKLibT
import Derived.Test.YtpmlnbjogmngfaaKSbT
namespace Go.Pb.Sag
open Go Go.Pb Go.Pb.Ware Go.RowKit
set_option linter.unusedVariables false
def pairM (m : Int × Int) : List Int := [m.1, m.2]
def cellsM (m : Int × Int) : List Value := [.int .i64 m.1, .int .i64 m.2]
theorem flat_M (l : List (Int × Int)) : (l.map pairM).flatten.map (Value.int .i64) = l.flatMap cellsM := by
  induction l with
  | nil => rfl
  | cons x xs ih => rw [List.map_cons, List.flatten_cons, List.map_append, ih, List.flatMap_cons]; rfl
theorem one_cellsM {m : Int × Int} : ∀ u ∈ cellsM m, u.oneCell' = true := by
  intro u hu
  simp only [cellsM, List.mem_cons, List.not_mem_nil, or_false] at hu
  rcases hu with rfl | rfl <;> rfl
theorem new_cellsM (w : World) (m : Int × Int) (ty : TypeId) : ∀ j u, (cellsM m)[j]? = some u → (w.alloc (.cells (cellsM m).toArray ty)).cell? ((⟨w.heap.size, 0, none⟩ : Addr).add j) = some u := by
  intro j u h
  match j, h with
  | 0, h => simp [cellsM] at h; subst h; simp [Addr.add, cellsM, go_sem]
  | 1, h => simp [cellsM] at h; subst h; simp [Addr.add, cellsM, go_sem]
theorem snocM (l : List (Int × Int)) (m : Int × Int) : l.flatMap cellsM ++ cellsM m = (l ++ [m]).flatMap cellsM := by simp
/-- Two own slices in different blocks. -/
structure TwoAt (T lo : Nat) (W : World) (mv hv : Value) (ms hs : List (Int × Int)) : Prop where
  own1 : W.ownsRow lo T 2 mv ms.length (ms.flatMap cellsM)
  own2 : W.ownsRow lo T 2 hv hs.length (hs.flatMap cellsM)
  apart : ∀ b, mv.ownBlock = some b → hv.ownBlock ≠ some b
theorem TwoAt.nil (T lo : Nat) (W : World) : TwoAt T lo W (.slice none 0 0) (.slice none 0 0) [] [] := ⟨World.ownsRow_nil _ _ _ _, World.ownsRow_nil _ _ _ _, fun b h => by cases h⟩
theorem TwoAt.next {T lo : Nat} {W W' : World} {mv hv : Value} {ms hs : List (Int × Int)} (h : TwoAt T lo W mv hv ms hs) (hb : Below W.heap.size W W') : TwoAt T lo W' mv hv ms hs := ⟨owns_below h.own1 hb, owns_below h.own2 hb, h.apart⟩
theorem TwoAt.push1 {T lo : Nat} {W W' : World} {mv mv' hv : Value} {ms hs : List (Int × Int)} {m : Int × Int} (h : TwoAt T lo W mv hv ms hs) (hg : W.grownBy W' mv.ownBlock) (ho : W'.ownsRow lo T 2 mv' (ms.length + 1) (ms.flatMap cellsM ++ cellsM m)) (hv' : mv'.ownBlock = mv.ownBlock ∨ mv'.ownBlock = some W.heap.size) : TwoAt T lo W' mv' hv (ms ++ [m]) hs := by
  refine ⟨by rw [List.length_append, ← snocM]; exact ho, h.own2.kept hg ?_, ?_⟩
  · cases hm : hv.ownBlock with
    | none => exact .inl rfl
    | some b => refine .inr fun e => h.apart b ?_ hm; rw [← e]
  · intro b hb hh
    rcases hv' with e | e
    · exact h.apart b (by rw [← e]; exact hb) hh
    · rw [e] at hb
      have h1 := (World.ownsRow.lt h.own2 b hh).2
      injection hb with hb
      omega
theorem TwoAt.push2 {T lo : Nat} {W W' : World} {mv hv hv' : Value} {ms hs : List (Int × Int)} {m : Int × Int} (h : TwoAt T lo W mv hv ms hs) (hg : W.grownBy W' hv.ownBlock) (ho : W'.ownsRow lo T 2 hv' (hs.length + 1) (hs.flatMap cellsM ++ cellsM m)) (hv2 : hv'.ownBlock = hv.ownBlock ∨ hv'.ownBlock = some W.heap.size) : TwoAt T lo W' mv hv' ms (hs ++ [m]) := by
  refine ⟨h.own1.kept hg ?_, by rw [List.length_append, ← snocM]; exact ho, ?_⟩
  · cases hm : mv.ownBlock with
    | none => exact .inl rfl
    | some b => refine .inr fun e => h.apart b hm ?_; rw [← e]
  · intro b hb hh
    rcases hv2 with e | e
    · exact h.apart b hb (by rw [← e]; exact hh)
    · rw [e] at hh
      have h1 := (World.ownsRow.lt h.own1 b hb).2
      injection hh with hh
      omega
theorem TwoAt.rows1 {T lo : Nat} {W : World} {mv hv : Value} {ms hs : List (Int × Int)} (h : TwoAt T lo W mv hv ms hs) (hi : ∀ m ∈ ms, I64 m.1 ∧ I64 m.2) : RowsAt 2 W mv (ms.map pairM) := by
  refine rowsAt_of_owns (rows := ms.map pairM) (e := T) (base := lo) (fun r hr => ?_) (by rw [List.length_map, flat_M]; exact h.own1) (fun r hr => ?_)
  · obtain ⟨m, _, rfl⟩ := List.mem_map.1 hr; rfl
  · obtain ⟨m, hm, rfl⟩ := List.mem_map.1 hr
    intro z hz
    simp only [pairM, List.mem_cons, List.not_mem_nil, or_false] at hz
    rcases hz with rfl | rfl
    · exact (hi m hm).1
    · exact (hi m hm).2
theorem TwoAt.rows2 {T lo : Nat} {W : World} {mv hv : Value} {ms hs : List (Int × Int)} (h : TwoAt T lo W mv hv ms hs) (hi : ∀ m ∈ hs, I64 m.1 ∧ I64 m.2) : RowsAt 2 W hv (hs.map pairM) := by
  refine rowsAt_of_owns (rows := hs.map pairM) (e := T) (base := lo) (fun r hr => ?_) (by rw [List.length_map, flat_M]; exact h.own2) (fun r hr => ?_)
  · obtain ⟨m, _, rfl⟩ := List.mem_map.1 hr; rfl
  · obtain ⟨m, hm, rfl⟩ := List.mem_map.1 hr
    intro z hz
    simp only [pairM, List.mem_cons, List.not_mem_nil, or_false] at hz
    rcases hz with rfl | rfl
    · exact (hi m hm).1
    · exact (hi m hm).2
/-- An append to an own slice: where the new one lies. -/
theorem wp_append_at {P : Program} {w : World} {o : Oper} {a : Act} {K : Act → World → Prop} {Q : Exit → Act → World → Prop} (s x : Operand) (t : TypeId) (ho : o.op = .call { callee := .builtin .append, args := #[s, x], argTypes := #[t, t] })
    (base : Nat) (e : TypeId) (i : TypeInfo) (z : Value) (size bytes : Nat) (ht : P.underlying t = some (.slice e)) (hi : P.info? e = some i) (hz : i.zero = some z) (hsize : i.size = size) (hby : i.bytes = bytes) (hzs : z.cells.size = size) (hsz : 0 < size)
    (v : Value) (n : Nat) (xs : List Value) (hs : a.eval s = v) (hown : w.ownsRow base e size v n xs) (ad : Addr) (m c : Nat) (news : List Value) (hx : a.eval x = .slice (some ad) m c) (hl : news.length = m * size) (hnews : ∀ j u, news[j]? = some u → w.cell? (ad.add j) = some u) (h1 : ∀ u ∈ news, u.oneCell' = true)
    (h63 : n + m ≤ maxLen) (hbytes : (n + m) * bytes ≤ 140737488355328) (hbase : base ≤ w.heap.size)
    (h : ∀ v' w', w'.ownsRow base e size v' (n + m) (xs ++ news) → w.grownBy w' v.ownBlock → (v'.ownBlock = v.ownBlock ∨ v'.ownBlock = some w.heap.size) → K (a.put o.dst v') w') : o.wp P a w K Q := by
  obtain ⟨v', w', hr, h2, h3, _, h5⟩ := run_append_own_at (P := P) w base t o.type e i z size bytes ht hi hz hsize hby hzs hsz v n xs hown ad m c news hl hnews h1 h63 hbytes hbase
  unfold Oper.wp execOp
  simp only [ho, resolve, invoke, builtin, Sem.run_bind, Sem.run_pure, Result.andThen_ok, List.map_toArray, List.map_cons, List.map_nil, hs, hx, hr]
  exact h v' w' h2 h3 h5
/-- The piles that stand, one behind the other, in the middle of their cells. -/
def PilesAt (s : Bx) (fs : List Ft) (qs : List Sq) (xs : List It) (k : Nat) (ms hs : List (Int × Int)) : Prop :=
  (ms.length = k ∧ hs.length = k) ∧ ∀ (j : Nat) m h f q x, ms[j]? = some m → hs[j]? = some h → fs[j]? = some f → qs[j]? = some q → xs[j]? = some x → PileAt s x.clear f q m h
theorem piles_nil {s : Bx} {fs : List Ft} {qs : List Sq} {xs : List It} : PilesAt s fs qs xs 0 [] [] := ⟨⟨rfl, rfl⟩, fun j m h f q x hm => by simp at hm⟩
theorem piles_snoc {s : Bx} {fs : List Ft} {qs : List Sq} {xs : List It} {k : Nat} {ms hs : List (Int × Int)} {m h : Int × Int} {f : Ft} {q : Sq} {x : It} (hp : PilesAt s fs qs xs k ms hs) (hf : fs[k]? = some f) (hq : qs[k]? = some q) (hx : xs[k]? = some x) (p : PileAt s x.clear f q m h) : PilesAt s fs qs xs (k + 1) (ms ++ [m]) (hs ++ [h]) := by
  obtain ⟨⟨h1, h2⟩, h3⟩ := hp
  refine ⟨⟨by simp [h1], by simp [h2]⟩, ?_⟩
  intro j m' h' f' q' x' hm hh hf' hq' hx'
  rcases Nat.lt_trichotomy j k with hj | hj | hj
  · rw [List.getElem?_append_left (by omega)] at hm hh
    exact h3 j m' h' f' q' x' hm hh hf' hq' hx'
  · subst hj
    rw [List.getElem?_append_right (by omega)] at hm hh
    rw [h1] at hm
    rw [h2] at hh
    simp at hm hh
    subst hm; subst hh
    rw [hf] at hf'; injection hf' with hf'; subst hf'
    rw [hq] at hq'; injection hq' with hq'; subst hq'
    rw [hx] at hx'; injection hx' with hx'; subst hx'
    exact p
  · have := (List.getElem?_eq_some_iff.1 hm).1
    simp at this
    omega
/-- All numbers of piles are small. -/
theorem piles_small {s : Bx} {fs : List Ft} {qs : List Sq} {xs : List It} {k : Nat} {ms hs : List (Int × Int)} (hX : boxOk s = true) (hl1 : fs.length = xs.length) (hl2 : qs.length = xs.length) (hk : k ≤ xs.length) (hc : ∀ x ∈ xs, 0 ≤ x.clear) (hP : ∀ (i : Nat) f q, fs[i]? = some f → qs[i]? = some q → Placed s f q) (hp : PilesAt s fs qs xs k ms hs) :
    (∀ m ∈ ms, (0 ≤ m.1 ∧ m.1 ≤ 6000) ∧ 0 ≤ m.2 ∧ m.2 ≤ 6000) ∧ ∀ m ∈ hs, (0 ≤ m.1 ∧ m.1 ≤ 3000) ∧ 0 ≤ m.2 ∧ m.2 ≤ 3000 := by
  obtain ⟨⟨h1, h2⟩, h3⟩ := hp
  have key : ∀ (j : Nat) m h, ms[j]? = some m → hs[j]? = some h → ((0 ≤ m.1 ∧ m.1 ≤ 6000) ∧ 0 ≤ m.2 ∧ m.2 ≤ 6000) ∧ (0 ≤ h.1 ∧ h.1 ≤ 3000) ∧ 0 ≤ h.2 ∧ h.2 ≤ 3000 := by
    intro j m h hm hh
    have hj := (List.getElem?_eq_some_iff.1 hm).1
    have e1 : fs[j]? = some (fs[j]'(by omega)) := List.getElem?_eq_getElem _
    have e2 : qs[j]? = some (qs[j]'(by omega)) := List.getElem?_eq_getElem _
    have e3 : xs[j]? = some (xs[j]'(by omega)) := List.getElem?_eq_getElem _
    have := (h3 j m h _ _ _ hm hh e1 e2 e3).bound hX (hc _ (List.getElem_mem _)) (hP j _ _ e1 e2)
    omega
  constructor
  · intro m hm
    obtain ⟨j, hj⟩ := List.getElem?_of_mem hm
    have hl := (List.getElem?_eq_some_iff.1 hj).1
    exact (key j m _ hj (List.getElem?_eq_getElem (by omega))).1
  · intro m hm
    obtain ⟨j, hj⟩ := List.getElem?_of_mem hm
    have hl := (List.getElem?_eq_some_iff.1 hj).1
    exact (key j _ m (List.getElem?_eq_getElem (by omega)) hj).2
end Go.Pb.Sag

/- An argument that is a slice of structs or arrays, all of whose cells are int64s. -/
namespace Go.Pb
open Go.RowKit Go.ChangeShapes Go.WideShapes Go.ChangeAt Go.Deep
section
variable {H : Type} {enc : TypeId × Value → H} {P : Program} {w : World} {base : Nat} {spare : Nat → Bool} {held : Bool}
theorem open_rowsT {r : Reach} {b0 m n : Nat} {t e : TypeId} {v : Value} {d : DataW H} {p : List MemPlace} (ht : P.underlying t = some (.slice e)) (hfl : flatI P m e = true) (hn : P.cellsOf e = n)
    (hv : Value.okWide P w r b0 t v) (h : DataW.Trod enc P w base spare held t v d p) : ∃ rows, RowsAt n w v rows := by
  obtain ⟨a0, l0, c0, rfl⟩ := okWide_slice ht hv
  obtain ⟨fuel, hf⟩ := h
  obtain ⟨u, rows, he, hr⟩ := open_rows ht hfl hn hf
  simp [Value.cells] at he
  subst he
  exact ⟨rows, hr⟩
end
end Go.Pb

/- Arguments opened: numbers that make a floor (two slices of rows, and an array between them); a slice of stands; a reason. -/
namespace Go.Pb
open Go.RowKit Go.ChangeShapes Go.WideShapes Go.ChangeAt Go.Deep
section
variable {H : Type} {enc : TypeId × Value → H} {P : Program} {w : World} {base : Nat} {spare : Nat → Bool} {held : Bool}
/-- A struct of a slice of rows, an array of four int64s, and a slice of rows. -/
theorem open_raw {r : Reach} {b0 m n1 n3 : Nat} {t t1 t2 t3 e1 e3 : TypeId} {f1 f2 f3 : Field} {v : Value} {d : DataW H} {p : List MemPlace} (hu : P.underlying t = some (.struct #[f1, f2, f3])) (hC : P.cellsOf t = 6)
    (ho1 : f1.offset = 0) (ho2 : f2.offset = 1) (ho3 : f3.offset = 5) (ht1 : f1.type = t1) (ht2 : f2.type = t2) (ht3 : f3.type = t3) (c1 : P.cellsOf t1 = 1) (c2 : P.cellsOf t2 = 4) (c3 : P.cellsOf t3 = 1)
    (u1 : P.underlying t1 = some (.slice e1)) (u3 : P.underlying t3 = some (.slice e3)) (hf1 : flatI P m e1 = true) (hf2 : flatI P m t2 = true) (hf3 : flatI P m e3 = true) (hn1 : P.cellsOf e1 = n1) (hn3 : P.cellsOf e3 = n3)
    (hv : Value.okWide P w r b0 t v) (h : DataW.Trod enc P w base spare held t v d p) :
    ∃ v1 v3 rows1 rows3 b0 b1 b2 b3, v = .agg #[v1, .int .i64 b0, .int .i64 b1, .int .i64 b2, .int .i64 b3, v3] ∧ RowsAt n1 w v1 rows1 ∧ RowsAt n3 w v3 rows3 ∧ (I64 b0 ∧ I64 b1) ∧ I64 b2 ∧ I64 b3 := by
  obtain ⟨cs, rfl, hsz⟩ := okWide_struct hu hv
  obtain ⟨fuel, hf⟩ := h
  obtain ⟨xs, k, _, _, hlen, hxl, hg⟩ := DataW.trod_struct hu hf
  obtain ⟨l⟩ := cs
  match l, hsz.trans hC with
  | [a1, a2, a3, a4, a5, a6], _ =>
    have g1 := hg 0 f1 rfl
    have g2 := hg 1 f2 rfl
    have g3 := hg 2 f3 rfl
    rw [ho1, ht1, c1] at g1
    rw [ho2, ht2, c2] at g2
    rw [ho3, ht3, c3] at g3
    have x1 : xs[0]? = some (xs[0]'(by simp at hxl; omega)) := List.getElem?_eq_getElem _
    have x2 : xs[1]? = some (xs[1]'(by simp at hxl; omega)) := List.getElem?_eq_getElem _
    have x3 : xs[2]? = some (xs[2]'(by simp at hxl; omega)) := List.getElem?_eq_getElem _
    rw [x1] at g1
    rw [x2] at g2
    rw [x3] at g3
    obtain ⟨v1, r1, e1', h1⟩ := open_rows u1 hf1 hn1 g1
    obtain ⟨v3, r3, e3', h3⟩ := open_rows u3 hf3 hn3 g3
    obtain ⟨_, hi⟩ := flat_cells m hf2 g2
    obtain ⟨y0, hy0, hw0⟩ := hi 0 a2 rfl
    obtain ⟨y1, hy1, hw1⟩ := hi 1 a3 rfl
    obtain ⟨y2, hy2, hw2⟩ := hi 2 a4 rfl
    obtain ⟨y3, hy3, hw3⟩ := hi 3 a5 rfl
    simp [Value.cells] at e1' e3'
    subst e1'; subst e3'; subst hy0; subst hy1; subst hy2; subst hy3
    exact ⟨_, _, r1, r3, y0, y1, y2, y3, rfl, h1, h3, ⟨hw0, hw1⟩, hw2, hw3⟩
/-- A slice of stands. -/
theorem open_stands {r : Reach} {b0 : Nat} {t e ti tb : TypeId} {f1 f2 f3 : Field} {v : Value} {d : DataW H} {p : List MemPlace} (ht : P.underlying t = some (.slice e)) (hu : P.underlying e = some (.struct #[f1, f2, f3])) (hC : P.cellsOf e = 3)
    (ho1 : f1.offset = 0) (ho2 : f2.offset = 1) (ho3 : f3.offset = 2) (ht1 : f1.type = ti) (ht2 : f2.type = ti) (ht3 : f3.type = tb) (ci : P.cellsOf ti = 1) (cb : P.cellsOf tb = 1) (ui : P.underlying ti = some (.int .i64)) (ub : P.underlying tb = some .bool)
    (hv : Value.okWide P w r b0 t v) (h : DataW.Trod enc P w base spare held t v d p) : ∃ qs, Go.Pb.Sag.StAt w v qs ∧ ∀ q ∈ qs, I64 q.y ∧ I64 q.x := by
  obtain ⟨a0, l0, c0, rfl⟩ := okWide_slice ht hv
  obtain ⟨fuel, hf⟩ := h
  rcases Go.Deep.open_slice ht hf with ⟨h1, _⟩ | ⟨a, len, cap, k, f, D, Pl, hcs, hb, hl, hm, hk, _, hx⟩
  · simp [Value.cells] at h1
    obtain ⟨rfl, rfl, rfl⟩ := h1
    exact ⟨[], .inl ⟨rfl, rfl⟩, fun q hq => by cases hq⟩
  · have hlk : len ≤ k := by rw [hk]; split <;> omega
    have each : ∀ i, i < len → ∃ q : Go.Pb.Sag.Sq, (I64 q.y ∧ I64 q.x) ∧ ∀ j u, (Go.Pb.Sag.cellsQ q)[j]? = some u → w.cell? (a.add (i * 3 + j)) = some u := by
      intro i hi
      obtain ⟨cs', h1, h2⟩ := hx i (by omega)
      rw [hC] at h1
      obtain ⟨_, hcl, hat⟩ := World.cells?_some h1
      obtain ⟨xs, m, _, _, hlen, hxl, hg⟩ := DataW.trod_struct hu h2
      rw [hC] at hlen
      match cs', hlen with
      | [a1, a2, a3], _ =>
        have g1 := hg 0 f1 rfl
        have g2 := hg 1 f2 rfl
        have g3 := hg 2 f3 rfl
        rw [ho1, ht1, ci] at g1
        rw [ho2, ht2, ci] at g2
        rw [ho3, ht3, cb] at g3
        have x1 : xs[0]? = some (xs[0]'(by simp at hxl; omega)) := List.getElem?_eq_getElem _
        have x2 : xs[1]? = some (xs[1]'(by simp at hxl; omega)) := List.getElem?_eq_getElem _
        have x3 : xs[2]? = some (xs[2]'(by simp at hxl; omega)) := List.getElem?_eq_getElem _
        rw [x1] at g1
        rw [x2] at g2
        rw [x3] at g3
        obtain ⟨y1, e1, _, w1⟩ := DataW.trod_int ui g1
        obtain ⟨y2, e2, _, w2⟩ := DataW.trod_int ui g2
        obtain ⟨y3, e3, _⟩ := DataW.trod_bool ub g3
        simp at e1 e2 e3
        subst e1; subst e2; subst e3
        refine ⟨⟨y1, y2, y3⟩, ⟨w1, w2⟩, fun j u hu => ?_⟩
        have hj : j < 3 := (List.getElem?_eq_some_iff.1 hu).1
        have h3 := hat j (by simpa using hj)
        rw [Go.Deep.add_add] at h3
        rw [h3]
        exact hu
    haveI : Inhabited Go.Pb.Sag.Sq := ⟨⟨0, 0, false⟩⟩
    obtain ⟨R, hR⟩ := choose_lt each
    simp [Value.cells] at hcs
    obtain ⟨rfl, rfl, rfl⟩ := hcs
    refine ⟨(List.range l0).map R, .inr ⟨a, c0, by simp, by simpa using hl, by unfold maxLen at hm; omega, fun i q hq => ?_⟩, fun q hq => ?_⟩
    · have hi : i < l0 := by
        have := (List.getElem?_eq_some_iff.1 hq).1
        simpa using this
      rw [List.getElem?_map, List.getElem?_range hi] at hq
      simp at hq
      subst hq
      exact (hR i hi).2
    · obtain ⟨i, hi, rfl⟩ := List.mem_map.1 hq
      exact (hR i (List.mem_range.1 hi)).1
theorem rows1_nums {v : Value} {rows : List (List Int)} (h : RowsAt 1 w v rows) : ∃ zs, NumsAt w v zs := by
  rcases h with ⟨h1, h2⟩ | ⟨a, cap, h1, h2, h3, h4⟩
  · exact ⟨[], .inl ⟨h1, rfl⟩⟩
  · refine ⟨rows.map fun r => r.getD 0 0, .inr ⟨a, cap, by rw [List.length_map]; exact h1, by rw [List.length_map]; exact h2, h3, fun k z hz => ?_⟩⟩
    rw [List.getElem?_map] at hz
    cases hr : rows[k]? with
    | none => rw [hr] at hz; cases hz
    | some r =>
      rw [hr] at hz
      simp only [Option.map_some, Option.some.injEq] at hz
      obtain ⟨h5, h6⟩ := h4 k r hr
      have h7 := h6 0 z (by
        match r, h5, hz with
        | [x], _, hz => simpa using hz)
      rw [Nat.mul_one, Nat.add_zero] at h7
      exact h7
/-- A reason: a kind, and a slice of numbers. -/
theorem open_reason {r : Reach} {b0 m : Nat} {t ti t2 e2 : TypeId} {f1 f2 : Field} {v : Value} {d : DataW H} {p : List MemPlace} (hu : P.underlying t = some (.struct #[f1, f2])) (hC : P.cellsOf t = 2)
    (ho1 : f1.offset = 0) (ho2 : f2.offset = 1) (ht1 : f1.type = ti) (ht2 : f2.type = t2) (ci : P.cellsOf ti = 1) (c2 : P.cellsOf t2 = 1) (ui : P.underlying ti = some (.int .i64)) (u2 : P.underlying t2 = some (.slice e2)) (hf2 : flatI P m e2 = true) (hn2 : P.cellsOf e2 = 1)
    (hv : Value.okWide P w r b0 t v) (h : DataW.Trod enc P w base spare held t v d p) : ∃ k v2 zs, v = .agg #[.int .i64 k, v2] ∧ NumsAt w v2 zs := by
  obtain ⟨cs, rfl, hsz⟩ := okWide_struct hu hv
  obtain ⟨fuel, hf⟩ := h
  obtain ⟨xs, k, _, _, hlen, hxl, hg⟩ := DataW.trod_struct hu hf
  obtain ⟨l⟩ := cs
  match l, hsz.trans hC with
  | [a1, a2], _ =>
    have g1 := hg 0 f1 rfl
    have g2 := hg 1 f2 rfl
    rw [ho1, ht1, ci] at g1
    rw [ho2, ht2, c2] at g2
    have x1 : xs[0]? = some (xs[0]'(by simp at hxl; omega)) := List.getElem?_eq_getElem _
    have x2 : xs[1]? = some (xs[1]'(by simp at hxl; omega)) := List.getElem?_eq_getElem _
    rw [x1] at g1
    rw [x2] at g2
    obtain ⟨y1, e1, _, w1⟩ := DataW.trod_int ui g1
    obtain ⟨v2, r2, e2', h2⟩ := open_rows u2 hf2 hn2 g2
    simp [Value.cells] at e1 e2'
    subst e1; subst e2'
    obtain ⟨zs, hz⟩ := rows1_nums h2
    exact ⟨y1, _, zs, rfl, hz⟩
end
end Go.Pb
