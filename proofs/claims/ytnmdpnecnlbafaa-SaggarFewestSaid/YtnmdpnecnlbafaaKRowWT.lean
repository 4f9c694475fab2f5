/- Arguments opened: numbers that make a floor (two slices of rows, and an array between them); a slice of stands; a reason. -/
import Derived.Test.YtnmdpnecnlbafaaKAppT
import Derived.Test.YtnmdpnecnlbafaaKSbT
import Derived.Laws.CopyOwn
import Derived.Laws.CopyRow
namespace Go.Pb
open Go.RowKit Go.ChangeShapes Go.WideShapes Go.ChangeAt Go.Deep
section
variable {H : Type} {enc : TypeId × Value → H} {P : Program} {w : World} {base : Nat} {spare : Nat → Bool} {held : Bool}
/-- A struct of a slice of rows, an array of four int64s, and a slice of rows. -/
theorem open_raw {r : Reach} {b0 m n1 n3 : Nat} {t t1 t2 t3 e1 e3 : TypeId} {f1 f2 f3 : Field} {v : Value} {d : DataW H} {p : List MemPlace} (hu : P.underlying t = some (.struct #[f1, f2, f3])) (hC : P.cellsOf t = 6)
    (ho1 : f1.offset = 0) (ho2 : f2.offset = 1) (ho3 : f3.offset = 5) (ht1 : f1.type = t1) (ht2 : f2.type = t2) (ht3 : f3.type = t3) (c1 : P.cellsOf t1 = 1) (c2 : P.cellsOf t2 = 4) (c3 : P.cellsOf t3 = 1)
    (u1 : P.underlying t1 = some (.slice e1)) (u3 : P.underlying t3 = some (.slice e3)) (hf1 : flatI P m e1 = true) (hf2 : flatI P m t2 = true) (hf3 : flatI P m e3 = true) (hn1 : P.cellsOf e1 = n1) (hn3 : P.cellsOf e3 = n3)
    (hv : Value.okWide P w r b0 t v) (h : DataW.Trod enc P w base spare held t v d p) :
    ∃ v1 v3 rows1 rows3 b0 b1 b2 b3, v = .agg #[v1, .int .i64 b0, .int .i64 b1, .int .i64 b2, .int .i64 b3, v3] ∧ RowsAt n1 w v1 rows1 ∧ RowsAt n3 w v3 rows3 ∧ (I64 b0 ∧ I64 b1) ∧ I64 b2 ∧ I64 b3 := by
  obtain ⟨cs, rfl, hsz⟩ := okWide_struct hu hv
  obtain ⟨fuel, hf⟩ := h
  obtain ⟨xs, k, _, _, hlen, hxl, hg⟩ := DataW.trod_struct hu hf
  obtain ⟨l⟩ := cs
  match l, hsz.trans hC with
  | [a1, a2, a3, a4, a5, a6], _ =>
    have g1 := hg 0 f1 rfl
    have g2 := hg 1 f2 rfl
    have g3 := hg 2 f3 rfl
    rw [ho1, ht1, c1] at g1
    rw [ho2, ht2, c2] at g2
    rw [ho3, ht3, c3] at g3
    have x1 : xs[0]? = some (xs[0]'(by simp at hxl; omega)) := List.getElem?_eq_getElem _
    have x2 : xs[1]? = some (xs[1]'(by simp at hxl; omega)) := List.getElem?_eq_getElem _
    have x3 : xs[2]? = some (xs[2]'(by simp at hxl; omega)) := List.getElem?_eq_getElem _
    rw [x1] at g1
    rw [x2] at g2
    rw [x3] at g3
    obtain ⟨v1, r1, e1', h1⟩ := open_rows u1 hf1 hn1 g1
    obtain ⟨v3, r3, e3', h3⟩ := open_rows u3 hf3 hn3 g3
    obtain ⟨_, hi⟩ := flat_cells m hf2 g2
    obtain ⟨y0, hy0, hw0⟩ := hi 0 a2 rfl
    obtain ⟨y1, hy1, hw1⟩ := hi 1 a3 rfl
    obtain ⟨y2, hy2, hw2⟩ := hi 2 a4 rfl
    obtain ⟨y3, hy3, hw3⟩ := hi 3 a5 rfl
    simp [Value.cells] at e1' e3'
    subst e1'; subst e3'; subst hy0; subst hy1; subst hy2; subst hy3
    exact ⟨_, _, r1, r3, y0, y1, y2, y3, rfl, h1, h3, ⟨hw0, hw1⟩, hw2, hw3⟩
/-- A slice of stands. -/
theorem open_stands {r : Reach} {b0 : Nat} {t e ti tb : TypeId} {f1 f2 f3 : Field} {v : Value} {d : DataW H} {p : List MemPlace} (ht : P.underlying t = some (.slice e)) (hu : P.underlying e = some (.struct #[f1, f2, f3])) (hC : P.cellsOf e = 3)
    (ho1 : f1.offset = 0) (ho2 : f2.offset = 1) (ho3 : f3.offset = 2) (ht1 : f1.type = ti) (ht2 : f2.type = ti) (ht3 : f3.type = tb) (ci : P.cellsOf ti = 1) (cb : P.cellsOf tb = 1) (ui : P.underlying ti = some (.int .i64)) (ub : P.underlying tb = some .bool)
    (hv : Value.okWide P w r b0 t v) (h : DataW.Trod enc P w base spare held t v d p) : ∃ qs, Go.Pb.Sag.StAt w v qs ∧ ∀ q ∈ qs, I64 q.y ∧ I64 q.x := by
  obtain ⟨a0, l0, c0, rfl⟩ := okWide_slice ht hv
  obtain ⟨fuel, hf⟩ := h
  rcases Go.Deep.open_slice ht hf with ⟨h1, _⟩ | ⟨a, len, cap, k, f, D, Pl, hcs, hb, hl, hm, hk, _, hx⟩
  · simp [Value.cells] at h1
    obtain ⟨rfl, rfl, rfl⟩ := h1
    exact ⟨[], .inl ⟨rfl, rfl⟩, fun q hq => by cases hq⟩
  · have hlk : len ≤ k := by rw [hk]; split <;> omega
    have each : ∀ i, i < len → ∃ q : Go.Pb.Sag.Sq, (I64 q.y ∧ I64 q.x) ∧ ∀ j u, (Go.Pb.Sag.cellsQ q)[j]? = some u → w.cell? (a.add (i * 3 + j)) = some u := by
      intro i hi
      obtain ⟨cs', h1, h2⟩ := hx i (by omega)
      rw [hC] at h1
      obtain ⟨_, hcl, hat⟩ := World.cells?_some h1
      obtain ⟨xs, m, _, _, hlen, hxl, hg⟩ := DataW.trod_struct hu h2
      rw [hC] at hlen
      match cs', hlen with
      | [a1, a2, a3], _ =>
        have g1 := hg 0 f1 rfl
        have g2 := hg 1 f2 rfl
        have g3 := hg 2 f3 rfl
        rw [ho1, ht1, ci] at g1
        rw [ho2, ht2, ci] at g2
        rw [ho3, ht3, cb] at g3
        have x1 : xs[0]? = some (xs[0]'(by simp at hxl; omega)) := List.getElem?_eq_getElem _
        have x2 : xs[1]? = some (xs[1]'(by simp at hxl; omega)) := List.getElem?_eq_getElem _
        have x3 : xs[2]? = some (xs[2]'(by simp at hxl; omega)) := List.getElem?_eq_getElem _
        rw [x1] at g1
        rw [x2] at g2
        rw [x3] at g3
        obtain ⟨y1, e1, _, w1⟩ := DataW.trod_int ui g1
        obtain ⟨y2, e2, _, w2⟩ := DataW.trod_int ui g2
        obtain ⟨y3, e3, _⟩ := DataW.trod_bool ub g3
        simp at e1 e2 e3
        subst e1; subst e2; subst e3
        refine ⟨⟨y1, y2, y3⟩, ⟨w1, w2⟩, fun j u hu => ?_⟩
        have hj : j < 3 := (List.getElem?_eq_some_iff.1 hu).1
        have h3 := hat j (by simpa using hj)
        rw [Go.Deep.add_add] at h3
        rw [h3]
        exact hu
    haveI : Inhabited Go.Pb.Sag.Sq := ⟨⟨0, 0, false⟩⟩
    obtain ⟨R, hR⟩ := choose_lt each
    simp [Value.cells] at hcs
    obtain ⟨rfl, rfl, rfl⟩ := hcs
    refine ⟨(List.range l0).map R, .inr ⟨a, c0, by simp, by simpa using hl, by unfold maxLen at hm; omega, fun i q hq => ?_⟩, fun q hq => ?_⟩
    · have hi : i < l0 := by
        have := (List.getElem?_eq_some_iff.1 hq).1
        simpa using this
      rw [List.getElem?_map, List.getElem?_range hi] at hq
      simp at hq
      subst hq
      exact (hR i hi).2
    · obtain ⟨i, hi, rfl⟩ := List.mem_map.1 hq
      exact (hR i (List.mem_range.1 hi)).1
theorem rows1_nums {v : Value} {rows : List (List Int)} (h : RowsAt 1 w v rows) : ∃ zs, NumsAt w v zs := by
  rcases h with ⟨h1, h2⟩ | ⟨a, cap, h1, h2, h3, h4⟩
  · exact ⟨[], .inl ⟨h1, rfl⟩⟩
  · refine ⟨rows.map fun r => r.getD 0 0, .inr ⟨a, cap, by rw [List.length_map]; exact h1, by rw [List.length_map]; exact h2, h3, fun k z hz => ?_⟩⟩
    rw [List.getElem?_map] at hz
    cases hr : rows[k]? with
    | none => rw [hr] at hz; cases hz
    | some r =>
      rw [hr] at hz
      simp only [Option.map_some, Option.some.injEq] at hz
      obtain ⟨h5, h6⟩ := h4 k r hr
      have h7 := h6 0 z (by
        match r, h5, hz with
        | [x], _, hz => simpa using hz)
      rw [Nat.mul_one, Nat.add_zero] at h7
      exact h7
/-- A reason: a kind, and a slice of numbers. -/
theorem open_reason {r : Reach} {b0 m : Nat} {t ti t2 e2 : TypeId} {f1 f2 : Field} {v : Value} {d : DataW H} {p : List MemPlace} (hu : P.underlying t = some (.struct #[f1, f2])) (hC : P.cellsOf t = 2)
    (ho1 : f1.offset = 0) (ho2 : f2.offset = 1) (ht1 : f1.type = ti) (ht2 : f2.type = t2) (ci : P.cellsOf ti = 1) (c2 : P.cellsOf t2 = 1) (ui : P.underlying ti = some (.int .i64)) (u2 : P.underlying t2 = some (.slice e2)) (hf2 : flatI P m e2 = true) (hn2 : P.cellsOf e2 = 1)
    (hv : Value.okWide P w r b0 t v) (h : DataW.Trod enc P w base spare held t v d p) : ∃ k v2 zs, v = .agg #[.int .i64 k, v2] ∧ NumsAt w v2 zs := by
  obtain ⟨cs, rfl, hsz⟩ := okWide_struct hu hv
  obtain ⟨fuel, hf⟩ := h
  obtain ⟨xs, k, _, _, hlen, hxl, hg⟩ := DataW.trod_struct hu hf
  obtain ⟨l⟩ := cs
  match l, hsz.trans hC with
  | [a1, a2], _ =>
    have g1 := hg 0 f1 rfl
    have g2 := hg 1 f2 rfl
    rw [ho1, ht1, ci] at g1
    rw [ho2, ht2, c2] at g2
    have x1 : xs[0]? = some (xs[0]'(by simp at hxl; omega)) := List.getElem?_eq_getElem _
    have x2 : xs[1]? = some (xs[1]'(by simp at hxl; omega)) := List.getElem?_eq_getElem _
    rw [x1] at g1
    rw [x2] at g2
    obtain ⟨y1, e1, _, w1⟩ := DataW.trod_int ui g1
    obtain ⟨v2, r2, e2', h2⟩ := open_rows u2 hf2 hn2 g2
    simp [Value.cells] at e1 e2'
    subst e1; subst e2'
    obtain ⟨zs, hz⟩ := rows1_nums h2
    exact ⟨y1, _, zs, rfl, hz⟩
end
end Go.Pb

/- The plain mathematics of layer 2 (saggar): no reason is accepted where there is a packing; what is returned is accepted. -/
namespace Go.Pb.Sag
open Go Go.Pb Go.Pb.Ware Go.RowKit
set_option linter.unusedVariables false
theorem weightL_cons (f : Ft) (fs : List Ft) : weightL (f :: fs) = f.weight + weightL fs := by unfold weightL; rw [List.map_cons, List.sum_cons]
theorem sums_sub {gs fs : List Ft} (h : gs.Sublist fs) : (∀ f ∈ fs, FtOk f) → weightL gs ≤ weightL fs ∧ areaL gs ≤ areaL fs := by
  induction h with
  | slnil => exact fun _ => ⟨Int.le_refl _, Int.le_refl _⟩
  | cons a _ ih =>
    intro hF
    have h1 := ih fun f hf => hF f (List.mem_cons_of_mem _ hf)
    have ha := hF a List.mem_cons_self
    unfold FtOk at ha
    have hm : 0 ≤ a.wide * a.deep := Int.mul_nonneg (by omega) (by omega)
    rw [weightL_cons, areaL_cons]; omega
  | cons_cons a _ ih =>
    intro hF
    have h1 := ih fun f hf => hF f (List.mem_cons_of_mem _ hf)
    rw [weightL_cons, weightL_cons, areaL_cons, areaL_cons]; omega
theorem trouble_up {s : Bx} {gs fs : List Ft} {k : Int} (h : gs.Sublist fs) (hF : ∀ f ∈ fs, FtOk f) (ht : troubleB s gs k = true) : troubleB s fs k = true := by
  have hs := sums_sub h hF
  by_cases h1 : k = 1
  · subst h1
    obtain ⟨f, hf, h2⟩ := List.any_eq_true.1 (show gs.any (highB s) = true from ht)
    exact (List.any_eq_true.2 ⟨f, h.subset hf, h2⟩ : fs.any (highB s) = true)
  by_cases h2 : k = 2
  · subst h2
    obtain ⟨f, hf, h2⟩ := List.any_eq_true.1 (show gs.any (noStand s) = true from ht)
    exact (List.any_eq_true.2 ⟨f, h.subset hf, h2⟩ : fs.any (noStand s) = true)
  by_cases h3 : k = 3
  · subst h3
    have h4 := of_decide_eq_true (show decide (s.bears < weightL gs) = true from ht)
    exact (decide_eq_true (by omega) : decide (s.bears < weightL fs) = true)
  by_cases h4 : k = 4
  · subst h4
    have h5 := of_decide_eq_true (show decide (s.wide * s.deep < areaL gs) = true from ht)
    exact (decide_eq_true (by omega) : decide (s.wide * s.deep < areaL fs) = true)
  unfold troubleB at ht
  rw [if_neg h1, if_neg h2, if_neg h3, if_neg h4] at ht
  cases ht
theorem fits_open {s : Bx} {fs : List Ft} (h : fitsB s fs = true) : plainB s fs = false ∧ allPacks s fs ≠ [] := by
  unfold fitsB shownL at h
  split at h
  · cases h
  · rename_i hp
    exact ⟨by simpa using hp, by intro e; rw [e] at h; cases h⟩
theorem fits_close {s : Bx} {fs : List Ft} (h1 : plainB s fs = false) (h2 : allPacks s fs ≠ []) : fitsB s fs = true := by
  unfold fitsB shownL
  rw [if_neg (by rw [h1]; simp)]
  cases he : allPacks s fs with
  | nil => exact absurd he h2
  | cons a l => rfl
theorem plain_parts {s : Bx} {fs : List Ft} (h : plainB s fs = false) : ∀ k, troubleB s fs k = false := by
  unfold plainB at h
  rw [Bool.or_eq_false_iff, Bool.or_eq_false_iff, Bool.or_eq_false_iff] at h
  intro k
  by_cases h1 : k = 1
  · subst h1; exact h.1
  by_cases h2 : k = 2
  · subst h2; exact h.2.1
  by_cases h3 : k = 3
  · subst h3; exact h.2.2.1
  by_cases h4 : k = 4
  · subst h4; exact h.2.2.2
  unfold troubleB
  rw [if_neg h1, if_neg h2, if_neg h3, if_neg h4]
theorem plain_sub {s : Bx} {gs fs : List Ft} (h : gs.Sublist fs) (hF : ∀ f ∈ fs, FtOk f) (hp : plainB s fs = false) : plainB s gs = false := by
  refine plain_no fun j _ _ => ?_
  cases ht : troubleB s gs j with
  | false => rfl
  | true =>
    have h1 := trouble_up h hF ht
    rw [plain_parts hp] at h1; cases h1
/-- Fewer items fit where more do. -/
theorem fits_sub {s : Bx} {gs fs : List Ft} (h : gs.Sublist fs) (hF : ∀ f ∈ fs, FtOk f) (hf : fitsB s fs = true) : fitsB s gs = true := by
  obtain ⟨h1, h2⟩ := fits_open hf
  exact fits_close (plain_sub h hF h1) (packs_more (h.map _) 0 0 (by simp) h2)
theorem troubleA_up {s : Bx} {gs fs : List Ft} {k : Int} (h : gs.Sublist fs) (hF : ∀ f ∈ fs, FtOk f) (ht : troubleA s gs k = true) : troubleA s fs k = true := by
  by_cases h5 : k = 5
  · subst h5
    rw [troubleA_5] at ht ⊢
    cases hf : fitsB s fs with
    | false => rfl
    | true => rw [fits_sub h hF hf] at ht; cases ht
  · rw [troubleA_B h5] at ht ⊢
    exact trouble_up h hF ht
theorem fits_untroubled {s : Bx} {fs : List Ft} (h : fitsB s fs = true) (k : Int) : troubleA s fs k = false := by
  by_cases h5 : k = 5
  · subst h5; rw [troubleA_5, h]; rfl
  · rw [troubleA_B h5]; exact plain_parts (fits_open h).1 k
theorem pack_fits {s : Bx} {fs : List Ft} {qs : List Sq} (hX : boxOk s = true) (hF : ∀ f ∈ fs, FtOk f) (h : packB s fs qs = true) : fitsB s fs = true := by
  obtain ⟨q, hq, _⟩ := pack_shown hX hF h
  unfold fitsB
  cases he : shownL s fs with
  | nil => rw [he] at hq; cases hq
  | cons a l => rfl
theorem chosen_sub {fs : List Ft} : ∀ {last : Int} {zs : List Int}, -1 ≤ last → idxB (fs.length : Int) last zs = true → (chosenL fs zs).Sublist (fs.drop (last + 1).toNat)
  | last, [], _, _ => List.nil_sublist _
  | last, z :: zs, h0, h => by
    rw [idxB, Bool.and_eq_true, btw_iff] at h
    obtain ⟨h1, h2⟩ := h
    have ih := chosen_sub (fs := fs) (by omega) h2
    have hz : z.toNat < fs.length := by omega
    have e : (z + 1).toNat = z.toNat + 1 := by omega
    rw [e] at ih
    have h3 : chosenL fs (z :: zs) = fs[z.toNat] :: chosenL fs zs := by
      unfold chosenL; rw [List.map_cons, List.getD_eq_getElem?_getD, List.getElem?_eq_getElem hz]; rfl
    have h4 : fs.drop z.toNat = fs[z.toNat] :: fs.drop (z.toNat + 1) := List.drop_eq_getElem_cons hz
    have h5 : (fs.drop z.toNat).Sublist (fs.drop (last + 1).toNat) := by
      rw [show z.toNat = (last + 1).toNat + (z.toNat - (last + 1).toNat) by omega, ← List.drop_drop]
      exact List.drop_sublist _ _
    rw [h3]
    exact ((ih.cons_cons _).trans (by rw [← h4]; exact List.Sublist.refl _)).trans h5
/-- Where there is a packing no reason is accepted. -/
theorem no_reason {s : Bx} {fs : List Ft} {qs : List Sq} {zs : List Int} {k : Int} (hX : boxOk s = true) (hF : ∀ f ∈ fs, FtOk f) (h : packB s fs qs = true) (hz : idxB (fs.length : Int) (-1) zs = true) : troubleA s (chosenL fs zs) k = false := by
  have h1 := chosen_sub (by omega) hz
  rw [show (-1 + 1 : Int).toNat = 0 from rfl, List.drop_zero] at h1
  cases ht : troubleA s (chosenL fs zs) k with
  | false => rfl
  | true =>
    have h2 := troubleA_up h1 hF ht
    rw [fits_untroubled (pack_fits hX hF h)] at h2; cases h2
theorem idxs_succ (i : Nat) : idxs (i + 1) = idxs i ++ [(i : Int)] := by unfold idxs; rw [List.range_succ, List.map_append]; rfl
theorem idxs_up (n : Nat) : (idxs n).Pairwise (· < ·) := by
  unfold idxs
  rw [List.pairwise_map]
  exact List.pairwise_lt_range.imp fun h => by omega
theorem idxB_of {many : Int} : ∀ {last : Int} {zs : List Int}, zs.Pairwise (· < ·) → (∀ z ∈ zs, last < z ∧ z < many) → idxB many last zs = true
  | _, [], _, _ => by rw [idxB]
  | last, z :: zs, h1, h2 => by
    rw [List.pairwise_cons] at h1
    have h3 := h2 z List.mem_cons_self
    rw [idxB, Bool.and_eq_true, btw_iff]
    exact ⟨by omega, idxB_of h1.2 fun x hx => ⟨h1.1 x hx, (h2 x (List.mem_cons_of_mem _ hx)).2⟩⟩
theorem idxB_sub {n : Nat} {zs : List Int} (h : zs.Sublist (idxs n)) : idxB (n : Int) (-1) zs = true := by
  refine idxB_of ((idxs_up n).sublist h) fun z hz => ?_
  have := idxs_mem (h.subset hz); omega
theorem chosen_up {fs : List Ft} {zs ys : List Int} (h : zs.Sublist ys) : (chosenL fs zs).Sublist (chosenL fs ys) := by unfold chosenL; exact h.map _
theorem chosen_all (fs : List Ft) : chosenL fs (idxs fs.length) = fs := by
  refine List.ext_getElem? fun k => ?_
  unfold chosenL idxs
  rw [List.map_map, List.getElem?_map]
  rcases Nat.lt_or_ge k fs.length with h | h
  · rw [List.getElem?_range h]
    simp [List.getElem?_eq_getElem h]
  · rw [List.getElem?_eq_none (by simpa using h), List.getElem?_eq_none h]; rfl
theorem idx_ok {fs : List Ft} {zs : List Int} (hF : ∀ f ∈ fs, FtOk f) (h : zs.Sublist (idxs fs.length)) : ∀ f ∈ chosenL fs zs, FtOk f := chosen_ok hF fun z hz => idxs_mem (h.subset hz)
/-- What is left at the end is needed, all of it. -/
theorem need_good {s : Bx} {fs : List Ft} {k : Int} (hF : ∀ f ∈ fs, FtOk f) : ∀ (i : Nat) (t : List Int), (idxs i ++ t).Sublist (idxs fs.length) → troubleA s (chosenL fs (idxs i ++ t)) k = true → (∀ j, j < t.length → troubleA s (chosenL fs (idxs i ++ t.eraseIdx j)) k = false) →
    (needLoop s fs k i (idxs i ++ t)).Sublist (idxs fs.length) ∧ troubleA s (chosenL fs (needLoop s fs k i (idxs i ++ t))) k = true ∧ ∀ j, j < (needLoop s fs k i (idxs i ++ t)).length → troubleA s (chosenL fs ((needLoop s fs k i (idxs i ++ t)).eraseIdx j)) k = false
  | 0, t, h1, h2, h3 => by rw [needLoop]; exact ⟨h1, h2, h3⟩
  | i + 1, t, h1, h2, h3 => by
    have e : idxs (i + 1) ++ t = idxs i ++ (i : Int) :: t := by rw [idxs_succ, List.append_assoc]; rfl
    have he : (idxs (i + 1) ++ t).eraseIdx i = idxs i ++ t := by
      rw [e, List.eraseIdx_append_of_length_le (by rw [idxs_len]; exact Nat.le_refl _), idxs_len, Nat.sub_self]; rfl
    rw [needLoop]
    unfold needStep
    rw [he]
    have hsub : (idxs i ++ t).Sublist (idxs (i + 1) ++ t) := by rw [← he]; exact List.eraseIdx_sublist _ _
    split
    · rename_i ht
      refine need_good hF i t (hsub.trans h1) ht fun j hj => ?_
      cases hx : troubleA s (chosenL fs (idxs i ++ t.eraseIdx j)) k with
      | false => rfl
      | true =>
        have hs2 : (idxs i ++ t.eraseIdx j).Sublist (idxs (i + 1) ++ t.eraseIdx j) := by
          rw [idxs_succ, List.append_assoc]
          exact (List.Sublist.refl _).append (List.sublist_append_right _ _)
        have hs3 : (idxs (i + 1) ++ t.eraseIdx j).Sublist (idxs fs.length) := ((List.Sublist.refl _).append (List.eraseIdx_sublist _ _)).trans h1
        have := troubleA_up (chosen_up hs2) (idx_ok hF hs3) hx
        rw [h3 j hj] at this; cases this
    · rename_i ht
      rw [e] at h1 h2 ⊢
      refine need_good hF i ((i : Int) :: t) h1 h2 fun j hj => ?_
      cases j with
      | zero => rw [List.eraseIdx_cons_zero]; simpa using ht
      | succ j =>
        rw [List.eraseIdx_cons_succ]
        have := h3 j (by simpa using hj)
        rwa [idxs_succ, List.append_assoc] at this
theorem needed_good {s : Bx} {fs : List Ft} {k : Int} (hF : ∀ f ∈ fs, FtOk f) (ht : troubleA s fs k = true) :
    idxB (fs.length : Int) (-1) (neededL s fs k) = true ∧ troubleA s (chosenL fs (neededL s fs k)) k = true ∧ ∀ j, j < (neededL s fs k).length → troubleA s (chosenL fs ((neededL s fs k).eraseIdx j)) k = false := by
  have h := need_good (s := s) (k := k) hF fs.length [] (by rw [List.append_nil]; exact List.Sublist.refl _) (by rw [List.append_nil, chosen_all]; exact ht) (fun j hj => by simp at hj)
  rw [List.append_nil] at h
  exact ⟨idxB_sub h.1, h.2⟩
theorem order_pack {s : Bx} {fs : List Ft} {qs : List Sq} (hX : boxOk s = true) (hF : ∀ f ∈ fs, FtOk f) (h : packB s fs qs = true) : ∃ (j : Nat) (q : List St), (shownL s fs)[j]? = some q ∧ qs = q.map toSq := by
  obtain ⟨q, hq, he⟩ := pack_shown hX hF h
  obtain ⟨j, hj⟩ := List.getElem?_of_mem hq
  exact ⟨j, q, hj, he.symm⟩
end Go.Pb.Sag

/- The fewest groups: whatever groups are accepted, the search finds some that are no more. -/
namespace Go.Pb.Sag
open Go Go.Pb Go.Pb.Ware Go.RowKit
set_option linter.unusedVariables false
/-- What of a group lies below i. -/
def below (i : Nat) (g : List Int) : List Int := g.filter fun z => decide (z < (i : Int))
theorem below_same {i : Nat} {g : List Int} (h : (i : Int) ∉ g) : below (i + 1) g = below i g := by
  unfold below
  refine List.filter_congr fun z hz => ?_
  have : z ≠ (i : Int) := fun e => h (e ▸ hz)
  simp only [decide_eq_decide]
  omega
theorem below_none {i : Nat} : ∀ {g : List Int}, (∀ z ∈ g, (i : Int) ≤ z) → below i g = []
  | [], _ => rfl
  | a :: l, h => by
    have h1 := h a (by simp)
    unfold below
    rw [List.filter_cons_of_neg (by simp; omega)]
    exact below_none fun z hz => h z (by simp [hz])
theorem below_succ {i : Nat} : ∀ {g : List Int}, g.Pairwise (· < ·) → (i : Int) ∈ g → below (i + 1) g = below i g ++ [(i : Int)]
  | [], _, h => by cases h
  | a :: l, hp, h => by
    have hp2 := List.pairwise_cons.1 hp
    by_cases ha : a = (i : Int)
    · have e1 : below i l = [] := below_none fun z hz => by have := hp2.1 z hz; omega
      have e2 : below (i + 1) l = [] := below_none fun z hz => by have := hp2.1 z hz; omega
      unfold below at e1 e2 ⊢
      rw [List.filter_cons_of_pos (by simp; omega), List.filter_cons_of_neg (by simp; omega), e1, e2, ha]; rfl
    · have hl : (i : Int) ∈ l := by
        rcases List.mem_cons.1 h with e | e
        · exact absurd e.symm ha
        · exact e
      have h1 := hp2.1 _ hl
      have ih := below_succ hp2.2 hl
      unfold below at ih ⊢
      rw [List.filter_cons_of_pos (by simp; omega), List.filter_cons_of_pos (by simp; omega), ih]; rfl
theorem below_all {n : Nat} {g : List Int} (h : ∀ z ∈ g, z < (n : Int)) : below n g = g := List.filter_eq_self.2 fun z hz => decide_eq_true (h z hz)
/-- Groups of all items: each rises, their first items rise, each item is in just one. -/
structure Acc (n : Nat) (gs : List (List Int)) : Prop where
  one : ∀ (k : Nat) g, gs[k]? = some g → ∃ x, g[0]? = some x
  inc : ∀ (k : Nat) g, gs[k]? = some g → g.Pairwise (· < ·)
  lo : ∀ (k : Nat) g, gs[k]? = some g → ∀ z ∈ g, 0 ≤ z ∧ z < (n : Int)
  heads : ∀ (j k : Nat) g h x y, j < k → gs[j]? = some g → gs[k]? = some h → g[0]? = some x → h[0]? = some y → x < y
  cover : ∀ i : Nat, i < n → ∃ (k : Nat) (g : List Int), gs[k]? = some g ∧ (i : Int) ∈ g
  once : ∀ (j k : Nat) g h z, gs[j]? = some g → gs[k]? = some h → z ∈ g → z ∈ h → j = k
/-- What the search has put where i items are put as in gs. -/
structure Part (i : Nat) (gs P : List (List Int)) : Prop where
  le : P.length ≤ gs.length
  at' : ∀ (k : Nat) g, k < P.length → gs[k]? = some g → P[k]? = some (below i g)
  head : ∀ (k : Nat) g x, gs[k]? = some g → g[0]? = some x → (k < P.length ↔ x < (i : Int))
theorem head_le {g : List Int} {x z : Int} (hp : g.Pairwise (· < ·)) (hx : g[0]? = some x) (hz : z ∈ g) : x ≤ z := by
  match g, hx with
  | a :: l, hx =>
    simp at hx; subst hx
    rcases List.mem_cons.1 hz with e | e
    · omega
    · have := (List.pairwise_cons.1 hp).1 z e; omega
theorem head_mem {g : List Int} {x : Int} (hx : g[0]? = some x) : x ∈ g := List.mem_of_getElem? hx
theorem part_nil {n : Nat} {gs : List (List Int)} (ha : Acc n gs) : Part 0 gs [] := by
  refine ⟨Nat.zero_le _, fun k g h => (by simp at h), fun k g x hg hx => ?_⟩
  have := (ha.lo k g hg x (head_mem hx)).1
  simp; omega
theorem part_set {n i k : Nat} {gs P : List (List Int)} {g : List Int} {x : Int} (ha : Acc n gs) (hp : Part i gs P) (hg : gs[k]? = some g) (hi : (i : Int) ∈ g) (hx : g[0]? = some x) (hlt : x < (i : Int)) : P.getD k [] ++ [(i : Int)] = below (i + 1) g ∧ Part (i + 1) gs (P.set k (P.getD k [] ++ [(i : Int)])) := by
  have hk : k < P.length := (hp.head k g x hg hx).2 hlt
  have e1 := hp.at' k g hk hg
  have e2 : P.getD k [] = below i g := by rw [List.getD_eq_getElem?_getD, e1]; rfl
  have e3 : P.getD k [] ++ [(i : Int)] = below (i + 1) g := by rw [e2, below_succ (ha.inc k g hg) hi]
  refine ⟨e3, by rw [List.length_set]; exact hp.le, fun j h hj hh => ?_, fun j h y hh hy => ?_⟩
  · rw [List.length_set] at hj
    by_cases e : j = k
    · subst e
      rw [List.getElem?_set_self hk, e3]
      rw [hg] at hh; injection hh with hh; rw [hh]
    · rw [List.getElem?_set_ne (Ne.symm e), hp.at' j h hj hh, below_same fun hm => e (ha.once j k h g _ hh hg hm hi)]
  · rw [List.length_set, hp.head j h y hh hy]
    constructor
    · intro h1; omega
    · intro h1
      by_cases e : y = (i : Int)
      · exfalso
        have hj := ha.once j k h g (i : Int) hh hg (by rw [← e]; exact head_mem hy) hi
        subst hj
        rw [hh] at hg; injection hg with hg; subst hg
        rw [hy] at hx; injection hx with hx
        omega
      · omega
theorem part_snoc {n i k : Nat} {gs P : List (List Int)} {g : List Int} (ha : Acc n gs) (hp : Part i gs P) (hg : gs[k]? = some g) (hx : g[0]? = some (i : Int)) : P.length = k ∧ [(i : Int)] = below (i + 1) g ∧ Part (i + 1) gs (P ++ [[(i : Int)]]) := by
  have hkl := (List.getElem?_eq_some_iff.1 hg).1
  have hi := head_mem hx
  have hk : P.length = k := by
    rcases Nat.lt_trichotomy P.length k with h | h | h
    · exfalso
      have hj : gs[P.length]? = some (gs[P.length]'(by omega)) := List.getElem?_eq_getElem _
      obtain ⟨y, hy⟩ := ha.one _ _ hj
      have h1 := ha.heads _ _ _ _ _ _ h hj hg hy hx
      have h2 := (hp.head _ _ _ hj hy).2 h1
      omega
    · exact h
    · have := (hp.head k g _ hg hx).1 h; omega
  have e1 : below i g = [] := below_none fun z hz => head_le (ha.inc k g hg) hx hz
  have e2 : [(i : Int)] = below (i + 1) g := by rw [below_succ (ha.inc k g hg) hi, e1]; rfl
  refine ⟨hk, e2, by simp; omega, fun j h hj hh => ?_, fun j h y hh hy => ?_⟩
  · simp at hj
    rcases Nat.lt_or_ge j P.length with hl | hl
    · rw [List.getElem?_append_left hl, hp.at' j h hl hh, below_same fun hm => by have := ha.once j k h g _ hh hg hm hi; omega]
    · have e : j = k := by omega
      subst e
      rw [List.getElem?_append_right (by omega), hk, Nat.sub_self]
      rw [hg] at hh; injection hh with hh; subst hh
      rw [← e2]; rfl
  · rw [List.length_append, List.length_singleton]
    have h0 := hp.head j h y hh hy
    constructor
    · intro h1
      rcases Nat.lt_or_ge j P.length with hl | hl
      · have := h0.1 hl; omega
      · have e : j = k := by omega
        subst e
        rw [hg] at hh; injection hh with hh; subst hh
        rw [hx] at hy; injection hy with hy
        omega
    · intro h1
      by_cases e : y = (i : Int)
      · have := ha.once j k h g (i : Int) hh hg (by rw [← e]; exact head_mem hy) hi
        omega
      · have := h0.2 (by omega); omega
theorem chosen_below {fs : List Ft} {i : Nat} {g : List Int} : (chosenL fs (below i g)).Sublist (chosenL fs g) := by
  unfold chosenL below
  exact List.Sublist.map _ List.filter_sublist
/-- Groups that are accepted let the search end, with as many as they are. -/
theorem put_some {s : Bx} {fs : List Ft} {gs : List (List Int)} (hF : ∀ f ∈ fs, FtOk f) (hC : ∀ g ∈ gs, ∀ f ∈ chosenL fs g, FtOk f) (ha : Acc fs.length gs) (hf : ∀ g ∈ gs, fitsB s (chosenL fs g) = true) : ∀ (d i : Nat) (P : List (List Int)), i + d = fs.length → Part i gs P → putF s fs gs.length d i P ≠ none
  | 0, i, P, _, _ => by rw [putF]; exact fun h => by cases h
  | d + 1, i, P, hid, hp => by
    obtain ⟨k, g, hg, hi⟩ := ha.cover i (by omega)
    obtain ⟨x, hx⟩ := ha.one k g hg
    have hxi := head_le (ha.inc k g hg) hx hi
    have hgm : g ∈ gs := List.mem_of_getElem? hg
    rw [putF_succ]
    by_cases hlt : x < (i : Int)
    · obtain ⟨e, hp2⟩ := part_set ha hp hg hi hx hlt
      have hk : k < P.length := (hp.head k g x hg hx).2 hlt
      have ht : tryF s fs gs.length d i P k ≠ none := by
        unfold tryF
        rw [if_pos (by rw [e]; exact fits_sub chosen_below (hC g hgm) (hf g hgm))]
        exact put_some hF hC ha hf d (i + 1) _ (by omega) hp2
      cases hfs : (List.range P.length).findSome? (tryF s fs gs.length d i P) with
      | some r => exact fun h => by cases h
      | none => exact absurd (List.findSome?_eq_none_iff.1 hfs k (List.mem_range.2 hk)) ht
    · obtain rfl : x = (i : Int) := by omega
      obtain ⟨hk, e, hp2⟩ := part_snoc ha hp hg hx
      cases hfs : (List.range P.length).findSome? (tryF s fs gs.length d i P) with
      | some r => exact fun h => by cases h
      | none =>
        have hkl := (List.getElem?_eq_some_iff.1 hg).1
        dsimp only
        rw [if_neg (by omega)]
        exact put_some hF hC ha hf d (i + 1) _ (by omega) hp2
theorem acc_nil : Acc 0 [] := ⟨fun k g h => (by simp at h), fun k g h => (by simp at h), fun k g h => (by simp at h), fun j k g h x y _ h1 => (by simp at h1), fun i h => (by omega), fun j k g h z h1 => (by simp at h1)⟩
theorem acc_snoc {i : Nat} {P : List (List Int)} (h : Acc i P) : Acc (i + 1) (P ++ [[(i : Int)]]) := by
  have key : ∀ (k : Nat) g, (P ++ [[(i : Int)]])[k]? = some g → (k < P.length ∧ P[k]? = some g) ∨ (k = P.length ∧ g = [(i : Int)]) := by
    intro k g hg
    have hl := (List.getElem?_eq_some_iff.1 hg).1
    simp at hl
    rcases Nat.lt_or_ge k P.length with h1 | h1
    · rw [List.getElem?_append_left h1] at hg; exact .inl ⟨h1, hg⟩
    · have e : k = P.length := by omega
      subst e
      rw [List.getElem?_append_right (Nat.le_refl _)] at hg
      simp at hg
      exact .inr ⟨rfl, hg.symm⟩
  have no : ∀ (k : Nat) g, P[k]? = some g → (i : Int) ∉ g := fun k g hg hm => by have := (h.lo k g hg _ hm).2; omega
  refine ⟨fun k g hg => ?_, fun k g hg => ?_, fun k g hg z hz => ?_, fun j k g g' x y hjk hg hg' hx hy => ?_, fun z hz => ?_, fun j k g g' z hg hg' hz hz' => ?_⟩
  · rcases key k g hg with ⟨_, h1⟩ | ⟨_, rfl⟩
    · exact h.one k g h1
    · exact ⟨_, rfl⟩
  · rcases key k g hg with ⟨_, h1⟩ | ⟨_, rfl⟩
    · exact h.inc k g h1
    · simp
  · rcases key k g hg with ⟨_, h1⟩ | ⟨_, rfl⟩
    · have := h.lo k g h1 z hz; omega
    · simp at hz; omega
  · rcases key j g hg with ⟨hj, h1⟩ | ⟨hj, rfl⟩
    · rcases key k g' hg' with ⟨_, h2⟩ | ⟨_, rfl⟩
      · exact h.heads j k g g' x y hjk h1 h2 hx hy
      · simp at hy
        have := (h.lo j g h1 x (head_mem hx)).2
        omega
    · have := (List.getElem?_eq_some_iff.1 hg').1
      simp at this
      omega
  · rcases Nat.lt_or_ge z i with h1 | h1
    · obtain ⟨k, g, hg, hm⟩ := h.cover z h1
      exact ⟨k, g, by rw [List.getElem?_append_left (List.getElem?_eq_some_iff.1 hg).1]; exact hg, hm⟩
    · obtain rfl : z = i := by omega
      exact ⟨P.length, [(z : Int)], by rw [List.getElem?_append_right (Nat.le_refl _)]; simp, by simp⟩
  · rcases key j g hg with ⟨hj, h1⟩ | ⟨hj, rfl⟩
    · rcases key k g' hg' with ⟨_, h2⟩ | ⟨_, rfl⟩
      · exact h.once j k g g' z h1 h2 hz hz'
      · simp at hz'; subst hz'; exact absurd hz (no j g h1)
    · rcases key k g' hg' with ⟨_, h2⟩ | ⟨hk, rfl⟩
      · simp at hz; subst hz; exact absurd hz' (no k g' h2)
      · omega
theorem acc_set {i k : Nat} {P : List (List Int)} {g : List Int} (h : Acc i P) (hg : P[k]? = some g) : Acc (i + 1) (P.set k (g ++ [(i : Int)])) := by
  have hk := (List.getElem?_eq_some_iff.1 hg).1
  have key : ∀ (j : Nat) f, (P.set k (g ++ [(i : Int)]))[j]? = some f → ∃ f0, P[j]? = some f0 ∧ ((j ≠ k ∧ f = f0) ∨ (j = k ∧ f = f0 ++ [(i : Int)])) := by
    intro j f hf
    by_cases e : j = k
    · subst e
      rw [List.getElem?_set_self hk] at hf
      injection hf with hf
      exact ⟨g, hg, .inr ⟨rfl, hf.symm⟩⟩
    · rw [List.getElem?_set_ne (Ne.symm e)] at hf
      exact ⟨f, hf, .inl ⟨e, rfl⟩⟩
  have no : ∀ (k : Nat) g, P[k]? = some g → (i : Int) ∉ g := fun k g hg hm => by have := (h.lo k g hg _ hm).2; omega
  have hd : ∀ (j : Nat) f f0 x, P[j]? = some f0 → ((j ≠ k ∧ f = f0) ∨ (j = k ∧ f = f0 ++ [(i : Int)])) → f[0]? = some x → f0[0]? = some x := by
    intro j f f0 x h1 h2 h3
    rcases h2 with ⟨_, rfl⟩ | ⟨_, rfl⟩
    · exact h3
    · obtain ⟨y, hy⟩ := h.one j f0 h1
      rw [head_snoc hy] at h3
      rw [hy]; exact h3
  have mem : ∀ (j : Nat) f f0 (z : Int), ((j ≠ k ∧ f = f0) ∨ (j = k ∧ f = f0 ++ [(i : Int)])) → z ∈ f → z ∈ f0 ∨ (j = k ∧ z = (i : Int)) := by
    intro j f f0 z h2 hz
    rcases h2 with ⟨_, rfl⟩ | ⟨h3, rfl⟩
    · exact .inl hz
    · rcases List.mem_append.1 hz with h4 | h4
      · exact .inl h4
      · simp at h4; exact .inr ⟨h3, h4⟩
  refine ⟨fun j f hf => ?_, fun j f hf => ?_, fun j f hf z hz => ?_, fun j l f f' x y hjl hf hf' hx hy => ?_, fun z hz => ?_, fun j l f f' z hf hf' hz hz' => ?_⟩
  · obtain ⟨f0, h1, h2⟩ := key j f hf
    obtain ⟨y, hy⟩ := h.one j f0 h1
    rcases h2 with ⟨_, rfl⟩ | ⟨_, rfl⟩
    · exact ⟨y, hy⟩
    · exact ⟨y, head_snoc hy⟩
  · obtain ⟨f0, h1, h2⟩ := key j f hf
    have h3 := h.inc j f0 h1
    rcases h2 with ⟨_, rfl⟩ | ⟨_, rfl⟩
    · exact h3
    · refine List.pairwise_append.2 ⟨h3, by simp, fun a ha b hb => ?_⟩
      simp at hb
      have := (h.lo j f0 h1 a ha).2
      omega
  · obtain ⟨f0, h1, h2⟩ := key j f hf
    rcases mem j f f0 z h2 hz with h3 | ⟨_, h3⟩
    · have := h.lo j f0 h1 z h3; omega
    · omega
  · obtain ⟨f0, h1, h2⟩ := key j f hf
    obtain ⟨f1, h3, h4⟩ := key l f' hf'
    exact h.heads j l f0 f1 x y hjl h1 h3 (hd j f f0 x h1 h2 hx) (hd l f' f1 y h3 h4 hy)
  · rcases Nat.lt_or_ge z i with h1 | h1
    · obtain ⟨j, f, hf, hm⟩ := h.cover z h1
      by_cases e : j = k
      · subst e
        rw [hg] at hf; injection hf with hf; subst hf
        exact ⟨j, g ++ [(i : Int)], by rw [List.getElem?_set_self hk], List.mem_append_left _ hm⟩
      · exact ⟨j, f, by rw [List.getElem?_set_ne (Ne.symm e)]; exact hf, hm⟩
    · obtain rfl : z = i := by omega
      exact ⟨k, g ++ [(z : Int)], by rw [List.getElem?_set_self hk], by simp⟩
  · obtain ⟨f0, h1, h2⟩ := key j f hf
    obtain ⟨f1, h3, h4⟩ := key l f' hf'
    rcases mem j f f0 z h2 hz with h5 | ⟨h5, h6⟩
    · rcases mem l f' f1 z h4 hz' with h7 | ⟨h7, h8⟩
      · exact h.once j l f0 f1 z h1 h3 h5 h7
      · subst h8; exact absurd h5 (no j f0 h1)
    · rcases mem l f' f1 z h4 hz' with h7 | ⟨h7, h8⟩
      · subst h6; exact absurd h7 (no l f1 h3)
      · omega
/-- What the search finds is accepted, and is no more than asked. -/
theorem put_acc {s : Bx} {fs : List Ft} {most : Nat} : ∀ (d i : Nat) (P r : List (List Int)), i + d = fs.length → Acc i P → (∀ g ∈ P, fitsB s (chosenL fs g) = true) → (∀ k, k < fs.length → fitsB s (chosenL fs [(k : Int)]) = true) → P.length ≤ most → putF s fs most d i P = some r → (Acc fs.length r ∧ ∀ g ∈ r, fitsB s (chosenL fs g) = true) ∧ r.length ≤ most
  | 0, i, P, r, hid, ha, hf, _, hm, h => by
    rw [putF] at h
    injection h with h
    subst h
    obtain rfl : i = fs.length := by omega
    exact ⟨⟨ha, hf⟩, hm⟩
  | d + 1, i, P, r, hid, ha, hf, h1, hm, h => by
    rw [putF_succ] at h
    cases hfs : (List.range P.length).findSome? (tryF s fs most d i P) with
    | some r' =>
      rw [hfs] at h
      injection h with h
      subst h
      obtain ⟨k, hk, ht⟩ := List.exists_of_findSome?_eq_some hfs
      rw [List.mem_range] at hk
      unfold tryF at ht
      have hg : P[k]? = some (P.getD k []) := by rw [List.getD_eq_getElem?_getD, List.getElem?_eq_getElem hk]; rfl
      split at ht
      · rename_i hfit
        refine put_acc d (i + 1) _ _ (by omega) (acc_set ha hg) (fun g hgm => ?_) h1 (by rw [List.length_set]; exact hm) ht
        rcases List.mem_or_eq_of_mem_set hgm with h2 | h2
        · exact hf g h2
        · rw [h2]; exact hfit
      · cases ht
    | none =>
      rw [hfs] at h
      dsimp only at h
      split at h
      · cases h
      · rename_i hne
        refine put_acc d (i + 1) _ _ (by omega) (acc_snoc ha) (fun g hgm => ?_) h1 (by simp; omega) h
        rcases List.mem_append.1 hgm with h2 | h2
        · exact hf g h2
        · simp at h2; rw [h2]; exact h1 i (by omega)
theorem acc_many {n : Nat} {gs : List (List Int)} (ha : Acc n gs) : ∀ (k : Nat) g x, gs[k]? = some g → g[0]? = some x → (k : Int) ≤ x
  | 0, g, x, hg, hx => by have := (ha.lo 0 g hg x (head_mem hx)).1; omega
  | k + 1, g, x, hg, hx => by
    have hl := (List.getElem?_eq_some_iff.1 hg).1
    have hj : gs[k]? = some (gs[k]'(by omega)) := List.getElem?_eq_getElem _
    obtain ⟨y, hy⟩ := ha.one k _ hj
    have h1 := acc_many ha k _ y hj hy
    have h2 := ha.heads k (k + 1) _ _ y x (by omega) hj hg hy hx
    omega
theorem acc_len {n : Nat} {gs : List (List Int)} (ha : Acc n gs) : gs.length ≤ n := by
  rcases Nat.eq_zero_or_pos gs.length with h | h
  · omega
  · have hj : gs[gs.length - 1]? = some (gs[gs.length - 1]'(by omega)) := List.getElem?_eq_getElem _
    obtain ⟨y, hy⟩ := ha.one _ _ hj
    have h1 := acc_many ha _ _ y hj hy
    have h2 := (ha.lo _ _ hj y (head_mem hy)).2
    omega
/-- The fewest: what is found is accepted, and nothing that is accepted is fewer. -/
theorem groups_fewest {s : Bx} {fs : List Ft} (hF : ∀ f ∈ fs, FtOk f) (h1 : ∀ k, k < fs.length → fitsB s (chosenL fs [(k : Int)]) = true) (r : List (List Int)) (hr : groupsF s fs = some r) :
    (Acc fs.length r ∧ ∀ g ∈ r, fitsB s (chosenL fs g) = true) ∧ ∀ gs, Acc fs.length gs → (∀ g ∈ gs, fitsB s (chosenL fs g) = true) → r.length ≤ gs.length := by
  unfold groupsF at hr
  obtain ⟨l1, a, l2, he, hp, hno⟩ := List.findSome?_eq_some_iff.1 hr
  have hla : l1.length < fs.length + 1 := by have := congrArg List.length he; simp at this; omega
  have hal : a = l1.length := by
    have h2 : (List.range (fs.length + 1))[l1.length]? = some a := by rw [he, List.getElem?_append_right (Nat.le_refl _)]; simp
    rw [List.getElem?_range hla] at h2
    injection h2 with h2
    exact h2.symm
  have hlow : ∀ x, x < a → putF s fs x fs.length 0 [] = none := by
    intro x hx
    have h2 : (List.range (fs.length + 1))[x]? = some x := List.getElem?_range (by omega)
    rw [he, List.getElem?_append_left (by omega)] at h2
    exact hno x (List.mem_of_getElem? h2)
  obtain ⟨hacc, hlen⟩ := put_acc fs.length 0 [] r (by omega) acc_nil (fun g hg => by cases hg) h1 (Nat.zero_le _) hp
  refine ⟨hacc, fun gs ha hf => ?_⟩
  have hC : ∀ g ∈ gs, ∀ f ∈ chosenL fs g, FtOk f := fun g hg => by
    obtain ⟨k, hk⟩ := List.getElem?_of_mem hg
    exact chosen_ok hF (ha.lo k g hk)
  have hs := put_some hF hC ha hf fs.length 0 [] (by omega) (part_nil ha)
  have hag : a ≤ gs.length := Nat.le_of_not_lt fun hlt => hs (hlow _ hlt)
  omega
/-- Distinct numbers below n are at most n; if they are n, they are all. -/
theorem nodup_len : ∀ {n : Nat} {l : List Int}, l.Nodup → (∀ z ∈ l, 0 ≤ z ∧ z < (n : Int)) → l.length ≤ n ∧ (l.length = n → ∀ i : Nat, i < n → (i : Int) ∈ l)
  | 0, l, _, h => by
    match l, h with
    | [], _ => exact ⟨Nat.le_refl _, fun _ i hi => by omega⟩
    | a :: l, h => have := h a (by simp); omega
  | n + 1, l, hn, h => by
    by_cases hm : (n : Int) ∈ l
    · have h1 : (l.erase (n : Int)).Nodup := hn.erase _
      have h2 : ∀ z ∈ l.erase (n : Int), 0 ≤ z ∧ z < (n : Int) := by
        intro z hz
        have h3 := (List.Nodup.mem_erase_iff hn).1 hz
        have := h z h3.2
        have := h3.1
        omega
      obtain ⟨h4, h5⟩ := nodup_len h1 h2
      have h6 := List.length_erase_of_mem hm
      have h7 := List.length_pos_of_mem hm
      refine ⟨by omega, fun he i hi => ?_⟩
      by_cases hin : i = n
      · subst hin; exact hm
      · exact List.mem_of_mem_erase (h5 (by omega) i (by omega))
    · have h2 : ∀ z ∈ l, 0 ≤ z ∧ z < (n : Int) := by
        intro z hz
        have := h z hz
        have : z ≠ (n : Int) := fun e => hm (e ▸ hz)
        omega
      obtain ⟨h4, _⟩ := nodup_len hn h2
      exact ⟨by omega, fun he => by omega⟩
theorem nodup_all : ∀ {n : Nat} {l : List Int}, l.Nodup → (∀ z ∈ l, 0 ≤ z ∧ z < (n : Int)) → (∀ i : Nat, i < n → (i : Int) ∈ l) → l.length = n
  | 0, l, _, h, _ => by
    match l, h with
    | [], _ => rfl
    | a :: l, h => have := h a (by simp); omega
  | n + 1, l, hn, h, hc => by
    have hm := hc n (by omega)
    have h2 : ∀ z ∈ l.erase (n : Int), 0 ≤ z ∧ z < (n : Int) := by
      intro z hz
      have h3 := (List.Nodup.mem_erase_iff hn).1 hz
      have := h z h3.2
      have := h3.1
      omega
    have h4 := nodup_all (hn.erase _) h2 fun i hi => (List.Nodup.mem_erase_iff hn).2 ⟨by omega, hc i (by omega)⟩
    have h6 := List.length_erase_of_mem hm
    have h7 := List.length_pos_of_mem hm
    omega
end Go.Pb.Sag

/- Which groups are accepted, as the program's loop goes. -/
namespace Go.Pb.Sag
open Go Go.Pb Go.Pb.Ware Go.RowKit
set_option linter.unusedVariables false
def accB (s : Bx) (fs : List Ft) : Int → List Int → List (List Int) → Bool
  | _, seen, [] => decide (seen.length = fs.length)
  | first, seen, g :: gs => match g[0]? with
    | none => false
    | some x => idxB (fs.length : Int) (-1) g && (decide (first < x) && (g.all (fun z => !seen.contains z) && (fitsB s (chosenL fs g) && accB s fs x (seen ++ g) gs)))
theorem idx_iff {n : Int} : ∀ {zs : List Int} {last : Int}, idxB n last zs = true ↔ zs.Pairwise (· < ·) ∧ ∀ z ∈ zs, last < z ∧ z < n
  | [], last => by simp [idxB]
  | z :: zs, last => by
    rw [idxB, Bool.and_eq_true, btw_iff, idx_iff (zs := zs) (last := z), List.pairwise_cons]
    constructor
    · rintro ⟨h1, h2, h3⟩
      refine ⟨⟨fun y hy => (h3 y hy).1, h2⟩, fun y hy => ?_⟩
      rcases List.mem_cons.1 hy with e | e
      · omega
      · have := h3 y e; omega
    · rintro ⟨⟨h1, h2⟩, h3⟩
      have h4 := h3 z (by simp)
      exact ⟨by omega, h2, fun y hy => ⟨h1 y hy, (h3 y (by simp [hy])).2⟩⟩
/-- What is still to be accepted, behind a head and what has been seen. -/
structure Rest (s : Bx) (fs : List Ft) (first : Int) (seen : List Int) (gs : List (List Int)) : Prop where
  each : ∀ (k : Nat) g, gs[k]? = some g → (∃ x, g[0]? = some x ∧ first < x) ∧ g.Pairwise (· < ·) ∧ (∀ z ∈ g, 0 ≤ z ∧ z < (fs.length : Int)) ∧ fitsB s (chosenL fs g) = true ∧ ∀ z ∈ g, z ∉ seen
  heads : ∀ (j k : Nat) g h x y, j < k → gs[j]? = some g → gs[k]? = some h → g[0]? = some x → h[0]? = some y → x < y
  apart : ∀ (j k : Nat) g h z, j < k → gs[j]? = some g → gs[k]? = some h → z ∈ g → z ∉ h
  len : (seen ++ gs.flatten).length = fs.length
theorem rest_nil {s : Bx} {fs : List Ft} {first : Int} {seen : List Int} : Rest s fs first seen [] ↔ seen.length = fs.length := by
  constructor
  · intro h; have := h.len; simpa using this
  · intro h; exact ⟨fun k g h => (by simp at h), fun j k g h x y _ h1 => (by simp at h1), fun j k g h z _ h1 => (by simp at h1), by simpa using h⟩
theorem rest_cons {s : Bx} {fs : List Ft} {first x : Int} {seen g : List Int} {gs : List (List Int)} (hx : g[0]? = some x) :
    Rest s fs first seen (g :: gs) ↔ (g.Pairwise (· < ·) ∧ ∀ z ∈ g, -1 < z ∧ z < (fs.length : Int)) ∧ first < x ∧ (∀ z ∈ g, z ∉ seen) ∧ fitsB s (chosenL fs g) = true ∧ Rest s fs x (seen ++ g) gs := by
  constructor
  · intro h
    obtain ⟨⟨x', hx', h1⟩, h2, h3, h4, h5⟩ := h.each 0 g rfl
    rw [hx] at hx'; injection hx' with hx'; subst hx'
    refine ⟨⟨h2, fun z hz => by have := h3 z hz; omega⟩, h1, h5, h4, fun k f hf => ?_, fun j k f f' y y' hjk hf hf' => h.heads (j + 1) (k + 1) f f' y y' (by omega) (by simpa using hf) (by simpa using hf'), fun j k f f' z hjk hf hf' => h.apart (j + 1) (k + 1) f f' z (by omega) (by simpa using hf) (by simpa using hf'), by have := h.len; simpa [List.append_assoc] using this⟩
    obtain ⟨⟨y, hy, _⟩, k2, k3, k4, k5⟩ := h.each (k + 1) f (by simpa using hf)
    refine ⟨⟨y, hy, h.heads 0 (k + 1) g f x y (by omega) rfl (by simpa using hf) hx hy⟩, k2, k3, k4, fun z hz hm => ?_⟩
    rcases List.mem_append.1 hm with e | e
    · exact k5 z hz e
    · exact h.apart 0 (k + 1) g f z (by omega) rfl (by simpa using hf) e hz
  · rintro ⟨⟨h1, h2⟩, h3, h4, h5, h⟩
    refine ⟨fun k f hf => ?_, fun j k f f' y y' hjk hf hf' hy hy' => ?_, fun j k f f' z hjk hf hf' hz hz' => ?_, by have := h.len; simpa [List.append_assoc] using this⟩
    · match k, hf with
      | 0, hf =>
        simp at hf; subst hf
        exact ⟨⟨x, hx, h3⟩, h1, fun z hz => by have := h2 z hz; omega, h5, h4⟩
      | k + 1, hf =>
        obtain ⟨⟨y, hy, k1⟩, k2, k3, k4, k5⟩ := h.each k f (by simpa using hf)
        exact ⟨⟨y, hy, by omega⟩, k2, k3, k4, fun z hz hm => k5 z hz (List.mem_append_left _ hm)⟩
    · match j, k, hjk, hf, hf' with
      | 0, k + 1, _, hf, hf' =>
        simp at hf; subst hf
        obtain ⟨⟨w, hw, k1⟩, _⟩ := h.each k f' (by simpa using hf')
        rw [hx] at hy; injection hy with hy
        rw [hw] at hy'; injection hy' with hy'
        omega
      | j + 1, k + 1, hjk, hf, hf' => exact h.heads j k f f' y y' (by omega) (by simpa using hf) (by simpa using hf') hy hy'
    · match j, k, hjk, hf, hf' with
      | 0, k + 1, _, hf, hf' =>
        simp at hf; subst hf
        exact (h.each k f' (by simpa using hf')).2.2.2.2 z hz' (List.mem_append_right _ hz)
      | j + 1, k + 1, hjk, hf, hf' => exact h.apart j k f f' z (by omega) (by simpa using hf) (by simpa using hf') hz hz'
theorem accB_iff {s : Bx} {fs : List Ft} : ∀ {gs : List (List Int)} {first : Int} {seen : List Int}, accB s fs first seen gs = true ↔ Rest s fs first seen gs
  | [], first, seen => by rw [accB, decide_eq_true_eq, rest_nil]
  | g :: gs, first, seen => by
    rw [accB]
    cases hx : g[0]? with
    | none =>
      constructor
      · intro h; cases h
      · intro h; obtain ⟨⟨x, hx', _⟩, _⟩ := h.each 0 g rfl; rw [hx] at hx'; cases hx'
    | some x =>
      dsimp only
      rw [rest_cons hx, Bool.and_eq_true, Bool.and_eq_true, Bool.and_eq_true, Bool.and_eq_true, idx_iff, decide_eq_true_eq, accB_iff (gs := gs), List.all_eq_true]
      simp
theorem flat_nodup : ∀ {gs : List (List Int)}, (∀ (k : Nat) g, gs[k]? = some g → g.Pairwise (· < ·)) → (∀ (j k : Nat) g h z, j < k → gs[j]? = some g → gs[k]? = some h → z ∈ g → z ∉ h) → gs.flatten.Nodup
  | [], _, _ => by simp
  | g :: gs, h1, h2 => by
    rw [List.flatten_cons, List.nodup_append]
    refine ⟨(h1 0 g rfl).imp (fun h e => by omega), flat_nodup (fun k f hf => h1 (k + 1) f (by simpa using hf)) (fun j k f f' z hjk hf hf' => h2 (j + 1) (k + 1) f f' z (by omega) (by simpa using hf) (by simpa using hf')), fun a ha b hb e => ?_⟩
    obtain ⟨f, hf, hb2⟩ := List.mem_flatten.1 hb
    obtain ⟨k, hk⟩ := List.getElem?_of_mem hf
    subst e
    exact h2 0 (k + 1) g f a (by omega) rfl (by simpa using hk) ha hb2
/-- The loop accepts just what the groups of all items are. -/
theorem acc_iff {s : Bx} {fs : List Ft} {gs : List (List Int)} : accB s fs (-1) [] gs = true ↔ Acc fs.length gs ∧ ∀ g ∈ gs, fitsB s (chosenL fs g) = true := by
  rw [accB_iff]
  have mem : ∀ {z : Int}, z ∈ gs.flatten ↔ ∃ (k : Nat) (g : List Int), gs[k]? = some g ∧ z ∈ g := by
    intro z
    constructor
    · intro h
      obtain ⟨f, hf, hb⟩ := List.mem_flatten.1 h
      obtain ⟨k, hk⟩ := List.getElem?_of_mem hf
      exact ⟨k, f, hk, hb⟩
    · rintro ⟨k, g, hg, hz⟩
      exact List.mem_flatten.2 ⟨g, List.mem_of_getElem? hg, hz⟩
  constructor
  · intro h
    have hn := flat_nodup (fun k g hg => (h.each k g hg).2.1) h.apart
    have hr : ∀ z ∈ gs.flatten, 0 ≤ z ∧ z < (fs.length : Int) := fun z hz => by
      obtain ⟨k, g, hg, hm⟩ := mem.1 hz
      exact (h.each k g hg).2.2.1 z hm
    refine ⟨⟨fun k g hg => ?_, fun k g hg => (h.each k g hg).2.1, fun k g hg => (h.each k g hg).2.2.1, h.heads, fun i hi => mem.1 ((nodup_len hn hr).2 (by have := h.len; simpa using this) i hi), fun j k g g' z hg hg' hz hz' => ?_⟩, fun g hg => ?_⟩
    · obtain ⟨x, hx, _⟩ := (h.each k g hg).1; exact ⟨x, hx⟩
    · rcases Nat.lt_trichotomy j k with e | e | e
      · exact absurd hz' (h.apart j k g g' z e hg hg' hz)
      · exact e
      · exact absurd hz (h.apart k j g' g z e hg' hg hz')
    · obtain ⟨k, hk⟩ := List.getElem?_of_mem hg
      exact (h.each k g hk).2.2.2.1
  · rintro ⟨h, hf⟩
    have hap : ∀ (j k : Nat) g g' z, j < k → gs[j]? = some g → gs[k]? = some g' → z ∈ g → z ∉ g' := fun j k g g' z e hg hg' hz hz' => by have := h.once j k g g' z hg hg' hz hz'; omega
    have hn := flat_nodup h.inc hap
    refine ⟨fun k g hg => ?_, h.heads, hap, ?_⟩
    · obtain ⟨x, hx⟩ := h.one k g hg
      have hx0 := (h.lo k g hg x (head_mem hx)).1
      exact ⟨⟨x, hx, by omega⟩, h.inc k g hg, h.lo k g hg, hf g (List.mem_of_getElem? hg), fun z _ hm => by cases hm⟩
    · rw [List.nil_append]
      exact nodup_all hn (fun z hz => by obtain ⟨k, g, hg, hm⟩ := mem.1 hz; exact h.lo k g hg z hm) (fun i hi => mem.2 (h.cover i hi))
end Go.Pb.Sag

/- The builtin copy where elements have more cells than one. -/
namespace Go.Pb
set_option linter.unusedVariables false
open Go Go.RowKit
theorem run_copy_rowK {P : Program} (w : World) (dT sT ty elem : TypeId) (g o dLen dCap : Nat) (a : Addr) (sLen sCap : Nat) (cur : Array Value) (t : TypeId) (cs : List Value) (k n : Nat)
    (hu : P.underlying dT = some (.slice elem)) (hs : (P.info? elem).map (·.size) = some k)
    (hg : w.heap[g]? = some (.cells cur t (0, 0))) (hn : n = Nat.min sLen dLen) (hcl : cs.length = n * k)
    (hsrc : ∀ j v, cs[j]? = some v → w.cell? (a.add j) = some v) (hfit : o + cs.length ≤ cur.size) (h1 : ∀ v ∈ cs, v.oneCell' = true) :
    (Builtin.copy_ #[dT, sT] ty #[.slice (some ⟨g, o, none⟩) dLen dCap, .slice (some a) sLen sCap]).run P w =
      .ok (goInt n) (w.setRow g (cur.toList.take o ++ cs ++ cur.toList.drop (o + cs.length)).toArray) := by
  have hl := run_loadCells_list (P := P) w a cs hsrc
  have hst := run_storeCells_at P g o t cs 0 cur w hg (by simpa using hfit) h1
  cases hq : P.info? elem with
  | none => simp [hq] at hs
  | some i =>
    have hi : i.size = k := by simpa [hq] using hs
    have hm : Nat.min sLen dLen = n := hn.symm
    rw [hcl] at hl
    simp [Builtin.copy_, run_underlying hu, Builtin.lenOf, Builtin.firstCells, sizeOf, typeInfo, hq, hi, hm, hl, hst]
theorem wpList_copy_K {P : Program} {w : World} {ops : Array Oper} {rest : List Oper} {o : Oper} {a : Act} {Q : Exit → Act → World → Prop} (hgd : o.guard = none) (d s : Operand) (dT sT : TypeId)
    (ho : o.op = .call { callee := .builtin .copy, args := #[d, s], argTypes := #[dT, sT] }) (elem : TypeId) (hu : P.underlying dT = some (.slice elem)) (k n : Nat) (hsz : (P.info? elem).map (·.size) = some k)
    (g off dLen dCap : Nat) (ad : Addr) (sLen sCap : Nat) (hd : a.eval d = .slice (some ⟨g, off, none⟩) dLen dCap) (hs : a.eval s = .slice (some ad) sLen sCap)
    (cur : Array Value) (t : TypeId) (hg : w.heap[g]? = some (.cells cur t (0, 0))) (cs : List Value) (hn : n = Nat.min sLen dLen) (hcl : cs.length = n * k)
    (hsrc : ∀ j v, cs[j]? = some v → w.cell? (ad.add j) = some v) (hfit : off + cs.length ≤ cur.size) (h1 : ∀ v ∈ cs, v.oneCell' = true)
    (h : wpList P ops Q rest (a.put o.dst (goInt n)) (w.setRow g (cur.toList.take off ++ cs ++ cur.toList.drop (off + cs.length)).toArray)) : wpList P ops Q (o :: rest) a w := by
  refine wpList_plain hgd fun K hK => ?_
  have hrun := run_copy_rowK (P := P) w dT sT o.type elem g off dLen dCap ad sLen sCap cur t cs k n hu hsz hg hn hcl hsrc hfit h1
  unfold Oper.wp
  simp only [execOp, ho, resolve, invoke, builtin, Sem.run_bind, Sem.run_pure, Result.andThen_ok, List.map_toArray, List.map_cons, List.map_nil, hd, hs, hrun]
  exact hK _ _ h
theorem wp_copy_K {P : Program} {o : Oper} {a : Act} {w : World} {K : Act → World → Prop} {Q : Exit → Act → World → Prop} (d s : Operand) (dT sT : TypeId)
    (ho : o.op = .call { callee := .builtin .copy, args := #[d, s], argTypes := #[dT, sT] }) (elem : TypeId) (hu : P.underlying dT = some (.slice elem)) (k n : Nat) (hsz : (P.info? elem).map (·.size) = some k)
    (g off dLen dCap : Nat) (ad : Addr) (sLen sCap : Nat) (hd : a.eval d = .slice (some ⟨g, off, none⟩) dLen dCap) (hs : a.eval s = .slice (some ad) sLen sCap)
    (cur : Array Value) (t : TypeId) (hg : w.heap[g]? = some (.cells cur t (0, 0))) (cs : List Value) (hn : n = Nat.min sLen dLen) (hcl : cs.length = n * k)
    (hsrc : ∀ j v, cs[j]? = some v → w.cell? (ad.add j) = some v) (hfit : off + cs.length ≤ cur.size) (h1 : ∀ v ∈ cs, v.oneCell' = true)
    (h : K (a.put o.dst (goInt n)) (w.setRow g (cur.toList.take off ++ cs ++ cur.toList.drop (off + cs.length)).toArray)) :
    Oper.wp P o a w K Q := by
  have hrun := run_copy_rowK (P := P) w dT sT o.type elem g off dLen dCap ad sLen sCap cur t cs k n hu hsz hg hn hcl hsrc hfit h1
  unfold Oper.wp
  simp only [execOp, ho, resolve, invoke, builtin, Sem.run_bind, Sem.run_pure, Result.andThen_ok, List.map_toArray, List.map_cons, List.map_nil, hd, hs, hrun]
  exact h
end Go.Pb

/- How many items like one fit. -/
namespace Go.Pb.Sag
open Go Go.Pb Go.Pb.Ware Go.RowKit
set_option linter.unusedVariables false
/-- As the program's loop goes: d rounds are left, k feet have been found to fit. -/
def mostR (s : Bx) (f : Ft) : Nat → Nat → Nat
  | 0, k => k
  | d + 1, k => if fitsB s (List.replicate (k + 1) f) = true then mostR s f d (k + 1) else k
def mostF (s : Bx) (f : Ft) : Nat := mostR s f 5 0
theorem mostR_spec {s : Bx} {f : Ft} : ∀ (d k : Nat), k ≤ mostR s f d k ∧ mostR s f d k ≤ k + d ∧ (∀ j, k ≤ j → j < mostR s f d k → fitsB s (List.replicate (j + 1) f) = true) ∧ (mostR s f d k < k + d → fitsB s (List.replicate (mostR s f d k + 1) f) = false)
  | 0, k => ⟨Nat.le_refl _, Nat.le_refl _, fun j h1 h2 => by simp only [mostR] at h2; omega, fun h => by simp only [mostR] at h; omega⟩
  | d + 1, k => by
    rw [mostR]
    split
    · rename_i h
      obtain ⟨h1, h2, h3, h4⟩ := mostR_spec (s := s) (f := f) d (k + 1)
      refine ⟨by omega, by omega, fun j hj hl => ?_, fun hl => h4 (by omega)⟩
      by_cases e : j = k
      · rw [e]; exact h
      · exact h3 j (by omega) hl
    · rename_i h
      exact ⟨Nat.le_refl _, by omega, fun j h1 h2 => by omega, fun _ => by simpa using h⟩
theorem most_le {s : Bx} {f : Ft} : mostF s f ≤ 5 := by have := (mostR_spec (s := s) (f := f) 5 0).2.1; unfold mostF; omega
theorem most_iff {s : Bx} {f : Ft} (hf : FtOk f) {k : Nat} (hk : k < 5) : fitsB s (List.replicate (k + 1) f) = decide (k < mostF s f) := by
  obtain ⟨h1, h2, h3, h4⟩ := mostR_spec (s := s) (f := f) 5 0
  by_cases h : k < mostF s f
  · rw [decide_eq_true h]; exact h3 k (Nat.zero_le _) h
  · rw [decide_eq_false h]
    unfold mostF at h
    have h5 := h4 (by omega)
    cases h6 : fitsB s (List.replicate (k + 1) f) with
    | false => rfl
    | true =>
      have h7 := fits_sub (gs := List.replicate (mostR s f 5 0 + 1) f) (List.replicate_sublist_replicate f |>.2 (by omega)) (fun g hg => by rw [List.eq_of_mem_replicate hg]; exact hf) h6
      rw [h5] at h7; cases h7
theorem most_zero {s : Bx} {f : Ft} : mostF s f = 0 ↔ fitsB s [f] = false := by
  obtain ⟨h1, h2, h3, h4⟩ := mostR_spec (s := s) (f := f) 5 0
  unfold mostF
  constructor
  · intro h
    have := h4 (by omega)
    rwa [h] at this
  · intro h
    rcases Nat.eq_zero_or_pos (mostR s f 5 0) with h5 | h5
    · exact h5
    · have := h3 0 (Nat.le_refl _) h5
      rw [show List.replicate (0 + 1) f = [f] from rfl, h] at this; cases this
/-- Items like one in a list. -/
theorem ckL_reps {ss bs : List (List Int)} {s : Bx} {y : It} {k : Nat} (h : ckG ss bs s = 0) (hy : itemB ss y = true) (hk : k ≤ 5) : ckL ss bs s (List.replicate k y) = 0 :=
  ckL_good h (by rw [List.length_replicate]; omega) (List.all_eq_true.2 fun x hx => by rw [List.eq_of_mem_replicate hx]; exact hy)
theorem feet_reps {ss bs : List (List Int)} {s : Bx} {y : It} {k : Nat} (h : ckG ss bs s = 0) (hy : itemB ss y = true) (hk : k ≤ 5) : feetV ss bs s (List.replicate k y) = List.replicate k (footR ss s.cell y) := by
  rw [feetV_0 (ckL_reps h hy hk), List.map_replicate]
theorem ckG_of {ss bs : List (List Int)} {s : Bx} {xs : List It} (h : ckL ss bs s xs = 0) : ckG ss bs s = 0 := by
  obtain ⟨h1, h2, _⟩ := ckL_0 h
  unfold ckG ckX; rw [if_pos h1, if_pos h2]
theorem foot_ok1 {ss bs : List (List Int)} {s : Bx} {xs : List It} (h : ckL ss bs s xs = 0) {y : It} (hy : y ∈ xs) : FtOk (footR ss s.cell y) := by
  have h1 := feet_ok (ss := ss) (bs := bs) (s := s) (xs := xs)
  rw [feetV_0 h] at h1
  exact h1 _ (List.mem_map.2 ⟨y, hy, rfl⟩)
end Go.Pb.Sag
