/- Appending to an empty slice of the call's own; slices of the call's own, by predicates. -/
import Derived.Test.YtcadbcmldlammaaFirst
import Derived.Test.YtcadbcmldlammaaP5
namespace Go.Pb
set_option linter.unusedVariables false
open Go Go.RowKit
/-- An empty slice of the call's own. -/
def NewEmpty (B0 : Nat) (e : TypeId) (v : Value) (W : World) : Prop := ∃ B, B0 ≤ B ∧ v = .slice (some ⟨B, 0, none⟩) 0 0 ∧ W.heap[B]? = some (.cells #[] e (0, 0))
theorem keeps_empty {B0 : Nat} {e : TypeId} : Keeps (NewEmpty B0 e) := fun _ _ _ ⟨B, h1, h2, h3⟩ hb => ⟨B, h1, h2, (hb.block B (Array.getElem?_eq_some_iff.1 h3).1).trans h3⟩
theorem empty_of {w w' : World} {e : TypeId} (hb : Below w.heap.size w w') :
    Below w'.heap.size w' (w'.alloc (.cells #[] e)) ∧ NewEmpty w.heap.size e (.slice (some ⟨w'.heap.size, 0, none⟩) 0 0) (w'.alloc (.cells #[] e)) :=
  ⟨(Below.refl _ _).alloc (Nat.le_refl _) _, w'.heap.size, hb.size, rfl, heap_alloc_new w' _⟩
/-- A slice of the call's own that was written out. -/
def NewList (B0 n : Nat) (cs : List Value) (v : Value) (W : World) : Prop :=
  ∃ B, B0 ≤ B ∧ v = .slice (some ⟨B, 0, none⟩) n n ∧ ∀ o c, cs[o]? = some c → W.cell? ⟨B, o, none⟩ = some c ∧ W.frozen? ⟨B, o, none⟩ = false
theorem keeps_list {B0 n : Nat} {cs : List Value} : Keeps (NewList B0 n cs) := fun _ _ _ ⟨B, h1, h2, h3⟩ hb =>
  ⟨B, h1, h2, fun o c hc => ⟨bkeep hb (h3 o c hc).1, bfree hb (h3 o c hc).1 (h3 o c hc).2⟩⟩
theorem list_of {w w' : World} {n : Nat} {cs : List Value} {t : TypeId} (hb : Below w.heap.size w w') :
    Below w'.heap.size w' (w'.alloc (.cells cs.toArray t)) ∧ NewList w.heap.size n cs (.slice (some ⟨w'.heap.size, 0, none⟩) n n) (w'.alloc (.cells cs.toArray t)) :=
  ⟨(Below.refl _ _).alloc (Nat.le_refl _) _, w'.heap.size, hb.size, rfl, fun o c hc => by
    refine ⟨?_, World.frozen?_alloc_new w' cs.toArray t o⟩
    rw [World.cell?_alloc_new]; simpa using hc⟩
theorem keeps_owns {base size n : Nat} {e : TypeId} {xs : List Value} : Keeps (fun v w => w.ownsRow base e size v n xs) := fun _ _ _ h hb => owns_below h hb
theorem append_fresh {P : Program} (w : World) (base : Nat) (t ty e : TypeId) (i : TypeInfo) (z : Value) (size bytes : Nat) (ht : P.underlying t = some (.slice e)) (hi : P.info? e = some i) (hz : i.zero = some z)
    (hsize : i.size = size) (hby : i.bytes = bytes) (hzs : z.cells.size = size) (hsz : 0 < size) {B : Nat} (hB : base ≤ B) (hg : w.heap[B]? = some (.cells #[] e (0, 0)))
    (a : Addr) (m c : Nat) (news : List Value) (hl : news.length = m * size) (hnews : ∀ j u, news[j]? = some u → w.cell? (a.add j) = some u) (h1 : ∀ u ∈ news, u.oneCell' = true)
    (h63 : m ≤ maxLen) (hbytes : m * bytes ≤ 140737488355328) (hbase : base ≤ w.heap.size) :
    ∃ v' w', (Builtin.append_ #[t, t] ty #[.slice (some ⟨B, 0, none⟩) 0 0, .slice (some a) m c]).run P w = .ok v' w' ∧ Below w.heap.size w w' ∧ w'.ownsRow base e size v' m news := by
  have hown : w.ownsRow base e size (.slice (some ⟨B, 0, none⟩) 0 0) 0 [] := ⟨by simp, .inr ⟨B, 0, #[], rfl, hB, hg, Nat.le_refl _, by simp [maxLen], by simp, by simp⟩⟩
  obtain ⟨v', w', hr, h2, h3, -⟩ := run_append_own (P := P) w base t ty e i z size bytes ht hi hz hsize hby hzs hsz _ 0 [] hown a m c news hl hnews h1 (by omega) (by simpa using hbytes) hbase
  refine ⟨v', w', hr, ?_, by simpa using h2⟩
  subst hsize; subst hby
  by_cases hm : m = 0
  · subst hm
    have hn : news = [] := List.eq_nil_of_length_eq_zero (by simpa using hl)
    subst hn
    have hr2 := run_append_room (P := P) w t ty e i ht hi B 0 0 #[] hg a 0 c [] (by simp) (by simp) (by simp) (by omega) (by simp)
    rw [hr2] at hr
    injection hr with _ hw
    subst hw
    refine ⟨rfl, rfl, rfl, by simp [World.setRow], fun k hk => ?_⟩
    by_cases hkB : k = B
    · subst hkB
      rw [setRow_heap w k #[] _ e _ hg, hg]; simp
    · exact setRow_other w B k _ hkB
  · have hcap : Builtin.nextslicecap (0 + m) 0 * i.bytes ≤ 281474976710656 := growslice_fits (by omega) (by simpa using hbytes)
    have hr2 := run_append_grow (P := P) w t ty e i z ht hi hz ⟨B, 0, none⟩ 0 0 [] (by simp) (by simp) a m c news hl hnews (by omega) (by simp only [maxLen] at h63; omega) hcap
    rw [hr2] at hr
    injection hr with _ hw
    subst hw
    exact (Below.refl _ _).drew.alloc (Nat.le_refl _) _
theorem fresh_append {P : Program} {o : Oper} {a : Act} {w : World} (s x : Operand) (t : TypeId) (ho : o.op = .call { callee := .builtin .append, args := #[s, x], argTypes := #[t, t] })
    (base : Nat) (e : TypeId) (i : TypeInfo) (z : Value) (size bytes : Nat) (ht : P.underlying t = some (.slice e)) (hi : P.info? e = some i) (hz : i.zero = some z)
    (hsize : i.size = size) (hby : i.bytes = bytes) (hzs : z.cells.size = size) (hsz : 0 < size) (v : Value) (hs : a.eval s = v) (hv : NewEmpty base e v w)
    (ad : Addr) (m c : Nat) (news : List Value) (hx : a.eval x = .slice (some ad) m c) (hl : news.length = m * size) (hnews : ∀ j u, news[j]? = some u → w.cell? (ad.add j) = some u) (h1 : ∀ u ∈ news, u.oneCell' = true)
    (h63 : m ≤ maxLen) (hbytes : m * bytes ≤ 140737488355328) (hbase : base ≤ w.heap.size) :
    freshAt P o a (fun v w => w.ownsRow base e size v m news) w := by
  obtain ⟨B, hB, rfl, hg⟩ := hv
  obtain ⟨v', w', hr, h2, h3⟩ := append_fresh (P := P) w base t o.type e i z size bytes ht hi hz hsize hby hzs hsz hB hg ad m c news hl hnews h1 h63 hbytes hbase
  unfold freshAt execOp
  simp only [ho, resolve, invoke, builtin, Sem.run_bind, Sem.run_pure, Result.andThen_ok, List.map_toArray, List.map_cons, List.map_nil, hs, hx, hr]
  exact ⟨h2, h3⟩
end Go.Pb
namespace Go.Pb.Ware
open Go Go.Pb Go.RowKit
/-- Cells of a part of trials that lie in a slice. -/
theorem rows_cells {w : World} {a : Addr} {cap : Nat} {ts : List TT} (h : RowsAt 5 w (.slice (some a) ts.length cap) (ts.map rowT)) {k m : Nat} :
    ∀ j u, (((ts.drop k).take m).flatMap cellsT)[j]? = some u → w.cell? (a.add (k * 5 + j)) = some u := by
  have key : ∀ (l : List TT) (j : Nat) (u : Value), (l.flatMap cellsT)[j]? = some u → ∃ i o t, j = i * 5 + o ∧ l[i]? = some t ∧ (cellsT t)[o]? = some u := by
    intro l
    induction l with
    | nil => intro j u h; simp at h
    | cons t l ih =>
      intro j u h
      rw [List.flatMap_cons] at h
      by_cases hj : j < 5
      · rw [List.getElem?_append_left (by simpa [cellsT] using hj)] at h
        exact ⟨0, j, t, by omega, rfl, h⟩
      · rw [List.getElem?_append_right (by simp [cellsT]; omega)] at h
        obtain ⟨i, o, t', h1, h2, h3⟩ := ih _ _ h
        simp only [cellsT, List.length_cons, List.length_nil] at h1
        exact ⟨i + 1, o, t', by omega, by simpa using h2, h3⟩
  intro j u hu
  obtain ⟨i, o, t, rfl, h2, h3⟩ := key _ _ _ hu
  have ho : o < 5 := by have := (List.getElem?_eq_some_iff.1 h3).1; simpa [cellsT] using this
  rw [List.getElem?_take] at h2
  split at h2
  · rename_i him
    rw [List.getElem?_drop] at h2
    rcases h with ⟨h, _⟩ | ⟨a', cap', h4, h5, h6, h7⟩
    · cases h
    · injection h4 with e1 e2 e3
      injection e1 with e1
      subst e1
      have h8 := (h7 (k + i) (rowT t) (by rw [List.getElem?_map, h2]; rfl)).2
      have h9 : (rowT t)[o]? = some ((rowT t)[o]'(by simpa [rowT] using ho)) := List.getElem?_eq_getElem _
      have h10 := (h8 o _ h9).1
      rw [show k * 5 + (i * 5 + o) = (k + i) * 5 + o by omega, h10]
      have h11 : cellsT t = (rowT t).map (Value.int .i64) := rfl
      rw [h11, List.getElem?_map, h9] at h3
      exact h3
  · cases h2
theorem flatMap_len (ts : List TT) : (ts.flatMap cellsT).length = ts.length * 5 := by
  induction ts with
  | nil => rfl
  | cons t ts ih => rw [List.flatMap_cons, List.length_append, ih]; simp only [cellsT, List.length_cons, List.length_nil]; omega
theorem one_flat {ts : List TT} : ∀ u ∈ ts.flatMap cellsT, u.oneCell' = true := fun u hu => by
  obtain ⟨t, _, h⟩ := List.mem_flatMap.1 hu; exact one_cellsT u h
end Go.Pb.Ware
namespace Go.Pb
theorem RowsAt.caps {n : Nat} {w : World} {a : Option Addr} {m cap : Nat} {rows : List (List Int)} (h : RowsAt n w (.slice a m cap) rows) : rows.length ≤ cap ∧ cap ≤ 9223372036854775807 := by
  rcases h with ⟨h1, h2⟩ | ⟨a', cap', h1, h2, h3, _⟩
  · injection h1 with _ _ h4; subst h2; subst h4; simp
  · injection h1 with _ _ h4; subst h4; exact ⟨h2, h3⟩
end Go.Pb
namespace Go.Pb.Ware
open Go Go.Pb Go.RowKit
theorem len_cells {t : TT} : (cellsT t).length = 5 := rfl
/-- Two trials that were written out read as trials. -/
theorem rows_two {w : World} {B0 : Nat} {v : Value} {x y : TT} {cs : List Value} (h : NewList B0 2 cs v w) (hc : cs = cellsT x ++ cellsT y) : RowsAt 5 w v ([x, y].map rowT) := by
  obtain ⟨B, _, rfl, hn⟩ := h
  subst hc
  refine .inr ⟨_, 2, rfl, Nat.le_refl _, by omega, fun k r hk => ?_⟩
  have key : ∀ (t : TT) (j : Nat) (z : Int), (rowT t)[j]? = some z → (cellsT t)[j]? = some (.int .i64 z) ∧ j < 5 := fun t j z hz => by
    have h1 : cellsT t = (rowT t).map (Value.int .i64) := rfl
    exact ⟨by rw [h1, List.getElem?_map, hz]; rfl, (List.getElem?_eq_some_iff.1 hz).1⟩
  match k, hk with
  | 0, hk =>
    simp at hk; subst hk
    refine ⟨rfl, fun j z hz => ⟨?_, i64T z (List.mem_of_getElem? hz)⟩⟩
    obtain ⟨h1, h2⟩ := key x j z hz
    rw [Go.WideShapes.add_plain, Nat.zero_mul, Nat.zero_add, Nat.zero_add]
    exact (hn j _ (by rw [List.getElem?_append_left (by rw [len_cells]; exact h2)]; exact h1)).1
  | 1, hk =>
    simp at hk; subst hk
    refine ⟨rfl, fun j z hz => ⟨?_, i64T z (List.mem_of_getElem? hz)⟩⟩
    obtain ⟨h1, h2⟩ := key y j z hz
    rw [Go.WideShapes.add_plain, Nat.zero_add]
    exact (hn (1 * 5 + j) _ (by rw [List.getElem?_append_right (by rw [len_cells]; omega), len_cells, show 1 * 5 + j - 5 = j by omega]; exact h1)).1
  | k + 2, hk => simp at hk
end Go.Pb.Ware
