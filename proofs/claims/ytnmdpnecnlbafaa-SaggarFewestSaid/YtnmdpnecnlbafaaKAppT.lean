/- Appending to an empty slice of the call's own; slices of the call's own, by predicates. -/
import Derived.Test.YtnmdpnecnlbafaaKSbT
import Derived.Test.YtnmdpnecnlbafaaKLibT
import Derived.Shelf.SlSortCmp.SmallK
import Derived.Shelf.Small.Bits
import Derived.Ground.SlsfProg
import Derived.Test.YtnmdpnecnlbafaaProg
import Derived.Laws.CopyOwn
namespace Go.Pb
set_option linter.unusedVariables false
open Go Go.RowKit
/-- An empty slice of the call's own. -/
def NewEmpty (B0 : Nat) (e : TypeId) (v : Value) (W : World) : Prop := ∃ B, B0 ≤ B ∧ v = .slice (some ⟨B, 0, none⟩) 0 0 ∧ W.heap[B]? = some (.cells #[] e (0, 0))
theorem keeps_empty {B0 : Nat} {e : TypeId} : Keeps (NewEmpty B0 e) := fun _ _ _ ⟨B, h1, h2, h3⟩ hb => ⟨B, h1, h2, (hb.block B (Array.getElem?_eq_some_iff.1 h3).1).trans h3⟩
theorem empty_of {w w' : World} {e : TypeId} (hb : Below w.heap.size w w') :
    Below w'.heap.size w' (w'.alloc (.cells #[] e)) ∧ NewEmpty w.heap.size e (.slice (some ⟨w'.heap.size, 0, none⟩) 0 0) (w'.alloc (.cells #[] e)) :=
  ⟨(Below.refl _ _).alloc (Nat.le_refl _) _, w'.heap.size, hb.size, rfl, heap_alloc_new w' _⟩
/-- A slice of the call's own that was written out. -/
def NewList (B0 n : Nat) (cs : List Value) (v : Value) (W : World) : Prop :=
  ∃ B, B0 ≤ B ∧ v = .slice (some ⟨B, 0, none⟩) n n ∧ ∀ o c, cs[o]? = some c → W.cell? ⟨B, o, none⟩ = some c ∧ W.frozen? ⟨B, o, none⟩ = false
theorem keeps_list {B0 n : Nat} {cs : List Value} : Keeps (NewList B0 n cs) := fun _ _ _ ⟨B, h1, h2, h3⟩ hb =>
  ⟨B, h1, h2, fun o c hc => ⟨bkeep hb (h3 o c hc).1, bfree hb (h3 o c hc).1 (h3 o c hc).2⟩⟩
theorem list_of {w w' : World} {n : Nat} {cs : List Value} {t : TypeId} (hb : Below w.heap.size w w') :
    Below w'.heap.size w' (w'.alloc (.cells cs.toArray t)) ∧ NewList w.heap.size n cs (.slice (some ⟨w'.heap.size, 0, none⟩) n n) (w'.alloc (.cells cs.toArray t)) :=
  ⟨(Below.refl _ _).alloc (Nat.le_refl _) _, w'.heap.size, hb.size, rfl, fun o c hc => by
    refine ⟨?_, World.frozen?_alloc_new w' cs.toArray t o⟩
    rw [World.cell?_alloc_new]; simpa using hc⟩
theorem keeps_owns {base size n : Nat} {e : TypeId} {xs : List Value} : Keeps (fun v w => w.ownsRow base e size v n xs) := fun _ _ _ h hb => owns_below h hb
theorem append_fresh {P : Program} (w : World) (base : Nat) (t ty e : TypeId) (i : TypeInfo) (z : Value) (size bytes : Nat) (ht : P.underlying t = some (.slice e)) (hi : P.info? e = some i) (hz : i.zero = some z)
    (hsize : i.size = size) (hby : i.bytes = bytes) (hzs : z.cells.size = size) (hsz : 0 < size) {B : Nat} (hB : base ≤ B) (hg : w.heap[B]? = some (.cells #[] e (0, 0)))
    (a : Addr) (m c : Nat) (news : List Value) (hl : news.length = m * size) (hnews : ∀ j u, news[j]? = some u → w.cell? (a.add j) = some u) (h1 : ∀ u ∈ news, u.oneCell' = true)
    (h63 : m ≤ maxLen) (hbytes : m * bytes ≤ 140737488355328) (hbase : base ≤ w.heap.size) :
    ∃ v' w', (Builtin.append_ #[t, t] ty #[.slice (some ⟨B, 0, none⟩) 0 0, .slice (some a) m c]).run P w = .ok v' w' ∧ Below w.heap.size w w' ∧ w'.ownsRow base e size v' m news := by
  have hown : w.ownsRow base e size (.slice (some ⟨B, 0, none⟩) 0 0) 0 [] := ⟨by simp, .inr ⟨B, 0, #[], rfl, hB, hg, Nat.le_refl _, by simp [maxLen], by simp, by simp⟩⟩
  obtain ⟨v', w', hr, h2, h3, -⟩ := run_append_own (P := P) w base t ty e i z size bytes ht hi hz hsize hby hzs hsz _ 0 [] hown a m c news hl hnews h1 (by omega) (by simpa using hbytes) hbase
  refine ⟨v', w', hr, ?_, by simpa using h2⟩
  subst hsize; subst hby
  by_cases hm : m = 0
  · subst hm
    have hn : news = [] := List.eq_nil_of_length_eq_zero (by simpa using hl)
    subst hn
    have hr2 := run_append_room (P := P) w t ty e i ht hi B 0 0 #[] hg a 0 c [] (by simp) (by simp) (by simp) (by omega) (by simp)
    rw [hr2] at hr
    injection hr with _ hw
    subst hw
    refine ⟨rfl, rfl, rfl, by simp [World.setRow], fun k hk => ?_⟩
    by_cases hkB : k = B
    · subst hkB
      rw [setRow_heap w k #[] _ e _ hg, hg]; simp
    · exact setRow_other w B k _ hkB
  · have hcap : Builtin.nextslicecap (0 + m) 0 * i.bytes ≤ 281474976710656 := growslice_fits (by omega) (by simpa using hbytes)
    have hr2 := run_append_grow (P := P) w t ty e i z ht hi hz ⟨B, 0, none⟩ 0 0 [] (by simp) (by simp) a m c news hl hnews (by omega) (by simp only [maxLen] at h63; omega) hcap
    rw [hr2] at hr
    injection hr with _ hw
    subst hw
    exact (Below.refl _ _).drew.alloc (Nat.le_refl _) _
theorem fresh_append {P : Program} {o : Oper} {a : Act} {w : World} (s x : Operand) (t : TypeId) (ho : o.op = .call { callee := .builtin .append, args := #[s, x], argTypes := #[t, t] })
    (base : Nat) (e : TypeId) (i : TypeInfo) (z : Value) (size bytes : Nat) (ht : P.underlying t = some (.slice e)) (hi : P.info? e = some i) (hz : i.zero = some z)
    (hsize : i.size = size) (hby : i.bytes = bytes) (hzs : z.cells.size = size) (hsz : 0 < size) (v : Value) (hs : a.eval s = v) (hv : NewEmpty base e v w)
    (ad : Addr) (m c : Nat) (news : List Value) (hx : a.eval x = .slice (some ad) m c) (hl : news.length = m * size) (hnews : ∀ j u, news[j]? = some u → w.cell? (ad.add j) = some u) (h1 : ∀ u ∈ news, u.oneCell' = true)
    (h63 : m ≤ maxLen) (hbytes : m * bytes ≤ 140737488355328) (hbase : base ≤ w.heap.size) :
    freshAt P o a (fun v w => w.ownsRow base e size v m news) w := by
  obtain ⟨B, hB, rfl, hg⟩ := hv
  obtain ⟨v', w', hr, h2, h3⟩ := append_fresh (P := P) w base t o.type e i z size bytes ht hi hz hsize hby hzs hsz hB hg ad m c news hl hnews h1 h63 hbytes hbase
  unfold freshAt execOp
  simp only [ho, resolve, invoke, builtin, Sem.run_bind, Sem.run_pure, Result.andThen_ok, List.map_toArray, List.map_cons, List.map_nil, hs, hx, hr]
  exact ⟨h2, h3⟩
end Go.Pb
namespace Go.Pb.Ware
open Go Go.Pb Go.RowKit
/-- Cells of a part of trials that lie in a slice. -/
theorem rows_cells {w : World} {a : Addr} {cap : Nat} {ts : List TT} (h : RowsAt 5 w (.slice (some a) ts.length cap) (ts.map rowT)) {k m : Nat} :
    ∀ j u, (((ts.drop k).take m).flatMap cellsT)[j]? = some u → w.cell? (a.add (k * 5 + j)) = some u := by
  have key : ∀ (l : List TT) (j : Nat) (u : Value), (l.flatMap cellsT)[j]? = some u → ∃ i o t, j = i * 5 + o ∧ l[i]? = some t ∧ (cellsT t)[o]? = some u := by
    intro l
    induction l with
    | nil => intro j u h; simp at h
    | cons t l ih =>
      intro j u h
      rw [List.flatMap_cons] at h
      by_cases hj : j < 5
      · rw [List.getElem?_append_left (by simpa [cellsT] using hj)] at h
        exact ⟨0, j, t, by omega, rfl, h⟩
      · rw [List.getElem?_append_right (by simp [cellsT]; omega)] at h
        obtain ⟨i, o, t', h1, h2, h3⟩ := ih _ _ h
        simp only [cellsT, List.length_cons, List.length_nil] at h1
        exact ⟨i + 1, o, t', by omega, by simpa using h2, h3⟩
  intro j u hu
  obtain ⟨i, o, t, rfl, h2, h3⟩ := key _ _ _ hu
  have ho : o < 5 := by have := (List.getElem?_eq_some_iff.1 h3).1; simpa [cellsT] using this
  rw [List.getElem?_take] at h2
  split at h2
  · rename_i him
    rw [List.getElem?_drop] at h2
    rcases h with ⟨h, _⟩ | ⟨a', cap', h4, h5, h6, h7⟩
    · cases h
    · injection h4 with e1 e2 e3
      injection e1 with e1
      subst e1
      have h8 := (h7 (k + i) (rowT t) (by rw [List.getElem?_map, h2]; rfl)).2
      have h9 : (rowT t)[o]? = some ((rowT t)[o]'(by simpa [rowT] using ho)) := List.getElem?_eq_getElem _
      have h10 := (h8 o _ h9).1
      rw [show k * 5 + (i * 5 + o) = (k + i) * 5 + o by omega, h10]
      have h11 : cellsT t = (rowT t).map (Value.int .i64) := rfl
      rw [h11, List.getElem?_map, h9] at h3
      exact h3
  · cases h2
theorem flatMap_len (ts : List TT) : (ts.flatMap cellsT).length = ts.length * 5 := by
  induction ts with
  | nil => rfl
  | cons t ts ih => rw [List.flatMap_cons, List.length_append, ih]; simp only [cellsT, List.length_cons, List.length_nil]; omega
theorem one_flat {ts : List TT} : ∀ u ∈ ts.flatMap cellsT, u.oneCell' = true := fun u hu => by
  obtain ⟨t, _, h⟩ := List.mem_flatMap.1 hu; exact one_cellsT u h
end Go.Pb.Ware
namespace Go.Pb
theorem RowsAt.caps {n : Nat} {w : World} {a : Option Addr} {m cap : Nat} {rows : List (List Int)} (h : RowsAt n w (.slice a m cap) rows) : rows.length ≤ cap ∧ cap ≤ 9223372036854775807 := by
  rcases h with ⟨h1, h2⟩ | ⟨a', cap', h1, h2, h3, _⟩
  · injection h1 with _ _ h4; subst h2; subst h4; simp
  · injection h1 with _ _ h4; subst h4; exact ⟨h2, h3⟩
end Go.Pb
namespace Go.Pb.Ware
open Go Go.Pb Go.RowKit
theorem len_cells {t : TT} : (cellsT t).length = 5 := rfl
/-- Two trials that were written out read as trials. -/
theorem rows_two {w : World} {B0 : Nat} {v : Value} {x y : TT} {cs : List Value} (h : NewList B0 2 cs v w) (hc : cs = cellsT x ++ cellsT y) : RowsAt 5 w v ([x, y].map rowT) := by
  obtain ⟨B, _, rfl, hn⟩ := h
  subst hc
  refine .inr ⟨_, 2, rfl, Nat.le_refl _, by omega, fun k r hk => ?_⟩
  have key : ∀ (t : TT) (j : Nat) (z : Int), (rowT t)[j]? = some z → (cellsT t)[j]? = some (.int .i64 z) ∧ j < 5 := fun t j z hz => by
    have h1 : cellsT t = (rowT t).map (Value.int .i64) := rfl
    exact ⟨by rw [h1, List.getElem?_map, hz]; rfl, (List.getElem?_eq_some_iff.1 hz).1⟩
  match k, hk with
  | 0, hk =>
    simp at hk; subst hk
    refine ⟨rfl, fun j z hz => ⟨?_, i64T z (List.mem_of_getElem? hz)⟩⟩
    obtain ⟨h1, h2⟩ := key x j z hz
    rw [Go.WideShapes.add_plain, Nat.zero_mul, Nat.zero_add, Nat.zero_add]
    exact (hn j _ (by rw [List.getElem?_append_left (by rw [len_cells]; exact h2)]; exact h1)).1
  | 1, hk =>
    simp at hk; subst hk
    refine ⟨rfl, fun j z hz => ⟨?_, i64T z (List.mem_of_getElem? hz)⟩⟩
    obtain ⟨h1, h2⟩ := key y j z hz
    rw [Go.WideShapes.add_plain, Nat.zero_add]
    exact (hn (1 * 5 + j) _ (by rw [List.getElem?_append_right (by rw [len_cells]; omega), len_cells, show 1 * 5 + j - 5 = j by omega]; exact h1)).1
  | k + 2, hk => simp at hk
end Go.Pb.Ware

/- A region that draws: loads of what stays as it is, whatever the other operations do, are run first; then a group; then the rest. -/
namespace Go.Pb
set_option linter.unusedVariables false
open Go Go.RowKit
section
variable {P : Program} {md : Region.Mode} {ops : Array Oper} {Q : Exit → Act → World → Prop} {C : World → Prop}
/-- As wpAny; C holds wherever an operation is about to be run. -/
def wpAnyC (P : Program) (md : Region.Mode) (ops : Array Oper) (Q : Exit → Act → World → Prop) (C : World → Prop) : Nat → Array Bool → Act → World → Prop
  | 0, L, a, w => C w ∧ Region.ready md ops L = [] ∧ Q .normal a w
  | n + 1, L, a, w => C w ∧ (Region.ready md ops L = [] → Q .normal a w) ∧ ∀ i ∈ Region.ready md ops L, wpOp P ops Q i (wpAnyC P md ops Q C n (L.setIfInBounds i true)) a w
theorem wpAnyC_any : ∀ {n : Nat} {L : Array Bool} {a : Act} {w : World}, wpAnyC P md ops Q C n L a w → wpAny P md ops Q n L a w
  | 0, _, _, _, h => h.2
  | n + 1, _, _, _, h => ⟨h.2.1, fun i hi => wpOp_mono (fun _ _ h => wpAnyC_any h) (h.2.2 i hi)⟩
theorem wpAnyC_ready {n r : Nat} {L : Array Bool} {a : Act} {w : World} (hC : C w) (hr : Region.ready md ops L = [r]) (h : wpOp P ops Q r (wpAnyC P md ops Q C n (L.setIfInBounds r true)) a w) : wpAnyC P md ops Q C (n + 1) L a w :=
  ⟨hC, fun h0 => (by rw [hr] at h0; cases h0), fun i hi => by rw [hr, List.mem_singleton] at hi; subst hi; exact h⟩
theorem wpAnyC_op {n r : Nat} {o : Oper} {L : Array Bool} {a : Act} {w : World} (hC : C w) (hr : Region.ready md ops L = [r]) (ho : ops[r]? = some o) (hw : Region.wanted o (yielded ops a.tmps) = true)
    (h : ∀ K : Act → World → Prop, (∀ a' w', wpAnyC P md ops Q C n (L.setIfInBounds r true) a' w' → K a' w') → o.wp P a w K Q) : wpAnyC P md ops Q C (n + 1) L a w := by
  refine wpAnyC_ready hC hr ?_
  unfold wpOp
  simp only [ho, hw, if_true]
  exact .inl (h _ fun _ _ h => h)
theorem wpAnyC_end {L : Array Bool} {a : Act} {w : World} (hC : C w) (hr : Region.ready md ops L = []) (h : Q .normal a w) : wpAnyC P md ops Q C 0 L a w := ⟨hC, hr, h⟩
theorem wpAnyC_at {n : Nat} {L : Array Bool} {a : Act} {w : World} (h : wpAnyC P md ops Q C n L a w) : C w := by cases n <;> exact h.1
/-- Where C holds, the operation yields v and leaves the world as it is. -/
def LoadsC (P : Program) (ops : Array Oper) (C : World → Prop) (o : Oper) (v : Value) (a : Act) : Prop := Region.wanted o (yielded ops a.tmps) = true ∧ ∀ w, C w → (execOp a.eval o).run P w = .ok (.value v) w
theorem wpOp_keep {R : Act → Prop} {j : Nat} {oj : Oper} (hj : ops[j]? = some oj) {K : Act → World → Prop} {a : Act} {w : World} (hk : ∀ u, R (a.put oj.dst u)) (hkD : ∀ d u, R (({ a with defers := d :: a.defers } : Act).put oj.dst u))
    (h : wpOp P ops Q j K a w) : wpOp P ops Q j (fun a' w' => R a' ∧ K a' w') a w := by
  unfold wpOp at *
  simp only [hj] at *
  split
  · rename_i hw
    simp only [hw, if_true] at h
    rcases h with h | h
    · left
      unfold Oper.wp at *
      generalize (execOp a.eval oj).run P w = r at *
      cases r with
      | ok n w' =>
        cases n <;> simp only [Oper.upon] at h ⊢
        case value u => exact ⟨hk u, h⟩
        case skip => exact ⟨hk _, h⟩
        case defer d => exact ⟨hkD d _, h⟩
        case enter f args =>
          refine Calls.mono h fun e w'' he => ?_
          cases e with
          | returned u => exact ⟨hk u, he⟩
          | panicked c => exact he
          | outgrown => exact he
        case row row args => exact Rows.mono h fun u w'' he => ⟨hk u, he⟩
      | halt x w' => cases x <;> exact h
    · exact .inr h
  · rename_i hw
    simp only [hw] at h
    exact ⟨hk _, h⟩
theorem wpOp_putC {j : Nat} {oi oj : Oper} {v : Value} (hj : ops[j]? = some oj) (hap : oi.apart ops oj = true) (hsi : ∀ cs b, oi.op ≠ .select cs b) (hsj : ∀ cs b, oj.op ≠ .select cs b) {K : Act → World → Prop} {a : Act} {w : World}
    (hy : LoadsC P ops C oi v a) (h : wpOp P ops (Only Q) j K (a.put oi.dst v) w) : wpOp P ops (Only Q) j (fun a' w' => LoadsC P ops C oi v a' ∧ K (a'.put oi.dst v) w') a w := by
  obtain ⟨h1, h2, h3⟩ := Oper.apart_spec hap
  refine wpOp_keep hj (fun u => ?_) (fun d u => ?_) ?_
  · exact ⟨by rw [wanted_put oi a oj.dst u h3]; exact hy.1, fun w hC => by rw [execOp_put oi hsi a oj.dst u h3]; exact hy.2 w hC⟩
  · exact ⟨by rw [wanted_put oi _ oj.dst u h3]; exact hy.1, fun w hC => by rw [execOp_put oi hsi _ oj.dst u h3]; exact hy.2 w hC⟩
  · unfold wpOp at *
    simp only [hj] at *
    rw [wanted_put oj a oi.dst v h1] at h
    split
    · rename_i hw
      simp only [hw, if_true] at h
      rcases h with h | ⟨_, hl⟩
      · left
        unfold Oper.wp at *
        rw [execOp_put oj hsj a oi.dst v h1] at h
        generalize (execOp a.eval oj).run P w = r at *
        cases r with
        | ok n w' =>
          cases n <;> simp only [Oper.upon] at h ⊢
          case value u => rw [← Act.put_comm a v u h2]; exact h
          case skip => rw [← Act.put_comm a v undef h2]; exact h
          case defer d => rw [← Act.put_comm _ v undef h2, ← Act.put_defers]; exact h
          case enter f args =>
            refine Calls.mono h fun e w'' he => ?_
            cases e with
            | returned u => show K _ _; rw [← Act.put_comm a v u h2]; exact he
            | panicked c => exact absurd he.1 (by simp)
            | outgrown => exact absurd he only_lets
          case row row args => exact Rows.mono h fun u w'' he => by rw [← Act.put_comm a v u h2]; exact he
        | halt x w' =>
          cases x <;> simp only [Oper.upon] at h ⊢
          case panic u => exact absurd h.1 (by simp)
      · exact absurd hl only_lets
    · rename_i hw
      simp only [hw] at h
      rw [← Act.put_comm a v undef h2]; exact h
theorem LoadsC.op {i : Nat} {o : Oper} {v : Value} {a : Act} (hi : ops[i]? = some o) (hy : LoadsC P ops C o v a) {K : Act → World → Prop} {w : World} (hC : C w) (h : K (a.put o.dst v) w) : wpOp P ops Q i K a w := by
  unfold wpOp
  simp only [hi, hy.1, if_true]
  left
  unfold Oper.wp
  rw [hy.2 w hC]
  exact h
/-- Such a load may be run first. -/
theorem wpAnyC_first {i : Nat} {oi : Oper} {v : Value} (hi : ops[i]? = some oi) (hsel : ∀ (j : Nat) (o : Oper) cs b, ops[j]? = some o → o.op ≠ .select cs b) :
    ∀ (n : Nat) (L : Array Bool) (a : Act) (w : World),
      (∀ j oj, ops[j]? = some oj → j ≠ i → L.getD j true = false → (∀ e ∈ oj.after, Region.binds md e = true → e.on ≠ i) → oi.apart ops oj = true) →
      i ∈ Region.ready md ops L → LoadsC P ops C oi v a → C w →
      wpAnyC P md ops (Only Q) C n (L.setIfInBounds i true) (a.put oi.dst v) w → wpAnyC P md ops (Only Q) C (n + 1) L a w := by
  intro n
  induction n with
  | zero =>
    intro L a w _ hr hy hC H
    refine ⟨hC, fun h => (by rw [h] at hr; cases hr), fun j hj => ?_⟩
    by_cases hji : j = i
    · subst hji; exact hy.op hi hC H
    · have := ready_mono hj hji
      rw [H.2.1] at this
      cases this
  | succ n ih =>
    intro L a w hfree hr hy hC H
    refine ⟨hC, fun h => (by rw [h] at hr; cases hr), fun j hj => ?_⟩
    by_cases hji : j = i
    · subst hji; exact hy.op hi hC H
    · have h1 := H.2.2 j (ready_mono hj hji)
      obtain ⟨hjun, oj, hoj, hall⟩ := mem_ready.1 hj
      have hnot : ∀ e ∈ oj.after, Region.binds md e = true → e.on ≠ i := fun e he hb heq => by
        have h2 := hall e he hb
        have h0 := (mem_ready.1 hr).1
        rw [heq] at h2
        rcases Nat.lt_or_ge i L.size with h' | h'
        · simp [h'] at h0 h2; rw [h0] at h2; cases h2
        · simp [Array.getElem?_eq_none h'] at h2
      have h2 := wpOp_putC hoj (hfree j oj hoj hji hjun hnot) (fun cs b => hsel i oi cs b hi) (fun cs b => hsel j oj cs b hoj) hy h1
      have hfree' : ∀ k ok, ops[k]? = some ok → k ≠ i → (L.setIfInBounds j true).getD k true = false → (∀ e ∈ ok.after, Region.binds md e = true → e.on ≠ i) → oi.apart ops ok = true := fun k ok hk hki hun hno => by
        refine hfree k ok hk hki ?_ hno
        by_cases hjk : j = k
        · subst hjk; exact hjun
        · rw [getD_set_ne true hjk] at hun; exact hun
      have key : ∀ a' w', LoadsC P ops C oi v a' → wpAnyC P md ops (Only Q) C n ((L.setIfInBounds i true).setIfInBounds j true) (a'.put oi.dst v) w' → wpAnyC P md ops (Only Q) C (n + 1) (L.setIfInBounds j true) a' w' := by
        intro a' w' hy' H'
        rw [Array.setIfInBounds_comm _ _ (Ne.symm hji)] at H'
        have hr' := ready_mono hr (Ne.symm hji)
        exact ih (L.setIfInBounds j true) a' w' hfree' hr' hy' (wpAnyC_at H') H'
      exact wpOp_mono (fun a' w' h3 => key a' w' h3.1 h3.2) h2
end
section
variable {P : Program} {md : Region.Mode} {ops : Array Oper} {w0 : World} {fr : Nat → Bool} {p : Nat → Value → World → Prop} {C : World → Prop}
theorem wpAnyC_of_wpR {Q : Exit → Act → World → Prop} (hC : ∀ w, Below w0.heap.size w0 w → C w) {g : Nat} {hs : List Nat} {L : Array Bool} (hsel : Region.noSelect ops = true) (hplain : ∀ h o, h ∈ hs → fr h = false → ops[h]? = some o → plainOp o.op = true)
    (hkeep : ∀ i v w1 w2, p i v w1 → Below w1.heap.size w1 w2 → p i v w2) (hL : L.size = ops.size) :
    ∀ (f : Nat) (M : Array Bool) (l : List Nat) (Γ : Known) (a : Act) (w : World), l.length = f → l.Nodup → l.Pairwise (Pair md ops fr) → (∀ j ∈ l, M.getD j true = false) →
      (∀ j ∈ hs, j ∈ l ∨ M.getD j true = true) → (∀ h ∈ l, Γ h = none) → Hered md ops hs f M → All w0 p Γ w → mark l M = mark hs L →
      wpR P md ops w0 fr p (fun Γ' a' => ∀ w', All w0 p Γ' w' → wpAnyC P md ops Q C g (mark hs L) a' w') l Γ a → wpAnyC P md ops Q C (f + g) M a w := by
  intro f
  induction f with
  | zero =>
    intro M l Γ a w hlen _ _ _ _ _ _ hall hmk H
    obtain rfl := List.length_eq_zero_iff.1 hlen
    rw [Nat.zero_add, show M = mark hs L from hmk]
    exact H w hall
  | succ f ih =>
    intro M l Γ a w hlen hnd hpw hun hcov hΓ hh hall hmk H
    rw [show f + 1 + g = (f + g) + 1 by omega]
    refine ⟨hC _ hall.1, fun h0 => absurd h0 hh.1, fun i hi => ?_⟩
    obtain ⟨hiu, oi, hoi, hdeps⟩ := mem_ready.1 hi
    have hil : i ∈ l := by
      rcases hcov i (hh.2.1 i hi) with h1 | h1
      · exact h1
      · rw [h1] at hiu; cases hiu
    have hiM : i < M.size := by
      rcases Nat.lt_or_ge i M.size with h' | h'
      · exact h'
      · simp [Array.getElem?_eq_none h'] at hiu
    have H1 := wpR_pull hsel hkeep hoi l Γ a hil hnd hpw (fun j hj => waits_dep hdeps (hun j hj)) hΓ ⟨w, hall⟩ H
    have hle : (l.erase i).length = f := by rw [List.length_erase_of_mem hil]; omega
    have next : ∀ Γ' a' w', (∀ h ∈ l.erase i, Γ' h = none) → All w0 p Γ' w' → wpR P md ops w0 fr p (fun Γ' a' => ∀ w', All w0 p Γ' w' → wpAnyC P md ops Q C g (mark hs L) a' w') (l.erase i) Γ' a' →
        wpAnyC P md ops Q C (f + g) (M.setIfInBounds i true) a' w' := fun Γ' a' w' hΓ' hall' H' =>
      ih (M.setIfInBounds i true) (l.erase i) Γ' a' w' hle (hnd.erase i) (hpw.sublist List.erase_sublist) (fun j hj => by
          have hne : j ≠ i := by rintro rfl; exact (List.Nodup.not_mem_erase hnd) hj
          rw [getD_set_ne true (Ne.symm hne)]; exact hun j (List.mem_of_mem_erase hj))
        (fun j hj => by
          by_cases hji : j = i
          · subst hji; right; simp
          · rcases hcov j hj with h1 | h1
            · left; exact (List.mem_erase_of_ne hji).2 h1
            · right; rw [getD_set_ne true (Ne.symm hji)]; exact h1)
        hΓ' (hh.2.2.2 i hi) hall' (by
          rw [← hmk]
          have key : ∀ (l : List Nat) (M : Array Bool), i ∈ l → mark l M = mark (l.erase i) (M.setIfInBounds i true) := by
            intro l
            induction l with
            | nil => intro M h; cases h
            | cons x l ihl =>
              intro M h
              by_cases hx : x = i
              · subst hx; simp [mark]
              · rw [List.erase_cons_tail (by simpa using hx)]
                simp only [mark, List.foldl_cons]
                have h2 := ihl (M.setIfInBounds x true) (by simpa [Ne.symm hx] using h)
                simp only [mark] at h2
                rw [h2, Array.setIfInBounds_comm _ _ hx]
          exact (key l M hil).symm) H'
    have hΓe : ∀ h ∈ l.erase i, Γ h = none := fun h hh' => hΓ h (List.mem_of_mem_erase hh')
    unfold wpR oneR at H1
    simp only [hoi] at H1
    unfold wpOp
    simp only [hoi]
    split
    · rename_i hwant
      rw [if_pos hwant] at H1
      left
      split at H1
      · rename_i hf
        obtain ⟨h1, h2⟩ := H1
        have h3 := h1 w (hall.cl oi)
        have go : ∀ u w'', Below w.heap.size w w'' → p i u w'' → wpAnyC P md ops Q C (f + g) (M.setIfInBounds i true) (a.put oi.dst u) w'' := by
          intro u w'' hb hq
          have hall' : All w0 p (upd Γ i u) w'' := ⟨hall.1.trans (hb.mono hall.1.size), fun k v hk => by
            unfold upd at hk
            by_cases hki : k = i
            · subst hki; rw [if_pos rfl] at hk; cases hk; exact hq
            · rw [if_neg hki] at hk; exact hkeep _ _ _ _ (hall.2 k v hk) hb⟩
          refine next _ _ _ (fun k hk => ?_) hall' (h2 u ⟨w'', hall'⟩)
          unfold upd
          rw [if_neg (by rintro rfl; exact (List.Nodup.not_mem_erase hnd) hk)]
          exact hΓe k hk
        unfold freshAt at h3
        unfold Oper.wp
        generalize (execOp a.eval oi).run P w = r at h3 ⊢
        cases r with
        | halt x w' => exact h3.elim
        | ok n w' =>
          cases n <;> simp only at h3
          case value u => exact go u w' h3.1 h3.2
          case enter fn args =>
            obtain ⟨rfl, hc⟩ := h3
            exact hc.mono fun e w'' ⟨u, he, hb, hq⟩ => by subst he; exact go u w'' hb hq
      · rename_i hf
        obtain ⟨v, h1, h2⟩ := H1 ⟨w, hall.cl oi⟩
        have h3 := h1 w (hall.cl oi)
        unfold Oper.quietAt at h3
        unfold Oper.wp
        generalize hr : (execOp a.eval oi).run P w = r at h3 ⊢
        cases r with
        | halt x w' => simp only [Oper.quietUpon] at h3
        | ok n w' =>
          cases n <;> simp only [Oper.quietUpon] at h3
          case value u =>
            obtain ⟨rfl, rfl⟩ := h3
            exact next _ _ _ hΓe hall h2
          case skip =>
            obtain ⟨rfl, rfl⟩ := h3
            exact next _ _ _ hΓe hall h2
          case enter fn args => exact absurd hr (plain_ne (hplain i oi (hh.2.1 i hi) (by simpa using hf) hoi) _)
    · rename_i hwant
      rw [if_neg hwant] at H1
      exact next _ _ _ hΓe hall H1

theorem wpAnyC_R {Q : Exit → Act → World → Prop} (hC : ∀ w, Below w0.heap.size w0 w → C w) {L : Array Bool} {a : Act} {w : World} (fs : List Nat) (hs : List Nat) (g : Nat)
    (hkeep : ∀ i v w1 w2, p i v w1 → Below w1.heap.size w1 w2 → p i v w2)
    (hB : (groupB md ops L hs && pairsB md ops (fs.contains ·) hs && plainsB ops (fs.contains ·) hs) = true) (hw : Below w0.heap.size w0 w)
    (h : wpR P md ops w0 (fs.contains ·) p (fun Γ' a' => ∀ w', All w0 p Γ' w' → wpAnyC P md ops Q C g (mark hs L) a' w') hs (fun _ => none) a) : wpAnyC P md ops Q C (hs.length + g) L a w := by
  simp only [Bool.and_eq_true] at hB
  obtain ⟨⟨hG, hP⟩, hPl⟩ := hB
  have hG' := hG
  simp only [groupB, Bool.and_eq_true, decide_eq_true_eq] at hG'
  obtain ⟨⟨⟨⟨hsz, hsel⟩, hcl⟩, hout⟩, hord⟩ := hG'
  obtain ⟨hnd, hmem, hpre⟩ := orderB_spec hord
  have hleft : left hs L = hs.length := by
    unfold left
    rw [List.filter_eq_self.2 (fun j hj => by rw [(hmem j hj).2.1]; rfl)]
  have hsh : Shut md ops L := by
    intro j o ho hj e he hb
    have hjo : j < ops.size := by
      rcases Nat.lt_or_ge j ops.size with h' | h'
      · exact h'
      · simp [Array.getElem?_eq_none h'] at ho
    have h1 := List.all_eq_true.1 hcl j (List.mem_range.2 hjo)
    simp only [hj, ho, Bool.not_true, Bool.false_or] at h1
    simpa [hb] using Array.all_eq_true'.1 h1 e he
  have hh := hered_of hG hs.length L hleft hsh hsz (fun j hj => .inl hj) (fun j hj => hj)
  refine wpAnyC_of_wpR hC (hs := hs) (L := L) hsel (fun k o hk hf ho => ?_) hkeep hsz hs.length L hs (fun _ => none) a w rfl hnd (pairs_of hP) (fun j hj => (hmem j hj).2.1)
    (fun j hj => .inl hj) (fun _ _ => rfl) hh ⟨hw, fun _ _ hg => by cases hg⟩ rfl h
  have := List.all_eq_true.1 hPl k hk
  simp only [show (fs.contains k) = false from hf, ho, Bool.false_or] at this
  exact this

end

section
variable {P : Program} {md : Region.Mode} {ops : Array Oper} {C : World → Prop}
/-- These loads, one behind the other. -/
def wpFirstC (P : Program) (ops : Array Oper) (C : World → Prop) : List Nat → (Act → Prop) → Act → Prop
  | [], H, a => H a
  | i :: is, H, a => ∃ o v, ops[i]? = some o ∧ LoadsC P ops C o v a ∧ wpFirstC P ops C is H (a.put o.dst v)
theorem wpFirstC_any {Q : Exit → Act → World → Prop} (hsel : Region.noSelect ops = true) {w : World} (hC : C w) {n : Nat} {H : Act → Prop} : ∀ (fs : List Nat) (L : Array Bool) (a : Act), firstB md ops fs L = true →
    (∀ a, H a → wpAnyC P md ops (Only Q) C n (mark fs L) a w) → wpFirstC P ops C fs H a → wpAnyC P md ops (Only Q) C (fs.length + n) L a w
  | [], L, a, _, hH, h => by simpa using hH a h
  | i :: is, L, a, hb, hH, h => by
    obtain ⟨o, v, ho, hy, h⟩ := h
    simp only [firstB, Bool.and_eq_true, ho] at hb
    obtain ⟨⟨hr, hf⟩, hb⟩ := hb
    have hr2 : i ∈ Region.ready md ops L := by simpa using hr
    have ih := wpFirstC_any hsel hC is (L.setIfInBounds i true) _ hb hH h
    rw [List.length_cons, show is.length + 1 + n = is.length + n + 1 by omega]
    exact wpAnyC_first ho (Region.noSelect_spec hsel) _ L a w (fun j oj hj hne hun hno => freeB_spec ho hf hr2 j oj hj hne hun hno) hr2 hy hC ih
end
theorem wpAny_G {P : Program} {Q : Exit → Act → World → Prop} {a : Act} {w : World} {l : List Oper} (C : World → Prop) (hC : ∀ w', Below w.heap.size w w' → C w') (fs : List Nat)
    (hF : (Region.noSelect l.toArray && firstB .any l.toArray fs (Array.replicate l.length false)) = true)
    (ps : List (Nat × (Value → World → Prop))) (hs : List Nat) (g : Nat)
    (hn : fs.length + (hs.length + g) = l.length) (hkeep : ∀ x ∈ ps, Keeps x.2)
    (hB : (groupB .any l.toArray (mark fs (Array.replicate l.length false)) hs && pairsB .any l.toArray ((ps.map (·.1)).contains ·) hs && plainsB l.toArray ((ps.map (·.1)).contains ·) hs) = true)
    (h : wpFirstC P l.toArray C fs (fun a => wpS P .any l.toArray w ((ps.map (·.1)).contains ·) (pOf ps) (fun Γ' a' => ∀ w', All w (pOf ps) Γ' w' → wpAnyC P .any l.toArray (Only Q) C g (mark hs (mark fs (Array.replicate l.length false))) a' w') (numbered l.toArray hs) (fun _ => none) a) a) :
    wpAny P .any l.toArray (Only Q) l.toArray.size (Array.replicate l.toArray.size false) a w.drew := by
  simp only [Bool.and_eq_true] at hF
  have h1 := wpFirstC_any (P := P) (Q := Q) (md := .any) (C := C) hF.1 (w := w.drew) (hC _ (Below.refl _ w).drew) (n := hs.length + g) fs (Array.replicate l.length false) a hF.2 (fun a h => ?_) h
  · rw [hn] at h1
    simpa using wpAnyC_any h1
  · have h2 := wpR_of_wpS (fun k hk => by
      simp only [groupB, Bool.and_eq_true] at hB
      obtain ⟨_, hmem, _⟩ := orderB_spec hB.1.1.2
      exact (hmem k hk).2.2) h
    exact wpAnyC_R (P := P) (Q := Only Q) (w0 := w) (w := w.drew) (a := a) hC (ps.map (·.1)) hs g (pOf_keeps hkeep) hB (Below.refl _ w).drew h2
theorem wp_region_G {P : Program} {id : Nat} {Q : Exit → Act → World → Prop} {a : Act} {w : World} {l : List Oper} (C : World → Prop) (hC : ∀ w', Below w.heap.size w w' → C w') (fs : List Nat)
    (hF : (Region.noSelect l.toArray && firstB .any l.toArray fs (Array.replicate l.length false)) = true)
    (ps : List (Nat × (Value → World → Prop))) (hs : List Nat) (g : Nat) (hm : P.follows .mixedOrders = true)
    (hn : fs.length + (hs.length + g) = l.length) (hkeep : ∀ x ∈ ps, Keeps x.2)
    (hB : (groupB .any l.toArray (mark fs (Array.replicate l.length false)) hs && pairsB .any l.toArray ((ps.map (·.1)).contains ·) hs && plainsB l.toArray ((ps.map (·.1)).contains ·) hs) = true)
    (h : wpFirstC P l.toArray C fs (fun a => wpS P .any l.toArray w ((ps.map (·.1)).contains ·) (pOf ps) (fun Γ' a' => ∀ w', All w (pOf ps) Γ' w' → wpAnyC P .any l.toArray (Only Q) C g (mark hs (mark fs (Array.replicate l.length false))) a' w') (numbered l.toArray hs) (fun _ => none) a) a) :
    (Code.region id l.toArray true).wp P Q a w := wp_region_any hm (wpAny_only (wpAny_G C hC fs hF ps hs g hn hkeep hB h))
/-- The same in the body of a range over a function. -/
theorem wpIn_region_G {P : Program} {id : Nat} {Q : Exit → Act → World → Prop} {a : Act} {w : World} {l : List Oper} {lv n : Nat} (hd : noDefer l = true) (C : World → Prop) (hC : ∀ w', Below w.heap.size w w' → C w') (fs : List Nat)
    (hF : (Region.noSelect l.toArray && firstB .any l.toArray fs (Array.replicate l.length false)) = true)
    (ps : List (Nat × (Value → World → Prop))) (hs : List Nat) (g : Nat) (hm : P.follows .mixedOrders = true)
    (hn : fs.length + (hs.length + g) = l.length) (hkeep : ∀ x ∈ ps, Keeps x.2)
    (hB : (groupB .any l.toArray (mark fs (Array.replicate l.length false)) hs && pairsB .any l.toArray ((ps.map (·.1)).contains ·) hs && plainsB l.toArray ((ps.map (·.1)).contains ·) hs) = true)
    (h : wpFirstC P l.toArray C fs (fun a => wpS P .any l.toArray w ((ps.map (·.1)).contains ·) (pOf ps) (fun Γ' a' => ∀ w', All w (pOf ps) Γ' w' → wpAnyC P .any l.toArray (Only Q) C g (mark hs (mark fs (Array.replicate l.length false))) a' w') (numbered l.toArray hs) (fun _ => none) a) a) :
    (Code.region id l.toArray true).wpIn (Fence.wide.inRound lv) n P Q a w :=
  Go.wpIn_mono (Q := Only Q) (wpIn_region_any hm (wpAny_inRound (fun i o ho => noDefer_ne hd ho) (fun h => only_lets h) _ _ _ _ (wpAny_G C hC fs hF ps hs g hn hkeep hB h))) (fun e a w h => by obtain ⟨rfl, h⟩ := h; exact h)
end Go.Pb

/- The plain mathematics of layer 2 (saggar), part 9: whether there is a packing does not hang on the order of the items. -/
namespace Go.Pb.Sag
open Go Go.Pb Go.Pb.Ware Go.RowKit
set_option linter.unusedVariables false
theorem packs_cons {l : List Sp} {ls : List (List Sp)} {u : Nat} : packsF (l :: ls) u ≠ [] ↔ ∃ a ∈ l, u &&& a.2 = 0 ∧ packsF ls (u ||| a.2) ≠ [] := by
  rw [packsF]
  constructor
  · intro h
    obtain ⟨x, hx⟩ := List.exists_mem_of_ne_nil _ h
    obtain ⟨a, ha, hxa⟩ := List.mem_flatMap.1 hx
    refine ⟨a, ha, ?_⟩
    by_cases hm : (u &&& a.2 != 0) = true
    · rw [if_pos hm] at hxa; cases hxa
    · rw [if_neg hm] at hxa
      refine ⟨by simpa using hm, fun e => ?_⟩
      rw [e] at hxa; cases hxa
  · rintro ⟨a, ha, h0, hne⟩ e
    obtain ⟨x, hx⟩ := List.exists_mem_of_ne_nil _ hne
    have h1 : a.1 :: x ∈ l.flatMap fun a => if (u &&& a.2 != 0) = true then [] else (packsF ls (u ||| a.2)).map (a.1 :: ·) := by
      refine List.mem_flatMap.2 ⟨a, ha, ?_⟩
      rw [if_neg (by simp [h0])]
      exact List.mem_map.2 ⟨x, hx, rfl⟩
    rw [e] at h1; cases h1
theorem or_and_zero {u a b : Nat} : (u ||| a) &&& b = 0 ↔ u &&& b = 0 ∧ a &&& b = 0 := by
  rw [Nat.and_or_distrib_right, Nat.or_eq_zero_iff]
theorem packs_swap {l1 l2 : List Sp} {ls : List (List Sp)} {u : Nat} (h : packsF (l1 :: l2 :: ls) u ≠ []) : packsF (l2 :: l1 :: ls) u ≠ [] := by
  obtain ⟨a, ha, h0, h1⟩ := packs_cons.1 h
  obtain ⟨b, hb, h2, h3⟩ := packs_cons.1 h1
  obtain ⟨h4, h5⟩ := or_and_zero.1 h2
  refine packs_cons.2 ⟨b, hb, h4, packs_cons.2 ⟨a, ha, or_and_zero.2 ⟨h0, by rw [Nat.and_comm]; exact h5⟩, ?_⟩⟩
  have e : u ||| b.2 ||| a.2 = u ||| a.2 ||| b.2 := by rw [Nat.or_assoc, Nat.or_comm b.2, ← Nat.or_assoc]
  rw [e]; exact h3
theorem packs_perm {l m : List (List Sp)} (h : l.Perm m) : ∀ u, packsF l u ≠ [] → packsF m u ≠ [] := by
  induction h with
  | nil => exact fun _ h => h
  | cons x _ ih =>
    intro u h
    obtain ⟨a, ha, h0, h1⟩ := packs_cons.1 h
    exact packs_cons.2 ⟨a, ha, h0, ih _ h1⟩
  | swap x y l => exact fun u h => packs_swap h
  | trans _ _ ih1 ih2 => exact fun u h => ih2 u (ih1 u h)
/-- Fewer items have a packing where more have one. -/
theorem packs_more {l m : List (List Sp)} (h : l.Sublist m) : ∀ (u v : Nat), u &&& v = u → packsF m v ≠ [] → packsF l u ≠ [] := by
  have key : ∀ {u v b : Nat}, u &&& v = u → v &&& b = 0 → u &&& b = 0 := fun {u v b} h1 h2 => by rw [← h1, Nat.and_assoc, h2, Nat.and_zero]
  have grow : ∀ {u v b : Nat}, u &&& v = u → (u ||| b) &&& (v ||| b) = u ||| b := fun {u v b} h1 => by rw [← Nat.or_and_distrib_right, h1]
  have wide : ∀ {u v b : Nat}, u &&& v = u → u &&& (v ||| b) = u := fun {u v b} h1 => by
    rw [Nat.and_or_distrib_left, h1]
    apply Nat.eq_of_testBit_eq
    intro i
    rw [Nat.testBit_or, Nat.testBit_and]
    cases u.testBit i <;> simp
  induction h with
  | slnil => exact fun u v _ h => by rw [packsF]; simp
  | cons x _ ih =>
    intro u v huv h
    obtain ⟨a, ha, h0, h1⟩ := packs_cons.1 h
    exact ih _ _ (wide huv) h1
  | cons_cons x _ ih =>
    intro u v huv h
    obtain ⟨a, ha, h0, h1⟩ := packs_cons.1 h
    exact packs_cons.2 ⟨a, ha, key huv h0, ih _ _ (grow huv) h1⟩
end Go.Pb.Sag

/- Sorting feet: what the library's contract wants and gives, in the words of feet. -/
namespace Go.Pb.Sag
open Go Go.Pb Go.Pb.Ware Go.RowKit Go.Proofs Go.Sort
set_option linter.unusedVariables false
abbrev FtV := {f : Ft // FtOk f}
instance : Inhabited FtV := ⟨⟨⟨1, 1, 0, 0⟩, by unfold FtOk; simp⟩⟩
def encF (f : FtV) : List Value := cellsF f.1
def cmpF (x y : FtV) : Int := y.1.wide * y.1.deep - x.1.wide * x.1.deep
theorem cmpF_swo : SWO (ltOf cmpF) where
  irrefl x := by unfold ltOf cmpF; simp
  trans x y z h1 h2 := by unfold ltOf cmpF at *; simp only [decide_eq_true_eq] at *; omega
  ntrans x y z h1 h2 := by unfold ltOf cmpF at *; simp only [decide_eq_false_iff_not] at *; omega
def valF (fs : List Ft) (hok : ∀ f ∈ fs, FtOk f) : Array FtV := (fs.attachWith FtOk hok).toArray
theorem valF_size (fs : List Ft) (hok : ∀ f ∈ fs, FtOk f) : (valF fs hok).size = fs.length := by simp [valF]
theorem valF_map (fs : List Ft) (hok : ∀ f ∈ fs, FtOk f) : (valF fs hok).toList.map (·.1) = fs := by unfold valF; simp
theorem owns_frozen {w : World} {base size n g : Nat} {e : TypeId} {v : Value} {xs : List Value} (h : w.ownsRow base e size v n xs) (hg : v.ownBlock = some g) (o : Nat) : w.frozen? ⟨g, o, none⟩ = false := by
  rcases h.2 with ⟨rfl, _⟩ | ⟨g', cap, cur, rfl, _, hgb, _⟩
  · simp [Value.ownBlock] at hg
  · obtain rfl : g' = g := by simpa [Value.ownBlock] using hg
    simp [World.frozen?, hgb]
theorem holdsF {w : World} {base b cap : Nat} {e : TypeId} {fs : List Ft} (hok : ∀ f ∈ fs, FtOk f) (h : w.ownsRow base e 4 (.slice (some ⟨b, 0, none⟩) fs.length cap) fs.length (fs.flatMap cellsF)) : HoldsK encF 4 w b 0 (valF fs hok) := by
  intro t ht
  rw [size_flatK, valF_size] at ht
  refine ⟨?_, owns_frozen h rfl _⟩
  rw [get_flatK _ _ _ _ (by rw [valF_size]; exact ht)]
  have hk : t / 4 < fs.length := by omega
  have hk2 : t / 4 < (valF fs hok).size := by rw [valF_size]; exact hk
  have hf : ((valF fs hok)[t / 4]!).1 = fs[t / 4] := by
    rw [getElem!_pos (valF fs hok) (t / 4) hk2]
    have h1 : ((valF fs hok).toList.map (·.1))[t / 4]? = some fs[t / 4] := by rw [valF_map]; exact List.getElem?_eq_getElem hk
    rw [List.getElem?_map, Array.getElem?_toList, Array.getElem?_eq_getElem hk2] at h1
    simpa using h1
  have hu : (cellsF fs[t / 4])[t % 4]? = some ((encF (valF fs hok)[t / 4]!)[t % 4]!) := by
    unfold encF; rw [hf]
    have hlt : t % 4 < (cellsF fs[t / 4]).length := by show t % 4 < 4; omega
    rw [getElem!_pos (cellsF fs[t / 4]) (t % 4) hlt, List.getElem?_eq_getElem hlt]
  have h2 := h.cells (g := b) rfl t _ (by
    have h3 := flat_get (n := 4) cellsF (fun _ => rfl) (List.getElem?_eq_getElem hk) (j := t % 4) (by omega)
    rw [show t / 4 * 4 + t % 4 = t by omega] at h3
    rw [h3]; exact hu)
  rw [Go.WideShapes.add_plain] at h2
  exact h2
theorem feetAt_holds {w : World} {b n cap : Nat} {d : Array FtV} (hn : d.size = n) (hcap : n ≤ cap) (hcap2 : cap ≤ 9223372036854775807) (h : HoldsK encF 4 w b 0 d) : FeetAt w (.slice (some ⟨b, 0, none⟩) n cap) (d.toList.map (·.1)) := by
  subst hn
  refine .inr ⟨⟨b, 0, none⟩, cap, by simp, by simpa using hcap, hcap2, fun k r hr => ?_⟩
  rw [List.getElem?_map, List.getElem?_map, Array.getElem?_toList] at hr
  have hk : k < d.size := by
    rcases Nat.lt_or_ge k d.size with h1 | h1
    · exact h1
    · rw [Array.getElem?_eq_none h1] at hr; simp at hr
  rw [Array.getElem?_eq_getElem hk] at hr
  have hr2 : rowF d[k].1 = r := by simpa using hr
  subst hr2
  refine ⟨rfl, fun j z hz => ⟨?_, i64F d[k].2 z (List.mem_of_getElem? hz)⟩⟩
  have hj : j < 4 := (List.getElem?_eq_some_iff.1 hz).1
  have h1 := (h.cell hk hj).1
  rw [Go.WideShapes.add_plain, show 0 + (k * 4 + j) = 0 + k * 4 + j by omega, h1, getElem!_pos d k hk]
  unfold encF
  have h2 : (cellsF d[k].1)[j]? = some (.int .i64 z) := by
    have : cellsF d[k].1 = (rowF d[k].1).map (.int .i64) := rfl
    rw [this, List.getElem?_map, hz]; rfl
  have hlt : j < (cellsF d[k].1).length := hj
  rw [getElem!_pos (cellsF d[k].1) j hlt, ← List.getElem?_eq_getElem hlt, h2]
theorem permF {fs : List Ft} {hok : ∀ f ∈ fs, FtOk f} {d : Array FtV} (h : PermIn 0 (valF fs hok).size (valF fs hok) d) : d.size = fs.length ∧ (d.toList.map (·.1)).Perm fs := by
  obtain ⟨h1, _, h3⟩ := h
  refine ⟨by rw [h1, valF_size], ?_⟩
  have e1 : d.extract 0 (valF fs hok).size = d := by rw [← h1]; simp
  have e2 : (valF fs hok).extract 0 (valF fs hok).size = valF fs hok := by simp
  rw [e1, e2] at h3
  have h4 := h3.map (fun x : FtV => x.1)
  rw [valF_map] at h4
  exact h4
theorem below_sort {w : World} {B b m : Nat} {d : Array FtV} {os : Array Obj} (hb : B ≤ b) (hB : B ≤ w.heap.size) : Below B w (sortWorldK encF 4 w b 0 m d os) := by
  refine ⟨rfl, rfl, rfl, size_sortWorldK_c .., fun k hk => ?_⟩
  unfold sortWorldK
  rw [heap_grow_old _ _ (by simp [putRowK]; omega)]
  unfold putRowK putRow mapBlock
  rw [Array.getElem?_modify, if_neg (by omega)]
  rfl
end Go.Pb.Sag
namespace Go.Pb.Sag
open Go Go.Pb Go.Pb.Ware Go.RowKit
theorem sum_perm {l m : List Int} (h : l.Perm m) : l.sum = m.sum := by
  induction h with
  | nil => rfl
  | cons x _ ih => rw [List.sum_cons, List.sum_cons, ih]
  | swap x y l => simp only [List.sum_cons]; omega
  | trans _ _ h1 h2 => exact h1.trans h2
/-- Is there a packing? -/
def fitsB (s : Bx) (fs : List Ft) : Bool := !(shownL s fs).isEmpty
theorem plain_perm {s : Bx} {fs gs : List Ft} (h : gs.Perm fs) : plainB s gs = plainB s fs := by
  have h1 : ∀ p : Ft → Bool, gs.any p = fs.any p := fun p => by
    rw [Bool.eq_iff_iff, List.any_eq_true, List.any_eq_true]
    exact ⟨fun ⟨x, hx, e⟩ => ⟨x, h.mem_iff.1 hx, e⟩, fun ⟨x, hx, e⟩ => ⟨x, h.mem_iff.2 hx, e⟩⟩
  have h2 : weightL gs = weightL fs := sum_perm (h.map _)
  have h3 : areaL gs = areaL fs := sum_perm (h.map _)
  have h4 : ∀ k, troubleB s gs k = troubleB s fs k := fun k => by unfold troubleB; rw [h1, h1, h2, h3]
  unfold plainB; rw [h4, h4, h4, h4]
theorem fits_perm {s : Bx} {fs gs : List Ft} (h : gs.Perm fs) : fitsB s gs = fitsB s fs := by
  have key : ∀ {fs gs : List Ft}, gs.Perm fs → shownL s gs ≠ [] → shownL s fs ≠ [] := by
    intro fs gs h h1
    unfold shownL at h1 ⊢
    rw [plain_perm h] at h1
    split at h1
    · exact absurd rfl h1
    · rename_i hp; rw [if_neg hp]; exact packs_perm (h.map _) 0 h1
  unfold fitsB
  rw [Bool.eq_iff_iff]
  simp only [Bool.not_eq_true', List.isEmpty_eq_false_iff]
  exact ⟨key h, key h.symm⟩
theorem fits_none {s : Bx} {fs : List Ft} (h : (shownL s fs)[0]? = none) : fitsB s fs = false := by
  unfold fitsB; cases hs : shownL s fs with
  | nil => rfl
  | cons a l => rw [hs] at h; simp at h
theorem fits_some {s : Bx} {fs : List Ft} {q : List St} (h : (shownL s fs)[0]? = some q) : fitsB s fs = true := by
  unfold fitsB; cases hs : shownL s fs with
  | nil => rw [hs] at h; simp at h
  | cons a l => rfl
end Go.Pb.Sag

/- The library's contracts of slices.SortFunc at slices of feet, at this translation's numbers. -/
namespace Go.Proofs
open Go.Shelf
def Try.lays125_ren : Go.Shelf.Ren := ⟨fun | 125 => 85 | 128 => 101 | 129 => 102 | n => n, fun | 46 => 140 | 3 => 3 | 51 => 163 | 53 => 124 | 4 => 4 | 5 => 5 | 9 => 9 | n => n, fun | n => n⟩
theorem Try.lays125 : Go.Proofs.Lays.n125 Try.prog Try.lays125_ren := {
  mixed := by kernel_rfl
  f125 := Try.func85.trans (congrArg some (by kernel_rfl))
  f128 := Try.func101.trans (congrArg some (by kernel_rfl))
  f129 := Try.func102.trans (congrArg some (by kernel_rfl))
  t3 := Try.underlying3
  a3 := Try.isAgg3
  z3 := Try.sizeOf3
  v3 := Try.zeroValue3
  t4 := Try.underlying4
  a4 := Try.isAgg4
  z4 := Try.sizeOf4
  v4 := Try.zeroValue4
  t5 := Try.underlying5
  a5 := Try.isAgg5
  z5 := Try.sizeOf5
  v5 := Try.zeroValue5
  t9 := Try.underlying9
  a9 := Try.isAgg9
  z9 := Try.sizeOf9
  v9 := Try.zeroValue9
  t46 := Try.underlying140
  a46 := Try.isAgg140
  z46 := Try.sizeOf140
  v46 := Try.zeroValue140
  t51 := Try.underlying163
  a51 := Try.isAgg163
  z51 := Try.sizeOf163
  v51 := Try.zeroValue163
  t53 := Try.underlying124
  a53 := Try.isAgg124
  z53 := Try.sizeOf124
  v53 := Try.zeroValue124 }
theorem Try.bits_Len (x : Int) (w : World) (h0 : 0 ≤ x) (h1 : x ≤ 18446744073709551615) :
    Calls Try.prog 85 #[.int .u64 x] w fun e w' => e = .returned (.int .i64 (Lib.bitLen x.toNat)) ∧ w' = w := Any.bits_Len Try.lays125 x w h0 h1
def Try.sortFeet_ren : Go.Shelf.Ren := ⟨fun | 6 => 68 | 15 => 85 | 14 => 84 | 28 => 101 | 29 => 102 | 20 => 93 | 21 => 94 | 22 => 95 | 23 => 96 | 24 => 97 | 25 => 98 | 26 => 99 | 27 => 100 | 46 => 104 | 47 => 105 | 48 => 106 | 49 => 107 | 50 => 108 | 57 => 110 | n => n, fun | 22 => 84 | 24 => 62 | 25 => 138 | 3 => 3 | 39 => 140 | 0 => 0 | 53 => 163 | 55 => 124 | 4 => 4 | 46 => 178 | 45 => 177 | 50 => 182 | 5 => 5 | 9 => 9 | 66 => 187 | 70 => 191 | 76 => 194 | 77 => 172 | n => n, fun | n => n⟩
theorem Try.sortFeet : Go.Proofs.SlLaysF0.n6 Try.prog Try.sortFeet_ren := {
  mixed := by kernel_rfl
  f6 := ⟨Try.f68.name, by decide, Try.func68.trans (congrArg some (by kernel_rfl))⟩
  f14 := ⟨Try.f84.name, by decide, Try.func84.trans (congrArg some (by kernel_rfl))⟩
  f15 := Try.func85.trans (congrArg some (by kernel_rfl))
  f20 := ⟨Try.f93.name, by decide, Try.func93.trans (congrArg some (by kernel_rfl))⟩
  f21 := ⟨Try.f94.name, by decide, Try.func94.trans (congrArg some (by kernel_rfl))⟩
  f22 := ⟨Try.f95.name, by decide, Try.func95.trans (congrArg some (by kernel_rfl))⟩
  f23 := ⟨Try.f96.name, by decide, Try.func96.trans (congrArg some (by kernel_rfl))⟩
  f24 := ⟨Try.f97.name, by decide, Try.func97.trans (congrArg some (by kernel_rfl))⟩
  f25 := ⟨Try.f98.name, by decide, Try.func98.trans (congrArg some (by kernel_rfl))⟩
  f26 := ⟨Try.f99.name, by decide, Try.func99.trans (congrArg some (by kernel_rfl))⟩
  f27 := ⟨Try.f100.name, by decide, Try.func100.trans (congrArg some (by kernel_rfl))⟩
  f28 := Try.func101.trans (congrArg some (by kernel_rfl))
  f29 := Try.func102.trans (congrArg some (by kernel_rfl))
  f46 := ⟨Try.f104.name, by decide, Try.func104.trans (congrArg some (by kernel_rfl))⟩
  f47 := Try.func105.trans (congrArg some (by kernel_rfl))
  f48 := Try.func106.trans (congrArg some (by kernel_rfl))
  f49 := ⟨Try.f107.name, by decide, Try.func107.trans (congrArg some (by kernel_rfl))⟩
  f50 := ⟨Try.f108.name, by decide, Try.func108.trans (congrArg some (by kernel_rfl))⟩
  f57 := ⟨Try.f110.name, by decide, Try.func110.trans (congrArg some (by kernel_rfl))⟩
  t0 := Try.underlying0
  a0 := Try.isAgg0
  z0 := Try.sizeOf0
  v0 := Try.zeroValue0
  t3 := Try.underlying3
  a3 := Try.isAgg3
  z3 := Try.sizeOf3
  v3 := Try.zeroValue3
  t4 := Try.underlying4
  a4 := Try.isAgg4
  z4 := Try.sizeOf4
  v4 := Try.zeroValue4
  t5 := Try.underlying5
  a5 := Try.isAgg5
  z5 := Try.sizeOf5
  v5 := Try.zeroValue5
  t9 := Try.underlying9
  a9 := Try.isAgg9
  z9 := Try.sizeOf9
  v9 := Try.zeroValue9
  t22 := Try.underlying84
  a22 := Try.isAgg84
  z22 := Try.sizeOf84
  v22 := Try.zeroValue84
  t25 := Try.underlying138
  a25 := Try.isAgg138
  z25 := Try.sizeOf138
  v25 := Try.zeroValue138
  t39 := Try.underlying140
  a39 := Try.isAgg140
  z39 := Try.sizeOf140
  v39 := Try.zeroValue140
  t45 := Try.underlying177
  a45 := Try.isAgg177
  z45 := Try.sizeOf177
  v45 := Try.zeroValue177
  t46 := Try.underlying178
  a46 := Try.isAgg178
  z46 := Try.sizeOf178
  v46 := Try.zeroValue178
  t50 := Try.underlying182
  a50 := Try.isAgg182
  z50 := Try.sizeOf182
  v50 := Try.zeroValue182
  t53 := Try.underlying163
  a53 := Try.isAgg163
  z53 := Try.sizeOf163
  v53 := Try.zeroValue163
  t55 := Try.underlying124
  a55 := Try.isAgg124
  z55 := Try.sizeOf124
  v55 := Try.zeroValue124
  t66 := Try.underlying187
  a66 := Try.isAgg187
  z66 := Try.sizeOf187
  v66 := Try.zeroValue187
  t70 := Try.underlying191
  a70 := Try.isAgg191
  z70 := Try.sizeOf191
  v70 := Try.zeroValue191
  t76 := Try.underlying194
  a76 := Try.isAgg194
  z76 := Try.sizeOf194
  v76 := Try.zeroValue194
  t77 := Try.underlying172
  a77 := Try.isAgg172
  z77 := Try.sizeOf172
  v77 := Try.zeroValue172 }
end Go.Proofs

/- The plain mathematics of layer 2 (saggar): trouble of all kinds, reasons. -/
namespace Go.Pb.Sag
open Go Go.Pb Go.Pb.Ware Go.RowKit
set_option linter.unusedVariables false
/-- Trouble of any kind. -/
def troubleA (s : Bx) (fs : List Ft) (kind : Int) : Bool := if kind = 5 then !fitsB s fs else troubleB s fs kind
theorem troubleA_5 (s : Bx) (fs : List Ft) : troubleA s fs 5 = !fitsB s fs := rfl
theorem troubleA_B {s : Bx} {fs : List Ft} {k : Int} (h : k ≠ 5) : troubleA s fs k = troubleB s fs k := if_neg h
/-- The indices below n. -/
def idxs (n : Nat) : List Int := (List.range n).map fun k : Nat => (k : Int)
theorem idxs_len (n : Nat) : (idxs n).length = n := by simp [idxs]
theorem idxs_at {n k : Nat} (h : k < n) : (idxs n)[k]? = some (k : Int) := by simp [idxs, h]
theorem idxs_mem {n : Nat} {z : Int} (h : z ∈ idxs n) : 0 ≤ z ∧ z < (n : Int) := by
  unfold idxs at h
  obtain ⟨k, hk, rfl⟩ := List.mem_map.1 h
  have := List.mem_range.1 hk
  omega
def needStep (s : Bx) (fs : List Ft) (kind : Int) (l : List Int) (i : Nat) : List Int := if troubleA s (chosenL fs (l.eraseIdx i)) kind = true then l.eraseIdx i else l
def needLoop (s : Bx) (fs : List Ft) (kind : Int) : Nat → List Int → List Int
  | 0, l => l
  | i + 1, l => needLoop s fs kind i (needStep s fs kind l i)
/-- What needed returns. -/
def neededL (s : Bx) (fs : List Ft) (kind : Int) : List Int := needLoop s fs kind fs.length (idxs fs.length)
theorem erase_mem {l : List Int} {i : Nat} {z : Int} (h : z ∈ l.eraseIdx i) : z ∈ l := List.mem_of_mem_eraseIdx h
theorem needStep_mem {s : Bx} {fs : List Ft} {kind : Int} {l : List Int} {i : Nat} {z : Int} (h : z ∈ needStep s fs kind l i) : z ∈ l := by
  unfold needStep at h; split at h
  · exact erase_mem h
  · exact h
theorem needStep_len {s : Bx} {fs : List Ft} {kind : Int} {l : List Int} {i : Nat} (h : i < l.length) : i ≤ (needStep s fs kind l i).length ∧ (needStep s fs kind l i).length ≤ l.length := by
  unfold needStep; split
  · rw [List.length_eraseIdx_of_lt h]; omega
  · omega
theorem made_any {w : World} {base n : Nat} {B e : Nat} {z : Value} (hz : z.cells = #[z]) (h : w.ownsRow base e 1 (.slice (some ⟨B, 0, none⟩) n n) n (madeCells z.cells (n * 1)).toList) : ∀ i, i < n → w.cell? ⟨B, i, none⟩ = some z ∧ w.frozen? ⟨B, i, none⟩ = false := by
  intro i hk
  refine ⟨?_, owns_frozen h rfl i⟩
  have h2 := h.cells (g := B) rfl i z (by
    rw [Array.getElem?_toList]
    unfold madeCells
    rw [Array.getElem?_map, Array.getElem?_range, if_pos (show i < n * 1 by omega), hz]
    show some (#[z] : Array Value)[i % 1]! = _
    rw [Nat.mod_one]; rfl)
  rw [Go.WideShapes.add_plain, Nat.zero_add] at h2
  exact h2
/-- The indices below k are written, the others are 0. -/
def IdxAt (B n k : Nat) (W : World) : Prop := ∀ j, j < n → W.cell? ⟨B, j, none⟩ = some (.int .i64 (if j < k then (j : Int) else 0)) ∧ W.frozen? ⟨B, j, none⟩ = false
theorem IdxAt.set {B n k : Nat} {W : World} (h : IdxAt B n k W) (hk : k < n) : IdxAt B n (k + 1) (W.setCell ⟨B, k, none⟩ (.int .i64 (k : Int))) := by
  intro j hj
  have h1 := h j hj
  refine ⟨?_, set_free h1.1 h1.2⟩
  by_cases e : j = k
  · subst e; rw [if_pos (by omega)]; exact setc_same h1.1
  · rw [setc_other h1.1 e]
    by_cases e2 : j < k
    · rw [if_pos e2, if_pos (by omega)]
    · rw [if_neg e2, if_neg (by omega)]
theorem IdxAt.nums {B n : Nat} {W : World} (h : IdxAt B n n W) (hn : n ≤ 1000) : NumsAt W (.slice (some ⟨B, 0, none⟩) n n) (idxs n) := by
  refine .inr ⟨⟨B, 0, none⟩, n, by rw [idxs_len], by rw [idxs_len]; exact Nat.le_refl _, by omega, fun k z hz => ?_⟩
  have hk : k < n := by have := (List.getElem?_eq_some_iff.1 hz).1; rwa [idxs_len] at this
  rw [idxs_at hk] at hz
  injection hz with hz
  subst hz
  have h1 := (h k hk).1
  rw [if_pos hk] at h1
  rw [Go.WideShapes.add_plain, Nat.zero_add]
  exact ⟨h1, I64.mk (by omega) (by omega)⟩
end Go.Pb.Sag

/- Putting items into groups: the search, and what it holds in memory. -/
namespace Go.Pb.Sag
open Go Go.Pb Go.Pb.Ware Go.RowKit
set_option linter.unusedVariables false
/-- The first way to put the items from i on (d of them) into groups; none if there is none. -/
def putF (s : Bx) (fs : List Ft) (most : Nat) : Nat → Nat → List (List Int) → Option (List (List Int))
  | 0, _, gs => some gs
  | d + 1, i, gs =>
    match (List.range gs.length).findSome? (fun k => if fitsB s (chosenL fs (gs.getD k [] ++ [(i : Int)])) = true then putF s fs most d (i + 1) (gs.set k (gs.getD k [] ++ [(i : Int)])) else none) with
    | some r => some r
    | none => if gs.length = most then none else putF s fs most d (i + 1) (gs ++ [[(i : Int)]])
def tryF (s : Bx) (fs : List Ft) (most d i : Nat) (gs : List (List Int)) (k : Nat) : Option (List (List Int)) := if fitsB s (chosenL fs (gs.getD k [] ++ [(i : Int)])) = true then putF s fs most d (i + 1) (gs.set k (gs.getD k [] ++ [(i : Int)])) else none
theorem putF_succ (s : Bx) (fs : List Ft) (most d i : Nat) (gs : List (List Int)) : putF s fs most (d + 1) i gs = match (List.range gs.length).findSome? (tryF s fs most d i gs) with
    | some r => some r
    | none => if gs.length = most then none else putF s fs most d (i + 1) (gs ++ [[(i : Int)]]) := by rw [putF]; rfl
theorem find_here {α : Type} {f : Nat → Option α} {n k : Nat} {r : α} (hk : k < n) (h0 : ∀ j, j < k → f j = none) (h : f k = some r) : (List.range n).findSome? f = some r := by
  induction n generalizing k with
  | zero => omega
  | succ n ih =>
    rw [List.range_succ, List.findSome?_append]
    rcases Nat.lt_or_ge k n with h1 | h1
    · rw [ih h1 h0 h]; rfl
    · have e : k = n := by omega
      subst e
      rw [List.findSome?_eq_none_iff.2 (fun j hj => h0 j (List.mem_range.1 hj))]
      simp [h]
theorem find_no {α : Type} {f : Nat → Option α} {n : Nat} (h0 : ∀ j, j < n → f j = none) : (List.range n).findSome? f = none := List.findSome?_eq_none_iff.2 (fun j hj => h0 j (List.mem_range.1 hj))
/-- Groups of items below i: none is empty, and no two have the same first item. -/
structure Good (i : Nat) (gs : List (List Int)) : Prop where
  one : ∀ (k : Nat) (g : List Int), gs[k]? = some g → ∃ x, g[0]? = some x
  lt : ∀ g ∈ gs, ∀ z ∈ g, 0 ≤ z ∧ z < (i : Int)
  len : ∀ g ∈ gs, g.length ≤ i
  many : gs.length ≤ i
  apart : ∀ (j k : Nat) (g h : List Int) (x y : Int), j ≠ k → gs[j]? = some g → gs[k]? = some h → g[0]? = some x → h[0]? = some y → x ≠ y
theorem Good.nil : Good 0 [] := ⟨fun k g h => (by simp at h), fun g h => (by cases h), fun g h => (by cases h), Nat.le_refl _, fun j k g h x y _ h1 => (by simp at h1)⟩
theorem head_snoc {g : List Int} {x z : Int} (h : g[0]? = some x) : (g ++ [z])[0]? = some x := by
  cases g with
  | nil => simp at h
  | cons a l => simpa using h
theorem Good.push {i k : Nat} {gs : List (List Int)} {g : List Int} (h : Good i gs) (hg : gs[k]? = some g) : Good (i + 1) (gs.set k (g ++ [(i : Int)])) := by
  have hk : k < gs.length := (List.getElem?_eq_some_iff.1 hg).1
  have key : ∀ (j : Nat) (g' : List Int) (x : Int), (gs.set k (g ++ [(i : Int)]))[j]? = some g' → g'[0]? = some x → ∃ g0, gs[j]? = some g0 ∧ g0[0]? = some x := by
    intro j g' x h1 h2
    by_cases e : j = k
    · subst e
      rw [List.getElem?_set_self hk] at h1
      obtain rfl : g ++ [(i : Int)] = g' := by simpa using h1
      obtain ⟨y, hy⟩ := h.one j g hg
      rw [head_snoc hy] at h2
      exact ⟨g, hg, by rw [hy]; exact h2⟩
    · rw [List.getElem?_set_ne (Ne.symm e)] at h1
      exact ⟨g', h1, h2⟩
  refine ⟨fun j g' h1 => ?_, fun g' hm z hz => ?_, fun g' hm => ?_, by rw [List.length_set]; have := h.many; omega, fun j l g' h' x y hne h1 h2 h3 h4 => ?_⟩
  · by_cases e : j = k
    · subst e
      rw [List.getElem?_set_self hk] at h1
      obtain rfl : g ++ [(i : Int)] = g' := by simpa using h1
      obtain ⟨y, hy⟩ := h.one j g hg
      exact ⟨y, head_snoc hy⟩
    · rw [List.getElem?_set_ne (Ne.symm e)] at h1
      exact h.one j g' h1
  · rcases List.mem_or_eq_of_mem_set hm with h1 | rfl
    · have := h.lt g' h1 z hz; omega
    · rcases List.mem_append.1 hz with h1 | h1
      · have := h.lt g (List.mem_of_getElem? hg) z h1; omega
      · simp at h1; omega
  · rcases List.mem_or_eq_of_mem_set hm with h1 | rfl
    · have := h.len g' h1; omega
    · have := h.len g (List.mem_of_getElem? hg); rw [List.length_append, List.length_singleton]; omega
  · obtain ⟨a, ha, ha2⟩ := key j g' x h1 h3
    obtain ⟨b, hb, hb2⟩ := key l h' y h2 h4
    exact h.apart j l a b x y hne ha hb ha2 hb2
theorem Good.snoc {i : Nat} {gs : List (List Int)} (h : Good i gs) : Good (i + 1) (gs ++ [[(i : Int)]]) := by
  have key : ∀ (j : Nat) (g : List Int), (gs ++ [[(i : Int)]])[j]? = some g → (j < gs.length ∧ gs[j]? = some g) ∨ (j = gs.length ∧ g = [(i : Int)]) := by
    intro j g h1
    rcases Nat.lt_or_ge j gs.length with h2 | h2
    · rw [List.getElem?_append_left h2] at h1; exact .inl ⟨h2, h1⟩
    · rw [List.getElem?_append_right h2] at h1
      have h3 := (List.getElem?_eq_some_iff.1 h1).1
      simp at h3
      have e : j = gs.length := by omega
      subst e
      simp at h1
      exact .inr ⟨rfl, h1.symm⟩
  have low : ∀ (j : Nat) (g : List Int) (x : Int), gs[j]? = some g → g[0]? = some x → x < (i : Int) := fun j g x h1 h2 => (h.lt g (List.mem_of_getElem? h1) x (List.mem_of_getElem? h2)).2
  refine ⟨fun j g h1 => ?_, fun g hm z hz => ?_, fun g hm => ?_, by rw [List.length_append, List.length_singleton]; have := h.many; omega, fun j k g g' x y hne h1 h2 h3 h4 => ?_⟩
  · rcases key j g h1 with ⟨_, h2⟩ | ⟨_, rfl⟩
    · exact h.one j g h2
    · exact ⟨_, rfl⟩
  · rcases List.mem_append.1 hm with h1 | h1
    · have := h.lt g h1 z hz; omega
    · simp at h1; subst h1; simp at hz; omega
  · rcases List.mem_append.1 hm with h1 | h1
    · have := h.len g h1; omega
    · simp at h1; subst h1; simp
  · rcases key j g h1 with ⟨_, h5⟩ | ⟨e1, rfl⟩ <;> rcases key k g' h2 with ⟨_, h6⟩ | ⟨e2, rfl⟩
    · exact h.apart j k g g' x y hne h5 h6 h3 h4
    · have := low j g x h5 h3; simp at h4; omega
    · have := low k g' y h6 h4; simp at h3; omega
    · omega
theorem Good.mono {i j : Nat} {gs : List (List Int)} (h : Good i gs) (hij : i ≤ j) : Good j gs := ⟨h.one, fun g hm z hz => (by have := h.lt g hm z hz; omega), fun g hm => (by have := h.len g hm; omega), (by have := h.many; omega), h.apart⟩
/-- Two rows with different beginnings do not share a block. -/
theorem apart_heads {W : World} {b1 b2 T n1 n2 : Nat} {v u x y : Value} {xs ys : List Value} (h1 : W.ownsRow b1 T 1 v n1 xs) (h2 : W.ownsRow b2 T 1 u n2 ys) (hx : xs[0]? = some x) (hy : ys[0]? = some y) (hne : x ≠ y) : v.ownBlock = none ∨ v.ownBlock ≠ u.ownBlock := by
  rcases h1.2 with ⟨rfl, _⟩ | ⟨g, cap, cur, rfl, _, hg, _, _, _, ht⟩
  · exact .inl rfl
  · refine .inr fun e => ?_
    rcases h2.2 with ⟨rfl, _⟩ | ⟨g', cap', cur', rfl, _, hg', _, _, _, ht'⟩
    · simp [Value.ownBlock] at e
    · have e2 : g = g' := by simpa [Value.ownBlock] using e
      subst e2
      rw [hg] at hg'
      injection hg' with e3
      injection e3 with e3
      subst e3
      rw [← ht, List.getElem?_take] at hx
      rw [← ht', List.getElem?_take] at hy
      split at hx
      · split at hy
        · rw [hx] at hy; injection hy with hy; exact hne hy
        · cases hy
      · cases hx
/-- Rows of two types do not share a block. -/
theorem apart_types {W : World} {b1 b2 T1 T2 s1 s2 n1 n2 : Nat} {v u : Value} {xs ys : List Value} (h1 : W.ownsRow b1 T1 s1 v n1 xs) (h2 : W.ownsRow b2 T2 s2 u n2 ys) (hne : T1 ≠ T2) : v.ownBlock = none ∨ v.ownBlock ≠ u.ownBlock := by
  rcases h1.2 with ⟨rfl, _⟩ | ⟨g, cap, cur, rfl, _, hg, _⟩
  · exact .inl rfl
  · refine .inr fun e => ?_
    rcases h2.2 with ⟨rfl, _⟩ | ⟨g', cap', cur', rfl, _, hg', _⟩
    · simp [Value.ownBlock] at e
    · have e2 : g = g' := by simpa [Value.ownBlock] using e
      subst e2
      rw [hg] at hg'
      injection hg' with e3
      injection e3 with _ e4
      exact hne e4
theorem row_take {W : World} {lo T n m cap g : Nat} {xs : List Value} (h : W.ownsRow lo T 1 (.slice (some ⟨g, 0, none⟩) n cap) n xs) (hm : m ≤ n) : W.ownsRow lo T 1 (.slice (some ⟨g, 0, none⟩) m cap) m (xs.take m) := by
  refine ⟨by rw [List.length_take, h.1]; omega, ?_⟩
  rcases h.2 with ⟨h1, _⟩ | ⟨g', cap', cur, h1, h2, h3, h4, h5, h6, h7⟩
  · cases h1
  · injection h1 with e1 _ e2
    injection e1 with e1
    injection e1 with e1
    subst e1; subst e2
    refine .inr ⟨g, cap, cur, rfl, h2, h3, by omega, h5, h6, ?_⟩
    rw [← h7, List.take_take]
    congr 1; omega
theorem row_set {W : World} {lo T n cap g k : Nat} {xs : List Value} {v : Value} (h : W.ownsRow lo T 1 (.slice (some ⟨g, 0, none⟩) n cap) n xs) (hk : k < n) : (W.setCell ⟨g, k, none⟩ v).ownsRow lo T 1 (.slice (some ⟨g, 0, none⟩) n cap) n (xs.set k v) := by
  refine ⟨by rw [List.length_set]; exact h.1, ?_⟩
  rcases h.2 with ⟨h1, _⟩ | ⟨g', cap', cur, h1, h2, h3, h4, h5, h6, h7⟩
  · cases h1
  · injection h1 with e1 _ e2
    injection e1 with e1
    injection e1 with e1
    subst e1; subst e2
    refine .inr ⟨g, cap, cur.setIfInBounds k v, rfl, h2, ?_, h4, h5, by rw [Array.size_setIfInBounds]; exact h6, ?_⟩
    · rw [Go.Sort.setCell_eq]
      unfold Go.Sort.mapBlock
      rw [Array.getElem?_modify, if_pos rfl, h3]; rfl
    · rw [Array.toList_setIfInBounds, List.take_set, h7]
end Go.Pb.Sag

/- What putting items into groups holds in memory. -/
namespace Go.Pb.Sag
open Go Go.Pb Go.Pb.Ware Go.RowKit
set_option linter.unusedVariables false
def RowsIn (lo T : Nat) (W : World) (vs : List Value) (gs : List (List Int)) : Prop := ∀ (k : Nat) (v : Value) (g : List Int), vs[k]? = some v → gs[k]? = some g → W.ownsRow lo T 1 v g.length (g.map (Value.int .i64))
/-- The groups so far, in the field 8 of block G; all other memory of theirs lies behind G. -/
def PutAt (G TO TI : Nat) (gs : List (List Int)) (W : World) : Prop := ∃ (gv : Value) (vs : List Value), (W.cell? ⟨G, 8, none⟩ = some gv ∧ W.frozen? ⟨G, 8, none⟩ = false) ∧ W.ownsRow (G + 1) TO 1 gv gs.length vs ∧ RowsIn (G + 1) TI W vs gs
theorem PutAt.next {G TO TI : Nat} {gs : List (List Int)} {W W' : World} (h : PutAt G TO TI gs W) (hb : Below W.heap.size W W') : PutAt G TO TI gs W' := by
  obtain ⟨gv, vs, ⟨c1, c2⟩, ho, hr⟩ := h
  exact ⟨gv, vs, ⟨bkeep hb c1, bfree hb c1 c2⟩, owns_below ho hb, fun k v g h1 h2 => owns_below (hr k v g h1 h2) hb⟩
theorem own_ge {W : World} {lo T s n : Nat} {v : Value} {xs : List Value} (h : W.ownsRow lo T s v n xs) : ∀ b, v.ownBlock = some b → lo ≤ b := fun b e => (World.ownsRow.lt h b e).1
theorem set_own {W : World} {lo T s n B o : Nat} {v u : Value} {xs : List Value} (h : W.ownsRow lo T s v n xs) (hne : v.ownBlock = none ∨ v.ownBlock ≠ some B) : (W.setCell ⟨B, o, none⟩ u).ownsRow lo T s v n xs := h.kept (grown_setc W ⟨B, o, none⟩ u) hne
/-- What is there behind an append to the group k, ahead of its store. -/
theorem PutAt.push {G TO TI i k : Nat} (hT : TO ≠ TI) {gs : List (List Int)} {g : List Int} {W w2 w3 : World} {v v' : Value} {vs : List Value} {gb cap : Nat} (hG : Good i gs) (hg : gs[k]? = some g) (hv : vs[k]? = some v)
    (c8 : W.cell? ⟨G, 8, none⟩ = some (.slice (some ⟨gb, 0, none⟩) gs.length cap) ∧ W.frozen? ⟨G, 8, none⟩ = false) (ho : W.ownsRow (G + 1) TO 1 (.slice (some ⟨gb, 0, none⟩) gs.length cap) gs.length vs) (hr : RowsIn (G + 1) TI W vs gs)
    (hb : Below W.heap.size W w2) (hg3 : w2.grownBy w3 v.ownBlock) (ho3 : w3.ownsRow (G + 1) TI 1 v' (g.length + 1) (g.map (Value.int .i64) ++ [.int .i64 (i : Int)])) :
    (w3.cell? ⟨gb, k, none⟩ = some v ∧ w3.frozen? ⟨gb, k, none⟩ = false) ∧ PutAt G TO TI (gs.set k (g ++ [(i : Int)])) (w3.setCell ⟨gb, k, none⟩ v') ∧ Below (G + 1) W (w3.setCell ⟨gb, k, none⟩ v') := by
  have hk : k < gs.length := (List.getElem?_eq_some_iff.1 hg).1
  have hGW : G < W.heap.size := World.block_lt_of_cell? W _ c8.1
  have hrow := hr k v g hv hg
  have ho2 := owns_below ho hb
  have hrow2 := owns_below hrow hb
  have hgb : G + 1 ≤ gb := own_ge ho gb rfl
  have a1 : (Value.slice (some ⟨gb, 0, none⟩) gs.length cap).ownBlock = none ∨ (Value.slice (some ⟨gb, 0, none⟩) gs.length cap).ownBlock ≠ v.ownBlock := apart_types ho2 hrow2 hT
  have ho4 : w3.ownsRow (G + 1) TO 1 (.slice (some ⟨gb, 0, none⟩) gs.length cap) gs.length vs := ho2.kept hg3 a1
  have hlo : ∀ r, v.ownBlock = some r → G + 1 ≤ r := own_ge hrow
  have hbw : Below (G + 1) W w3 := (hb.mono (by omega)).grown hg3 (by have := hb.size; omega) hlo
  have a2 : some gb ≠ v.ownBlock := by rcases a1 with h | h; cases h; exact h
  have hcell : w3.cell? ⟨gb, k, none⟩ = some v := by
    have h1 := ho4.cells (g := gb) rfl k v hv
    rw [Go.WideShapes.add_plain, Nat.zero_add] at h1
    exact h1
  refine ⟨⟨hcell, owns_frozen ho4 rfl k⟩, ⟨.slice (some ⟨gb, 0, none⟩) gs.length cap, vs.set k v', ⟨?_, ?_⟩, ?_, ?_⟩, hbw.setCell (p := ⟨gb, k, none⟩) hgb v'⟩
  · exact setc_block ((hbw.cell (p := ⟨G, 8, none⟩) (by simp)).trans c8.1) (by omega)
  · exact set_free ((hbw.cell (p := ⟨G, 8, none⟩) (by simp)).trans c8.1) ((hbw.frozen (p := ⟨G, 8, none⟩) (by simp)).trans c8.2)
  · rw [List.length_set]; exact row_set ho4 hk
  · intro j u g' hu hg'
    have hts : ∀ {u : Value} {n : Nat} {xs : List Value}, w3.ownsRow (G + 1) TI 1 u n xs → u.ownBlock = none ∨ u.ownBlock ≠ some gb := fun h => apart_types h ho4 (Ne.symm hT)
    by_cases e : j = k
    · subst e
      have hvl : j < vs.length := (List.getElem?_eq_some_iff.1 hv).1
      rw [List.getElem?_set_self hvl] at hu
      rw [List.getElem?_set_self hk] at hg'
      obtain rfl : v' = u := by simpa using hu
      obtain rfl : g ++ [(i : Int)] = g' := by simpa using hg'
      have h1 := set_own (o := j) (u := v') ho3 (hts ho3)
      simpa using h1
    · rw [List.getElem?_set_ne (Ne.symm e)] at hu hg'
      have hj := hr j u g' hu hg'
      obtain ⟨x, hx⟩ := hG.one j g' hg'
      obtain ⟨y, hy⟩ := hG.one k g hg
      have hxy := hG.apart j k g' g x y e hg' hg hx hy
      have h1 : (g'.map (Value.int .i64))[0]? = some (.int .i64 x) := by rw [List.getElem?_map, hx]; rfl
      have h2 : (g.map (Value.int .i64))[0]? = some (.int .i64 y) := by rw [List.getElem?_map, hy]; rfl
      have h3 := (owns_below hj hb).kept hg3 (apart_heads (owns_below hj hb) hrow2 h1 h2 (fun h => hxy (by injection h)))
      exact set_own h3 (hts h3)
/-- The group k is cut back to g. -/
theorem PutAt.pop {G TO TI i k : Nat} (hT : TO ≠ TI) {gs : List (List Int)} {g : List Int} {W : World} {gb gcap b cap n : Nat} {vs : List Value} (hgs : gs[k]? = some g) (hn : gs.length = n)
    (c8 : W.cell? ⟨G, 8, none⟩ = some (.slice (some ⟨gb, 0, none⟩) n gcap) ∧ W.frozen? ⟨G, 8, none⟩ = false) (ho : W.ownsRow (G + 1) TO 1 (.slice (some ⟨gb, 0, none⟩) n gcap) n vs) (hr : RowsIn (G + 1) TI W vs (gs.set k (g ++ [(i : Int)])))
    (hv : vs[k]? = some (.slice (some ⟨b, 0, none⟩) (g.length + 1) cap)) :
    PutAt G TO TI gs (W.setCell ⟨gb, k, none⟩ (.slice (some ⟨b, 0, none⟩) g.length cap)) ∧ Below (G + 1) W (W.setCell ⟨gb, k, none⟩ (.slice (some ⟨b, 0, none⟩) g.length cap)) := by
  subst hn
  have hk : k < gs.length := (List.getElem?_eq_some_iff.1 hgs).1
  have hgb : G + 1 ≤ gb := own_ge ho gb rfl
  have hts : ∀ {u : Value} {n : Nat} {xs : List Value}, W.ownsRow (G + 1) TI 1 u n xs → u.ownBlock = none ∨ u.ownBlock ≠ some gb := fun h => apart_types h ho (Ne.symm hT)
  refine ⟨⟨.slice (some ⟨gb, 0, none⟩) gs.length gcap, vs.set k (.slice (some ⟨b, 0, none⟩) g.length cap), ⟨setc_block c8.1 (by omega), set_free c8.1 c8.2⟩, row_set ho hk, ?_⟩, (Below.refl _ _).setCell (p := ⟨gb, k, none⟩) hgb _⟩
  intro j u g' hu hg'
  by_cases e : j = k
  · subst e
    have hvl : j < vs.length := (List.getElem?_eq_some_iff.1 hv).1
    rw [List.getElem?_set_self hvl] at hu
    rw [hgs] at hg'
    obtain rfl : Value.slice (some ⟨b, 0, none⟩) g.length cap = u := by simpa using hu
    obtain rfl : g = g' := by simpa using hg'
    have h1 := hr j _ _ hv (List.getElem?_set_self hk)
    rw [List.length_append, List.length_singleton] at h1
    have h2 := row_take (m := g.length) h1 (by omega)
    rw [List.map_append, List.take_append_of_le_length (by simp), List.take_of_length_le (by simp)] at h2
    exact set_own h2 (hts h2)
  · rw [List.getElem?_set_ne (Ne.symm e)] at hu
    have h1 := hr j u g' hu (by rw [List.getElem?_set_ne (Ne.symm e)]; exact hg')
    exact set_own h1 (hts h1)
/-- A new group. -/
theorem PutAt.grow {G TO TI i n : Nat} (hT : TO ≠ TI) {gs : List (List Int)} {W w3 : World} {gv gv' : Value} {vs : List Value} (hG : Good i gs) (hn : gs.length = n)
    (c8 : W.cell? ⟨G, 8, none⟩ = some gv ∧ W.frozen? ⟨G, 8, none⟩ = false) (ho : W.ownsRow (G + 1) TO 1 gv n vs) (hr : RowsIn (G + 1) TI W vs gs)
    (hg3 : ((W.alloc (.cells #[.int .i64 (i : Int)] TI)).alloc (.cells #[.slice (some ⟨W.heap.size, 0, none⟩) 1 1] TO)).grownBy w3 gv.ownBlock) (ho3 : w3.ownsRow (G + 1) TO 1 gv' (n + 1) (vs ++ [.slice (some ⟨W.heap.size, 0, none⟩) 1 1])) :
    (w3.cell? ⟨G, 8, none⟩ = some gv ∧ w3.frozen? ⟨G, 8, none⟩ = false) ∧ PutAt G TO TI (gs ++ [[(i : Int)]]) (w3.setCell ⟨G, 8, none⟩ gv') ∧ Below (G + 1) W w3 := by
  subst hn
  have hGW : G < W.heap.size := World.block_lt_of_cell? W _ c8.1
  have hb : Below W.heap.size W ((W.alloc (.cells #[.int .i64 (i : Int)] TI)).alloc (.cells #[.slice (some ⟨W.heap.size, 0, none⟩) 1 1] TO)) := ((Below.refl _ W).alloc (Nat.le_refl _) _).alloc (by simp) _
  have hbw : Below (G + 1) W w3 := (hb.mono (by omega)).grown hg3 (by simp; omega) (own_ge ho)
  have hG8 : w3.cell? ⟨G, 8, none⟩ = some gv ∧ w3.frozen? ⟨G, 8, none⟩ = false := ⟨(hbw.cell (p := ⟨G, 8, none⟩) (by simp)).trans c8.1, (hbw.frozen (p := ⟨G, 8, none⟩) (by simp)).trans c8.2⟩
  have far : ∀ {T n : Nat} {v : Value} {xs : List Value}, w3.ownsRow (G + 1) T 1 v n xs → v.ownBlock = none ∨ v.ownBlock ≠ some G := fun h => .inr fun e => by have := own_ge h G e; omega
  have hvl : vs.length = gs.length := by have := ho.1; omega
  refine ⟨hG8, ⟨gv', vs ++ [.slice (some ⟨W.heap.size, 0, none⟩) 1 1], ⟨setc_same hG8.1, set_free hG8.1 hG8.2⟩, ?_, ?_⟩, hbw⟩
  · rw [List.length_append, List.length_singleton]; exact set_own ho3 (far ho3)
  · intro k v g hv hg
    rcases Nat.lt_or_ge k gs.length with h1 | h1
    · rw [List.getElem?_append_left (by omega)] at hv
      rw [List.getElem?_append_left h1] at hg
      have h2 := owns_below (hr k v g hv hg) hb
      have h3 := h2.kept hg3 (apart_types h2 (owns_below ho hb) (Ne.symm hT))
      exact set_own h3 (far h3)
    · rw [List.getElem?_append_right (by omega), hvl] at hv
      rw [List.getElem?_append_right h1] at hg
      have h4 := (List.getElem?_eq_some_iff.1 hg).1
      simp at h4
      have e : k = gs.length := by omega
      subst e
      simp at hv hg
      subst hv; subst hg
      have h2 : ((W.alloc (.cells #[.int .i64 (i : Int)] TI)).alloc (.cells #[.slice (some ⟨W.heap.size, 0, none⟩) 1 1] TO)).ownsRow (G + 1) TI 1 (.slice (some ⟨W.heap.size, 0, none⟩) 1 1) 1 [.int .i64 (i : Int)] := by
        refine ⟨rfl, .inr ⟨W.heap.size, 1, #[.int .i64 (i : Int)], rfl, by omega, ?_, Nat.le_refl _, by unfold maxLen; omega, rfl, rfl⟩⟩
        rw [Below.heap_alloc _ _ _ (by simp)]
        exact World.alloc_heap_new W _
      have h3 := h2.kept hg3 (apart_types h2 (owns_below ho hb) (Ne.symm hT))
      exact set_own h3 (far h3)
/-- The last group is taken away. -/
theorem PutAt.shrink {G TO TI n gb cap : Nat} {gs : List (List Int)} {g : List Int} {W : World} {vs : List Value} (hn : gs.length = n)
    (c8 : W.cell? ⟨G, 8, none⟩ = some (.slice (some ⟨gb, 0, none⟩) (n + 1) cap) ∧ W.frozen? ⟨G, 8, none⟩ = false) (ho : W.ownsRow (G + 1) TO 1 (.slice (some ⟨gb, 0, none⟩) (n + 1) cap) (n + 1) vs) (hr : RowsIn (G + 1) TI W vs (gs ++ [g])) :
    PutAt G TO TI gs (W.setCell ⟨G, 8, none⟩ (.slice (some ⟨gb, 0, none⟩) n cap)) := by
  subst hn
  have far : ∀ {T n : Nat} {v : Value} {xs : List Value}, W.ownsRow (G + 1) T 1 v n xs → v.ownBlock = none ∨ v.ownBlock ≠ some G := fun h => .inr fun e => by have := own_ge h G e; omega
  have h1 := row_take (m := gs.length) ho (by omega)
  refine ⟨.slice (some ⟨gb, 0, none⟩) gs.length cap, vs.take gs.length, ⟨setc_same c8.1, set_free c8.1 c8.2⟩, set_own h1 (far h1), ?_⟩
  intro k v g' hv hg
  have hk : k < gs.length := (List.getElem?_eq_some_iff.1 hg).1
  rw [List.getElem?_take, if_pos hk] at hv
  have h2 := hr k v g' hv (by rw [List.getElem?_append_left hk]; exact hg)
  exact set_own h2 (far h2)
/-- The other fields of block G. -/
def GAt (G : Nat) (gc : List Value) (W : World) : Prop := ∀ o u, gc[o]? = some u → W.cell? ⟨G, o, none⟩ = some u ∧ W.frozen? ⟨G, o, none⟩ = false
theorem GAt.below {G : Nat} {gc : List Value} {W W' : World} (h : GAt G gc W) (hb : Below (G + 1) W W') : GAt G gc W' := fun o u hu => ⟨(hb.cell (p := ⟨G, o, none⟩) (by simp)).trans (h o u hu).1, (hb.frozen (p := ⟨G, o, none⟩) (by simp)).trans (h o u hu).2⟩
theorem GAt.set {G : Nat} {gc : List Value} {W : World} {v : Value} (h : GAt G gc W) (hl : gc.length ≤ 8) : GAt G gc (W.setCell ⟨G, 8, none⟩ v) := fun o u hu => ⟨setc_other (h o u hu).1 (by have := (List.getElem?_eq_some_iff.1 hu).1; omega), set_free (h o u hu).1 (h o u hu).2⟩
theorem rows_belowB {B n : Nat} {W W' : World} {v : Value} {rows : List (List Int)} (h : RowsAt n W v rows) (hv : ∀ b, v.ownBlock = some b → b < B) (hb : Below B W W') : RowsAt n W' v rows := by
  rcases h with h | ⟨a, cap, rfl, h2, h3, h4⟩
  · exact .inl h
  · refine .inr ⟨a, cap, rfl, h2, h3, fun k r hr => ⟨(h4 k r hr).1, fun j z hz => ⟨?_, ((h4 k r hr).2 j z hz).2⟩⟩⟩
    have hlt : (a.add (k * n + j)).block < B := by
      have := hv a.block rfl
      unfold Addr.add; split <;> exact this
    exact (hb.cell hlt).trans ((h4 k r hr).2 j z hz).1
theorem own_some {W : World} {lo T s n : Nat} {v : Value} {xs : List Value} (h : W.ownsRow lo T s v n xs) (hn : 0 < n) : ∃ g cap, v = .slice (some ⟨g, 0, none⟩) n cap ∧ n ≤ cap ∧ cap ≤ 9223372036854775807 := by
  rcases h.2 with ⟨_, h0⟩ | ⟨g, cap, _, rfl, _, _, h4, h5, _⟩
  · omega
  · exact ⟨g, cap, rfl, h4, by unfold maxLen at h5; omega⟩
end Go.Pb.Sag

/- Groups: copies of them, and how many are enough. -/
namespace Go.Pb.Sag
open Go Go.Pb Go.Pb.Ware Go.RowKit
set_option linter.unusedVariables false
theorem copy_owns {w : World} {lo T B m : Nat} {cur : Array Value} {cs : List Value} (hg : w.heap[B]? = some (.cells cur T (0, 0))) (hlo : lo ≤ B) (hs : cur.size = m) (hm : m ≤ maxLen) (hc : cs.length = m) :
    (w.setRow B (cur.toList.take 0 ++ (cs ++ cur.toList.drop (0 + cs.length))).toArray).ownsRow lo T 1 (.slice (some ⟨B, 0, none⟩) m m) m cs := by
  have e : cur.toList.take 0 ++ (cs ++ cur.toList.drop (0 + cs.length)) = cs := by
    rw [List.take_zero, List.nil_append, Nat.zero_add, List.drop_of_length_le (by rw [Array.length_toList]; omega), List.append_nil]
  rw [e]
  refine ⟨by omega, .inr ⟨B, m, cs.toArray, rfl, hlo, setRow_heap w B cur _ T (0, 0) hg, Nat.le_refl _, hm, by simp; omega, ?_⟩⟩
  rw [Nat.mul_one, List.take_of_length_le (by simp; omega)]
/-- With as many groups as items there is a way. -/
theorem putF_some {s : Bx} {fs : List Ft} {most : Nat} : ∀ (d i : Nat) (gs : List (List Int)), i + d ≤ most → gs.length ≤ i → ∃ r, putF s fs most d i gs = some r
  | 0, i, gs, _, _ => ⟨gs, rfl⟩
  | d + 1, i, gs, h1, h2 => by
    rw [putF_succ]
    cases hf : (List.range gs.length).findSome? (tryF s fs most d i gs) with
    | some r => exact ⟨r, rfl⟩
    | none =>
      dsimp only
      rw [if_neg (by omega)]
      exact putF_some d (i + 1) _ (by omega) (by rw [List.length_append, List.length_singleton]; omega)
/-- The fewest groups. -/
def groupsF (s : Bx) (fs : List Ft) : Option (List (List Int)) := (List.range (fs.length + 1)).findSome? fun m => putF s fs m fs.length 0 []
def groupsA (ss bs : List (List Int)) (s : Bx) (xs : List It) : List (List Int) × Int :=
  if ckL ss bs s xs = 0 then (if (feetV ss bs s xs).all (fun f => fitsB s [f]) = true then ((groupsF s (feetV ss bs s xs)).getD [], 0) else ([], 24)) else ([], ckL ss bs s xs)
theorem find_some {α : Type} {f : Nat → Option α} {n : Nat} {r : α} (h : (List.range n).findSome? f = some r) : ∃ k, k < n ∧ f k = some r := by
  obtain ⟨k, hk, h2⟩ := List.exists_of_findSome?_eq_some h
  exact ⟨k, List.mem_range.1 hk, h2⟩
theorem putF_good {s : Bx} {fs : List Ft} {most : Nat} : ∀ (d i : Nat) (gs rs : List (List Int)), Good i gs → gs.length ≤ most → putF s fs most d i gs = some rs → Good (i + d) rs ∧ rs.length ≤ most
  | 0, i, gs, rs, hG, hm, h => by
    rw [putF] at h; injection h with h; subst h; exact ⟨hG, hm⟩
  | d + 1, i, gs, rs, hG, hm, h => by
    rw [putF_succ] at h
    cases hf : (List.range gs.length).findSome? (tryF s fs most d i gs) with
    | some r =>
      rw [hf] at h
      injection h with h
      subst h
      obtain ⟨k, hk, h2⟩ := find_some hf
      unfold tryF at h2
      split at h2
      · have hg : gs[k]? = some gs[k] := List.getElem?_eq_getElem hk
        rw [List.getD_eq_getElem?_getD, hg, Option.getD_some] at h2
        have := putF_good d (i + 1) _ _ (hG.push hg) (by rw [List.length_set]; exact hm) h2
        rw [show i + 1 + d = i + (d + 1) by omega] at this
        exact this
      · cases h2
    | none =>
      rw [hf] at h
      dsimp only at h
      split at h
      · cases h
      · have := putF_good d (i + 1) _ _ hG.snoc (by rw [List.length_append, List.length_singleton]; omega) h
        rw [show i + 1 + d = i + (d + 1) by omega] at this
        exact this
theorem GAt.most {G : Nat} {l : List Value} {u v : Value} {W : World} (hl : l.length = 7) (h : GAt G (l ++ [u]) W) : GAt G (l ++ [v]) (W.setCell ⟨G, 7, none⟩ v) := by
  intro o x hx
  rcases Nat.lt_or_ge o 7 with h1 | h1
  · rw [List.getElem?_append_left (by omega)] at hx
    have h2 := h o x (by rw [List.getElem?_append_left (by omega)]; exact hx)
    exact ⟨setc_other h2.1 (by omega), set_free h2.1 h2.2⟩
  · rw [List.getElem?_append_right (by omega), hl] at hx
    have h2 := (List.getElem?_eq_some_iff.1 hx).1
    simp at h2
    have e : o = 7 := by omega
    subst e
    simp at hx
    subst hx
    have h3 := h 7 u (by rw [List.getElem?_append_right (by omega), hl]; rfl)
    exact ⟨setc_same h3.1, set_free h3.1 h3.2⟩
/-- One row of rows. -/
theorem rows_cut {n k cap cap2 : Nat} {w : World} {a q : Addr} {rows : List (List Int)} {r : List Int} {m : Nat} (h : RowsAt n w (.slice (some a) m cap) rows) (hr : rows[k]? = some r) (hq : ∀ j, q.add j = a.add (k * n + j)) (h1 : 1 ≤ cap2) (h2 : cap2 ≤ 9223372036854775807) : RowsAt n w (.slice (some q) 1 cap2) [r] := by
  rcases h with ⟨h, _⟩ | ⟨a', cap', e, _, _, h4⟩
  · cases h
  · injection e with e _ _
    injection e with e
    subst e
    refine .inr ⟨q, cap2, rfl, h1, h2, fun j r' hr' => ?_⟩
    have hj : j = 0 := by have := (List.getElem?_eq_some_iff.1 hr').1; simp at this; omega
    subst hj
    have e2 : r = r' := by simpa using hr'
    subst e2
    refine ⟨(h4 k r hr).1, fun j z hz => ?_⟩
    rw [Nat.zero_mul, Nat.zero_add, hq]
    exact (h4 k r hr).2 j z hz
end Go.Pb.Sag

/- The plain mathematics of layer 2 (saggar): the packings that are shown are just those that are accepted, in order; what is packed has room. -/
namespace Go.Pb.Sag
open Go Go.Pb Go.Pb.Ware Go.RowKit
set_option linter.unusedVariables false
/-- One stand is ahead of another. -/
def ltS (p q : St) : Prop := p.y < q.y ∨ (p.y = q.y ∧ (p.x < q.x ∨ (p.x = q.x ∧ p.turned = false ∧ q.turned = true)))
theorem cell_sorted {s : Bx} {f : Ft} {y x k : Nat} : (cellL s f y x k).Pairwise ltS := by
  unfold cellL
  refine List.Pairwise.filter _ ?_
  rw [List.pairwise_map]
  refine List.Pairwise.sublist (List.take_sublist _ _) ?_
  unfold ways; split
  · exact List.pairwise_singleton _ _
  · simp [ltS]
theorem mem_cell {s : Bx} {f : Ft} {y x k : Nat} {p : St} (h : p ∈ cellL s f y x k) : p.y = y ∧ p.x = x := by
  unfold cellL at h
  obtain ⟨t, _, rfl⟩ := List.mem_map.1 (List.mem_filter.1 h).1
  exact ⟨rfl, rfl⟩
theorem row_sorted {s : Bx} {f : Ft} {y : Nat} : ∀ m, (rowL s f y m).Pairwise ltS ∧ ∀ p ∈ rowL s f y m, p.y = y ∧ p.x < m
  | 0 => by rw [rowL]; exact ⟨List.Pairwise.nil, fun p hp => by cases hp⟩
  | m + 1 => by
    obtain ⟨h1, h2⟩ := row_sorted (s := s) (f := f) (y := y) m
    rw [rowL]
    refine ⟨List.pairwise_append.2 ⟨h1, cell_sorted, fun a ha b hb => ?_⟩, fun p hp => ?_⟩
    · have h3 := h2 a ha
      have h4 := mem_cell hb
      exact .inr ⟨by omega, .inl (by omega)⟩
    · rcases List.mem_append.1 hp with hp | hp
      · have h3 := h2 p hp; omega
      · have h4 := mem_cell hp; omega
theorem stands_sorted {s : Bx} {f : Ft} : ∀ n, (standsN s f n).Pairwise ltS ∧ ∀ p ∈ standsN s f n, p.y < n
  | 0 => by rw [standsN]; exact ⟨List.Pairwise.nil, fun p hp => by cases hp⟩
  | n + 1 => by
    obtain ⟨h1, h2⟩ := stands_sorted (s := s) (f := f) n
    obtain ⟨h3, h4⟩ := row_sorted (s := s) (f := f) (y := n) s.wide.toNat
    rw [standsN]
    refine ⟨List.pairwise_append.2 ⟨h1, h3, fun a ha b hb => ?_⟩, fun p hp => ?_⟩
    · have h5 := h2 a ha
      have h6 := h4 b hb
      exact .inl (by omega)
    · rcases List.mem_append.1 hp with hp | hp
      · have h5 := h2 p hp; omega
      · have h6 := h4 p hp; omega
/-- A list of stands is ahead of another one of as many. -/
def lessB : List Sq → List Sq → Bool
  | [], _ => false
  | _ :: _, [] => false
  | a :: al, b :: bl => if a.y = b.y ∧ a.x = b.x ∧ a.turned = b.turned then lessB al bl else if a.y ≠ b.y then decide (a.y < b.y) else if a.x ≠ b.x then decide (a.x < b.x) else !a.turned
theorem less_same {a : Sq} {al bl : List Sq} : lessB (a :: al) (a :: bl) = lessB al bl := by rw [lessB, if_pos ⟨rfl, rfl, rfl⟩]
theorem less_irr : ∀ a : List Sq, lessB a a = false
  | [] => rfl
  | a :: al => by rw [less_same]; exact less_irr al
theorem less_asym : ∀ {a b : List Sq}, lessB a b = true → lessB b a = false
  | [], _, h => by rw [lessB] at h; cases h
  | _ :: _, [], h => by rw [lessB] at h; cases h
  | a :: al, b :: bl, h => by
    obtain ⟨y, x, t⟩ := a
    obtain ⟨y2, x2, t2⟩ := b
    rw [lessB] at h ⊢
    dsimp only at h ⊢
    by_cases h1 : y = y2
    · subst h1
      by_cases h2 : x = x2
      · subst h2
        by_cases h3 : t = t2
        · subst h3; simp only [and_self, if_true] at h ⊢; exact less_asym h
        · cases t <;> cases t2 <;> simp_all
      · have h3 : ¬ x2 = x := fun e => h2 e.symm
        simp only [h2, h3, and_false, false_and, if_false, ne_eq, not_true_eq_false, not_false_eq_true, if_true, decide_eq_true_eq, decide_eq_false_iff_not] at h ⊢
        omega
    · have h3 : ¬ y2 = y := fun e => h1 e.symm
      simp only [h1, h3, false_and, if_false, ne_eq, not_false_eq_true, if_true, decide_eq_true_eq, decide_eq_false_iff_not] at h ⊢
      omega
theorem less_lt {p q : St} {al bl : List Sq} (h : ltS p q) : lessB (toSq p :: al) (toSq q :: bl) = true := by
  obtain ⟨y, x, t⟩ := p
  obtain ⟨y2, x2, t2⟩ := q
  unfold ltS at h
  rw [lessB]
  unfold toSq
  dsimp only at h ⊢
  rcases h with h | ⟨rfl, h | ⟨rfl, rfl, rfl⟩⟩
  · have h1 : ¬ (y : Int) = (y2 : Int) := by omega
    simp only [h1, false_and, if_false, ne_eq, not_false_eq_true, if_true, decide_eq_true_eq]; omega
  · have h1 : ¬ (x : Int) = (x2 : Int) := by omega
    simp only [h1, false_and, and_false, if_false, ne_eq, not_true_eq_false, not_false_eq_true, if_true, decide_eq_true_eq]; omega
  · simp
theorem packs_sorted : ∀ {ls : List (List Sp)} {used : Nat}, (∀ l ∈ ls, l.Pairwise fun a b => ltS a.1 b.1) → (packsF ls used).Pairwise fun p q => lessB (p.map toSq) (q.map toSq) = true
  | [], used, _ => by rw [packsF]; exact List.pairwise_singleton _ _
  | l :: ls, used, h => by
    rw [packsF, List.pairwise_flatMap]
    refine ⟨fun a ha => ?_, ?_⟩
    · split
      · exact List.Pairwise.nil
      · rw [List.pairwise_map]
        refine (packs_sorted fun l hl => h l (List.mem_cons_of_mem _ hl)).imp fun {p q} hpq => ?_
        rw [List.map_cons, List.map_cons, less_same]; exact hpq
    · refine (h l List.mem_cons_self).imp fun {a b} hab x hx y hy => ?_
      split at hx
      · cases hx
      · split at hy
        · cases hy
        · obtain ⟨p, _, rfl⟩ := List.mem_map.1 hx
          obtain ⟨q, _, rfl⟩ := List.mem_map.1 hy
          exact less_lt hab
theorem shown_sorted {s : Bx} {fs : List Ft} : (shownL s fs).Pairwise fun p q => lessB (p.map toSq) (q.map toSq) = true := by
  unfold shownL
  split
  · exact List.Pairwise.nil
  · refine packs_sorted fun l hl => ?_
    obtain ⟨f, _, rfl⟩ := List.mem_map.1 hl
    unfold spotsL
    rw [List.pairwise_map]
    exact (stands_sorted _).1
/-- Two of the packings that are shown: the one that is shown first is ahead. -/
theorem shown_less {s : Bx} {fs : List Ft} {i j : Nat} {p q : List St} (hi : (shownL s fs)[i]? = some p) (hj : (shownL s fs)[j]? = some q) : lessB (p.map toSq) (q.map toSq) = decide (i < j) := by
  obtain ⟨h1, rfl⟩ := List.getElem?_eq_some_iff.1 hi
  obtain ⟨h2, rfl⟩ := List.getElem?_eq_some_iff.1 hj
  have hS := List.pairwise_iff_getElem.1 (shown_sorted (s := s) (fs := fs))
  rcases Nat.lt_trichotomy i j with h | h | h
  · rw [hS i j h1 h2 h]; simp [h]
  · subst h; rw [less_irr]; simp
  · rw [less_asym (hS j i h2 h1 h)]; simp; omega
theorem same_toSq {q : Sq} {p : St} (h : sameSt q.y q.x q.turned p = true) : q = toSq p := by
  unfold sameSt at h
  rw [Bool.and_eq_true, Bool.and_eq_true, decide_eq_true_eq, decide_eq_true_eq, beq_iff_eq] at h
  obtain ⟨y, x, t⟩ := q
  obtain ⟨h1, h2, h3⟩ := h
  dsimp only at h1 h2 h3
  subst h1; subst h2; subst h3; rfl
theorem maskQ_toSq (f : Ft) (p : St) : maskQ f (toSq p) = maskOf f p := rfl
theorem packs_place {s : Bx} : ∀ {fs : List Ft} {used : Nat} {q : List St}, q ∈ packsF (fs.map (spotsL s)) used → q.length = fs.length ∧ placeB s fs (q.map toSq) used = true
  | [], used, q, h => by
    rw [List.map_nil, packsF, List.mem_singleton] at h
    subst h; exact ⟨rfl, rfl⟩
  | f :: fs, used, q, h => by
    rw [List.map_cons, packsF, List.mem_flatMap] at h
    obtain ⟨a, ha, h2⟩ := h
    split at h2
    · cases h2
    · rename_i hm
      obtain ⟨r, hr, rfl⟩ := List.mem_map.1 h2
      obtain ⟨p, hp, rfl⟩ := List.mem_map.1 ha
      obtain ⟨h3, h4⟩ := packs_place hr
      refine ⟨by simp [h3], ?_⟩
      rw [List.map_cons, placeB, maskQ_toSq]
      have h5 : anySt (toSq p).y (toSq p).x (toSq p).turned (standsL s f) = true := List.any_eq_true.2 ⟨p, hp, by simp [sameSt, toSq]⟩
      rw [h5, h4]
      dsimp only at hm
      simpa using hm
theorem place_packs {s : Bx} : ∀ {fs : List Ft} {used : Nat} {qs : List Sq}, placeB s fs qs used = true → ∃ q ∈ packsF (fs.map (spotsL s)) used, q.map toSq = qs
  | [], used, [], _ => ⟨[], by rw [List.map_nil, packsF]; exact List.mem_singleton.2 rfl, rfl⟩
  | [], used, _ :: _, h => by rw [placeB] at h; cases h; all_goals simp
  | _ :: _, used, [], h => by rw [placeB] at h; cases h; all_goals simp
  | f :: fs, used, q :: qs, h => by
    rw [placeB, Bool.and_eq_true, Bool.and_eq_true] at h
    obtain ⟨h1, h2, h3⟩ := h
    obtain ⟨p, hp, hs⟩ := List.any_eq_true.1 h1
    have e := same_toSq hs
    subst e
    rw [maskQ_toSq] at h2 h3
    obtain ⟨r, hr, rfl⟩ := place_packs h3
    refine ⟨p :: r, ?_, rfl⟩
    rw [List.map_cons, packsF, List.mem_flatMap]
    refine ⟨(p, maskOf f p), List.mem_map.2 ⟨p, hp, rfl⟩, ?_⟩
    rw [if_neg (by simpa using h2)]
    exact List.mem_map.2 ⟨r, hr, rfl⟩
theorem place_stands {s : Bx} : ∀ {fs : List Ft} {used : Nat} {qs : List Sq}, placeB s fs qs used = true → ∀ f ∈ fs, noStand s f = false
  | [], used, _, _ => fun f hf => by cases hf
  | _ :: _, used, [], h => by rw [placeB] at h; cases h; all_goals simp
  | f :: fs, used, q :: qs, h => by
    rw [placeB, Bool.and_eq_true, Bool.and_eq_true] at h
    obtain ⟨h1, h2, h3⟩ := h
    obtain ⟨p, hp, hs⟩ := List.any_eq_true.1 h1
    intro g hg
    rcases List.mem_cons.1 hg with rfl | hg
    · unfold noStand
      cases hl : standsL s g with
      | nil => rw [hl] at hp; cases hp
      | cons a l => rfl
    · exact place_stands h3 g hg
/-- How many cells. -/
def cnt (m : Nat) : Nat := (List.range 36).countP fun i => m.testBit i
theorem cnt_or {a b : Nat} (h : a &&& b = 0) : cnt (a ||| b) = cnt a + cnt b := by
  have hb : ∀ i, ¬ (a.testBit i = true ∧ b.testBit i = true) := fun i hi => by
    have := congrArg (Nat.testBit · i) h
    simp [hi.1, hi.2] at this
  unfold cnt
  generalize List.range 36 = l
  induction l with
  | nil => rfl
  | cons i l ih =>
    have := hb i
    rw [List.countP_cons, List.countP_cons, List.countP_cons, ih, Nat.testBit_or]
    cases h1 : a.testBit i <;> cases h2 : b.testBit i <;> simp [h1, h2] at this ⊢ <;> omega
theorem cnt_mono {a b : Nat} (h : a &&& b = a) : cnt a ≤ cnt b := by
  unfold cnt
  refine List.countP_mono_left fun i _ hi => ?_
  have h2 : (a &&& b).testBit i = a.testBit i := by rw [h]
  rw [Nat.testBit_and, hi] at h2
  simpa using h2
theorem cnt_fin : ∀ y x v h : Fin 7, x.val + v.val ≤ 6 → y.val + h.val ≤ 6 → cnt (boxM y.val x.val v.val h.val) = v.val * h.val := by decide +kernel
theorem cnt_all (y : Nat) (h1 : y < 7) (x : Nat) (h2 : x < 7) (v : Nat) (h3 : v < 7) (h : Nat) (h4 : h < 7) : x + v ≤ 6 → y + h ≤ 6 → cnt (boxM y x v h) = v * h := cnt_fin ⟨y, h1⟩ ⟨x, h2⟩ ⟨v, h3⟩ ⟨h, h4⟩
theorem in_fin : ∀ y x v h : Fin 7, x.val + v.val ≤ 6 → y.val + h.val ≤ 6 → boxM y.val x.val v.val h.val &&& boxM 0 0 (x.val + v.val) (y.val + h.val) = boxM y.val x.val v.val h.val := by decide +kernel
theorem in_all (y : Nat) (h1 : y < 7) (x : Nat) (h2 : x < 7) (v : Nat) (h3 : v < 7) (h : Nat) (h4 : h < 7) : x + v ≤ 6 → y + h ≤ 6 → boxM y x v h &&& boxM 0 0 (x + v) (y + h) = boxM y x v h := in_fin ⟨y, h1⟩ ⟨x, h2⟩ ⟨v, h3⟩ ⟨h, h4⟩
theorem wide_fin : ∀ a b v h : Fin 7, a.val ≤ v.val → b.val ≤ h.val → boxM 0 0 a.val b.val &&& boxM 0 0 v.val h.val = boxM 0 0 a.val b.val := by decide +kernel
theorem wide_all (a : Nat) (h1 : a < 7) (b : Nat) (h2 : b < 7) (v : Nat) (h3 : v < 7) (h : Nat) (h4 : h < 7) : a ≤ v → b ≤ h → boxM 0 0 a b &&& boxM 0 0 v h = boxM 0 0 a b := wide_fin ⟨a, h1⟩ ⟨b, h2⟩ ⟨v, h3⟩ ⟨h, h4⟩
theorem box_in {y x v h A B : Nat} (h1 : x + v ≤ A) (h2 : y + h ≤ B) (hA : A ≤ 6) (hB : B ≤ 6) : boxM y x v h &&& boxM 0 0 A B = boxM y x v h := by
  have e1 := in_all y (by omega) x (by omega) v (by omega) h (by omega) (by omega) (by omega)
  have e2 := wide_all (x + v) (by omega) (y + h) (by omega) A (by omega) B (by omega) h1 h2
  rw [← e1, Nat.and_assoc, e2]
theorem areaL_cons (f : Ft) (fs : List Ft) : areaL (f :: fs) = f.wide * f.deep + areaL fs := by unfold areaL; rw [List.map_cons, List.sum_cons]
/-- What is placed has room beside what is taken. -/
theorem place_area {s : Bx} {A B : Nat} (hX : boxOk s = true) (hA : s.wide = (A : Int)) (hB : s.deep = (B : Int)) : ∀ {fs : List Ft} {t : Nat} {qs : List Sq}, (∀ f ∈ fs, FtOk f) → t &&& boxM 0 0 A B = t → placeB s fs qs t = true → (cnt t : Int) + areaL fs ≤ (cnt (boxM 0 0 A B) : Int)
  | [], t, _, _, h1, _ => by
    have := cnt_mono h1
    unfold areaL; rw [List.map_nil, List.sum_nil]; omega
  | _ :: _, t, [], _, _, h => by rw [placeB] at h; cases h; all_goals simp
  | f :: fs, t, q :: qs, hF, h1, h => by
    rw [placeB, Bool.and_eq_true, Bool.and_eq_true] at h
    obtain ⟨h2, h3, h4⟩ := h
    obtain ⟨p, hp, hs⟩ := List.any_eq_true.1 h2
    have e := same_toSq hs
    subst e
    rw [maskQ_toSq] at h3 h4
    have hb := boxOk_iff.1 hX
    have hf := hF f List.mem_cons_self
    have ho := standsN_ok hp
    unfold okAt at ho
    rw [Bool.and_eq_true, decide_eq_true_eq, decide_eq_true_eq] at ho
    obtain ⟨a, ha⟩ : ∃ a : Nat, (sideV f p.turned).1 = (a : Int) := by
      refine ⟨(sideV f p.turned).1.toNat, ?_⟩
      unfold FtOk at hf; unfold sideV; split <;> dsimp only <;> omega
    obtain ⟨b, hb2⟩ : ∃ b : Nat, (sideV f p.turned).2 = (b : Int) := by
      refine ⟨(sideV f p.turned).2.toNat, ?_⟩
      unfold FtOk at hf; unfold sideV; split <;> dsimp only <;> omega
    have hab : f.wide * f.deep = ((a * b : Nat) : Int) := by
      rw [Int.natCast_mul, ← ha, ← hb2]; unfold sideV; split
      · exact Int.mul_comm _ _
      · rfl
    have hm : maskOf f p = boxM p.y p.x a b := by unfold maskOf; rw [ha, hb2]; rfl
    rw [ha, hb2] at ho
    have hin : maskOf f p &&& boxM 0 0 A B = maskOf f p := by rw [hm]; exact box_in (by omega) (by omega) (by omega) (by omega)
    have hc : cnt (maskOf f p) = a * b := by rw [hm]; exact cnt_all _ (by omega) _ (by omega) _ (by omega) _ (by omega) (by omega) (by omega)
    have h0 : t &&& maskOf f p = 0 := by simpa using h3
    have ih := place_area hX hA hB (fun g hg => hF g (List.mem_cons_of_mem _ hg)) (t := t ||| maskOf f p) (by rw [Nat.and_or_distrib_right, h1, hin]) h4
    rw [cnt_or h0, hc] at ih
    rw [areaL_cons, hab]
    omega
theorem pack_area {s : Bx} {fs : List Ft} {qs : List Sq} (hX : boxOk s = true) (hF : ∀ f ∈ fs, FtOk f) (h : placeB s fs qs 0 = true) : areaL fs ≤ s.wide * s.deep := by
  have hb := boxOk_iff.1 hX
  obtain ⟨A, hA⟩ : ∃ A : Nat, s.wide = (A : Int) := ⟨s.wide.toNat, by omega⟩
  obtain ⟨B, hB⟩ : ∃ B : Nat, s.deep = (B : Int) := ⟨s.deep.toNat, by omega⟩
  have h1 := place_area hX hA hB hF (Nat.zero_and _) h
  rw [cnt_all 0 (by omega) 0 (by omega) A (by omega) B (by omega) (by omega) (by omega)] at h1
  have h2 : cnt 0 = 0 := by decide
  rw [h2] at h1
  rw [hA, hB, ← Int.natCast_mul]; omega
/-- What is accepted is shown. -/
theorem pack_shown {s : Bx} {fs : List Ft} {qs : List Sq} (hX : boxOk s = true) (hF : ∀ f ∈ fs, FtOk f) (h : packB s fs qs = true) : ∃ q ∈ shownL s fs, q.map toSq = qs := by
  unfold packB at h
  rw [Bool.and_eq_true, Bool.and_eq_true, Bool.and_eq_true] at h
  obtain ⟨_, h1, h3, h4⟩ := h
  have hp : plainB s fs = false := by
    have e1 : troubleB s fs 1 = false := by simpa using h1
    have e3 : troubleB s fs 3 = false := by simpa using h3
    have e2 : troubleB s fs 2 = false := by
      show fs.any (noStand s) = false
      rw [List.any_eq_false]
      intro f hf; rw [place_stands h4 f hf]; simp
    have e4 : troubleB s fs 4 = false := by
      show decide (s.wide * s.deep < areaL fs) = false
      have := pack_area hX hF h4
      rw [decide_eq_false_iff_not]; omega
    unfold plainB; rw [e1, e2, e3, e4]; rfl
  unfold shownL; rw [hp]
  exact place_packs h4
/-- What is shown is accepted. -/
theorem shown_pack {s : Bx} {fs : List Ft} {q : List St} (h : q ∈ shownL s fs) : packB s fs (q.map toSq) = true := by
  unfold shownL at h
  split at h
  · cases h
  · rename_i hp
    obtain ⟨h1, h2⟩ := packs_place h
    have hp2 : plainB s fs = false := by simpa using hp
    unfold plainB at hp2
    rw [Bool.or_eq_false_iff, Bool.or_eq_false_iff, Bool.or_eq_false_iff] at hp2
    unfold packB
    rw [hp2.1, hp2.2.2.1, h2, List.length_map, h1]; simp
end Go.Pb.Sag

/- The chapter's example, by the plain mathematics. -/
namespace Go.Pb.Sag
open Go Go.Pb Go.Pb.Ware Go.RowKit
def exS : Bx := ⟨1, 3, 2, 110, 100, 3000⟩
def exT : Bx := ⟨1, 3, 3, 110, 100, 3000⟩
def exRows : List (List Int) := [[1, 100, 102, 100, 102, 50, 51, 10, 200, 210, 1000], [2, 190, 200, 90, 100, 30, 30, 0, 500, 500, 0]]
def exL : List It := [⟨2, 1, 5⟩, ⟨2, 1, 5⟩, ⟨1, 2, 4⟩]
theorem ex_ok : ckW exRows [] = 0 ∧ boxOk exS = true ∧ boxOk exT = true := by decide
theorem ex_foot : footR exRows 110 ⟨1, 2, 4⟩ = ⟨1, 1, 92, 420⟩ := by rfl
theorem ex_feet : feetV exRows [] exS exL = [⟨2, 1, 30, 500⟩, ⟨2, 1, 30, 500⟩, ⟨1, 1, 92, 420⟩] := by rfl
theorem ex_plain : plainB exS [⟨2, 1, 30, 500⟩, ⟨2, 1, 30, 500⟩, ⟨1, 1, 92, 420⟩] = false := by decide
theorem ex_packs : (shownL exS [⟨2, 1, 30, 500⟩, ⟨2, 1, 30, 500⟩, ⟨1, 1, 92, 420⟩]).length = 44 := by decide +kernel
theorem ex_first : (shownL exS [⟨2, 1, 30, 500⟩, ⟨2, 1, 30, 500⟩, ⟨1, 1, 92, 420⟩])[0]? = some [⟨0, 0, false⟩, ⟨0, 2, true⟩, ⟨1, 0, false⟩] := by decide +kernel
theorem ex_high : troubleB exS [footR exRows 110 ⟨1, 3, 4⟩] 1 = true := by decide
theorem ex_tight : (shownL exT [footR exRows 110 ⟨1, 1, 5⟩, footR exRows 110 ⟨1, 1, 5⟩]).length = 0 ∧ (shownL exT [footR exRows 110 ⟨1, 1, 5⟩]).length = 4 := by decide +kernel
end Go.Pb.Sag

/- What the laws' inputs are: shapes that are well made, items of one piece of them. -/
namespace Go.Pb.Sag
open Go Go.Pb Go.Pb.Ware Go.RowKit
set_option linter.unusedVariables false
/-- Shapes with the numbers 1, 2, .. -/
def GoodS (ss : List (List Int)) : Prop := ss.length ≤ 40 ∧ ∀ (k : Nat) r, ss[k]? = some r → r.length = 11 ∧ r.getD 0 0 = (k : Int) + 1 ∧ okS r = true
theorem kept_up : ∀ {rs : List (List Int)} {b : Nat}, (∀ (k : Nat) r, rs[k]? = some r → r.getD 0 0 = ((b + k : Nat) : Int) + 1 ∧ okS r = true) → kept okS (b : Int) rs = true
  | [], _, _ => rfl
  | r :: rs, b, h => by
    have h0 := h 0 r rfl
    rw [kept_next h0.2 (by rw [h0.1]; omega), h0.1]
    have e : ((b + 0 : Nat) : Int) + 1 = ((b + 1 : Nat) : Int) := by omega
    rw [e]
    refine kept_up fun k r2 hk => ?_
    have h1 := h (k + 1) r2 (by simpa using hk)
    rw [show b + 1 + k = b + (k + 1) by omega]
    exact h1
theorem goodS_ck {ss : List (List Int)} (h : GoodS ss) : ckW ss [] = 0 := by
  refine ckW_1 ?_ rfl
  rw [keptB_short (by have := h.1; omega)]
  exact kept_up (b := 0) fun k r hk => by rw [Nat.zero_add]; exact (h.2 k r hk).2
theorem goodS_snoc {ss : List (List Int)} {r : List Int} (h : GoodS ss) (hl : ss.length < 40) (h1 : r.length = 11) (h2 : r.getD 0 0 = (ss.length : Int) + 1) (h3 : okS r = true) : GoodS (ss ++ [r]) := by
  refine ⟨by rw [List.length_append, List.length_singleton]; omega, fun k x hx => ?_⟩
  rcases Nat.lt_or_ge k ss.length with hk | hk
  · rw [List.getElem?_append_left hk] at hx; exact h.2 k x hx
  · rw [List.getElem?_append_right hk] at hx
    have hk2 := (List.getElem?_eq_some_iff.1 hx).1
    simp at hk2
    have e : k = ss.length := by omega
    subst e
    simp at hx
    subst hx
    exact ⟨h1, h2, h3⟩
theorem goodS_nil : GoodS [] := ⟨by simp, fun k r h => by simp at h⟩
theorem findR_at : ∀ {rs : List (List Int)} {b k : Nat} {r : List Int}, (∀ (k : Nat) r, rs[k]? = some r → r.getD 0 0 = ((b + k : Nat) : Int) + 1) → rs[k]? = some r → findR (((b + k : Nat) : Int) + 1) rs = some r
  | [], _, k, r, _, hk => by simp at hk
  | x :: rs, b, 0, r, h, hk => by
    have h0 := h 0 x rfl
    simp at hk
    subst hk
    rw [findR, if_pos h0]
  | x :: rs, b, k + 1, r, h, hk => by
    have h0 := h 0 x rfl
    rw [findR, if_neg (by rw [h0]; omega)]
    have h2 : ∀ (j : Nat) y, rs[j]? = some y → y.getD 0 0 = ((b + 1 + j : Nat) : Int) + 1 := fun j y hj => by
      have := h (j + 1) y (by simpa using hj)
      rw [show b + 1 + j = b + (j + 1) by omega]; exact this
    have := findR_at (rs := rs) (b := b + 1) (k := k) h2 (by simpa using hk)
    rwa [show b + 1 + k = b + (k + 1) by omega] at this
/-- One piece stands. -/
theorem goodS_item {ss : List (List Int)} {sh cl : Int} (h : GoodS ss) (h1 : 1 ≤ sh) (h2 : sh ≤ (ss.length : Int)) (h3 : 0 ≤ cl) (h4 : cl ≤ 50) : itemB ss ⟨sh, 1, cl⟩ = true := by
  obtain ⟨k, rfl⟩ : ∃ k : Nat, sh = (k : Int) + 1 := ⟨(sh - 1).toNat, by omega⟩
  have hk : k < ss.length := by omega
  have hr : ss[k]? = some ss[k] := List.getElem?_eq_getElem hk
  have hg := h.2 k _ hr
  have hf : findR ((k : Int) + 1) ss = some ss[k] := by
    have := findR_at (rs := ss) (b := 0) (k := k) (r := ss[k]) (fun j y hj => by rw [Nat.zero_add]; exact (h.2 j y hj).2.1) hr
    rwa [Nat.zero_add] at this
  unfold itemB
  dsimp only
  rw [hf]
  dsimp only
  have hs : (Ware.stands (shR ss[k]) 1).1 = true := by
    have ho : shOk (shR ss[k]) = true := hg.2.2
    have hb : 0 ≤ (shR ss[k]).bears := by
      simp only [shOk, Bool.and_eq_true, btw_iff] at ho; omega
    unfold Ware.stands
    have hp : ckP (shR ss[k]) 1 = 0 := by unfold ckP; rw [ho]; rfl
    rw [if_pos hp]
    exact decide_eq_true (by omega)
  rw [hs, btw_iff.2 ⟨h3, h4⟩]; rfl
theorem goodS_ex : GoodS exRows := by
  refine ⟨by decide, fun k r hk => ?_⟩
  match k, hk with
  | 0, hk => simp [exRows] at hk; subst hk; exact ⟨rfl, rfl, by decide⟩
  | 1, hk => simp [exRows] at hk; subst hk; exact ⟨rfl, rfl, by decide⟩
  | k + 2, hk => simp [exRows] at hk
theorem good_ck {ss : List (List Int)} {s : Bx} {xs : List It} (h : GoodS ss) (hX : boxOk s = true) (hn : xs.length ≤ 5) (hi : xs.all (itemB ss) = true) : ckL ss [] s xs = 0 := by
  refine ckL_good ?_ (by omega) hi
  unfold ckG; rw [if_pos (goodS_ck h)]
  unfold ckX; rw [if_pos hX]
end Go.Pb.Sag

/- What making a floor holds in memory. -/
namespace Go.Pb.Sag
open Go Go.Pb Go.Pb.Ware Go.RowKit
set_option linter.unusedVariables false
theorem cells_store {W : World} {B o : Nat} {u : Value} {vs : List Value} (h : CellsAt W B vs) : CellsAt (W.setCell ⟨B, o, none⟩ u) B (vs.set o u) := by
  intro j v hv
  by_cases hj : j = o
  · subst hj
    have hl : j < vs.length := by have := (List.getElem?_eq_some_iff.1 hv).1; simpa using this
    rw [List.getElem?_set_self hl] at hv
    injection hv with hv
    subst hv
    have h1 := h j _ (List.getElem?_eq_getElem hl)
    exact ⟨setc_same h1.1, set_free h1.1 h1.2⟩
  · rw [List.getElem?_set_ne (Ne.symm hj)] at hv
    have h1 := h j v hv
    exact ⟨setc_other h1.1 hj, set_free h1.1 h1.2⟩
theorem cells_grown {W W' : World} {B : Nat} {vs : List Value} {row : Option Nat} (h : CellsAt W B vs) (hg : W.grownBy W' row) (hne : some B ≠ row) : CellsAt W' B vs :=
  fun o v hv => ⟨grown_kept hg (h o v hv).1 hne, grown_free hg (h o v hv).1 (h o v hv).2 hne⟩
def Z9 : List Value := [.slice none 0 0, .slice none 0 0, .int .i64 0, .int .i64 0, .int .i64 0, .int .i64 0, .int .i64 0, .int .i64 0, .slice none 0 0]
/-- The argument's block, the answer's, the floor's (with shapes and items that are the call's own). -/
structure MadeAt (TS TI B : Nat) (w : World) (args : List Value) (c : List Int) (sv iv : Value) (ss : List (List Int)) (xs : List It) (W : World) : Prop where
  below : Below B w W
  size : B + 1 + 1 + 1 ≤ W.heap.size
  arg : CellsAt W B args
  res : CellsAt W (B + 1) Z9
  floor : CellsAt W (B + 1 + 1) (sv :: .slice none 0 0 :: (c.map (Value.int .i64) ++ [iv]))
  clen : c.length = 6
  shapes : W.ownsRow (B + 1 + 1 + 1) TS 11 sv ss.length (ss.flatten.map (Value.int .i64))
  items : W.ownsRow (B + 1 + 1 + 1) TI 3 iv xs.length ((xs.map rowX).flatten.map (Value.int .i64))
theorem MadeAt.next {TS TI B : Nat} {w W W' : World} {args : List Value} {c : List Int} {sv iv : Value} {ss : List (List Int)} {xs : List It} (h : MadeAt TS TI B w args c sv iv ss xs W) (hb : Below W.heap.size W W') : MadeAt TS TI B w args c sv iv ss xs W' :=
  ⟨h.below.trans (hb.mono (by have := h.size; omega)), by have := hb.size; have := h.size; omega, h.arg.below hb, h.res.below hb, h.floor.below hb, h.clen, owns_below h.shapes hb, owns_below h.items hb⟩
theorem own_ne {W : World} {lo T s n b : Nat} {v : Value} {xs : List Value} (h : W.ownsRow lo T s v n xs) (hb : b < lo) : some b ≠ v.ownBlock := fun e => by
  have := own_ge h b e.symm; omega
theorem own_ne' {W : World} {lo T s n b : Nat} {v : Value} {xs : List Value} (h : W.ownsRow lo T s v n xs) (hb : b < lo) : v.ownBlock = none ∨ v.ownBlock ≠ some b := .inr fun e => own_ne h hb e.symm
/-- One shape more, and its store. -/
theorem MadeAt.push {TS TI B : Nat} {w W W' : World} {args : List Value} {c : List Int} {sv sv' iv : Value} {ss : List (List Int)} {xs : List It} {r : List Int} (h : MadeAt TS TI B w args c sv iv ss xs W) (hT : TI ≠ TS) (hg : W.grownBy W' sv.ownBlock)
    (ho : W'.ownsRow (B + 1 + 1 + 1) TS 11 sv' (ss.length + 1) (ss.flatten.map (Value.int .i64) ++ r.map (Value.int .i64))) : MadeAt TS TI B w args c sv' iv (ss ++ [r]) xs (W'.setCell ⟨B + 1 + 1, 0, none⟩ sv') := by
  have h0 := h.size
  have e1 : (ss ++ [r]).length = ss.length + 1 := by simp
  have e2 : (ss ++ [r]).flatten.map (Value.int .i64) = ss.flatten.map (Value.int .i64) ++ r.map (Value.int .i64) := by simp
  refine ⟨(below_grown h.below hg h.shapes (by omega) (by omega)).setCell (p := ⟨B + 1 + 1, 0, none⟩) (by show B ≤ B + 1 + 1; omega) _, by have := hg.size; simp; omega, (cells_grown h.arg hg (own_ne h.shapes (by omega))).other (by omega) _, (cells_grown h.res hg (own_ne h.shapes (by omega))).other (by omega) _, ?_, h.clen, ?_, ?_⟩
  · exact cells_store (cells_grown h.floor hg (own_ne h.shapes (by omega)))
  · rw [e1, e2]; exact set_own ho (own_ne' ho (by omega))
  · exact set_own (h.items.kept hg (apart_types h.items h.shapes hT)) (own_ne' h.items (by omega))
/-- One item more, and its store. -/
theorem MadeAt.add {TS TI B : Nat} {w W W' : World} {args : List Value} {c : List Int} {sv iv iv' : Value} {ss : List (List Int)} {xs : List It} {x : It} (h : MadeAt TS TI B w args c sv iv ss xs W) (hT : TS ≠ TI) (hg : W.grownBy W' iv.ownBlock)
    (ho : W'.ownsRow (B + 1 + 1 + 1) TI 3 iv' (xs.length + 1) ((xs.map rowX).flatten.map (Value.int .i64) ++ (rowX x).map (Value.int .i64))) : MadeAt TS TI B w args c sv iv' ss (xs ++ [x]) (W'.setCell ⟨B + 1 + 1, 8, none⟩ iv') := by
  have h0 := h.size
  have e1 : (xs ++ [x]).length = xs.length + 1 := by simp
  have e2 : ((xs ++ [x]).map rowX).flatten.map (Value.int .i64) = (xs.map rowX).flatten.map (Value.int .i64) ++ (rowX x).map (Value.int .i64) := by simp
  refine ⟨(below_grown h.below hg h.items (by omega) (by omega)).setCell (p := ⟨B + 1 + 1, 8, none⟩) (by show B ≤ B + 1 + 1; omega) _, by have := hg.size; simp; omega, (cells_grown h.arg hg (own_ne h.items (by omega))).other (by omega) _, (cells_grown h.res hg (own_ne h.items (by omega))).other (by omega) _, ?_, h.clen, ?_, ?_⟩
  · have h1 := cells_store (o := 8) (u := iv') (cells_grown h.floor hg (own_ne h.items (by omega)))
    match c, h.clen, h1 with
    | [c1, c2, c3, c4, c5, c6], _, h1 => exact h1
  · exact set_own (h.shapes.kept hg (apart_types h.shapes h.items hT)) (own_ne' h.shapes (by omega))
  · rw [e1, e2]; exact set_own ho (own_ne' ho (by omega))
theorem own_set {W : World} {lo T n s cap g k : Nat} {xs : List Value} {v : Value} (h : W.ownsRow lo T s (.slice (some ⟨g, 0, none⟩) n cap) n xs) : (W.setCell ⟨g, k, none⟩ v).ownsRow lo T s (.slice (some ⟨g, 0, none⟩) n cap) n (xs.set k v) := by
  refine ⟨by rw [List.length_set]; exact h.1, ?_⟩
  rcases h.2 with ⟨h1, _⟩ | ⟨g', cap', cur, h1, h2, h3, h4, h5, h6, h7⟩
  · cases h1
  · injection h1 with e1 _ e2
    injection e1 with e1
    injection e1 with e1
    subst e1; subst e2
    refine .inr ⟨g, cap, cur.setIfInBounds k v, rfl, h2, ?_, h4, h5, by rw [Array.size_setIfInBounds]; exact h6, ?_⟩
    · rw [Go.Sort.setCell_eq]
      unfold Go.Sort.mapBlock
      rw [Array.getElem?_modify, if_pos rfl, h3]; rfl
    · rw [Array.toList_setIfInBounds, List.take_set, h7]
theorem flat_set : ∀ {xs : List It} {i : Nat} {x : It}, i < xs.length → (((((xs.map rowX).flatten.map (Value.int .i64)).set (i * 3) (.int .i64 x.shape)).set (i * 3 + 1) (.int .i64 x.many)).set (i * 3 + 2) (.int .i64 x.clear)) = ((xs.set i x).map rowX).flatten.map (Value.int .i64)
  | [], i, x, h => by simp at h
  | y :: ys, 0, x, h => rfl
  | y :: ys, i + 1, x, h => by
    have ih := flat_set (xs := ys) (i := i) (x := x) (by simpa using h)
    have e : ∀ (l : List Value) (j : Nat) (v : Value), (Value.int .i64 y.shape :: .int .i64 y.many :: .int .i64 y.clear :: l).set (j + 3) v = .int .i64 y.shape :: .int .i64 y.many :: .int .i64 y.clear :: l.set j v := fun l j v => rfl
    have e0 : (((y :: ys).map rowX).flatten.map (Value.int .i64)) = .int .i64 y.shape :: .int .i64 y.many :: .int .i64 y.clear :: ((ys.map rowX).flatten.map (Value.int .i64)) := rfl
    rw [e0, show (i + 1) * 3 = i * 3 + 3 by omega, show i * 3 + 3 + 1 = i * 3 + 1 + 3 by omega, show i * 3 + 3 + 2 = i * 3 + 2 + 3 by omega, e, e, e, ih]
    rfl
/-- One item overwritten. -/
theorem MadeAt.over {TS TI B g cap i : Nat} {w W : World} {args : List Value} {c : List Int} {sv : Value} {ss : List (List Int)} {xs : List It} {x : It} (h : MadeAt TS TI B w args c sv (.slice (some ⟨g, 0, none⟩) xs.length cap) ss xs W) (hT : TS ≠ TI) (hi : i < xs.length) :
    MadeAt TS TI B w args c sv (.slice (some ⟨g, 0, none⟩) xs.length cap) ss (xs.set i x) (((W.setCell ⟨g, i * 3, none⟩ (.int .i64 x.shape)).setCell ⟨g, i * 3 + 1, none⟩ (.int .i64 x.many)).setCell ⟨g, i * 3 + 2, none⟩ (.int .i64 x.clear)) := by
  have h0 := h.size
  have hgb := own_ge h.items g rfl
  have n1 : ∀ o u, sv.ownBlock = none ∨ sv.ownBlock ≠ some (⟨g, o, u⟩ : Addr).block := fun o u => apart_types h.shapes h.items hT
  refine ⟨((h.below.setCell (p := ⟨g, i * 3, none⟩) (by show B ≤ g; omega) _).setCell (p := ⟨g, i * 3 + 1, none⟩) (by show B ≤ g; omega) _).setCell (p := ⟨g, i * 3 + 2, none⟩) (by show B ≤ g; omega) _, by simp; omega, ((h.arg.other (by omega) _).other (by omega) _).other (by omega) _, ((h.res.other (by omega) _).other (by omega) _).other (by omega) _, ((h.floor.other (by omega) _).other (by omega) _).other (by omega) _, h.clen, ?_, ?_⟩
  · exact set_own (set_own (set_own h.shapes (n1 0 none)) (n1 0 none)) (n1 0 none)
  · rw [List.length_set, ← flat_set hi]
    exact own_set (own_set (own_set h.items))
/-- Another slice of shapes. -/
theorem MadeAt.wares {TS TI B : Nat} {w W : World} {args : List Value} {c : List Int} {sv sv' iv : Value} {ss ss' : List (List Int)} {xs : List It} (h : MadeAt TS TI B w args c sv iv ss xs W) (ho : W.ownsRow (B + 1 + 1 + 1) TS 11 sv' ss'.length (ss'.flatten.map (Value.int .i64))) :
    MadeAt TS TI B w args c sv' iv ss' xs ((W.setCell ⟨B + 1 + 1, 0, none⟩ sv').setCell ⟨B + 1 + 1, 1, none⟩ (.slice none 0 0)) := by
  have h0 := h.size
  refine ⟨(h.below.setCell (p := ⟨B + 1 + 1, 0, none⟩) (by show B ≤ B + 1 + 1; omega) _).setCell (p := ⟨B + 1 + 1, 1, none⟩) (by show B ≤ B + 1 + 1; omega) _, by simp; omega, (h.arg.other (by omega) _).other (by omega) _, (h.res.other (by omega) _).other (by omega) _, ?_, h.clen, set_own (set_own ho (own_ne' ho (by omega))) (own_ne' ho (by omega)), set_own (set_own h.items (own_ne' h.items (by omega))) (own_ne' h.items (by omega))⟩
  exact cells_store (o := 1) (cells_store (o := 0) h.floor)
/-- Another box. -/
theorem MadeAt.box {TS TI B : Nat} {w W : World} {args : List Value} {c : List Int} {sv iv : Value} {ss : List (List Int)} {xs : List It} {c1 c2 c3 c4 c5 c6 : Int} (h : MadeAt TS TI B w args c sv iv ss xs W) :
    MadeAt TS TI B w args [c1, c2, c3, c4, c5, c6] sv iv ss xs ((((((W.setCell ⟨B + 1 + 1, 2, none⟩ (.int .i64 c1)).setCell ⟨B + 1 + 1, 3, none⟩ (.int .i64 c2)).setCell ⟨B + 1 + 1, 4, none⟩ (.int .i64 c3)).setCell ⟨B + 1 + 1, 5, none⟩ (.int .i64 c4)).setCell ⟨B + 1 + 1, 6, none⟩ (.int .i64 c5)).setCell ⟨B + 1 + 1, 7, none⟩ (.int .i64 c6)) := by
  have h0 := h.size
  have hb : ∀ {V : World} (o : Nat) (u : Value), Below B w V → Below B w (V.setCell ⟨B + 1 + 1, o, none⟩ u) := fun o u h => h.setCell (p := ⟨B + 1 + 1, o, none⟩) (by show B ≤ B + 1 + 1; omega) u
  have hs := own_ne' h.shapes (b := B + 1 + 1) (by omega)
  have hi := own_ne' h.items (b := B + 1 + 1) (by omega)
  refine ⟨hb _ _ (hb _ _ (hb _ _ (hb _ _ (hb _ _ (hb _ _ h.below))))), by simp; omega, (((((h.arg.other (by omega) _).other (by omega) _).other (by omega) _).other (by omega) _).other (by omega) _).other (by omega) _, (((((h.res.other (by omega) _).other (by omega) _).other (by omega) _).other (by omega) _).other (by omega) _).other (by omega) _, ?_, rfl, set_own (set_own (set_own (set_own (set_own (set_own h.shapes hs) hs) hs) hs) hs) hs, set_own (set_own (set_own (set_own (set_own (set_own h.items hi) hi) hi) hi) hi) hi⟩
  have h1 := cells_store (o := 7) (u := .int .i64 c6) (cells_store (o := 6) (u := .int .i64 c5) (cells_store (o := 5) (u := .int .i64 c4) (cells_store (o := 4) (u := .int .i64 c3) (cells_store (o := 3) (u := .int .i64 c2) (cells_store (o := 2) (u := .int .i64 c1) h.floor)))))
  match c, h.clen, h1 with
  | [a1, a2, a3, a4, a5, a6], _, h1 => exact h1
/-- A block of the call's own beside. -/
theorem MadeAt.side {TS TI B b o : Nat} {w W : World} {args : List Value} {c : List Int} {sv iv u : Value} {ss : List (List Int)} {xs : List It} (h : MadeAt TS TI B w args c sv iv ss xs W) (hb : B + 1 + 1 + 1 ≤ b) (hs : ∀ a, sv.ownBlock = some a → a < b) (hi : ∀ a, iv.ownBlock = some a → a < b) :
    MadeAt TS TI B w args c sv iv ss xs (W.setCell ⟨b, o, none⟩ u) := by
  have h0 := h.size
  exact ⟨h.below.setCell (p := ⟨b, o, none⟩) (by show B ≤ b; omega) _, by simp; omega, h.arg.other (by omega) _, h.res.other (by omega) _, h.floor.other (by omega) _, h.clen, set_own h.shapes (.inr fun e => by have := hs b e; omega), set_own h.items (.inr fun e => by have := hi b e; omega)⟩
theorem MadeAt.lt {TS TI B : Nat} {w W : World} {args : List Value} {c : List Int} {sv iv : Value} {ss : List (List Int)} {xs : List It} (h : MadeAt TS TI B w args c sv iv ss xs W) : (∀ a, sv.ownBlock = some a → a < W.heap.size) ∧ ∀ a, iv.ownBlock = some a → a < W.heap.size :=
  ⟨fun a e => (World.ownsRow.lt h.shapes a e).2, fun a e => (World.ownsRow.lt h.items a e).2⟩
theorem goodS_i64 {ss : List (List Int)} (h : GoodS ss) : ∀ r ∈ ss, r.length = 11 ∧ ∀ z ∈ r, I64 z := by
  intro r hr
  obtain ⟨k, hk⟩ := List.getElem?_of_mem hr
  obtain ⟨h1, _, h3⟩ := h.2 k r hk
  refine ⟨h1, ?_⟩
  obtain ⟨a0, a1, a2, a3, a4, a5, a6, a7, a8, a9, a10, rfl⟩ := len11 h1
  have h4 := shOk_iff.1 h3
  simp only [shR, List.getD_cons_zero, List.getD_cons_succ] at h4
  intro z hz
  simp only [List.mem_cons, List.not_mem_nil, or_false] at hz
  rcases hz with rfl | rfl | rfl | rfl | rfl | rfl | rfl | rfl | rfl | rfl | rfl <;> exact I64.mk (by omega) (by omega)
theorem item_i64 {ss : List (List Int)} {x : It} (h : GoodS ss) (hx : itemB ss x = true) : ∀ z ∈ rowX x, I64 z := by
  unfold itemB at hx
  split at hx
  · rename_i r hf
    obtain ⟨hm, hid⟩ := findR_mem hf
    obtain ⟨k, hk⟩ := List.getElem?_of_mem hm
    have h3 := shOk_iff.1 (h.2 k r hk).2.2
    rw [Bool.and_eq_true, btw_iff] at hx
    have hs : ckP (shR r) x.many = 0 := by
      have h4 := hx.1
      unfold Ware.stands at h4
      split at h4
      · assumption
      · cases h4
    have hmn : 1 ≤ x.many ∧ x.many ≤ 40 := by
      unfold ckP at hs
      split at hs
      · split at hs
        · rename_i hb; exact btw_iff.1 hb
        · cases hs
      · cases hs
    have hsh : (shR r).id = x.shape := hid
    intro z hz
    simp only [rowX, List.mem_cons, List.not_mem_nil, or_false] at hz
    rcases hz with rfl | rfl | rfl
    · exact I64.mk (by omega) (by omega)
    · exact I64.mk (by omega) (by omega)
    · exact I64.mk (by omega) (by omega)
  · cases hx
theorem MadeAt.rows {TS TI B : Nat} {w W : World} {args : List Value} {c : List Int} {sv iv : Value} {ss : List (List Int)} {xs : List It} (h : MadeAt TS TI B w args c sv iv ss xs W) (hg : GoodS ss) : RowsAt 11 W sv ss :=
  rowsAt_of_owns (rows := ss) (fun r hr => (goodS_i64 hg r hr).1) h.shapes (fun r hr => (goodS_i64 hg r hr).2)
theorem MadeAt.its {TS TI B : Nat} {w W : World} {args : List Value} {c : List Int} {sv iv : Value} {ss : List (List Int)} {xs : List It} (h : MadeAt TS TI B w args c sv iv ss xs W) (hg : GoodS ss) (ha : xs.all (itemB ss) = true) : RowsAt 3 W iv (xs.map rowX) := by
  refine rowsAt_of_owns (rows := xs.map rowX) (e := TI) (base := B + 1 + 1 + 1) (fun r hr => ?_) (by rw [List.length_map]; exact h.items) (fun r hr => ?_)
  · obtain ⟨x, _, rfl⟩ := List.mem_map.1 hr; rfl
  · obtain ⟨x, hx, rfl⟩ := List.mem_map.1 hr
    exact item_i64 hg (List.all_eq_true.1 ha x hx)
end Go.Pb.Sag

/- An argument that is a slice of structs or arrays, all of whose cells are int64s. -/
namespace Go.Pb
open Go.RowKit Go.ChangeShapes Go.WideShapes Go.ChangeAt Go.Deep
section
variable {H : Type} {enc : TypeId × Value → H} {P : Program} {w : World} {base : Nat} {spare : Nat → Bool} {held : Bool}
theorem open_rowsT {r : Reach} {b0 m n : Nat} {t e : TypeId} {v : Value} {d : DataW H} {p : List MemPlace} (ht : P.underlying t = some (.slice e)) (hfl : flatI P m e = true) (hn : P.cellsOf e = n)
    (hv : Value.okWide P w r b0 t v) (h : DataW.Trod enc P w base spare held t v d p) : ∃ rows, RowsAt n w v rows := by
  obtain ⟨a0, l0, c0, rfl⟩ := okWide_slice ht hv
  obtain ⟨fuel, hf⟩ := h
  obtain ⟨u, rows, he, hr⟩ := open_rows ht hfl hn hf
  simp [Value.cells] at he
  subst he
  exact ⟨rows, hr⟩
end
end Go.Pb
