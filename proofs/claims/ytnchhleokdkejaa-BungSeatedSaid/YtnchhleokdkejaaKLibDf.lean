/- A region that draws its order, as in Lib2, with one word more: the number of draws does not fall. So a call's world can be told as the one ahead of it, with draws and with new blocks. -/
import Derived.Test.YtnchhleokdkejaaKLibf
import Derived.Sort.Grow
import Derived.Deep.Draws
import Derived.Test.YtnchhleokdkejaaKScf
import Derived.OrdersIn
import Derived.RangeFuncCalls
import Derived.RangeFuncLeaves
import Derived.RangeFuncNested
import Derived.Deep.LoopGhost
import Derived.Shelf.SlSortCmp.SmallK
import Derived.Laws.CopyOwn
namespace Go.Pb
set_option linter.unusedVariables false
open Go.RowKit Go.Sort
structure Gr (w w' : World) : Prop where
  b : Below w.heap.size w w'
  d : w.drawn ≤ w'.drawn
theorem Gr.refl (w : World) : Gr w w := ⟨Below.refl _ _, Nat.le_refl _⟩
theorem Gr.size {w w' : World} (h : Gr w w') : w.heap.size ≤ w'.heap.size := h.b.size
theorem Gr.trans {a b c : World} (h : Gr a b) (k : Gr b c) : Gr a c := ⟨h.b.trans (k.b.mono h.b.size), Nat.le_trans h.d k.d⟩
theorem Gr.drew {a b : World} (h : Gr a b) : Gr a b.drew := ⟨h.b.drew, Nat.le_trans h.d (Nat.le_succ _)⟩
theorem Gr.alloc {a b : World} (h : Gr a b) (o : Obj) : Gr a (b.alloc o) := ⟨h.b.alloc h.b.size _, h.d⟩
theorem Gr.setCell {a b : World} (h : Gr a b) {p : Addr} (hp : a.heap.size ≤ p.block) (v : Value) : Gr a (b.setCell p v) := ⟨h.b.setCell hp v, h.d⟩
/-- The world behind is the one ahead, with draws and with new blocks. -/
theorem Gr.grow {w w' : World} (h : Gr w w') : ∃ q os, w' = Go.Sort.grow (w.drewN q) os := by
  obtain ⟨⟨h1, h2, h3, h4, h5⟩, h6⟩ := h
  refine ⟨w'.drawn - w.drawn, w'.heap.extract w.heap.size w'.heap.size, ?_⟩
  obtain ⟨hp, tp, dr, os, out⟩ := w'
  obtain ⟨hp0, tp0, dr0, os0, out0⟩ := w
  simp only at h1 h2 h3 h4 h5 h6
  subst h1; subst h2; subst h3
  unfold Go.Sort.grow World.drewN
  simp only [World.mk.injEq, true_and, and_true]
  refine ⟨?_, by omega⟩
  apply Array.ext_getElem?
  intro i
  rcases Nat.lt_or_ge i hp0.size with hi | hi
  · rw [Array.getElem?_append_left hi]; exact h5 i hi
  · rw [Array.getElem?_append_right hi, Array.getElem?_extract]
    split
    · congr 1; omega
    · rw [Array.getElem?_eq_none (by omega)]
section
variable {P : Program} {md : Region.Mode} {ops : Array Oper} {w0 : World} {fr : Nat → Bool} {p : Nat → Value → World → Prop}

/-- The worlds of the walk in which what an operation waits for is known. -/
structure BQD (w0 : World) (q : World → Prop) where
  w' : World
  below : Gr w0 w'
  has : q w'

def ClD (w0 : World) (md : Region.Mode) (p : Nat → Value → World → Prop) (Γ : Known) (o : Oper) (w' : World) : Prop := ∃ x : BQD w0 (Facts md p Γ o), w' = x.w'

theorem ClD.iff {Γ : Known} {o : Oper} {w' : World} : ClD w0 md p Γ o w' ↔ Gr w0 w' ∧ Facts md p Γ o w' :=
  ⟨fun ⟨x, hx⟩ => hx ▸ ⟨x.below, x.has⟩, fun ⟨h1, h2⟩ => ⟨⟨w', h1, h2⟩, rfl⟩⟩

/-- AllD that is known, in one world. -/
def AllD (w0 : World) (p : Nat → Value → World → Prop) (Γ : Known) (W : World) : Prop := Gr w0 W ∧ ∀ g v, Γ g = some v → p g v W
theorem AllD.cl {Γ : Known} {W : World} (h : AllD w0 p Γ W) (o : Oper) : ClD w0 md p Γ o W := ClD.iff.2 ⟨h.1, fun g v hg _ => h.2 g v hg⟩

/-- An operation that makes memory: in the world w' it yields a value of which p is known; what was there stays. -/
def freshAtD (P : Program) (o : Oper) (a : Act) (p : Value → World → Prop) (w' : World) : Prop :=
  match (execOp a.eval o).run P w' with
  | .ok (.value u) w'' => Gr w' w'' ∧ p u w''
  | .ok (.enter f args) w'' => w'' = w' ∧ Calls P f args w' (fun e w'' => ∃ u, e = .returned u ∧ Gr w' w'' ∧ p u w'')
  | _ => False

/-- One operation of the group. -/
def oneRD (P : Program) (md : Region.Mode) (ops : Array Oper) (w0 : World) (fr : Nat → Bool) (p : Nat → Value → World → Prop) (Γ : Known) (h : Nat) (K : Known → Act → Prop) (a : Act) : Prop :=
  match ops[h]? with
  | none => K Γ a
  | some o =>
    if Region.wanted o (yielded ops a.tmps) = true then
      if fr h = true then (∀ w', ClD w0 md p Γ o w' → freshAtD P o a (p h) w') ∧ ∀ v, (∃ W, AllD w0 p (upd Γ h v) W) → K (upd Γ h v) (a.put o.dst v)
      else (∃ W, ClD w0 md p Γ o W) → ∃ v, (∀ w', ClD w0 md p Γ o w' → o.quietAt P a (ClD w0 md p Γ o) w' v) ∧ K Γ (a.put o.dst v)
    else K Γ (a.put o.dst undef)

def wpRD (P : Program) (md : Region.Mode) (ops : Array Oper) (w0 : World) (fr : Nat → Bool) (p : Nat → Value → World → Prop) (Fin : Known → Act → Prop) : List Nat → Known → Act → Prop
  | [], Γ, a => Fin Γ a
  | h :: rest, Γ, a => oneRD P md ops w0 fr p Γ h (wpRD P md ops w0 fr p Fin rest) a

theorem cl_updD {Γ : Known} {j : Nat} {v : Value} {o : Oper} (hw : waits md o j = false) : ClD w0 md p (upd Γ j v) o = ClD w0 md p Γ o := by
  funext w'; rw [eq_iff_iff, ClD.iff, ClD.iff, facts_upd hw]
theorem AllD.less {Γ : Known} {j : Nat} {v : Value} {W : World} (hj : Γ j = none) (h : AllD w0 p (upd Γ j v) W) : AllD w0 p Γ W :=
  ⟨h.1, fun g u hg => h.2 g u (by unfold upd; rw [if_neg (by rintro rfl; rw [hj] at hg; cases hg)]; exact hg)⟩
theorem fresh_inhD {o : Oper} {a : Act} {q : Value → World → Prop} {W : World} (h : freshAtD P o a q W) : ∃ u W', Gr W W' ∧ q u W' := by
  unfold freshAtD at h
  split at h
  · exact ⟨_, _, h⟩
  · obtain ⟨e, w', fr', ⟨u, _, hb, hq⟩, _⟩ := h.2 []
    exact ⟨u, w', hb, hq⟩
  · exact h.elim

/-- Two neighbours that do not wait for each other, and are apart, may change places. -/
theorem oneR_swapD {Γ : Known} {i j : Nat} {oi oj : Oper} {K : Known → Act → Prop} {a : Act} (hne : i ≠ j) (hi : ops[i]? = some oi) (hj : ops[j]? = some oj)
    (hsel : Region.noSelect ops = true) (hap : oj.apart ops oi = true) (hij : waits md oi j = false) (hji : waits md oj i = false)
    (hpl : fr j = true → fr i = false → plainOp oi.op = true) {W : World} (hW : AllD w0 p Γ W) (hΓi : Γ i = none) (hΓj : Γ j = none)
    (hkeep : ∀ i v w1 w2, p i v w1 → Below w1.heap.size w1 w2 → p i v w2)
    (H : oneRD P md ops w0 fr p Γ j (fun Γ' a' => oneRD P md ops w0 fr p Γ' i K a') a) : oneRD P md ops w0 fr p Γ i (fun Γ' a' => oneRD P md ops w0 fr p Γ' j K a') a := by
  obtain ⟨a1, a2, a3⟩ := Oper.apart_spec hap
  have si := fun cs b => Region.noSelect_spec hsel i oi cs b hi
  have sj := fun cs b => Region.noSelect_spec hsel j oj cs b hj
  have e1 : ∀ v, Region.wanted oi (yielded ops (a.put oj.dst v).tmps) = Region.wanted oi (yielded ops a.tmps) := fun v => wanted_put oi a oj.dst v a1
  have e2 : ∀ v, Region.wanted oj (yielded ops (a.put oi.dst v).tmps) = Region.wanted oj (yielded ops a.tmps) := fun v => wanted_put oj a oi.dst v a3
  have q1 : ∀ v C w' u, oi.quietAt P (a.put oj.dst v) C w' u ↔ oi.quietAt P a C w' u := fun v C w' u => by unfold Oper.quietAt; rw [execOp_put oi si a oj.dst v a1]
  have q2 : ∀ v C w' u, oj.quietAt P (a.put oi.dst v) C w' u ↔ oj.quietAt P a C w' u := fun v C w' u => by unfold Oper.quietAt; rw [execOp_put oj sj a oi.dst v a3]
  have f1 : ∀ v q w', freshAtD P oi (a.put oj.dst v) q w' ↔ freshAtD P oi a q w' := fun v q w' => by unfold freshAtD; rw [execOp_put oi si a oj.dst v a1]
  have f2 : ∀ v q w', freshAtD P oj (a.put oi.dst v) q w' ↔ freshAtD P oj a q w' := fun v q w' => by unfold freshAtD; rw [execOp_put oj sj a oi.dst v a3]
  have pc : ∀ v u, (a.put oj.dst v).put oi.dst u = (a.put oi.dst u).put oj.dst v := fun v u => Act.put_comm a v u a2
  have inh : ∀ h o, Γ h = none → (∀ w', ClD w0 md p Γ o w' → freshAtD P o a (p h) w') → ∃ v, ∃ W, AllD w0 p (upd Γ h v) W := by
    intro h o hh hf
    obtain ⟨u, W', hb, hq⟩ := fresh_inhD (hf W (hW.cl o))
    refine ⟨u, W', hW.1.trans hb, fun g v hg => ?_⟩
    unfold upd at hg
    by_cases hgh : g = h
    · subst hgh; rw [if_pos rfl] at hg; cases hg; exact hq
    · rw [if_neg hgh] at hg; exact hkeep _ _ _ _ (hW.2 g v hg) hb.b
  unfold oneRD at *
  simp only [hi, hj, e1, e2, q1, q2, f1, f2, pc] at *
  by_cases wj : Region.wanted oj (yielded ops a.tmps) = true
  · by_cases wi : Region.wanted oi (yielded ops a.tmps) = true
    · simp only [wj, wi, if_true] at *
      by_cases fj : fr j = true
      · by_cases fi : fr i = true
        · simp only [fj, fi, if_true, cl_updD hij, cl_updD hji] at *
          obtain ⟨h1, h2⟩ := H
          obtain ⟨v0, hv0⟩ := inh j oj hΓj h1
          refine ⟨(h2 v0 hv0).1, fun v _ => ⟨h1, fun u hu => ?_⟩⟩
          rw [upd_comm hne] at hu ⊢
          have hΓ : upd Γ j u i = none := by unfold upd; rw [if_neg hne]; exact hΓi
          obtain ⟨W', hW'⟩ := hu
          exact (h2 u ⟨W', hW'.less hΓ⟩).2 v ⟨W', hW'⟩
        · have fi' : fr i = false := by simpa using fi
          simp only [fj, fi', if_true, Bool.false_eq_true, if_false, cl_updD hij, cl_updD hji] at *
          obtain ⟨h1, h2⟩ := H
          obtain ⟨v0, hv0⟩ := inh j oj hΓj h1
          obtain ⟨vi, hvi, _⟩ := h2 v0 hv0 ⟨W, hW.cl _⟩
          refine fun _ => ⟨vi, hvi, h1, fun u hu => ?_⟩
          obtain ⟨vi', hvi', hK⟩ := h2 u hu ⟨W, hW.cl _⟩
          obtain rfl : vi = vi' := quietAt_det (hpl trivial trivial) (hvi W (hW.cl _)) (hvi' W (hW.cl _))
          exact hK
      · have fj' : fr j = false := by simpa using fj
        by_cases fi : fr i = true
        · simp only [fj', fi, if_true, Bool.false_eq_true, if_false, cl_updD hij, cl_updD hji] at *
          obtain ⟨vj, h1, h2, h3⟩ := H ⟨W, hW.cl _⟩
          exact ⟨h2, fun v hv => fun _ => ⟨vj, h1, h3 v hv⟩⟩
        · have fi' : fr i = false := by simpa using fi
          simp only [fj', fi', Bool.false_eq_true, if_false, cl_updD hij, cl_updD hji] at *
          obtain ⟨vj, h1, h4⟩ := H ⟨W, hW.cl _⟩
          obtain ⟨vi, h2, h3⟩ := h4 ⟨W, hW.cl _⟩
          exact fun _ => ⟨vi, h2, fun _ => ⟨vj, h1, h3⟩⟩
    · simp only [wj, wi, if_true] at *
      by_cases fj : fr j = true
      · simp only [fj, if_true] at *
        exact H
      · simp only [fj] at *
        exact H
  · by_cases wi : Region.wanted oi (yielded ops a.tmps) = true
    · simp only [wj, wi, if_true] at *
      by_cases fi : fr i = true
      · simp only [fi, if_true] at *
        exact H
      · simp only [fi] at *
        exact H
    · simp only [wj, wi] at *
      exact H

theorem wpR_pullD {Fin : Known → Act → Prop} (hsel : Region.noSelect ops = true) (hkeep : ∀ i v w1 w2, p i v w1 → Below w1.heap.size w1 w2 → p i v w2) {i : Nat} {oi : Oper} (hi : ops[i]? = some oi) :
    ∀ (l : List Nat) (Γ : Known) (a : Act), i ∈ l → l.Nodup → l.Pairwise (Pair md ops fr) → (∀ j ∈ l, waits md oi j = false) →
      (∀ h ∈ l, Γ h = none) → (∃ W, AllD w0 p Γ W) →
      wpRD P md ops w0 fr p Fin l Γ a → wpRD P md ops w0 fr p Fin (i :: l.erase i) Γ a := by
  intro l
  induction l with
  | nil => intro Γ a h; cases h
  | cons h rest ih =>
    intro Γ a hil hnd hpw hw hΓ hall H
    by_cases hhi : h = i
    · subst hhi; simpa using H
    have hir : i ∈ rest := by simpa [Ne.symm hhi] using hil
    rw [List.nodup_cons] at hnd
    rw [List.pairwise_cons] at hpw
    obtain ⟨oh, oi', hoh, hi', hap, hback, hpl⟩ := hpw.1 i hir
    obtain rfl : oi = oi' := Option.some.inj (hi.symm.trans hi')
    have he : (h :: rest).erase i = h :: rest.erase i := by rw [List.erase_cons_tail (by simpa using hhi)]
    rw [he]
    have step : ∀ Γ' a', (∀ g ∈ rest, Γ' g = none) → (∃ W, AllD w0 p Γ' W) → wpRD P md ops w0 fr p Fin rest Γ' a' → wpRD P md ops w0 fr p Fin (i :: rest.erase i) Γ' a' := fun Γ' a' hΓ' hall' H' =>
      ih Γ' a' hir hnd.2 hpw.2 (fun j hj => hw j (by simp [hj])) hΓ' hall' H'
    have hij : waits md oi h = false := hw h (by simp)
    obtain ⟨W, hW⟩ := hall
    have H1 : oneRD P md ops w0 fr p Γ h (fun Γ' a' => oneRD P md ops w0 fr p Γ' i (wpRD P md ops w0 fr p Fin (rest.erase i)) a') a := by
      unfold wpRD at H
      unfold oneRD at H ⊢
      simp only [hoh] at H ⊢
      split
      · rename_i hwant
        rw [if_pos hwant] at H
        split
        · rename_i hf
          rw [if_pos hf] at H
          refine ⟨H.1, fun v hv => ?_⟩
          exact step (upd Γ h v) _ (fun g hg => by
            unfold upd; rw [if_neg (by rintro rfl; exact hnd.1 hg)]; exact hΓ g (by simp [hg])) hv (H.2 v hv)
        · rename_i hf
          rw [if_neg hf] at H
          intro hc
          obtain ⟨v, h1, h2⟩ := H hc
          exact ⟨v, h1, step Γ _ (fun g hg => hΓ g (by simp [hg])) ⟨W, hW⟩ h2⟩
      · rename_i hwant
        rw [if_neg hwant] at H
        exact step Γ _ (fun g hg => hΓ g (by simp [hg])) ⟨W, hW⟩ H
    rw [hij] at hap hpl
    exact oneR_swapD (Ne.symm hhi) hi hoh hsel (by simpa using hap) hij hback (fun h1 h2 => by simpa using hpl h1 h2) hW (hΓ i (by simp [hir])) (hΓ h (by simp)) hkeep H1

theorem wpAny_of_wpRD {Q : Exit → Act → World → Prop} {g : Nat} {hs : List Nat} {L : Array Bool} (hsel : Region.noSelect ops = true) (hplain : ∀ h o, h ∈ hs → fr h = false → ops[h]? = some o → plainOp o.op = true)
    (hkeep : ∀ i v w1 w2, p i v w1 → Below w1.heap.size w1 w2 → p i v w2) (hL : L.size = ops.size) :
    ∀ (f : Nat) (M : Array Bool) (l : List Nat) (Γ : Known) (a : Act) (w : World), l.length = f → l.Nodup → l.Pairwise (Pair md ops fr) → (∀ j ∈ l, M.getD j true = false) →
      (∀ j ∈ hs, j ∈ l ∨ M.getD j true = true) → (∀ h ∈ l, Γ h = none) → Hered md ops hs f M → AllD w0 p Γ w → mark l M = mark hs L →
      wpRD P md ops w0 fr p (fun Γ' a' => ∀ w', AllD w0 p Γ' w' → wpAny P md ops Q g (mark hs L) a' w') l Γ a → wpAny P md ops Q (f + g) M a w := by
  intro f
  induction f with
  | zero =>
    intro M l Γ a w hlen _ _ _ _ _ _ hall hmk H
    obtain rfl := List.length_eq_zero_iff.1 hlen
    rw [Nat.zero_add, show M = mark hs L from hmk]
    exact H w hall
  | succ f ih =>
    intro M l Γ a w hlen hnd hpw hun hcov hΓ hh hall hmk H
    rw [show f + 1 + g = (f + g) + 1 by omega]
    refine ⟨fun h0 => absurd h0 hh.1, fun i hi => ?_⟩
    obtain ⟨hiu, oi, hoi, hdeps⟩ := mem_ready.1 hi
    have hil : i ∈ l := by
      rcases hcov i (hh.2.1 i hi) with h1 | h1
      · exact h1
      · rw [h1] at hiu; cases hiu
    have hiM : i < M.size := by
      rcases Nat.lt_or_ge i M.size with h' | h'
      · exact h'
      · simp [Array.getElem?_eq_none h'] at hiu
    have H1 := wpR_pullD hsel hkeep hoi l Γ a hil hnd hpw (fun j hj => waits_dep hdeps (hun j hj)) hΓ ⟨w, hall⟩ H
    have hle : (l.erase i).length = f := by rw [List.length_erase_of_mem hil]; omega
    have next : ∀ Γ' a' w', (∀ h ∈ l.erase i, Γ' h = none) → AllD w0 p Γ' w' → wpRD P md ops w0 fr p (fun Γ' a' => ∀ w', AllD w0 p Γ' w' → wpAny P md ops Q g (mark hs L) a' w') (l.erase i) Γ' a' →
        wpAny P md ops Q (f + g) (M.setIfInBounds i true) a' w' := fun Γ' a' w' hΓ' hall' H' =>
      ih (M.setIfInBounds i true) (l.erase i) Γ' a' w' hle (hnd.erase i) (hpw.sublist List.erase_sublist) (fun j hj => by
          have hne : j ≠ i := by rintro rfl; exact (List.Nodup.not_mem_erase hnd) hj
          rw [getD_set_ne true (Ne.symm hne)]; exact hun j (List.mem_of_mem_erase hj))
        (fun j hj => by
          by_cases hji : j = i
          · subst hji; right; simp
          · rcases hcov j hj with h1 | h1
            · left; exact (List.mem_erase_of_ne hji).2 h1
            · right; rw [getD_set_ne true (Ne.symm hji)]; exact h1)
        hΓ' (hh.2.2.2 i hi) hall' (by
          rw [← hmk]
          have key : ∀ (l : List Nat) (M : Array Bool), i ∈ l → mark l M = mark (l.erase i) (M.setIfInBounds i true) := by
            intro l
            induction l with
            | nil => intro M h; cases h
            | cons x l ihl =>
              intro M h
              by_cases hx : x = i
              · subst hx; simp [mark]
              · rw [List.erase_cons_tail (by simpa using hx)]
                simp only [mark, List.foldl_cons]
                have h2 := ihl (M.setIfInBounds x true) (by simpa [Ne.symm hx] using h)
                simp only [mark] at h2
                rw [h2, Array.setIfInBounds_comm _ _ hx]
          exact (key l M hil).symm) H'
    have hΓe : ∀ h ∈ l.erase i, Γ h = none := fun h hh' => hΓ h (List.mem_of_mem_erase hh')
    unfold wpRD oneRD at H1
    simp only [hoi] at H1
    unfold wpOp
    simp only [hoi]
    split
    · rename_i hwant
      rw [if_pos hwant] at H1
      left
      split at H1
      · rename_i hf
        obtain ⟨h1, h2⟩ := H1
        have h3 := h1 w (hall.cl oi)
        have go : ∀ u w'', Gr w w'' → p i u w'' → wpAny P md ops Q (f + g) (M.setIfInBounds i true) (a.put oi.dst u) w'' := by
          intro u w'' hb hq
          have hall' : AllD w0 p (upd Γ i u) w'' := ⟨hall.1.trans hb, fun k v hk => by
            unfold upd at hk
            by_cases hki : k = i
            · subst hki; rw [if_pos rfl] at hk; cases hk; exact hq
            · rw [if_neg hki] at hk; exact hkeep _ _ _ _ (hall.2 k v hk) hb.b⟩
          refine next _ _ _ (fun k hk => ?_) hall' (h2 u ⟨w'', hall'⟩)
          unfold upd
          rw [if_neg (by rintro rfl; exact (List.Nodup.not_mem_erase hnd) hk)]
          exact hΓe k hk
        unfold freshAtD at h3
        unfold Oper.wp
        generalize (execOp a.eval oi).run P w = r at h3 ⊢
        cases r with
        | halt x w' => exact h3.elim
        | ok n w' =>
          cases n <;> simp only at h3
          case value u => exact go u w' h3.1 h3.2
          case enter fn args =>
            obtain ⟨rfl, hc⟩ := h3
            exact hc.mono fun e w'' ⟨u, he, hb, hq⟩ => by subst he; exact go u w'' hb hq
      · rename_i hf
        obtain ⟨v, h1, h2⟩ := H1 ⟨w, hall.cl oi⟩
        have h3 := h1 w (hall.cl oi)
        unfold Oper.quietAt at h3
        unfold Oper.wp
        generalize hr : (execOp a.eval oi).run P w = r at h3 ⊢
        cases r with
        | halt x w' => simp only [Oper.quietUpon] at h3
        | ok n w' =>
          cases n <;> simp only [Oper.quietUpon] at h3
          case value u =>
            obtain ⟨rfl, rfl⟩ := h3
            exact next _ _ _ hΓe hall h2
          case skip =>
            obtain ⟨rfl, rfl⟩ := h3
            exact next _ _ _ hΓe hall h2
          case enter fn args => exact absurd hr (plain_ne (hplain i oi (hh.2.1 i hi) (by simpa using hf) hoi) _)
    · rename_i hwant
      rw [if_neg hwant] at H1
      exact next _ _ _ hΓe hall H1

theorem wpAny_RD {Q : Exit → Act → World → Prop} {L : Array Bool} {a : Act} {w : World} (fs : List Nat) (hs : List Nat) (g : Nat)
    (hkeep : ∀ i v w1 w2, p i v w1 → Below w1.heap.size w1 w2 → p i v w2)
    (hB : (groupB md ops L hs && pairsB md ops (fs.contains ·) hs && plainsB ops (fs.contains ·) hs) = true) (hw : Gr w0 w)
    (h : wpRD P md ops w0 (fs.contains ·) p (fun Γ' a' => ∀ w', AllD w0 p Γ' w' → wpAny P md ops Q g (mark hs L) a' w') hs (fun _ => none) a) : wpAny P md ops Q (hs.length + g) L a w := by
  simp only [Bool.and_eq_true] at hB
  obtain ⟨⟨hG, hP⟩, hPl⟩ := hB
  have hG' := hG
  simp only [groupB, Bool.and_eq_true, decide_eq_true_eq] at hG'
  obtain ⟨⟨⟨⟨hsz, hsel⟩, hcl⟩, hout⟩, hord⟩ := hG'
  obtain ⟨hnd, hmem, hpre⟩ := orderB_spec hord
  have hleft : left hs L = hs.length := by
    unfold left
    rw [List.filter_eq_self.2 (fun j hj => by rw [(hmem j hj).2.1]; rfl)]
  have hsh : Shut md ops L := by
    intro j o ho hj e he hb
    have hjo : j < ops.size := by
      rcases Nat.lt_or_ge j ops.size with h' | h'
      · exact h'
      · simp [Array.getElem?_eq_none h'] at ho
    have h1 := List.all_eq_true.1 hcl j (List.mem_range.2 hjo)
    simp only [hj, ho, Bool.not_true, Bool.false_or] at h1
    simpa [hb] using Array.all_eq_true'.1 h1 e he
  have hh := hered_of hG hs.length L hleft hsh hsz (fun j hj => .inl hj) (fun j hj => hj)
  refine wpAny_of_wpRD (hs := hs) (L := L) hsel (fun k o hk hf ho => ?_) hkeep hsz hs.length L hs (fun _ => none) a w rfl hnd (pairs_of hP) (fun j hj => (hmem j hj).2.1)
    (fun j hj => .inl hj) (fun _ _ => rfl) hh ⟨hw, fun _ _ hg => by cases hg⟩ rfl h
  have := List.all_eq_true.1 hPl k hk
  simp only [show (fs.contains k) = false from hf, ho, Bool.false_or] at this
  exact this

/-- A REGION THAT DRAWS: a group first: quiet operations, and (fs) operations that make memory, of whose yields p tells; then the others. -/
theorem wp_region_RD {id : Nat} {Q : Exit → Act → World → Prop} {a : Act} {w : World} {l : List Oper} (fs hs : List Nat) (g : Nat) (p : Nat → Value → World → Prop) (hm : P.follows .mixedOrders = true)
    (hn : hs.length + g = l.length) (hkeep : ∀ i v w1 w2, p i v w1 → Below w1.heap.size w1 w2 → p i v w2)
    (hB : (groupB .any l.toArray (Array.replicate l.length false) hs && pairsB .any l.toArray (fs.contains ·) hs && plainsB l.toArray (fs.contains ·) hs) = true)
    (h : wpRD P .any l.toArray w (fs.contains ·) p (fun Γ' a' => ∀ w', AllD w p Γ' w' → wpAny P .any l.toArray Q g (mark hs (Array.replicate l.length false)) a' w') hs (fun _ => none) a) :
    (Code.region id l.toArray true).wp P Q a w := by
  refine wp_region_any hm ?_
  have := wpAny_RD (P := P) (Q := Q) (w0 := w) (w := w.drew) (a := a) fs hs g hkeep hB (Gr.refl w).drew h
  rw [hn] at this
  simpa using this

/-! The steps of the walk through a group, its operations written out. -/
def wpSD (P : Program) (md : Region.Mode) (ops : Array Oper) (w0 : World) (fr : Nat → Bool) (p : Nat → Value → World → Prop) (Fin : Known → Act → Prop) (l : List (Nat × Oper)) (Γ : Known) (a : Act) : Prop :=
  (∀ x ∈ l, ops[x.1]? = some x.2) → wpRD P md ops w0 fr p Fin (l.map (·.1)) Γ a
theorem wpS_quietD {Fin : Known → Act → Prop} {h : Nat} {rest : List (Nat × Oper)} {Γ : Known} {a : Act} {o : Oper} (hw : Region.wanted o (yielded ops a.tmps) = true) (hf : fr h = false)
    (H : ∀ K : Act → Prop, (∀ a, wpSD P md ops w0 fr p Fin rest Γ a → K a) → Nonempty (BQD w0 (Facts md p Γ o)) → (∀ (x : BQD w0 (Facts md p Γ o)) b i, (w0.cell? ⟨b, i, none⟩).isSome = true → x.w'.cell? ⟨b, i, none⟩ = w0.cell? ⟨b, i, none⟩) →
      o.quiet P a (fun w' => ∃ x : BQD w0 (Facts md p Γ o), w' = x.w') K) : wpSD P md ops w0 fr p Fin ((h, o) :: rest) Γ a := by
  intro hl
  have ho : ops[h]? = some o := hl (h, o) (by simp)
  simp only [List.map_cons]
  unfold wpRD oneRD; simp only [ho, hw, hf, if_true, Bool.false_eq_true, if_false]
  exact fun ⟨_, x, _⟩ => H _ (fun _ h => h fun x hx => hl x (by simp [hx])) ⟨x⟩ (fun x b i hv => (bcell x.below.b).1 b i hv)
theorem wpS_freshD {Fin : Known → Act → Prop} {h : Nat} {rest : List (Nat × Oper)} {Γ : Known} {a : Act} {o : Oper} (hw : Region.wanted o (yielded ops a.tmps) = true) (hf : fr h = true)
    (H1 : ∀ w', Gr w0 w' → Facts md p Γ o w' → freshAtD P o a (p h) w') (H2 : ∀ v W, p h v W → wpSD P md ops w0 fr p Fin rest (upd Γ h v) (a.put o.dst v)) : wpSD P md ops w0 fr p Fin ((h, o) :: rest) Γ a := by
  intro hl
  have ho : ops[h]? = some o := hl (h, o) (by simp)
  simp only [List.map_cons]
  unfold wpRD oneRD; simp only [ho, hw, hf, if_true]
  exact ⟨fun w' hc => H1 w' (ClD.iff.1 hc).1 (ClD.iff.1 hc).2, fun v ⟨W, hW⟩ => H2 v W (hW.2 h v (by simp [upd])) fun x hx => hl x (by simp [hx])⟩
theorem wpS_nilD {Fin : Known → Act → Prop} {Γ : Known} {a : Act} (H : Fin Γ a) : wpSD P md ops w0 fr p Fin [] Γ a := fun _ => H
theorem wpR_of_wpSD {Fin : Known → Act → Prop} {hs : List Nat} {Γ : Known} {a : Act} (ho : ∀ h ∈ hs, ∃ o, ops[h]? = some o) (H : wpSD P md ops w0 fr p Fin (numbered ops hs) Γ a) : wpRD P md ops w0 fr p Fin hs Γ a := by
  have h1 : ∀ x ∈ numbered ops hs, ops[x.1]? = some x.2 := by
    intro x hx
    unfold numbered at hx
    obtain ⟨h, _, hx⟩ := List.mem_filterMap.1 hx
    cases hh : ops[h]? with
    | none => simp [hh] at hx
    | some o => simp [hh] at hx; subst hx; exact hh
  have h2 : (numbered ops hs).map (·.1) = hs := by
    clear H h1
    induction hs with
    | nil => rfl
    | cons h hs ih =>
      obtain ⟨o, hho⟩ := ho h (by simp)
      unfold numbered at ih ⊢
      simp only [List.filterMap_cons, hho, Option.map_some, List.map_cons]
      rw [ih fun k hk => ho k (by simp [hk])]
  have := H h1
  rwa [h2] at this
end
theorem wp_region_RsD {P : Program} {id : Nat} {Q : Exit → Act → World → Prop} {a : Act} {w : World} {l : List Oper} (ps : List (Nat × (Value → World → Prop))) (hs : List Nat) (g : Nat) (hm : P.follows .mixedOrders = true)
    (hn : hs.length + g = l.length) (hkeep : ∀ x ∈ ps, Keeps x.2)
    (hB : (groupB .any l.toArray (Array.replicate l.length false) hs && pairsB .any l.toArray ((ps.map (·.1)).contains ·) hs && plainsB l.toArray ((ps.map (·.1)).contains ·) hs) = true)
    (h : wpSD P .any l.toArray w ((ps.map (·.1)).contains ·) (pOf ps) (fun Γ' a' => ∀ w', AllD w (pOf ps) Γ' w' → wpAny P .any l.toArray Q g (mark hs (Array.replicate l.length false)) a' w') (numbered l.toArray hs) (fun _ => none) a) :
    (Code.region id l.toArray true).wp P Q a w := by
  refine wp_region_RD (ps.map (·.1)) hs g (pOf ps) hm hn (pOf_keeps hkeep) hB (wpR_of_wpSD (fun k hk => ?_) h)
  simp only [groupB, Bool.and_eq_true] at hB
  obtain ⟨_, hmem, _⟩ := orderB_spec hB.1.1.2
  exact (hmem k hk).2.2
end Go.Pb

/- A region in the body of a range over a function: what goes anywhere goes there, where nothing is deferred. -/
namespace Go.Pb
set_option linter.unusedVariables false
open Go Go.RowKit
theorem oper_inRound {P : Program} {o : Oper} {a : Act} {w : World} {K : Act → World → Prop} {Q : Exit → Act → World → Prop} {l n : Nat} (hd : ∀ c, o.op ≠ .defer c) (h : o.wp P a w K Q) : o.wpIn (Fence.wide.inRound l) n P a w K Q := by
  refine ⟨fun _ _ => trivial, ?_⟩
  rw [Oper.semAt_eq _ _ _ hd]
  unfold Oper.wp at h
  generalize (execOp a.eval o).run P w = r at h ⊢
  cases r with
  | ok x w' =>
    cases x with
    | enter f args => exact ⟨fun h => by simp [Fence.wide] at h, CallsIn.inRound l (callsIn_wide.2 h)⟩
    | row r args => exact ⟨fun h => by simp [Fence.wide] at h, fun c cs hr => by obtain ⟨v, w', hR, hs⟩ := h c cs; exact ⟨v, w', hR, stepsIn_wide.2 hs⟩⟩
    | round _ _ _ _ _ => exact False.elim h
    | _ => exact h
  | halt x w' => cases x <;> exact h
theorem wpAny_inRound {P : Program} {md : Region.Mode} {ops : Array Oper} {Q : Exit → Act → World → Prop} {l n : Nat} (hd : ∀ (i : Nat) (o : Oper), ops[i]? = some o → ∀ c, o.op ≠ .defer c) (hL : ¬ LetsOut Q) : ∀ (fuel : Nat) (L : Array Bool) (a : Act) (w : World), wpAny P md ops Q fuel L a w → wpAnyIn (Fence.wide.inRound l) n P md ops Q fuel L a w
  | 0, L, a, w, h => h
  | fuel + 1, L, a, w, h => ⟨h.1, fun i hi => by
      have h2 := h.2 i hi
      unfold wpOp at h2
      unfold wpOpIn
      cases ho : ops[i]? with
      | none => rw [ho] at h2; exact wpAny_inRound hd hL fuel _ a w h2
      | some o =>
        rw [ho] at h2
        dsimp only at h2 ⊢
        by_cases hw : Region.wanted o (yielded ops a.tmps) = true
        · rw [if_pos hw] at h2 ⊢
          rcases h2 with h2 | h2
          · exact Oper.wpIn_mono (fun a w => wpAny_inRound hd hL fuel _ a w) (oper_inRound (hd i o ho) h2)
          · exact absurd h2.2 hL
        · rw [if_neg hw] at h2 ⊢
          exact ⟨fun _ _ => trivial, wpAny_inRound hd hL fuel _ _ w h2⟩⟩
end Go.Pb

/- A function in whose loop a range over a function stands: each round leaves a mark among the deferred calls; a region in the body of a range over a function. -/
namespace Go.Pb
set_option linter.unusedVariables false
open Go Go.RowKit
/-- Each of these blocks waits for the function's end. -/
def Waits (ds : List Nat) (W : World) : Prop := ds.Nodup ∧ ∀ D ∈ ds, W.heap[D]? = some (.deferred (some []))
/-- These blocks are shut; nothing else has changed. -/
structure Closed (ds : List Nat) (W W' : World) : Prop where
  os : W'.os = W.os
  tape : W'.tape = W.tape
  output : W'.output = W.output
  size : W'.heap.size = W.heap.size
  block : ∀ k, k ∉ ds → W'.heap[k]? = W.heap[k]?
theorem Waits.nil {W : World} : Waits [] W := ⟨List.nodup_nil, fun D h => by cases h⟩
theorem Waits.kept {ds : List Nat} {W W' : World} (h : Waits ds W) (hk : KeepsOthers W W') : Waits ds W' := ⟨h.1, fun D hD => hk.same D _ (h.2 D hD) rfl⟩
theorem Waits.below {ds : List Nat} {W W' : World} (h : Waits ds W) (hb : Below W.heap.size W W') : Waits ds W' := ⟨h.1, fun D hD => by
  rw [hb.block D (Array.getElem?_eq_some_iff.1 (h.2 D hD)).1]; exact h.2 D hD⟩
theorem Waits.lt {ds : List Nat} {W : World} (h : Waits ds W) {D : Nat} (hD : D ∈ ds) : D < W.heap.size := (Array.getElem?_eq_some_iff.1 (h.2 D hD)).1
theorem Waits.cons {ds : List Nat} {D : Nat} {W : World} (h : Waits ds W) (hD : W.heap[D]? = some (.deferred (some []))) (hn : D ∉ ds) : Waits (D :: ds) W := by
  refine ⟨List.nodup_cons.2 ⟨hn, h.1⟩, fun D' h' => ?_⟩
  rcases List.mem_cons.1 h' with e | h'
  · rw [e]; exact hD
  · exact h.2 D' h'
theorem Closed.cell {ds : List Nat} {W W' : World} (h : Closed ds W W') (hw : Waits ds W) {a : Addr} {v : Value} (hc : W.cell? a = some v) : W'.cell? a = some v := by
  have hn : a.block ∉ ds := fun hm => by
    have := hw.2 _ hm
    simp [World.cell?, this] at hc
  rw [World.cell?_of_block (w := W) (h.block _ hn)]; exact hc
theorem Closed.below {ds : List Nat} {W W' : World} (h : Closed ds W W') {B : Nat} (hd : ∀ D ∈ ds, B ≤ D) : Below B W W' :=
  ⟨h.os, h.tape, h.output, Nat.le_of_eq h.size.symm, fun k hk => h.block k fun hm => by have := hd k hm; omega⟩
/-- No operation defers. -/
def noDefer (l : List Oper) : Bool := l.all fun o => match o.op with | .defer _ => false | _ => true
theorem noDefer_ne {l : List Oper} (h : noDefer l = true) {i : Nat} {o : Oper} (ho : l.toArray[i]? = some o) : ∀ c, o.op ≠ .defer c := by
  intro c hc
  have hm : o ∈ l := List.mem_of_getElem? (by simpa using ho)
  have := List.all_eq_true.1 h o hm
  rw [hc] at this
  simp at this
/-- wp_region_F in the body of a range over a function. -/
theorem wpIn_region_F {P : Program} {id : Nat} {Q : Exit → Act → World → Prop} {a : Act} {w : World} {l : List Oper} {lv n : Nat} (hd : noDefer l = true) (fs : List Nat)
    (hF : (Region.noSelect l.toArray && firstB .any l.toArray fs (Array.replicate l.length false)) = true)
    (ps : List (Nat × (Value → World → Prop))) (hs : List Nat) (g : Nat) (hm : P.follows .mixedOrders = true)
    (hn : fs.length + (hs.length + g) = l.length) (hkeep : ∀ x ∈ ps, Keeps x.2)
    (hB : (groupB .any l.toArray (mark fs (Array.replicate l.length false)) hs && pairsB .any l.toArray ((ps.map (·.1)).contains ·) hs && plainsB l.toArray ((ps.map (·.1)).contains ·) hs) = true)
    (h : wpFirst P l.toArray fs (fun a => wpS P .any l.toArray w ((ps.map (·.1)).contains ·) (pOf ps) (fun Γ' a' => ∀ w', All w (pOf ps) Γ' w' → wpAny P .any l.toArray (Only Q) g (mark hs (mark fs (Array.replicate l.length false))) a' w') (numbered l.toArray hs) (fun _ => none) a) a) :
    (Code.region id l.toArray true).wpIn (Fence.wide.inRound lv) n P Q a w := by
  simp only [Bool.and_eq_true] at hF
  refine Go.wpIn_mono (Q := Only Q) (wpIn_region_any hm (wpAny_inRound (fun i o ho => noDefer_ne hd ho) (fun h => only_lets h) _ _ _ _ ?_)) (fun e a w h => by obtain ⟨rfl, h⟩ := h; exact h)
  have h1 := wpFirst_any (P := P) (Q := Q) (md := .any) hF.1 (w := w.drew) (n := hs.length + g) fs (Array.replicate l.length false) a hF.2 (fun a h => ?_) h
  · rw [hn] at h1
    simpa using h1
  · have h2 := wpR_of_wpS (fun k hk => by
      simp only [groupB, Bool.and_eq_true] at hB
      obtain ⟨_, hmem, _⟩ := orderB_spec hB.1.1.2
      exact (hmem k hk).2.2) h
    exact wpAny_R (P := P) (Q := Only Q) (w0 := w) (w := w.drew) (a := a) (ps.map (·.1)) hs g (pOf_keeps hkeep) hB (Below.refl _ w).drew h2
end Go.Pb

/- A region that draws: loads of what stays as it is, whatever the other operations do, are run first; then a group; then the rest. -/
namespace Go.Pb
set_option linter.unusedVariables false
open Go Go.RowKit
section
variable {P : Program} {md : Region.Mode} {ops : Array Oper} {Q : Exit → Act → World → Prop} {C : World → Prop}
/-- As wpAny; C holds wherever an operation is about to be run. -/
def wpAnyC (P : Program) (md : Region.Mode) (ops : Array Oper) (Q : Exit → Act → World → Prop) (C : World → Prop) : Nat → Array Bool → Act → World → Prop
  | 0, L, a, w => C w ∧ Region.ready md ops L = [] ∧ Q .normal a w
  | n + 1, L, a, w => C w ∧ (Region.ready md ops L = [] → Q .normal a w) ∧ ∀ i ∈ Region.ready md ops L, wpOp P ops Q i (wpAnyC P md ops Q C n (L.setIfInBounds i true)) a w
theorem wpAnyC_any : ∀ {n : Nat} {L : Array Bool} {a : Act} {w : World}, wpAnyC P md ops Q C n L a w → wpAny P md ops Q n L a w
  | 0, _, _, _, h => h.2
  | n + 1, _, _, _, h => ⟨h.2.1, fun i hi => wpOp_mono (fun _ _ h => wpAnyC_any h) (h.2.2 i hi)⟩
theorem wpAnyC_ready {n r : Nat} {L : Array Bool} {a : Act} {w : World} (hC : C w) (hr : Region.ready md ops L = [r]) (h : wpOp P ops Q r (wpAnyC P md ops Q C n (L.setIfInBounds r true)) a w) : wpAnyC P md ops Q C (n + 1) L a w :=
  ⟨hC, fun h0 => (by rw [hr] at h0; cases h0), fun i hi => by rw [hr, List.mem_singleton] at hi; subst hi; exact h⟩
theorem wpAnyC_op {n r : Nat} {o : Oper} {L : Array Bool} {a : Act} {w : World} (hC : C w) (hr : Region.ready md ops L = [r]) (ho : ops[r]? = some o) (hw : Region.wanted o (yielded ops a.tmps) = true)
    (h : ∀ K : Act → World → Prop, (∀ a' w', wpAnyC P md ops Q C n (L.setIfInBounds r true) a' w' → K a' w') → o.wp P a w K Q) : wpAnyC P md ops Q C (n + 1) L a w := by
  refine wpAnyC_ready hC hr ?_
  unfold wpOp
  simp only [ho, hw, if_true]
  exact .inl (h _ fun _ _ h => h)
theorem wpAnyC_end {L : Array Bool} {a : Act} {w : World} (hC : C w) (hr : Region.ready md ops L = []) (h : Q .normal a w) : wpAnyC P md ops Q C 0 L a w := ⟨hC, hr, h⟩
theorem wpAnyC_at {n : Nat} {L : Array Bool} {a : Act} {w : World} (h : wpAnyC P md ops Q C n L a w) : C w := by cases n <;> exact h.1
/-- Where C holds, the operation yields v and leaves the world as it is. -/
def LoadsC (P : Program) (ops : Array Oper) (C : World → Prop) (o : Oper) (v : Value) (a : Act) : Prop := Region.wanted o (yielded ops a.tmps) = true ∧ ∀ w, C w → (execOp a.eval o).run P w = .ok (.value v) w
theorem wpOp_keep {R : Act → Prop} {j : Nat} {oj : Oper} (hj : ops[j]? = some oj) {K : Act → World → Prop} {a : Act} {w : World} (hk : ∀ u, R (a.put oj.dst u)) (hkD : ∀ d u, R (({ a with defers := d :: a.defers } : Act).put oj.dst u))
    (h : wpOp P ops Q j K a w) : wpOp P ops Q j (fun a' w' => R a' ∧ K a' w') a w := by
  unfold wpOp at *
  simp only [hj] at *
  split
  · rename_i hw
    simp only [hw, if_true] at h
    rcases h with h | h
    · left
      unfold Oper.wp at *
      generalize (execOp a.eval oj).run P w = r at *
      cases r with
      | ok n w' =>
        cases n <;> simp only [Oper.upon] at h ⊢
        case value u => exact ⟨hk u, h⟩
        case skip => exact ⟨hk _, h⟩
        case defer d => exact ⟨hkD d _, h⟩
        case enter f args =>
          refine Calls.mono h fun e w'' he => ?_
          cases e with
          | returned u => exact ⟨hk u, he⟩
          | panicked c => exact he
          | outgrown => exact he
        case row row args => exact Rows.mono h fun u w'' he => ⟨hk u, he⟩
      | halt x w' => cases x <;> exact h
    · exact .inr h
  · rename_i hw
    simp only [hw] at h
    exact ⟨hk _, h⟩
theorem wpOp_putC {j : Nat} {oi oj : Oper} {v : Value} (hj : ops[j]? = some oj) (hap : oi.apart ops oj = true) (hsi : ∀ cs b, oi.op ≠ .select cs b) (hsj : ∀ cs b, oj.op ≠ .select cs b) {K : Act → World → Prop} {a : Act} {w : World}
    (hy : LoadsC P ops C oi v a) (h : wpOp P ops (Only Q) j K (a.put oi.dst v) w) : wpOp P ops (Only Q) j (fun a' w' => LoadsC P ops C oi v a' ∧ K (a'.put oi.dst v) w') a w := by
  obtain ⟨h1, h2, h3⟩ := Oper.apart_spec hap
  refine wpOp_keep hj (fun u => ?_) (fun d u => ?_) ?_
  · exact ⟨by rw [wanted_put oi a oj.dst u h3]; exact hy.1, fun w hC => by rw [execOp_put oi hsi a oj.dst u h3]; exact hy.2 w hC⟩
  · exact ⟨by rw [wanted_put oi _ oj.dst u h3]; exact hy.1, fun w hC => by rw [execOp_put oi hsi _ oj.dst u h3]; exact hy.2 w hC⟩
  · unfold wpOp at *
    simp only [hj] at *
    rw [wanted_put oj a oi.dst v h1] at h
    split
    · rename_i hw
      simp only [hw, if_true] at h
      rcases h with h | ⟨_, hl⟩
      · left
        unfold Oper.wp at *
        rw [execOp_put oj hsj a oi.dst v h1] at h
        generalize (execOp a.eval oj).run P w = r at *
        cases r with
        | ok n w' =>
          cases n <;> simp only [Oper.upon] at h ⊢
          case value u => rw [← Act.put_comm a v u h2]; exact h
          case skip => rw [← Act.put_comm a v undef h2]; exact h
          case defer d => rw [← Act.put_comm _ v undef h2, ← Act.put_defers]; exact h
          case enter f args =>
            refine Calls.mono h fun e w'' he => ?_
            cases e with
            | returned u => show K _ _; rw [← Act.put_comm a v u h2]; exact he
            | panicked c => exact absurd he.1 (by simp)
            | outgrown => exact absurd he only_lets
          case row row args => exact Rows.mono h fun u w'' he => by rw [← Act.put_comm a v u h2]; exact he
        | halt x w' =>
          cases x <;> simp only [Oper.upon] at h ⊢
          case panic u => exact absurd h.1 (by simp)
      · exact absurd hl only_lets
    · rename_i hw
      simp only [hw] at h
      rw [← Act.put_comm a v undef h2]; exact h
theorem LoadsC.op {i : Nat} {o : Oper} {v : Value} {a : Act} (hi : ops[i]? = some o) (hy : LoadsC P ops C o v a) {K : Act → World → Prop} {w : World} (hC : C w) (h : K (a.put o.dst v) w) : wpOp P ops Q i K a w := by
  unfold wpOp
  simp only [hi, hy.1, if_true]
  left
  unfold Oper.wp
  rw [hy.2 w hC]
  exact h
/-- Such a load may be run first. -/
theorem wpAnyC_first {i : Nat} {oi : Oper} {v : Value} (hi : ops[i]? = some oi) (hsel : ∀ (j : Nat) (o : Oper) cs b, ops[j]? = some o → o.op ≠ .select cs b) :
    ∀ (n : Nat) (L : Array Bool) (a : Act) (w : World),
      (∀ j oj, ops[j]? = some oj → j ≠ i → L.getD j true = false → (∀ e ∈ oj.after, Region.binds md e = true → e.on ≠ i) → oi.apart ops oj = true) →
      i ∈ Region.ready md ops L → LoadsC P ops C oi v a → C w →
      wpAnyC P md ops (Only Q) C n (L.setIfInBounds i true) (a.put oi.dst v) w → wpAnyC P md ops (Only Q) C (n + 1) L a w := by
  intro n
  induction n with
  | zero =>
    intro L a w _ hr hy hC H
    refine ⟨hC, fun h => (by rw [h] at hr; cases hr), fun j hj => ?_⟩
    by_cases hji : j = i
    · subst hji; exact hy.op hi hC H
    · have := ready_mono hj hji
      rw [H.2.1] at this
      cases this
  | succ n ih =>
    intro L a w hfree hr hy hC H
    refine ⟨hC, fun h => (by rw [h] at hr; cases hr), fun j hj => ?_⟩
    by_cases hji : j = i
    · subst hji; exact hy.op hi hC H
    · have h1 := H.2.2 j (ready_mono hj hji)
      obtain ⟨hjun, oj, hoj, hall⟩ := mem_ready.1 hj
      have hnot : ∀ e ∈ oj.after, Region.binds md e = true → e.on ≠ i := fun e he hb heq => by
        have h2 := hall e he hb
        have h0 := (mem_ready.1 hr).1
        rw [heq] at h2
        rcases Nat.lt_or_ge i L.size with h' | h'
        · simp [h'] at h0 h2; rw [h0] at h2; cases h2
        · simp [Array.getElem?_eq_none h'] at h2
      have h2 := wpOp_putC hoj (hfree j oj hoj hji hjun hnot) (fun cs b => hsel i oi cs b hi) (fun cs b => hsel j oj cs b hoj) hy h1
      have hfree' : ∀ k ok, ops[k]? = some ok → k ≠ i → (L.setIfInBounds j true).getD k true = false → (∀ e ∈ ok.after, Region.binds md e = true → e.on ≠ i) → oi.apart ops ok = true := fun k ok hk hki hun hno => by
        refine hfree k ok hk hki ?_ hno
        by_cases hjk : j = k
        · subst hjk; exact hjun
        · rw [getD_set_ne true hjk] at hun; exact hun
      have key : ∀ a' w', LoadsC P ops C oi v a' → wpAnyC P md ops (Only Q) C n ((L.setIfInBounds i true).setIfInBounds j true) (a'.put oi.dst v) w' → wpAnyC P md ops (Only Q) C (n + 1) (L.setIfInBounds j true) a' w' := by
        intro a' w' hy' H'
        rw [Array.setIfInBounds_comm _ _ (Ne.symm hji)] at H'
        have hr' := ready_mono hr (Ne.symm hji)
        exact ih (L.setIfInBounds j true) a' w' hfree' hr' hy' (wpAnyC_at H') H'
      exact wpOp_mono (fun a' w' h3 => key a' w' h3.1 h3.2) h2
end
section
variable {P : Program} {md : Region.Mode} {ops : Array Oper} {w0 : World} {fr : Nat → Bool} {p : Nat → Value → World → Prop} {C : World → Prop}
theorem wpAnyC_of_wpR {Q : Exit → Act → World → Prop} (hC : ∀ w, Below w0.heap.size w0 w → C w) {g : Nat} {hs : List Nat} {L : Array Bool} (hsel : Region.noSelect ops = true) (hplain : ∀ h o, h ∈ hs → fr h = false → ops[h]? = some o → plainOp o.op = true)
    (hkeep : ∀ i v w1 w2, p i v w1 → Below w1.heap.size w1 w2 → p i v w2) (hL : L.size = ops.size) :
    ∀ (f : Nat) (M : Array Bool) (l : List Nat) (Γ : Known) (a : Act) (w : World), l.length = f → l.Nodup → l.Pairwise (Pair md ops fr) → (∀ j ∈ l, M.getD j true = false) →
      (∀ j ∈ hs, j ∈ l ∨ M.getD j true = true) → (∀ h ∈ l, Γ h = none) → Hered md ops hs f M → All w0 p Γ w → mark l M = mark hs L →
      wpR P md ops w0 fr p (fun Γ' a' => ∀ w', All w0 p Γ' w' → wpAnyC P md ops Q C g (mark hs L) a' w') l Γ a → wpAnyC P md ops Q C (f + g) M a w := by
  intro f
  induction f with
  | zero =>
    intro M l Γ a w hlen _ _ _ _ _ _ hall hmk H
    obtain rfl := List.length_eq_zero_iff.1 hlen
    rw [Nat.zero_add, show M = mark hs L from hmk]
    exact H w hall
  | succ f ih =>
    intro M l Γ a w hlen hnd hpw hun hcov hΓ hh hall hmk H
    rw [show f + 1 + g = (f + g) + 1 by omega]
    refine ⟨hC _ hall.1, fun h0 => absurd h0 hh.1, fun i hi => ?_⟩
    obtain ⟨hiu, oi, hoi, hdeps⟩ := mem_ready.1 hi
    have hil : i ∈ l := by
      rcases hcov i (hh.2.1 i hi) with h1 | h1
      · exact h1
      · rw [h1] at hiu; cases hiu
    have hiM : i < M.size := by
      rcases Nat.lt_or_ge i M.size with h' | h'
      · exact h'
      · simp [Array.getElem?_eq_none h'] at hiu
    have H1 := wpR_pull hsel hkeep hoi l Γ a hil hnd hpw (fun j hj => waits_dep hdeps (hun j hj)) hΓ ⟨w, hall⟩ H
    have hle : (l.erase i).length = f := by rw [List.length_erase_of_mem hil]; omega
    have next : ∀ Γ' a' w', (∀ h ∈ l.erase i, Γ' h = none) → All w0 p Γ' w' → wpR P md ops w0 fr p (fun Γ' a' => ∀ w', All w0 p Γ' w' → wpAnyC P md ops Q C g (mark hs L) a' w') (l.erase i) Γ' a' →
        wpAnyC P md ops Q C (f + g) (M.setIfInBounds i true) a' w' := fun Γ' a' w' hΓ' hall' H' =>
      ih (M.setIfInBounds i true) (l.erase i) Γ' a' w' hle (hnd.erase i) (hpw.sublist List.erase_sublist) (fun j hj => by
          have hne : j ≠ i := by rintro rfl; exact (List.Nodup.not_mem_erase hnd) hj
          rw [getD_set_ne true (Ne.symm hne)]; exact hun j (List.mem_of_mem_erase hj))
        (fun j hj => by
          by_cases hji : j = i
          · subst hji; right; simp
          · rcases hcov j hj with h1 | h1
            · left; exact (List.mem_erase_of_ne hji).2 h1
            · right; rw [getD_set_ne true (Ne.symm hji)]; exact h1)
        hΓ' (hh.2.2.2 i hi) hall' (by
          rw [← hmk]
          have key : ∀ (l : List Nat) (M : Array Bool), i ∈ l → mark l M = mark (l.erase i) (M.setIfInBounds i true) := by
            intro l
            induction l with
            | nil => intro M h; cases h
            | cons x l ihl =>
              intro M h
              by_cases hx : x = i
              · subst hx; simp [mark]
              · rw [List.erase_cons_tail (by simpa using hx)]
                simp only [mark, List.foldl_cons]
                have h2 := ihl (M.setIfInBounds x true) (by simpa [Ne.symm hx] using h)
                simp only [mark] at h2
                rw [h2, Array.setIfInBounds_comm _ _ hx]
          exact (key l M hil).symm) H'
    have hΓe : ∀ h ∈ l.erase i, Γ h = none := fun h hh' => hΓ h (List.mem_of_mem_erase hh')
    unfold wpR oneR at H1
    simp only [hoi] at H1
    unfold wpOp
    simp only [hoi]
    split
    · rename_i hwant
      rw [if_pos hwant] at H1
      left
      split at H1
      · rename_i hf
        obtain ⟨h1, h2⟩ := H1
        have h3 := h1 w (hall.cl oi)
        have go : ∀ u w'', Below w.heap.size w w'' → p i u w'' → wpAnyC P md ops Q C (f + g) (M.setIfInBounds i true) (a.put oi.dst u) w'' := by
          intro u w'' hb hq
          have hall' : All w0 p (upd Γ i u) w'' := ⟨hall.1.trans (hb.mono hall.1.size), fun k v hk => by
            unfold upd at hk
            by_cases hki : k = i
            · subst hki; rw [if_pos rfl] at hk; cases hk; exact hq
            · rw [if_neg hki] at hk; exact hkeep _ _ _ _ (hall.2 k v hk) hb⟩
          refine next _ _ _ (fun k hk => ?_) hall' (h2 u ⟨w'', hall'⟩)
          unfold upd
          rw [if_neg (by rintro rfl; exact (List.Nodup.not_mem_erase hnd) hk)]
          exact hΓe k hk
        unfold freshAt at h3
        unfold Oper.wp
        generalize (execOp a.eval oi).run P w = r at h3 ⊢
        cases r with
        | halt x w' => exact h3.elim
        | ok n w' =>
          cases n <;> simp only at h3
          case value u => exact go u w' h3.1 h3.2
          case enter fn args =>
            obtain ⟨rfl, hc⟩ := h3
            exact hc.mono fun e w'' ⟨u, he, hb, hq⟩ => by subst he; exact go u w'' hb hq
      · rename_i hf
        obtain ⟨v, h1, h2⟩ := H1 ⟨w, hall.cl oi⟩
        have h3 := h1 w (hall.cl oi)
        unfold Oper.quietAt at h3
        unfold Oper.wp
        generalize hr : (execOp a.eval oi).run P w = r at h3 ⊢
        cases r with
        | halt x w' => simp only [Oper.quietUpon] at h3
        | ok n w' =>
          cases n <;> simp only [Oper.quietUpon] at h3
          case value u =>
            obtain ⟨rfl, rfl⟩ := h3
            exact next _ _ _ hΓe hall h2
          case skip =>
            obtain ⟨rfl, rfl⟩ := h3
            exact next _ _ _ hΓe hall h2
          case enter fn args => exact absurd hr (plain_ne (hplain i oi (hh.2.1 i hi) (by simpa using hf) hoi) _)
    · rename_i hwant
      rw [if_neg hwant] at H1
      exact next _ _ _ hΓe hall H1

theorem wpAnyC_R {Q : Exit → Act → World → Prop} (hC : ∀ w, Below w0.heap.size w0 w → C w) {L : Array Bool} {a : Act} {w : World} (fs : List Nat) (hs : List Nat) (g : Nat)
    (hkeep : ∀ i v w1 w2, p i v w1 → Below w1.heap.size w1 w2 → p i v w2)
    (hB : (groupB md ops L hs && pairsB md ops (fs.contains ·) hs && plainsB ops (fs.contains ·) hs) = true) (hw : Below w0.heap.size w0 w)
    (h : wpR P md ops w0 (fs.contains ·) p (fun Γ' a' => ∀ w', All w0 p Γ' w' → wpAnyC P md ops Q C g (mark hs L) a' w') hs (fun _ => none) a) : wpAnyC P md ops Q C (hs.length + g) L a w := by
  simp only [Bool.and_eq_true] at hB
  obtain ⟨⟨hG, hP⟩, hPl⟩ := hB
  have hG' := hG
  simp only [groupB, Bool.and_eq_true, decide_eq_true_eq] at hG'
  obtain ⟨⟨⟨⟨hsz, hsel⟩, hcl⟩, hout⟩, hord⟩ := hG'
  obtain ⟨hnd, hmem, hpre⟩ := orderB_spec hord
  have hleft : left hs L = hs.length := by
    unfold left
    rw [List.filter_eq_self.2 (fun j hj => by rw [(hmem j hj).2.1]; rfl)]
  have hsh : Shut md ops L := by
    intro j o ho hj e he hb
    have hjo : j < ops.size := by
      rcases Nat.lt_or_ge j ops.size with h' | h'
      · exact h'
      · simp [Array.getElem?_eq_none h'] at ho
    have h1 := List.all_eq_true.1 hcl j (List.mem_range.2 hjo)
    simp only [hj, ho, Bool.not_true, Bool.false_or] at h1
    simpa [hb] using Array.all_eq_true'.1 h1 e he
  have hh := hered_of hG hs.length L hleft hsh hsz (fun j hj => .inl hj) (fun j hj => hj)
  refine wpAnyC_of_wpR hC (hs := hs) (L := L) hsel (fun k o hk hf ho => ?_) hkeep hsz hs.length L hs (fun _ => none) a w rfl hnd (pairs_of hP) (fun j hj => (hmem j hj).2.1)
    (fun j hj => .inl hj) (fun _ _ => rfl) hh ⟨hw, fun _ _ hg => by cases hg⟩ rfl h
  have := List.all_eq_true.1 hPl k hk
  simp only [show (fs.contains k) = false from hf, ho, Bool.false_or] at this
  exact this

end

section
variable {P : Program} {md : Region.Mode} {ops : Array Oper} {C : World → Prop}
/-- These loads, one behind the other. -/
def wpFirstC (P : Program) (ops : Array Oper) (C : World → Prop) : List Nat → (Act → Prop) → Act → Prop
  | [], H, a => H a
  | i :: is, H, a => ∃ o v, ops[i]? = some o ∧ LoadsC P ops C o v a ∧ wpFirstC P ops C is H (a.put o.dst v)
theorem wpFirstC_any {Q : Exit → Act → World → Prop} (hsel : Region.noSelect ops = true) {w : World} (hC : C w) {n : Nat} {H : Act → Prop} : ∀ (fs : List Nat) (L : Array Bool) (a : Act), firstB md ops fs L = true →
    (∀ a, H a → wpAnyC P md ops (Only Q) C n (mark fs L) a w) → wpFirstC P ops C fs H a → wpAnyC P md ops (Only Q) C (fs.length + n) L a w
  | [], L, a, _, hH, h => by simpa using hH a h
  | i :: is, L, a, hb, hH, h => by
    obtain ⟨o, v, ho, hy, h⟩ := h
    simp only [firstB, Bool.and_eq_true, ho] at hb
    obtain ⟨⟨hr, hf⟩, hb⟩ := hb
    have hr2 : i ∈ Region.ready md ops L := by simpa using hr
    have ih := wpFirstC_any hsel hC is (L.setIfInBounds i true) _ hb hH h
    rw [List.length_cons, show is.length + 1 + n = is.length + n + 1 by omega]
    exact wpAnyC_first ho (Region.noSelect_spec hsel) _ L a w (fun j oj hj hne hun hno => freeB_spec ho hf hr2 j oj hj hne hun hno) hr2 hy hC ih
end
theorem wpAny_G {P : Program} {Q : Exit → Act → World → Prop} {a : Act} {w : World} {l : List Oper} (C : World → Prop) (hC : ∀ w', Below w.heap.size w w' → C w') (fs : List Nat)
    (hF : (Region.noSelect l.toArray && firstB .any l.toArray fs (Array.replicate l.length false)) = true)
    (ps : List (Nat × (Value → World → Prop))) (hs : List Nat) (g : Nat)
    (hn : fs.length + (hs.length + g) = l.length) (hkeep : ∀ x ∈ ps, Keeps x.2)
    (hB : (groupB .any l.toArray (mark fs (Array.replicate l.length false)) hs && pairsB .any l.toArray ((ps.map (·.1)).contains ·) hs && plainsB l.toArray ((ps.map (·.1)).contains ·) hs) = true)
    (h : wpFirstC P l.toArray C fs (fun a => wpS P .any l.toArray w ((ps.map (·.1)).contains ·) (pOf ps) (fun Γ' a' => ∀ w', All w (pOf ps) Γ' w' → wpAnyC P .any l.toArray (Only Q) C g (mark hs (mark fs (Array.replicate l.length false))) a' w') (numbered l.toArray hs) (fun _ => none) a) a) :
    wpAny P .any l.toArray (Only Q) l.toArray.size (Array.replicate l.toArray.size false) a w.drew := by
  simp only [Bool.and_eq_true] at hF
  have h1 := wpFirstC_any (P := P) (Q := Q) (md := .any) (C := C) hF.1 (w := w.drew) (hC _ (Below.refl _ w).drew) (n := hs.length + g) fs (Array.replicate l.length false) a hF.2 (fun a h => ?_) h
  · rw [hn] at h1
    simpa using wpAnyC_any h1
  · have h2 := wpR_of_wpS (fun k hk => by
      simp only [groupB, Bool.and_eq_true] at hB
      obtain ⟨_, hmem, _⟩ := orderB_spec hB.1.1.2
      exact (hmem k hk).2.2) h
    exact wpAnyC_R (P := P) (Q := Only Q) (w0 := w) (w := w.drew) (a := a) hC (ps.map (·.1)) hs g (pOf_keeps hkeep) hB (Below.refl _ w).drew h2
theorem wp_region_G {P : Program} {id : Nat} {Q : Exit → Act → World → Prop} {a : Act} {w : World} {l : List Oper} (C : World → Prop) (hC : ∀ w', Below w.heap.size w w' → C w') (fs : List Nat)
    (hF : (Region.noSelect l.toArray && firstB .any l.toArray fs (Array.replicate l.length false)) = true)
    (ps : List (Nat × (Value → World → Prop))) (hs : List Nat) (g : Nat) (hm : P.follows .mixedOrders = true)
    (hn : fs.length + (hs.length + g) = l.length) (hkeep : ∀ x ∈ ps, Keeps x.2)
    (hB : (groupB .any l.toArray (mark fs (Array.replicate l.length false)) hs && pairsB .any l.toArray ((ps.map (·.1)).contains ·) hs && plainsB l.toArray ((ps.map (·.1)).contains ·) hs) = true)
    (h : wpFirstC P l.toArray C fs (fun a => wpS P .any l.toArray w ((ps.map (·.1)).contains ·) (pOf ps) (fun Γ' a' => ∀ w', All w (pOf ps) Γ' w' → wpAnyC P .any l.toArray (Only Q) C g (mark hs (mark fs (Array.replicate l.length false))) a' w') (numbered l.toArray hs) (fun _ => none) a) a) :
    (Code.region id l.toArray true).wp P Q a w := wp_region_any hm (wpAny_only (wpAny_G C hC fs hF ps hs g hn hkeep hB h))
end Go.Pb

/- The plain mathematics of layer 2 (saggar), part 7: the search for packings, step by step. -/
namespace Go.Pb.Sag
open Go Go.Pb Go.Pb.Ware Go.RowKit
set_option linter.unusedVariables false
/-- A stand with the cells that are covered there. -/
abbrev Sp := St × Nat
def spotsL (s : Bx) (f : Ft) : List Sp := (standsL s f).map fun p => (p, maskOf f p)
/-- All packings, in order, of items with such spots, on cells that are not used. -/
def packsF : List (List Sp) → Nat → List (List St)
  | [], _ => [[]]
  | l :: ls, used => l.flatMap fun a => if (used &&& a.2 != 0) = true then [] else (packsF ls (used ||| a.2)).map (a.1 :: ·)
def allPacks (s : Bx) (fs : List Ft) : List (List St) := packsF (fs.map (spotsL s)) 0
/-- What the search shows. -/
def shownL (s : Bx) (fs : List Ft) : List (List St) := if plainB s fs = true then [] else allPacks s fs
/-- A function that is changed at one place. -/
def upd1 (g : Nat → Nat) (i v : Nat) : Nat → Nat := fun k => if k = i then v else g k
theorem upd1_at (g : Nat → Nat) (i v : Nat) : upd1 g i v i = v := by simp [upd1]
theorem upd1_ne (g : Nat → Nat) {i k : Nat} (v : Nat) (h : k ≠ i) : upd1 g i v k = g k := by simp [upd1, h]
theorem take_set {p : List St} {i : Nat} {a : St} (h : i < p.length) : (p.set i a).take (i + 1) = p.take i ++ [a] := by
  rw [List.take_succ_eq_append_getElem (by rw [List.length_set]; exact h), List.getElem_set_self, List.take_set]
  congr 1
  rw [List.set_eq_of_length_le (by rw [List.length_take]; omega)]
/-- How many steps are left, at most: digits of a base that is beyond all lengths. -/
def left (B n : Nat) (len nx : Nat → Nat) : Nat → Nat
  | 0 => 0
  | j + 1 => left B n len nx j + (len j - nx j) * B ^ (n - j)
end Go.Pb.Sag
namespace Go.Pb.Sag
end Go.Pb.Sag

/- The plain mathematics of layer 2 (saggar), part 8: cells of lists of stands and feet; copies. -/
namespace Go.Pb.Sag
open Go Go.Pb Go.Pb.Ware Go.RowKit
set_option linter.unusedVariables false
theorem owns_empty (w : World) (e : TypeId) (size : Nat) : (w.alloc (.cells #[] e)).ownsRow w.heap.size e size (.slice (some ⟨w.heap.size, 0, none⟩) 0 0) 0 [] :=
  ⟨by simp, .inr ⟨w.heap.size, 0, #[], rfl, Nat.le_refl _, heap_alloc_new w _, Nat.le_refl _, by simp [maxLen], by simp, by simp⟩⟩
end Go.Pb.Sag

/- What the search holds in memory: spots, the stands that are chosen, the next spots, what is taken. -/
namespace Go.Pb.Sag
open Go Go.Pb Go.Pb.Ware Go.RowKit
set_option linter.unusedVariables false
def cellsA (a : Sp) : List Value := [.int .i64 (a.1.y : Int), .int .i64 (a.1.x : Int), .bool a.1.turned, .int .u64 (a.2 : Int)]
/-- The slice v of slices reads as these lists of spots; all of it lies in [lo, hi). -/
def SpotsIn (lo hi : Nat) (v : Value) (sp : List (List Sp)) (W : World) : Prop := ∃ g : Nat, (lo ≤ g ∧ g < hi) ∧ v = .slice (some ⟨g, 0, none⟩) sp.length sp.length ∧
  ∀ i l, sp[i]? = some l → ∃ (a : Option Addr) (cap : Nat), W.cell? ⟨g, i, none⟩ = some (.slice a l.length cap) ∧ (l.length : Int) ≤ 1000 ∧
    ∀ k x, l[k]? = some x → ∃ b : Nat, (lo ≤ b ∧ b < hi) ∧ a = some ⟨b, 0, none⟩ ∧ ∀ j u, (cellsA x)[j]? = some u → W.cell? ⟨b, k * 4 + j, none⟩ = some u
theorem SpotsIn.keep {lo hi : Nat} {v : Value} {sp : List (List Sp)} {W W' : World} (h : SpotsIn lo hi v sp W) (hk : KeepSeg lo hi W W') : SpotsIn lo hi v sp W' := by
  obtain ⟨g, hg, e, h⟩ := h
  refine ⟨g, hg, e, fun i l hl => ?_⟩
  obtain ⟨a, cap, h1, h0, h2⟩ := h i l hl
  refine ⟨a, cap, hk.cell hg.1 hg.2 h1, h0, fun k x hx => ?_⟩
  obtain ⟨b, hb, e2, h3⟩ := h2 k x hx
  exact ⟨b, hb, e2, fun j u hu => hk.cell hb.1 hb.2 (h3 j u hu)⟩
/-- The stands that are chosen so far. -/
def PAt (W : World) (B : Nat) (p : List St) : Prop := ∀ k q, p[k]? = some q → ∀ j u, (cellsP q)[j]? = some u → W.cell? ⟨B, k * 3 + j, none⟩ = some u ∧ W.frozen? ⟨B, k * 3 + j, none⟩ = false
/-- Six numbers of a kind. -/
def NAt (q : IntKind) (W : World) (B : Nat) (nx : Nat → Nat) : Prop := ∀ k, k < 6 → W.cell? ⟨B, k, none⟩ = some (.int q (nx k : Int)) ∧ W.frozen? ⟨B, k, none⟩ = false
theorem block_same {W W' : World} {B o : Nat} (h : W'.heap[B]? = W.heap[B]?) {u : Value} (hc : W.cell? ⟨B, o, none⟩ = some u ∧ W.frozen? ⟨B, o, none⟩ = false) : W'.cell? ⟨B, o, none⟩ = some u ∧ W'.frozen? ⟨B, o, none⟩ = false :=
  ⟨(World.cell?_of_block (w := W) h).trans hc.1, (World.frozen?_of_block (a := ⟨B, o, none⟩) (w := W) h).trans hc.2⟩
theorem PAt.keep {W W' : World} {B : Nat} {p : List St} (h : PAt W B p) (hb : W'.heap[B]? = W.heap[B]?) : PAt W' B p := fun k q hq j u hu => block_same hb (h k q hq j u hu)
theorem NAt.keep {q : IntKind} {W W' : World} {B : Nat} {nx : Nat → Nat} (h : NAt q W B nx) (hb : W'.heap[B]? = W.heap[B]?) : NAt q W' B nx := fun k hk => block_same hb (h k hk)
theorem set_free {W : World} {a b : Addr} {u v : Value} (hc : W.cell? a = some u) (hf : W.frozen? a = false) : (W.setCell b v).frozen? a = false := by simp [go_sem, hf]
theorem setc_same {W : World} {a : Addr} {u v : Value} (h : W.cell? a = some u) : (W.setCell a v).cell? a = some v := by simp [go_sem, h]
theorem setc_other {W : World} {B o o' : Nat} {u v : Value} (h : W.cell? ⟨B, o, none⟩ = some u) (hne : o ≠ o') : (W.setCell ⟨B, o', none⟩ v).cell? ⟨B, o, none⟩ = some u := by
  simp [go_sem, h]
theorem setc_block {W : World} {B B' o o' : Nat} {u v : Value} (h : W.cell? ⟨B, o, none⟩ = some u) (hne : B ≠ B') : (W.setCell ⟨B', o', none⟩ v).cell? ⟨B, o, none⟩ = some u := by
  simp [go_sem, h]
theorem NAt.set {q : IntKind} {W : World} {B i v : Nat} {nx : Nat → Nat} (h : NAt q W B nx) (hi : i < 6) : NAt q (W.setCell ⟨B, i, none⟩ (.int q (v : Int))) B (upd1 nx i v) := by
  intro k hk
  have h1 := h k hk
  refine ⟨?_, set_free h1.1 h1.2⟩
  by_cases e : k = i
  · subst e; rw [upd1_at]; exact setc_same h1.1
  · rw [upd1_ne _ _ e]; exact setc_other h1.1 e
theorem PAt.set {W : World} {B i : Nat} {p : List St} {a : St} (h : PAt W B p) (hi : i < p.length) :
    PAt (((W.setCell ⟨B, i * 3, none⟩ (.int .i64 (a.y : Int))).setCell ⟨B, i * 3 + 1, none⟩ (.int .i64 (a.x : Int))).setCell ⟨B, i * 3 + 2, none⟩ (.bool a.turned)) B (p.set i a) := by
  intro k q hq j u hu
  have hj : j < 3 := by have := (List.getElem?_eq_some_iff.1 hu).1; simpa [cellsP] using this
  have hk : k < p.length := by have := (List.getElem?_eq_some_iff.1 hq).1; simpa using this
  obtain ⟨u0, hu0⟩ : ∃ u0, (cellsP p[k])[j]? = some u0 := ⟨(cellsP p[k])[j]'(show j < 3 from hj), List.getElem?_eq_getElem _⟩
  have h1 := h k p[k] (List.getElem?_eq_getElem hk) j u0 hu0
  refine ⟨?_, by simp [go_sem, h1.2]⟩
  by_cases e : k = i
  · subst e
    rw [List.getElem?_set_self hk] at hq
    injection hq with hq
    subst hq
    rcases (show j = 0 ∨ j = 1 ∨ j = 2 by omega) with rfl | rfl | rfl
    · have hu2 : Value.int .i64 (a.y : Int) = u := by injection hu
      rw [← hu2, Nat.add_zero]
      rw [Nat.add_zero] at h1
      exact setc_other (setc_other (setc_same h1.1) (by omega)) (by omega)
    · have hu2 : Value.int .i64 (a.x : Int) = u := by injection hu
      rw [← hu2]
      exact setc_other (setc_same (setc_other h1.1 (by omega))) (by omega)
    · have hu2 : Value.bool a.turned = u := by injection hu
      rw [← hu2]
      exact setc_same (setc_other (setc_other h1.1 (by omega)) (by omega))
  · rw [List.getElem?_set_ne (Ne.symm e), List.getElem?_eq_getElem hk] at hq
    injection hq with hq
    subst hq
    rw [hu] at hu0
    injection hu0 with hu0
    subst hu0
    exact setc_other (setc_other (setc_other h1.1 (by omega)) (by omega)) (by omega)
end Go.Pb.Sag
namespace Go.Pb.Sag
open Go Go.Pb Go.Pb.Ware Go.RowKit
end Go.Pb.Sag

/- The lists of spots while one of them is being filled. -/
namespace Go.Pb.Sag
open Go Go.Pb Go.Pb.Ware Go.RowKit
set_option linter.unusedVariables false
/-- Of what was there, one cell of the block g alone has changed. -/
structure OutOnly (w1 : World) (g i : Nat) (W : World) : Prop where
  below : Below g w1 W
  seg : ∀ k, g < k → k < w1.heap.size → W.heap[k]? = w1.heap[k]?
  cells : ∀ j u, j ≠ i → w1.cell? ⟨g, j, none⟩ = some u → W.cell? ⟨g, j, none⟩ = some u
  frz : ∀ j u, w1.cell? ⟨g, j, none⟩ = some u → w1.frozen? ⟨g, j, none⟩ = false → W.frozen? ⟨g, j, none⟩ = false
theorem OutOnly.refl {w1 : World} {g i : Nat} : OutOnly w1 g i w1 := ⟨Below.refl _ _, fun _ _ _ => rfl, fun _ _ _ h => h, fun _ _ _ h => h⟩
theorem OutOnly.grown {w1 W W' : World} {g i : Nat} {row : Option Nat} (h : OutOnly w1 g i W) (hg : W.grownBy W' row) (hlt : g < w1.heap.size) (hr : ∀ r, row = some r → w1.heap.size ≤ r) : OutOnly w1 g i W' := by
  have hs := h.below.size
  have hb : W'.heap[g]? = W.heap[g]? := hg.block g (by omega) (fun e => by have := hr g e.symm; omega)
  refine ⟨h.below.grown hg (by omega) (fun k e => by have := hr k e; omega), fun k h1 h2 => ?_, fun j u hj hu => ?_, fun j u hu hf => ?_⟩
  · rw [hg.block k (by omega) (fun e => by have := hr k e.symm; omega)]; exact h.seg k h1 h2
  · rw [World.cell?_of_block (w := W) hb]; exact h.cells j u hj hu
  · rw [World.frozen?_of_block (a := ⟨g, j, none⟩) (w := W) hb]; exact h.frz j u hu hf
theorem OutOnly.next {w1 W W' : World} {g i : Nat} (h : OutOnly w1 g i W) (hlt : g < w1.heap.size) (hb : Below W.heap.size W W') : OutOnly w1 g i W' := h.grown (grown_of_below hb) hlt (fun r e => by cases e)
theorem OutOnly.set {w1 W : World} {g i : Nat} (h : OutOnly w1 g i W) (v : Value) : OutOnly w1 g i (W.setCell ⟨g, i, none⟩ v) :=
  ⟨h.below.setCell (p := ⟨g, i, none⟩) (Nat.le_refl _) v, fun k h1 h2 => by rw [Below.heap_setCell _ _ _ _ (by show k ≠ g; omega)]; exact h.seg k h1 h2, fun j u hj hu => setc_other (h.cells j u hj hu) hj, fun j u hu hf => by simp [go_sem, h.frz j u hu hf]⟩
theorem OutOnly.free {w1 W : World} {g i B o : Nat} {v : Value} (h : OutOnly w1 g i W) (hc : w1.cell? ⟨B, o, none⟩ = some v) (hf : w1.frozen? ⟨B, o, none⟩ = false) : W.frozen? ⟨B, o, none⟩ = false := by
  have hlt := World.block_lt_of_cell? w1 _ hc
  rcases Nat.lt_trichotomy B g with h1 | h1 | h1
  · rw [h.below.frozen (p := ⟨B, o, none⟩) h1]; exact hf
  · subst h1; exact h.frz o v hc hf
  · rw [World.frozen?_of_block (a := ⟨B, o, none⟩) (w := w1) (h.seg B (by omega) hlt)]; exact hf
/-- The list at i of the slice at g while it is being filled. -/
def Filling (w1 : World) (g i T : Nat) (l : List Sp) (W : World) : Prop := OutOnly w1 g i W ∧ ∃ v, (W.cell? ⟨g, i, none⟩ = some v ∧ W.frozen? ⟨g, i, none⟩ = false) ∧ W.ownsRow w1.heap.size T 4 v l.length (l.flatMap cellsA)
theorem own_cells {W : World} {base size n : Nat} {e : TypeId} {v : Value} {xs : List Value} (h : W.ownsRow base e size v n xs) : ∀ j o, v.ownBlock = some j → W.heap[j]? = some o → o.isCells = true := by
  intro j o ej hj
  rcases h.2 with ⟨rfl, _⟩ | ⟨g, cap, cur, rfl, _, hgb, _⟩
  · simp [Value.ownBlock] at ej
  · obtain rfl : g = j := by simpa [Value.ownBlock] using ej
    rw [hgb] at hj; cases hj; rfl
theorem grown_setc (W : World) (a : Addr) (v : Value) : W.grownBy (W.setCell a v) (some a.block) :=
  ⟨rfl, rfl, rfl, by simp, fun k _ hk => Below.heap_setCell _ _ _ k (fun e => hk (by rw [e]))⟩
/-- One spot more. -/
theorem Filling.push {w1 Wb w2 w3 : World} {g i T n : Nat} {l : List Sp} {x : Sp} {v v' c0 : Value} (hn : l.length = n) (hlt : g < w1.heap.size) (hc : w1.cell? ⟨g, i, none⟩ = some c0) (hf : w1.frozen? ⟨g, i, none⟩ = false) (hO : OutOnly w1 g i Wb) (c1 : Wb.cell? ⟨g, i, none⟩ = some v) (hb : Below Wb.heap.size Wb w2)
    (hown2 : w2.ownsRow w1.heap.size T 4 v n (l.flatMap cellsA)) (hg3 : w2.grownBy w3 v.ownBlock) (ho3 : w3.ownsRow w1.heap.size T 4 v' (n + 1) (l.flatMap cellsA ++ cellsA x)) :
    Filling w1 g i T (l ++ [x]) (w3.setCell ⟨g, i, none⟩ v') ∧ KeepsOthers Wb (w3.setCell ⟨g, i, none⟩ v') ∧ Wb.heap.size ≤ (w3.setCell ⟨g, i, none⟩ v').heap.size := by
  have hr : ∀ r, v.ownBlock = some r → w1.heap.size ≤ r := fun r e => (World.ownsRow.lt hown2 r e).1
  have hO4 := ((hO.next hlt hb).grown hg3 hlt hr).set v'
  have c3 : w3.cell? ⟨g, i, none⟩ = some v := grown_kept hg3 (bkeep hb c1) (fun e => by have := hr g e.symm; omega)
  refine ⟨⟨hO4, v', ⟨setc_same c3, hO4.frz i c0 hc hf⟩, ?_⟩, ((keeps_of_below hb).trans (KeepsOthers.of_grownBy hg3 (own_cells hown2))).trans (KeepsOthers.setCell _ _ _), ?_⟩
  · rw [List.length_append, List.length_singleton, hn, List.flatMap_append, show [x].flatMap cellsA = cellsA x by simp]
    exact ho3.kept (grown_setc w3 ⟨g, i, none⟩ v') (.inr fun e => by have := (World.ownsRow.lt ho3 g e).1; omega)
  · have := hb.size; have := hg3.size; simp; omega
end Go.Pb.Sag

/- Sorting feet: what the library's contract wants and gives, in the words of feet. -/
namespace Go.Pb.Sag
open Go Go.Pb Go.Pb.Ware Go.RowKit Go.Proofs Go.Sort
set_option linter.unusedVariables false
abbrev FtV := {f : Ft // FtOk f}
instance : Inhabited FtV := ⟨⟨⟨1, 1, 0, 0⟩, by unfold FtOk; simp⟩⟩
def encF (f : FtV) : List Value := cellsF f.1
theorem owns_frozen {w : World} {base size n g : Nat} {e : TypeId} {v : Value} {xs : List Value} (h : w.ownsRow base e size v n xs) (hg : v.ownBlock = some g) (o : Nat) : w.frozen? ⟨g, o, none⟩ = false := by
  rcases h.2 with ⟨rfl, _⟩ | ⟨g', cap, cur, rfl, _, hgb, _⟩
  · simp [Value.ownBlock] at hg
  · obtain rfl : g' = g := by simpa [Value.ownBlock] using hg
    simp [World.frozen?, hgb]
theorem below_sort {w : World} {B b m : Nat} {d : Array FtV} {os : Array Obj} (hb : B ≤ b) (hB : B ≤ w.heap.size) : Below B w (sortWorldK encF 4 w b 0 m d os) := by
  refine ⟨rfl, rfl, rfl, size_sortWorldK_c .., fun k hk => ?_⟩
  unfold sortWorldK
  rw [heap_grow_old _ _ (by simp [putRowK]; omega)]
  unfold putRowK putRow mapBlock
  rw [Array.getElem?_modify, if_neg (by omega)]
  rfl
end Go.Pb.Sag
namespace Go.Pb.Sag
open Go Go.Pb Go.Pb.Ware Go.RowKit
/-- Is there a packing? -/
def fitsB (s : Bx) (fs : List Ft) : Bool := !(shownL s fs).isEmpty
end Go.Pb.Sag

/- The plain mathematics of layer 2 (saggar): trouble of all kinds, reasons. -/
namespace Go.Pb.Sag
open Go Go.Pb Go.Pb.Ware Go.RowKit
set_option linter.unusedVariables false
/-- The indices below n. -/
def idxs (n : Nat) : List Int := (List.range n).map fun k : Nat => (k : Int)
theorem idxs_len (n : Nat) : (idxs n).length = n := by simp [idxs]
theorem idxs_at {n k : Nat} (h : k < n) : (idxs n)[k]? = some (k : Int) := by simp [idxs, h]
/-- The indices below k are written, the others are 0. -/
def IdxAt (B n k : Nat) (W : World) : Prop := ∀ j, j < n → W.cell? ⟨B, j, none⟩ = some (.int .i64 (if j < k then (j : Int) else 0)) ∧ W.frozen? ⟨B, j, none⟩ = false
theorem IdxAt.set {B n k : Nat} {W : World} (h : IdxAt B n k W) (hk : k < n) : IdxAt B n (k + 1) (W.setCell ⟨B, k, none⟩ (.int .i64 (k : Int))) := by
  intro j hj
  have h1 := h j hj
  refine ⟨?_, set_free h1.1 h1.2⟩
  by_cases e : j = k
  · subst e; rw [if_pos (by omega)]; exact setc_same h1.1
  · rw [setc_other h1.1 e]
    by_cases e2 : j < k
    · rw [if_pos e2, if_pos (by omega)]
    · rw [if_neg e2, if_neg (by omega)]
theorem IdxAt.nums {B n : Nat} {W : World} (h : IdxAt B n n W) (hn : n ≤ 1000) : NumsAt W (.slice (some ⟨B, 0, none⟩) n n) (idxs n) := by
  refine .inr ⟨⟨B, 0, none⟩, n, by rw [idxs_len], by rw [idxs_len]; exact Nat.le_refl _, by omega, fun k z hz => ?_⟩
  have hk : k < n := by have := (List.getElem?_eq_some_iff.1 hz).1; rwa [idxs_len] at this
  rw [idxs_at hk] at hz
  injection hz with hz
  subst hz
  have h1 := (h k hk).1
  rw [if_pos hk] at h1
  rw [Go.WideShapes.add_plain, Nat.zero_add]
  exact ⟨h1, I64.mk (by omega) (by omega)⟩
end Go.Pb.Sag

/- Putting items into groups: the search, and what it holds in memory. -/
namespace Go.Pb.Sag
open Go Go.Pb Go.Pb.Ware Go.RowKit
set_option linter.unusedVariables false
theorem find_here {α : Type} {f : Nat → Option α} {n k : Nat} {r : α} (hk : k < n) (h0 : ∀ j, j < k → f j = none) (h : f k = some r) : (List.range n).findSome? f = some r := by
  induction n generalizing k with
  | zero => omega
  | succ n ih =>
    rw [List.range_succ, List.findSome?_append]
    rcases Nat.lt_or_ge k n with h1 | h1
    · rw [ih h1 h0 h]; rfl
    · have e : k = n := by omega
      subst e
      rw [List.findSome?_eq_none_iff.2 (fun j hj => h0 j (List.mem_range.1 hj))]
      simp [h]
theorem find_no {α : Type} {f : Nat → Option α} {n : Nat} (h0 : ∀ j, j < n → f j = none) : (List.range n).findSome? f = none := List.findSome?_eq_none_iff.2 (fun j hj => h0 j (List.mem_range.1 hj))
/-- Groups of items below i: none is empty, and no two have the same first item. -/
structure Good (i : Nat) (gs : List (List Int)) : Prop where
  one : ∀ (k : Nat) (g : List Int), gs[k]? = some g → ∃ x, g[0]? = some x
  lt : ∀ g ∈ gs, ∀ z ∈ g, 0 ≤ z ∧ z < (i : Int)
  len : ∀ g ∈ gs, g.length ≤ i
  many : gs.length ≤ i
  apart : ∀ (j k : Nat) (g h : List Int) (x y : Int), j ≠ k → gs[j]? = some g → gs[k]? = some h → g[0]? = some x → h[0]? = some y → x ≠ y
theorem Good.nil : Good 0 [] := ⟨fun k g h => (by simp at h), fun g h => (by cases h), fun g h => (by cases h), Nat.le_refl _, fun j k g h x y _ h1 => (by simp at h1)⟩
theorem head_snoc {g : List Int} {x z : Int} (h : g[0]? = some x) : (g ++ [z])[0]? = some x := by
  cases g with
  | nil => simp at h
  | cons a l => simpa using h
theorem Good.push {i k : Nat} {gs : List (List Int)} {g : List Int} (h : Good i gs) (hg : gs[k]? = some g) : Good (i + 1) (gs.set k (g ++ [(i : Int)])) := by
  have hk : k < gs.length := (List.getElem?_eq_some_iff.1 hg).1
  have key : ∀ (j : Nat) (g' : List Int) (x : Int), (gs.set k (g ++ [(i : Int)]))[j]? = some g' → g'[0]? = some x → ∃ g0, gs[j]? = some g0 ∧ g0[0]? = some x := by
    intro j g' x h1 h2
    by_cases e : j = k
    · subst e
      rw [List.getElem?_set_self hk] at h1
      obtain rfl : g ++ [(i : Int)] = g' := by simpa using h1
      obtain ⟨y, hy⟩ := h.one j g hg
      rw [head_snoc hy] at h2
      exact ⟨g, hg, by rw [hy]; exact h2⟩
    · rw [List.getElem?_set_ne (Ne.symm e)] at h1
      exact ⟨g', h1, h2⟩
  refine ⟨fun j g' h1 => ?_, fun g' hm z hz => ?_, fun g' hm => ?_, by rw [List.length_set]; have := h.many; omega, fun j l g' h' x y hne h1 h2 h3 h4 => ?_⟩
  · by_cases e : j = k
    · subst e
      rw [List.getElem?_set_self hk] at h1
      obtain rfl : g ++ [(i : Int)] = g' := by simpa using h1
      obtain ⟨y, hy⟩ := h.one j g hg
      exact ⟨y, head_snoc hy⟩
    · rw [List.getElem?_set_ne (Ne.symm e)] at h1
      exact h.one j g' h1
  · rcases List.mem_or_eq_of_mem_set hm with h1 | rfl
    · have := h.lt g' h1 z hz; omega
    · rcases List.mem_append.1 hz with h1 | h1
      · have := h.lt g (List.mem_of_getElem? hg) z h1; omega
      · simp at h1; omega
  · rcases List.mem_or_eq_of_mem_set hm with h1 | rfl
    · have := h.len g' h1; omega
    · have := h.len g (List.mem_of_getElem? hg); rw [List.length_append, List.length_singleton]; omega
  · obtain ⟨a, ha, ha2⟩ := key j g' x h1 h3
    obtain ⟨b, hb, hb2⟩ := key l h' y h2 h4
    exact h.apart j l a b x y hne ha hb ha2 hb2
theorem Good.snoc {i : Nat} {gs : List (List Int)} (h : Good i gs) : Good (i + 1) (gs ++ [[(i : Int)]]) := by
  have key : ∀ (j : Nat) (g : List Int), (gs ++ [[(i : Int)]])[j]? = some g → (j < gs.length ∧ gs[j]? = some g) ∨ (j = gs.length ∧ g = [(i : Int)]) := by
    intro j g h1
    rcases Nat.lt_or_ge j gs.length with h2 | h2
    · rw [List.getElem?_append_left h2] at h1; exact .inl ⟨h2, h1⟩
    · rw [List.getElem?_append_right h2] at h1
      have h3 := (List.getElem?_eq_some_iff.1 h1).1
      simp at h3
      have e : j = gs.length := by omega
      subst e
      simp at h1
      exact .inr ⟨rfl, h1.symm⟩
  have low : ∀ (j : Nat) (g : List Int) (x : Int), gs[j]? = some g → g[0]? = some x → x < (i : Int) := fun j g x h1 h2 => (h.lt g (List.mem_of_getElem? h1) x (List.mem_of_getElem? h2)).2
  refine ⟨fun j g h1 => ?_, fun g hm z hz => ?_, fun g hm => ?_, by rw [List.length_append, List.length_singleton]; have := h.many; omega, fun j k g g' x y hne h1 h2 h3 h4 => ?_⟩
  · rcases key j g h1 with ⟨_, h2⟩ | ⟨_, rfl⟩
    · exact h.one j g h2
    · exact ⟨_, rfl⟩
  · rcases List.mem_append.1 hm with h1 | h1
    · have := h.lt g h1 z hz; omega
    · simp at h1; subst h1; simp at hz; omega
  · rcases List.mem_append.1 hm with h1 | h1
    · have := h.len g h1; omega
    · simp at h1; subst h1; simp
  · rcases key j g h1 with ⟨_, h5⟩ | ⟨e1, rfl⟩ <;> rcases key k g' h2 with ⟨_, h6⟩ | ⟨e2, rfl⟩
    · exact h.apart j k g g' x y hne h5 h6 h3 h4
    · have := low j g x h5 h3; simp at h4; omega
    · have := low k g' y h6 h4; simp at h3; omega
    · omega
theorem Good.mono {i j : Nat} {gs : List (List Int)} (h : Good i gs) (hij : i ≤ j) : Good j gs := ⟨h.one, fun g hm z hz => (by have := h.lt g hm z hz; omega), fun g hm => (by have := h.len g hm; omega), (by have := h.many; omega), h.apart⟩
/-- Two rows with different beginnings do not share a block. -/
theorem apart_heads {W : World} {b1 b2 T n1 n2 : Nat} {v u x y : Value} {xs ys : List Value} (h1 : W.ownsRow b1 T 1 v n1 xs) (h2 : W.ownsRow b2 T 1 u n2 ys) (hx : xs[0]? = some x) (hy : ys[0]? = some y) (hne : x ≠ y) : v.ownBlock = none ∨ v.ownBlock ≠ u.ownBlock := by
  rcases h1.2 with ⟨rfl, _⟩ | ⟨g, cap, cur, rfl, _, hg, _, _, _, ht⟩
  · exact .inl rfl
  · refine .inr fun e => ?_
    rcases h2.2 with ⟨rfl, _⟩ | ⟨g', cap', cur', rfl, _, hg', _, _, _, ht'⟩
    · simp [Value.ownBlock] at e
    · have e2 : g = g' := by simpa [Value.ownBlock] using e
      subst e2
      rw [hg] at hg'
      injection hg' with e3
      injection e3 with e3
      subst e3
      rw [← ht, List.getElem?_take] at hx
      rw [← ht', List.getElem?_take] at hy
      split at hx
      · split at hy
        · rw [hx] at hy; injection hy with hy; exact hne hy
        · cases hy
      · cases hx
/-- Rows of two types do not share a block. -/
theorem apart_types {W : World} {b1 b2 T1 T2 s1 s2 n1 n2 : Nat} {v u : Value} {xs ys : List Value} (h1 : W.ownsRow b1 T1 s1 v n1 xs) (h2 : W.ownsRow b2 T2 s2 u n2 ys) (hne : T1 ≠ T2) : v.ownBlock = none ∨ v.ownBlock ≠ u.ownBlock := by
  rcases h1.2 with ⟨rfl, _⟩ | ⟨g, cap, cur, rfl, _, hg, _⟩
  · exact .inl rfl
  · refine .inr fun e => ?_
    rcases h2.2 with ⟨rfl, _⟩ | ⟨g', cap', cur', rfl, _, hg', _⟩
    · simp [Value.ownBlock] at e
    · have e2 : g = g' := by simpa [Value.ownBlock] using e
      subst e2
      rw [hg] at hg'
      injection hg' with e3
      injection e3 with _ e4
      exact hne e4
theorem row_take {W : World} {lo T n m cap g : Nat} {xs : List Value} (h : W.ownsRow lo T 1 (.slice (some ⟨g, 0, none⟩) n cap) n xs) (hm : m ≤ n) : W.ownsRow lo T 1 (.slice (some ⟨g, 0, none⟩) m cap) m (xs.take m) := by
  refine ⟨by rw [List.length_take, h.1]; omega, ?_⟩
  rcases h.2 with ⟨h1, _⟩ | ⟨g', cap', cur, h1, h2, h3, h4, h5, h6, h7⟩
  · cases h1
  · injection h1 with e1 _ e2
    injection e1 with e1
    injection e1 with e1
    subst e1; subst e2
    refine .inr ⟨g, cap, cur, rfl, h2, h3, by omega, h5, h6, ?_⟩
    rw [← h7, List.take_take]
    congr 1; omega
theorem row_set {W : World} {lo T n cap g k : Nat} {xs : List Value} {v : Value} (h : W.ownsRow lo T 1 (.slice (some ⟨g, 0, none⟩) n cap) n xs) (hk : k < n) : (W.setCell ⟨g, k, none⟩ v).ownsRow lo T 1 (.slice (some ⟨g, 0, none⟩) n cap) n (xs.set k v) := by
  refine ⟨by rw [List.length_set]; exact h.1, ?_⟩
  rcases h.2 with ⟨h1, _⟩ | ⟨g', cap', cur, h1, h2, h3, h4, h5, h6, h7⟩
  · cases h1
  · injection h1 with e1 _ e2
    injection e1 with e1
    injection e1 with e1
    subst e1; subst e2
    refine .inr ⟨g, cap, cur.setIfInBounds k v, rfl, h2, ?_, h4, h5, by rw [Array.size_setIfInBounds]; exact h6, ?_⟩
    · rw [Go.Sort.setCell_eq]
      unfold Go.Sort.mapBlock
      rw [Array.getElem?_modify, if_pos rfl, h3]; rfl
    · rw [Array.toList_setIfInBounds, List.take_set, h7]
end Go.Pb.Sag

/- What putting items into groups holds in memory. -/
namespace Go.Pb.Sag
open Go Go.Pb Go.Pb.Ware Go.RowKit
set_option linter.unusedVariables false
def RowsIn (lo T : Nat) (W : World) (vs : List Value) (gs : List (List Int)) : Prop := ∀ (k : Nat) (v : Value) (g : List Int), vs[k]? = some v → gs[k]? = some g → W.ownsRow lo T 1 v g.length (g.map (Value.int .i64))
/-- The groups so far, in the field 8 of block G; all other memory of theirs lies behind G. -/
def PutAt (G TO TI : Nat) (gs : List (List Int)) (W : World) : Prop := ∃ (gv : Value) (vs : List Value), (W.cell? ⟨G, 8, none⟩ = some gv ∧ W.frozen? ⟨G, 8, none⟩ = false) ∧ W.ownsRow (G + 1) TO 1 gv gs.length vs ∧ RowsIn (G + 1) TI W vs gs
theorem PutAt.next {G TO TI : Nat} {gs : List (List Int)} {W W' : World} (h : PutAt G TO TI gs W) (hb : Below W.heap.size W W') : PutAt G TO TI gs W' := by
  obtain ⟨gv, vs, ⟨c1, c2⟩, ho, hr⟩ := h
  exact ⟨gv, vs, ⟨bkeep hb c1, bfree hb c1 c2⟩, owns_below ho hb, fun k v g h1 h2 => owns_below (hr k v g h1 h2) hb⟩
theorem own_ge {W : World} {lo T s n : Nat} {v : Value} {xs : List Value} (h : W.ownsRow lo T s v n xs) : ∀ b, v.ownBlock = some b → lo ≤ b := fun b e => (World.ownsRow.lt h b e).1
theorem set_own {W : World} {lo T s n B o : Nat} {v u : Value} {xs : List Value} (h : W.ownsRow lo T s v n xs) (hne : v.ownBlock = none ∨ v.ownBlock ≠ some B) : (W.setCell ⟨B, o, none⟩ u).ownsRow lo T s v n xs := h.kept (grown_setc W ⟨B, o, none⟩ u) hne
/-- What is there behind an append to the group k, ahead of its store. -/
theorem PutAt.push {G TO TI i k : Nat} (hT : TO ≠ TI) {gs : List (List Int)} {g : List Int} {W w2 w3 : World} {v v' : Value} {vs : List Value} {gb cap : Nat} (hG : Good i gs) (hg : gs[k]? = some g) (hv : vs[k]? = some v)
    (c8 : W.cell? ⟨G, 8, none⟩ = some (.slice (some ⟨gb, 0, none⟩) gs.length cap) ∧ W.frozen? ⟨G, 8, none⟩ = false) (ho : W.ownsRow (G + 1) TO 1 (.slice (some ⟨gb, 0, none⟩) gs.length cap) gs.length vs) (hr : RowsIn (G + 1) TI W vs gs)
    (hb : Below W.heap.size W w2) (hg3 : w2.grownBy w3 v.ownBlock) (ho3 : w3.ownsRow (G + 1) TI 1 v' (g.length + 1) (g.map (Value.int .i64) ++ [.int .i64 (i : Int)])) :
    (w3.cell? ⟨gb, k, none⟩ = some v ∧ w3.frozen? ⟨gb, k, none⟩ = false) ∧ PutAt G TO TI (gs.set k (g ++ [(i : Int)])) (w3.setCell ⟨gb, k, none⟩ v') ∧ Below (G + 1) W (w3.setCell ⟨gb, k, none⟩ v') := by
  have hk : k < gs.length := (List.getElem?_eq_some_iff.1 hg).1
  have hGW : G < W.heap.size := World.block_lt_of_cell? W _ c8.1
  have hrow := hr k v g hv hg
  have ho2 := owns_below ho hb
  have hrow2 := owns_below hrow hb
  have hgb : G + 1 ≤ gb := own_ge ho gb rfl
  have a1 : (Value.slice (some ⟨gb, 0, none⟩) gs.length cap).ownBlock = none ∨ (Value.slice (some ⟨gb, 0, none⟩) gs.length cap).ownBlock ≠ v.ownBlock := apart_types ho2 hrow2 hT
  have ho4 : w3.ownsRow (G + 1) TO 1 (.slice (some ⟨gb, 0, none⟩) gs.length cap) gs.length vs := ho2.kept hg3 a1
  have hlo : ∀ r, v.ownBlock = some r → G + 1 ≤ r := own_ge hrow
  have hbw : Below (G + 1) W w3 := (hb.mono (by omega)).grown hg3 (by have := hb.size; omega) hlo
  have a2 : some gb ≠ v.ownBlock := by rcases a1 with h | h; cases h; exact h
  have hcell : w3.cell? ⟨gb, k, none⟩ = some v := by
    have h1 := ho4.cells (g := gb) rfl k v hv
    rw [Go.WideShapes.add_plain, Nat.zero_add] at h1
    exact h1
  refine ⟨⟨hcell, owns_frozen ho4 rfl k⟩, ⟨.slice (some ⟨gb, 0, none⟩) gs.length cap, vs.set k v', ⟨?_, ?_⟩, ?_, ?_⟩, hbw.setCell (p := ⟨gb, k, none⟩) hgb v'⟩
  · exact setc_block ((hbw.cell (p := ⟨G, 8, none⟩) (by simp)).trans c8.1) (by omega)
  · exact set_free ((hbw.cell (p := ⟨G, 8, none⟩) (by simp)).trans c8.1) ((hbw.frozen (p := ⟨G, 8, none⟩) (by simp)).trans c8.2)
  · rw [List.length_set]; exact row_set ho4 hk
  · intro j u g' hu hg'
    have hts : ∀ {u : Value} {n : Nat} {xs : List Value}, w3.ownsRow (G + 1) TI 1 u n xs → u.ownBlock = none ∨ u.ownBlock ≠ some gb := fun h => apart_types h ho4 (Ne.symm hT)
    by_cases e : j = k
    · subst e
      have hvl : j < vs.length := (List.getElem?_eq_some_iff.1 hv).1
      rw [List.getElem?_set_self hvl] at hu
      rw [List.getElem?_set_self hk] at hg'
      obtain rfl : v' = u := by simpa using hu
      obtain rfl : g ++ [(i : Int)] = g' := by simpa using hg'
      have h1 := set_own (o := j) (u := v') ho3 (hts ho3)
      simpa using h1
    · rw [List.getElem?_set_ne (Ne.symm e)] at hu hg'
      have hj := hr j u g' hu hg'
      obtain ⟨x, hx⟩ := hG.one j g' hg'
      obtain ⟨y, hy⟩ := hG.one k g hg
      have hxy := hG.apart j k g' g x y e hg' hg hx hy
      have h1 : (g'.map (Value.int .i64))[0]? = some (.int .i64 x) := by rw [List.getElem?_map, hx]; rfl
      have h2 : (g.map (Value.int .i64))[0]? = some (.int .i64 y) := by rw [List.getElem?_map, hy]; rfl
      have h3 := (owns_below hj hb).kept hg3 (apart_heads (owns_below hj hb) hrow2 h1 h2 (fun h => hxy (by injection h)))
      exact set_own h3 (hts h3)
/-- The group k is cut back to g. -/
theorem PutAt.pop {G TO TI i k : Nat} (hT : TO ≠ TI) {gs : List (List Int)} {g : List Int} {W : World} {gb gcap b cap n : Nat} {vs : List Value} (hgs : gs[k]? = some g) (hn : gs.length = n)
    (c8 : W.cell? ⟨G, 8, none⟩ = some (.slice (some ⟨gb, 0, none⟩) n gcap) ∧ W.frozen? ⟨G, 8, none⟩ = false) (ho : W.ownsRow (G + 1) TO 1 (.slice (some ⟨gb, 0, none⟩) n gcap) n vs) (hr : RowsIn (G + 1) TI W vs (gs.set k (g ++ [(i : Int)])))
    (hv : vs[k]? = some (.slice (some ⟨b, 0, none⟩) (g.length + 1) cap)) :
    PutAt G TO TI gs (W.setCell ⟨gb, k, none⟩ (.slice (some ⟨b, 0, none⟩) g.length cap)) ∧ Below (G + 1) W (W.setCell ⟨gb, k, none⟩ (.slice (some ⟨b, 0, none⟩) g.length cap)) := by
  subst hn
  have hk : k < gs.length := (List.getElem?_eq_some_iff.1 hgs).1
  have hgb : G + 1 ≤ gb := own_ge ho gb rfl
  have hts : ∀ {u : Value} {n : Nat} {xs : List Value}, W.ownsRow (G + 1) TI 1 u n xs → u.ownBlock = none ∨ u.ownBlock ≠ some gb := fun h => apart_types h ho (Ne.symm hT)
  refine ⟨⟨.slice (some ⟨gb, 0, none⟩) gs.length gcap, vs.set k (.slice (some ⟨b, 0, none⟩) g.length cap), ⟨setc_block c8.1 (by omega), set_free c8.1 c8.2⟩, row_set ho hk, ?_⟩, (Below.refl _ _).setCell (p := ⟨gb, k, none⟩) hgb _⟩
  intro j u g' hu hg'
  by_cases e : j = k
  · subst e
    have hvl : j < vs.length := (List.getElem?_eq_some_iff.1 hv).1
    rw [List.getElem?_set_self hvl] at hu
    rw [hgs] at hg'
    obtain rfl : Value.slice (some ⟨b, 0, none⟩) g.length cap = u := by simpa using hu
    obtain rfl : g = g' := by simpa using hg'
    have h1 := hr j _ _ hv (List.getElem?_set_self hk)
    rw [List.length_append, List.length_singleton] at h1
    have h2 := row_take (m := g.length) h1 (by omega)
    rw [List.map_append, List.take_append_of_le_length (by simp), List.take_of_length_le (by simp)] at h2
    exact set_own h2 (hts h2)
  · rw [List.getElem?_set_ne (Ne.symm e)] at hu
    have h1 := hr j u g' hu (by rw [List.getElem?_set_ne (Ne.symm e)]; exact hg')
    exact set_own h1 (hts h1)
/-- A new group. -/
theorem PutAt.grow {G TO TI i n : Nat} (hT : TO ≠ TI) {gs : List (List Int)} {W w3 : World} {gv gv' : Value} {vs : List Value} (hG : Good i gs) (hn : gs.length = n)
    (c8 : W.cell? ⟨G, 8, none⟩ = some gv ∧ W.frozen? ⟨G, 8, none⟩ = false) (ho : W.ownsRow (G + 1) TO 1 gv n vs) (hr : RowsIn (G + 1) TI W vs gs)
    (hg3 : ((W.alloc (.cells #[.int .i64 (i : Int)] TI)).alloc (.cells #[.slice (some ⟨W.heap.size, 0, none⟩) 1 1] TO)).grownBy w3 gv.ownBlock) (ho3 : w3.ownsRow (G + 1) TO 1 gv' (n + 1) (vs ++ [.slice (some ⟨W.heap.size, 0, none⟩) 1 1])) :
    (w3.cell? ⟨G, 8, none⟩ = some gv ∧ w3.frozen? ⟨G, 8, none⟩ = false) ∧ PutAt G TO TI (gs ++ [[(i : Int)]]) (w3.setCell ⟨G, 8, none⟩ gv') ∧ Below (G + 1) W w3 := by
  subst hn
  have hGW : G < W.heap.size := World.block_lt_of_cell? W _ c8.1
  have hb : Below W.heap.size W ((W.alloc (.cells #[.int .i64 (i : Int)] TI)).alloc (.cells #[.slice (some ⟨W.heap.size, 0, none⟩) 1 1] TO)) := ((Below.refl _ W).alloc (Nat.le_refl _) _).alloc (by simp) _
  have hbw : Below (G + 1) W w3 := (hb.mono (by omega)).grown hg3 (by simp; omega) (own_ge ho)
  have hG8 : w3.cell? ⟨G, 8, none⟩ = some gv ∧ w3.frozen? ⟨G, 8, none⟩ = false := ⟨(hbw.cell (p := ⟨G, 8, none⟩) (by simp)).trans c8.1, (hbw.frozen (p := ⟨G, 8, none⟩) (by simp)).trans c8.2⟩
  have far : ∀ {T n : Nat} {v : Value} {xs : List Value}, w3.ownsRow (G + 1) T 1 v n xs → v.ownBlock = none ∨ v.ownBlock ≠ some G := fun h => .inr fun e => by have := own_ge h G e; omega
  have hvl : vs.length = gs.length := by have := ho.1; omega
  refine ⟨hG8, ⟨gv', vs ++ [.slice (some ⟨W.heap.size, 0, none⟩) 1 1], ⟨setc_same hG8.1, set_free hG8.1 hG8.2⟩, ?_, ?_⟩, hbw⟩
  · rw [List.length_append, List.length_singleton]; exact set_own ho3 (far ho3)
  · intro k v g hv hg
    rcases Nat.lt_or_ge k gs.length with h1 | h1
    · rw [List.getElem?_append_left (by omega)] at hv
      rw [List.getElem?_append_left h1] at hg
      have h2 := owns_below (hr k v g hv hg) hb
      have h3 := h2.kept hg3 (apart_types h2 (owns_below ho hb) (Ne.symm hT))
      exact set_own h3 (far h3)
    · rw [List.getElem?_append_right (by omega), hvl] at hv
      rw [List.getElem?_append_right h1] at hg
      have h4 := (List.getElem?_eq_some_iff.1 hg).1
      simp at h4
      have e : k = gs.length := by omega
      subst e
      simp at hv hg
      subst hv; subst hg
      have h2 : ((W.alloc (.cells #[.int .i64 (i : Int)] TI)).alloc (.cells #[.slice (some ⟨W.heap.size, 0, none⟩) 1 1] TO)).ownsRow (G + 1) TI 1 (.slice (some ⟨W.heap.size, 0, none⟩) 1 1) 1 [.int .i64 (i : Int)] := by
        refine ⟨rfl, .inr ⟨W.heap.size, 1, #[.int .i64 (i : Int)], rfl, by omega, ?_, Nat.le_refl _, by unfold maxLen; omega, rfl, rfl⟩⟩
        rw [Below.heap_alloc _ _ _ (by simp)]
        exact World.alloc_heap_new W _
      have h3 := h2.kept hg3 (apart_types h2 (owns_below ho hb) (Ne.symm hT))
      exact set_own h3 (far h3)
/-- The last group is taken away. -/
theorem PutAt.shrink {G TO TI n gb cap : Nat} {gs : List (List Int)} {g : List Int} {W : World} {vs : List Value} (hn : gs.length = n)
    (c8 : W.cell? ⟨G, 8, none⟩ = some (.slice (some ⟨gb, 0, none⟩) (n + 1) cap) ∧ W.frozen? ⟨G, 8, none⟩ = false) (ho : W.ownsRow (G + 1) TO 1 (.slice (some ⟨gb, 0, none⟩) (n + 1) cap) (n + 1) vs) (hr : RowsIn (G + 1) TI W vs (gs ++ [g])) :
    PutAt G TO TI gs (W.setCell ⟨G, 8, none⟩ (.slice (some ⟨gb, 0, none⟩) n cap)) := by
  subst hn
  have far : ∀ {T n : Nat} {v : Value} {xs : List Value}, W.ownsRow (G + 1) T 1 v n xs → v.ownBlock = none ∨ v.ownBlock ≠ some G := fun h => .inr fun e => by have := own_ge h G e; omega
  have h1 := row_take (m := gs.length) ho (by omega)
  refine ⟨.slice (some ⟨gb, 0, none⟩) gs.length cap, vs.take gs.length, ⟨setc_same c8.1, set_free c8.1 c8.2⟩, set_own h1 (far h1), ?_⟩
  intro k v g' hv hg
  have hk : k < gs.length := (List.getElem?_eq_some_iff.1 hg).1
  rw [List.getElem?_take, if_pos hk] at hv
  have h2 := hr k v g' hv (by rw [List.getElem?_append_left hk]; exact hg)
  exact set_own h2 (far h2)
/-- The other fields of block G. -/
def GAt (G : Nat) (gc : List Value) (W : World) : Prop := ∀ o u, gc[o]? = some u → W.cell? ⟨G, o, none⟩ = some u ∧ W.frozen? ⟨G, o, none⟩ = false
theorem GAt.below {G : Nat} {gc : List Value} {W W' : World} (h : GAt G gc W) (hb : Below (G + 1) W W') : GAt G gc W' := fun o u hu => ⟨(hb.cell (p := ⟨G, o, none⟩) (by simp)).trans (h o u hu).1, (hb.frozen (p := ⟨G, o, none⟩) (by simp)).trans (h o u hu).2⟩
theorem GAt.set {G : Nat} {gc : List Value} {W : World} {v : Value} (h : GAt G gc W) (hl : gc.length ≤ 8) : GAt G gc (W.setCell ⟨G, 8, none⟩ v) := fun o u hu => ⟨setc_other (h o u hu).1 (by have := (List.getElem?_eq_some_iff.1 hu).1; omega), set_free (h o u hu).1 (h o u hu).2⟩
theorem own_some {W : World} {lo T s n : Nat} {v : Value} {xs : List Value} (h : W.ownsRow lo T s v n xs) (hn : 0 < n) : ∃ g cap, v = .slice (some ⟨g, 0, none⟩) n cap ∧ n ≤ cap ∧ cap ≤ 9223372036854775807 := by
  rcases h.2 with ⟨_, h0⟩ | ⟨g, cap, _, rfl, _, _, h4, h5, _⟩
  · omega
  · exact ⟨g, cap, rfl, h4, by unfold maxLen at h5; omega⟩
end Go.Pb.Sag

/- Groups: copies of them, and how many are enough. -/
namespace Go.Pb.Sag
open Go Go.Pb Go.Pb.Ware Go.RowKit
set_option linter.unusedVariables false
theorem copy_owns {w : World} {lo T B m : Nat} {cur : Array Value} {cs : List Value} (hg : w.heap[B]? = some (.cells cur T (0, 0))) (hlo : lo ≤ B) (hs : cur.size = m) (hm : m ≤ maxLen) (hc : cs.length = m) :
    (w.setRow B (cur.toList.take 0 ++ (cs ++ cur.toList.drop (0 + cs.length))).toArray).ownsRow lo T 1 (.slice (some ⟨B, 0, none⟩) m m) m cs := by
  have e : cur.toList.take 0 ++ (cs ++ cur.toList.drop (0 + cs.length)) = cs := by
    rw [List.take_zero, List.nil_append, Nat.zero_add, List.drop_of_length_le (by rw [Array.length_toList]; omega), List.append_nil]
  rw [e]
  refine ⟨by omega, .inr ⟨B, m, cs.toArray, rfl, hlo, setRow_heap w B cur _ T (0, 0) hg, Nat.le_refl _, hm, by simp; omega, ?_⟩⟩
  rw [Nat.mul_one, List.take_of_length_le (by simp; omega)]
theorem find_some {α : Type} {f : Nat → Option α} {n : Nat} {r : α} (h : (List.range n).findSome? f = some r) : ∃ k, k < n ∧ f k = some r := by
  obtain ⟨k, hk, h2⟩ := List.exists_of_findSome?_eq_some h
  exact ⟨k, List.mem_range.1 hk, h2⟩
end Go.Pb.Sag

/- The chapter's example, by the plain mathematics. -/
namespace Go.Pb.Sag
open Go Go.Pb Go.Pb.Ware Go.RowKit
def exS : Bx := ⟨1, 3, 2, 110, 100, 3000⟩
theorem ex_first : (shownL exS [⟨2, 1, 30, 500⟩, ⟨2, 1, 30, 500⟩, ⟨1, 1, 92, 420⟩])[0]? = some [⟨0, 0, false⟩, ⟨0, 2, true⟩, ⟨1, 0, false⟩] := by decide +kernel
end Go.Pb.Sag
