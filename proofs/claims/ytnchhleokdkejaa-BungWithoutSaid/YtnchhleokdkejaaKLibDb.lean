/- A region that draws its order, as in Lib2, with one word more: the number of draws does not fall. So a call's world can be told as the one ahead of it, with draws and with new blocks. -/
import Derived.Test.YtnchhleokdkejaaKLibb
import Derived.Sort.Grow
import Derived.Deep.Draws
import Derived.Test.YtnchhleokdkejaaKSfb
import Derived.Test.YtnchhleokdkejaaKScb
import Derived.Test.YtnchhleokdkejaaKBcb
import Derived.Shelf.Small.Bits
import Derived.Shelf.SlSortCmp.Whole1
import Derived.Ground.SlsfProg
import Derived.Test.YtnchhleokdkejaaProg
namespace Go.Pb
set_option linter.unusedVariables false
open Go.RowKit Go.Sort
structure Gr (w w' : World) : Prop where
  b : Below w.heap.size w w'
  d : w.drawn ≤ w'.drawn
theorem Gr.refl (w : World) : Gr w w := ⟨Below.refl _ _, Nat.le_refl _⟩
theorem Gr.size {w w' : World} (h : Gr w w') : w.heap.size ≤ w'.heap.size := h.b.size
theorem Gr.trans {a b c : World} (h : Gr a b) (k : Gr b c) : Gr a c := ⟨h.b.trans (k.b.mono h.b.size), Nat.le_trans h.d k.d⟩
theorem Gr.drew {a b : World} (h : Gr a b) : Gr a b.drew := ⟨h.b.drew, Nat.le_trans h.d (Nat.le_succ _)⟩
theorem Gr.alloc {a b : World} (h : Gr a b) (o : Obj) : Gr a (b.alloc o) := ⟨h.b.alloc h.b.size _, h.d⟩
theorem Gr.setCell {a b : World} (h : Gr a b) {p : Addr} (hp : a.heap.size ≤ p.block) (v : Value) : Gr a (b.setCell p v) := ⟨h.b.setCell hp v, h.d⟩
/-- The world behind is the one ahead, with draws and with new blocks. -/
theorem Gr.grow {w w' : World} (h : Gr w w') : ∃ q os, w' = Go.Sort.grow (w.drewN q) os := by
  obtain ⟨⟨h1, h2, h3, h4, h5⟩, h6⟩ := h
  refine ⟨w'.drawn - w.drawn, w'.heap.extract w.heap.size w'.heap.size, ?_⟩
  obtain ⟨hp, tp, dr, os, out⟩ := w'
  obtain ⟨hp0, tp0, dr0, os0, out0⟩ := w
  simp only at h1 h2 h3 h4 h5 h6
  subst h1; subst h2; subst h3
  unfold Go.Sort.grow World.drewN
  simp only [World.mk.injEq, true_and, and_true]
  refine ⟨?_, by omega⟩
  apply Array.ext_getElem?
  intro i
  rcases Nat.lt_or_ge i hp0.size with hi | hi
  · rw [Array.getElem?_append_left hi]; exact h5 i hi
  · rw [Array.getElem?_append_right hi, Array.getElem?_extract]
    split
    · congr 1; omega
    · rw [Array.getElem?_eq_none (by omega)]
section
variable {P : Program} {md : Region.Mode} {ops : Array Oper} {w0 : World} {fr : Nat → Bool} {p : Nat → Value → World → Prop}

/-- The worlds of the walk in which what an operation waits for is known. -/
structure BQD (w0 : World) (q : World → Prop) where
  w' : World
  below : Gr w0 w'
  has : q w'

def ClD (w0 : World) (md : Region.Mode) (p : Nat → Value → World → Prop) (Γ : Known) (o : Oper) (w' : World) : Prop := ∃ x : BQD w0 (Facts md p Γ o), w' = x.w'

theorem ClD.iff {Γ : Known} {o : Oper} {w' : World} : ClD w0 md p Γ o w' ↔ Gr w0 w' ∧ Facts md p Γ o w' :=
  ⟨fun ⟨x, hx⟩ => hx ▸ ⟨x.below, x.has⟩, fun ⟨h1, h2⟩ => ⟨⟨w', h1, h2⟩, rfl⟩⟩

/-- AllD that is known, in one world. -/
def AllD (w0 : World) (p : Nat → Value → World → Prop) (Γ : Known) (W : World) : Prop := Gr w0 W ∧ ∀ g v, Γ g = some v → p g v W
theorem AllD.cl {Γ : Known} {W : World} (h : AllD w0 p Γ W) (o : Oper) : ClD w0 md p Γ o W := ClD.iff.2 ⟨h.1, fun g v hg _ => h.2 g v hg⟩

/-- An operation that makes memory: in the world w' it yields a value of which p is known; what was there stays. -/
def freshAtD (P : Program) (o : Oper) (a : Act) (p : Value → World → Prop) (w' : World) : Prop :=
  match (execOp a.eval o).run P w' with
  | .ok (.value u) w'' => Gr w' w'' ∧ p u w''
  | .ok (.enter f args) w'' => w'' = w' ∧ Calls P f args w' (fun e w'' => ∃ u, e = .returned u ∧ Gr w' w'' ∧ p u w'')
  | _ => False

/-- One operation of the group. -/
def oneRD (P : Program) (md : Region.Mode) (ops : Array Oper) (w0 : World) (fr : Nat → Bool) (p : Nat → Value → World → Prop) (Γ : Known) (h : Nat) (K : Known → Act → Prop) (a : Act) : Prop :=
  match ops[h]? with
  | none => K Γ a
  | some o =>
    if Region.wanted o (yielded ops a.tmps) = true then
      if fr h = true then (∀ w', ClD w0 md p Γ o w' → freshAtD P o a (p h) w') ∧ ∀ v, (∃ W, AllD w0 p (upd Γ h v) W) → K (upd Γ h v) (a.put o.dst v)
      else (∃ W, ClD w0 md p Γ o W) → ∃ v, (∀ w', ClD w0 md p Γ o w' → o.quietAt P a (ClD w0 md p Γ o) w' v) ∧ K Γ (a.put o.dst v)
    else K Γ (a.put o.dst undef)

def wpRD (P : Program) (md : Region.Mode) (ops : Array Oper) (w0 : World) (fr : Nat → Bool) (p : Nat → Value → World → Prop) (Fin : Known → Act → Prop) : List Nat → Known → Act → Prop
  | [], Γ, a => Fin Γ a
  | h :: rest, Γ, a => oneRD P md ops w0 fr p Γ h (wpRD P md ops w0 fr p Fin rest) a

theorem cl_updD {Γ : Known} {j : Nat} {v : Value} {o : Oper} (hw : waits md o j = false) : ClD w0 md p (upd Γ j v) o = ClD w0 md p Γ o := by
  funext w'; rw [eq_iff_iff, ClD.iff, ClD.iff, facts_upd hw]
theorem AllD.less {Γ : Known} {j : Nat} {v : Value} {W : World} (hj : Γ j = none) (h : AllD w0 p (upd Γ j v) W) : AllD w0 p Γ W :=
  ⟨h.1, fun g u hg => h.2 g u (by unfold upd; rw [if_neg (by rintro rfl; rw [hj] at hg; cases hg)]; exact hg)⟩
theorem fresh_inhD {o : Oper} {a : Act} {q : Value → World → Prop} {W : World} (h : freshAtD P o a q W) : ∃ u W', Gr W W' ∧ q u W' := by
  unfold freshAtD at h
  split at h
  · exact ⟨_, _, h⟩
  · obtain ⟨e, w', fr', ⟨u, _, hb, hq⟩, _⟩ := h.2 []
    exact ⟨u, w', hb, hq⟩
  · exact h.elim

/-- Two neighbours that do not wait for each other, and are apart, may change places. -/
theorem oneR_swapD {Γ : Known} {i j : Nat} {oi oj : Oper} {K : Known → Act → Prop} {a : Act} (hne : i ≠ j) (hi : ops[i]? = some oi) (hj : ops[j]? = some oj)
    (hsel : Region.noSelect ops = true) (hap : oj.apart ops oi = true) (hij : waits md oi j = false) (hji : waits md oj i = false)
    (hpl : fr j = true → fr i = false → plainOp oi.op = true) {W : World} (hW : AllD w0 p Γ W) (hΓi : Γ i = none) (hΓj : Γ j = none)
    (hkeep : ∀ i v w1 w2, p i v w1 → Below w1.heap.size w1 w2 → p i v w2)
    (H : oneRD P md ops w0 fr p Γ j (fun Γ' a' => oneRD P md ops w0 fr p Γ' i K a') a) : oneRD P md ops w0 fr p Γ i (fun Γ' a' => oneRD P md ops w0 fr p Γ' j K a') a := by
  obtain ⟨a1, a2, a3⟩ := Oper.apart_spec hap
  have si := fun cs b => Region.noSelect_spec hsel i oi cs b hi
  have sj := fun cs b => Region.noSelect_spec hsel j oj cs b hj
  have e1 : ∀ v, Region.wanted oi (yielded ops (a.put oj.dst v).tmps) = Region.wanted oi (yielded ops a.tmps) := fun v => wanted_put oi a oj.dst v a1
  have e2 : ∀ v, Region.wanted oj (yielded ops (a.put oi.dst v).tmps) = Region.wanted oj (yielded ops a.tmps) := fun v => wanted_put oj a oi.dst v a3
  have q1 : ∀ v C w' u, oi.quietAt P (a.put oj.dst v) C w' u ↔ oi.quietAt P a C w' u := fun v C w' u => by unfold Oper.quietAt; rw [execOp_put oi si a oj.dst v a1]
  have q2 : ∀ v C w' u, oj.quietAt P (a.put oi.dst v) C w' u ↔ oj.quietAt P a C w' u := fun v C w' u => by unfold Oper.quietAt; rw [execOp_put oj sj a oi.dst v a3]
  have f1 : ∀ v q w', freshAtD P oi (a.put oj.dst v) q w' ↔ freshAtD P oi a q w' := fun v q w' => by unfold freshAtD; rw [execOp_put oi si a oj.dst v a1]
  have f2 : ∀ v q w', freshAtD P oj (a.put oi.dst v) q w' ↔ freshAtD P oj a q w' := fun v q w' => by unfold freshAtD; rw [execOp_put oj sj a oi.dst v a3]
  have pc : ∀ v u, (a.put oj.dst v).put oi.dst u = (a.put oi.dst u).put oj.dst v := fun v u => Act.put_comm a v u a2
  have inh : ∀ h o, Γ h = none → (∀ w', ClD w0 md p Γ o w' → freshAtD P o a (p h) w') → ∃ v, ∃ W, AllD w0 p (upd Γ h v) W := by
    intro h o hh hf
    obtain ⟨u, W', hb, hq⟩ := fresh_inhD (hf W (hW.cl o))
    refine ⟨u, W', hW.1.trans hb, fun g v hg => ?_⟩
    unfold upd at hg
    by_cases hgh : g = h
    · subst hgh; rw [if_pos rfl] at hg; cases hg; exact hq
    · rw [if_neg hgh] at hg; exact hkeep _ _ _ _ (hW.2 g v hg) hb.b
  unfold oneRD at *
  simp only [hi, hj, e1, e2, q1, q2, f1, f2, pc] at *
  by_cases wj : Region.wanted oj (yielded ops a.tmps) = true
  · by_cases wi : Region.wanted oi (yielded ops a.tmps) = true
    · simp only [wj, wi, if_true] at *
      by_cases fj : fr j = true
      · by_cases fi : fr i = true
        · simp only [fj, fi, if_true, cl_updD hij, cl_updD hji] at *
          obtain ⟨h1, h2⟩ := H
          obtain ⟨v0, hv0⟩ := inh j oj hΓj h1
          refine ⟨(h2 v0 hv0).1, fun v _ => ⟨h1, fun u hu => ?_⟩⟩
          rw [upd_comm hne] at hu ⊢
          have hΓ : upd Γ j u i = none := by unfold upd; rw [if_neg hne]; exact hΓi
          obtain ⟨W', hW'⟩ := hu
          exact (h2 u ⟨W', hW'.less hΓ⟩).2 v ⟨W', hW'⟩
        · have fi' : fr i = false := by simpa using fi
          simp only [fj, fi', if_true, Bool.false_eq_true, if_false, cl_updD hij, cl_updD hji] at *
          obtain ⟨h1, h2⟩ := H
          obtain ⟨v0, hv0⟩ := inh j oj hΓj h1
          obtain ⟨vi, hvi, _⟩ := h2 v0 hv0 ⟨W, hW.cl _⟩
          refine fun _ => ⟨vi, hvi, h1, fun u hu => ?_⟩
          obtain ⟨vi', hvi', hK⟩ := h2 u hu ⟨W, hW.cl _⟩
          obtain rfl : vi = vi' := quietAt_det (hpl trivial trivial) (hvi W (hW.cl _)) (hvi' W (hW.cl _))
          exact hK
      · have fj' : fr j = false := by simpa using fj
        by_cases fi : fr i = true
        · simp only [fj', fi, if_true, Bool.false_eq_true, if_false, cl_updD hij, cl_updD hji] at *
          obtain ⟨vj, h1, h2, h3⟩ := H ⟨W, hW.cl _⟩
          exact ⟨h2, fun v hv => fun _ => ⟨vj, h1, h3 v hv⟩⟩
        · have fi' : fr i = false := by simpa using fi
          simp only [fj', fi', Bool.false_eq_true, if_false, cl_updD hij, cl_updD hji] at *
          obtain ⟨vj, h1, h4⟩ := H ⟨W, hW.cl _⟩
          obtain ⟨vi, h2, h3⟩ := h4 ⟨W, hW.cl _⟩
          exact fun _ => ⟨vi, h2, fun _ => ⟨vj, h1, h3⟩⟩
    · simp only [wj, wi, if_true] at *
      by_cases fj : fr j = true
      · simp only [fj, if_true] at *
        exact H
      · simp only [fj] at *
        exact H
  · by_cases wi : Region.wanted oi (yielded ops a.tmps) = true
    · simp only [wj, wi, if_true] at *
      by_cases fi : fr i = true
      · simp only [fi, if_true] at *
        exact H
      · simp only [fi] at *
        exact H
    · simp only [wj, wi] at *
      exact H

theorem wpR_pullD {Fin : Known → Act → Prop} (hsel : Region.noSelect ops = true) (hkeep : ∀ i v w1 w2, p i v w1 → Below w1.heap.size w1 w2 → p i v w2) {i : Nat} {oi : Oper} (hi : ops[i]? = some oi) :
    ∀ (l : List Nat) (Γ : Known) (a : Act), i ∈ l → l.Nodup → l.Pairwise (Pair md ops fr) → (∀ j ∈ l, waits md oi j = false) →
      (∀ h ∈ l, Γ h = none) → (∃ W, AllD w0 p Γ W) →
      wpRD P md ops w0 fr p Fin l Γ a → wpRD P md ops w0 fr p Fin (i :: l.erase i) Γ a := by
  intro l
  induction l with
  | nil => intro Γ a h; cases h
  | cons h rest ih =>
    intro Γ a hil hnd hpw hw hΓ hall H
    by_cases hhi : h = i
    · subst hhi; simpa using H
    have hir : i ∈ rest := by simpa [Ne.symm hhi] using hil
    rw [List.nodup_cons] at hnd
    rw [List.pairwise_cons] at hpw
    obtain ⟨oh, oi', hoh, hi', hap, hback, hpl⟩ := hpw.1 i hir
    obtain rfl : oi = oi' := Option.some.inj (hi.symm.trans hi')
    have he : (h :: rest).erase i = h :: rest.erase i := by rw [List.erase_cons_tail (by simpa using hhi)]
    rw [he]
    have step : ∀ Γ' a', (∀ g ∈ rest, Γ' g = none) → (∃ W, AllD w0 p Γ' W) → wpRD P md ops w0 fr p Fin rest Γ' a' → wpRD P md ops w0 fr p Fin (i :: rest.erase i) Γ' a' := fun Γ' a' hΓ' hall' H' =>
      ih Γ' a' hir hnd.2 hpw.2 (fun j hj => hw j (by simp [hj])) hΓ' hall' H'
    have hij : waits md oi h = false := hw h (by simp)
    obtain ⟨W, hW⟩ := hall
    have H1 : oneRD P md ops w0 fr p Γ h (fun Γ' a' => oneRD P md ops w0 fr p Γ' i (wpRD P md ops w0 fr p Fin (rest.erase i)) a') a := by
      unfold wpRD at H
      unfold oneRD at H ⊢
      simp only [hoh] at H ⊢
      split
      · rename_i hwant
        rw [if_pos hwant] at H
        split
        · rename_i hf
          rw [if_pos hf] at H
          refine ⟨H.1, fun v hv => ?_⟩
          exact step (upd Γ h v) _ (fun g hg => by
            unfold upd; rw [if_neg (by rintro rfl; exact hnd.1 hg)]; exact hΓ g (by simp [hg])) hv (H.2 v hv)
        · rename_i hf
          rw [if_neg hf] at H
          intro hc
          obtain ⟨v, h1, h2⟩ := H hc
          exact ⟨v, h1, step Γ _ (fun g hg => hΓ g (by simp [hg])) ⟨W, hW⟩ h2⟩
      · rename_i hwant
        rw [if_neg hwant] at H
        exact step Γ _ (fun g hg => hΓ g (by simp [hg])) ⟨W, hW⟩ H
    rw [hij] at hap hpl
    exact oneR_swapD (Ne.symm hhi) hi hoh hsel (by simpa using hap) hij hback (fun h1 h2 => by simpa using hpl h1 h2) hW (hΓ i (by simp [hir])) (hΓ h (by simp)) hkeep H1

theorem wpAny_of_wpRD {Q : Exit → Act → World → Prop} {g : Nat} {hs : List Nat} {L : Array Bool} (hsel : Region.noSelect ops = true) (hplain : ∀ h o, h ∈ hs → fr h = false → ops[h]? = some o → plainOp o.op = true)
    (hkeep : ∀ i v w1 w2, p i v w1 → Below w1.heap.size w1 w2 → p i v w2) (hL : L.size = ops.size) :
    ∀ (f : Nat) (M : Array Bool) (l : List Nat) (Γ : Known) (a : Act) (w : World), l.length = f → l.Nodup → l.Pairwise (Pair md ops fr) → (∀ j ∈ l, M.getD j true = false) →
      (∀ j ∈ hs, j ∈ l ∨ M.getD j true = true) → (∀ h ∈ l, Γ h = none) → Hered md ops hs f M → AllD w0 p Γ w → mark l M = mark hs L →
      wpRD P md ops w0 fr p (fun Γ' a' => ∀ w', AllD w0 p Γ' w' → wpAny P md ops Q g (mark hs L) a' w') l Γ a → wpAny P md ops Q (f + g) M a w := by
  intro f
  induction f with
  | zero =>
    intro M l Γ a w hlen _ _ _ _ _ _ hall hmk H
    obtain rfl := List.length_eq_zero_iff.1 hlen
    rw [Nat.zero_add, show M = mark hs L from hmk]
    exact H w hall
  | succ f ih =>
    intro M l Γ a w hlen hnd hpw hun hcov hΓ hh hall hmk H
    rw [show f + 1 + g = (f + g) + 1 by omega]
    refine ⟨fun h0 => absurd h0 hh.1, fun i hi => ?_⟩
    obtain ⟨hiu, oi, hoi, hdeps⟩ := mem_ready.1 hi
    have hil : i ∈ l := by
      rcases hcov i (hh.2.1 i hi) with h1 | h1
      · exact h1
      · rw [h1] at hiu; cases hiu
    have hiM : i < M.size := by
      rcases Nat.lt_or_ge i M.size with h' | h'
      · exact h'
      · simp [Array.getElem?_eq_none h'] at hiu
    have H1 := wpR_pullD hsel hkeep hoi l Γ a hil hnd hpw (fun j hj => waits_dep hdeps (hun j hj)) hΓ ⟨w, hall⟩ H
    have hle : (l.erase i).length = f := by rw [List.length_erase_of_mem hil]; omega
    have next : ∀ Γ' a' w', (∀ h ∈ l.erase i, Γ' h = none) → AllD w0 p Γ' w' → wpRD P md ops w0 fr p (fun Γ' a' => ∀ w', AllD w0 p Γ' w' → wpAny P md ops Q g (mark hs L) a' w') (l.erase i) Γ' a' →
        wpAny P md ops Q (f + g) (M.setIfInBounds i true) a' w' := fun Γ' a' w' hΓ' hall' H' =>
      ih (M.setIfInBounds i true) (l.erase i) Γ' a' w' hle (hnd.erase i) (hpw.sublist List.erase_sublist) (fun j hj => by
          have hne : j ≠ i := by rintro rfl; exact (List.Nodup.not_mem_erase hnd) hj
          rw [getD_set_ne true (Ne.symm hne)]; exact hun j (List.mem_of_mem_erase hj))
        (fun j hj => by
          by_cases hji : j = i
          · subst hji; right; simp
          · rcases hcov j hj with h1 | h1
            · left; exact (List.mem_erase_of_ne hji).2 h1
            · right; rw [getD_set_ne true (Ne.symm hji)]; exact h1)
        hΓ' (hh.2.2.2 i hi) hall' (by
          rw [← hmk]
          have key : ∀ (l : List Nat) (M : Array Bool), i ∈ l → mark l M = mark (l.erase i) (M.setIfInBounds i true) := by
            intro l
            induction l with
            | nil => intro M h; cases h
            | cons x l ihl =>
              intro M h
              by_cases hx : x = i
              · subst hx; simp [mark]
              · rw [List.erase_cons_tail (by simpa using hx)]
                simp only [mark, List.foldl_cons]
                have h2 := ihl (M.setIfInBounds x true) (by simpa [Ne.symm hx] using h)
                simp only [mark] at h2
                rw [h2, Array.setIfInBounds_comm _ _ hx]
          exact (key l M hil).symm) H'
    have hΓe : ∀ h ∈ l.erase i, Γ h = none := fun h hh' => hΓ h (List.mem_of_mem_erase hh')
    unfold wpRD oneRD at H1
    simp only [hoi] at H1
    unfold wpOp
    simp only [hoi]
    split
    · rename_i hwant
      rw [if_pos hwant] at H1
      left
      split at H1
      · rename_i hf
        obtain ⟨h1, h2⟩ := H1
        have h3 := h1 w (hall.cl oi)
        have go : ∀ u w'', Gr w w'' → p i u w'' → wpAny P md ops Q (f + g) (M.setIfInBounds i true) (a.put oi.dst u) w'' := by
          intro u w'' hb hq
          have hall' : AllD w0 p (upd Γ i u) w'' := ⟨hall.1.trans hb, fun k v hk => by
            unfold upd at hk
            by_cases hki : k = i
            · subst hki; rw [if_pos rfl] at hk; cases hk; exact hq
            · rw [if_neg hki] at hk; exact hkeep _ _ _ _ (hall.2 k v hk) hb.b⟩
          refine next _ _ _ (fun k hk => ?_) hall' (h2 u ⟨w'', hall'⟩)
          unfold upd
          rw [if_neg (by rintro rfl; exact (List.Nodup.not_mem_erase hnd) hk)]
          exact hΓe k hk
        unfold freshAtD at h3
        unfold Oper.wp
        generalize (execOp a.eval oi).run P w = r at h3 ⊢
        cases r with
        | halt x w' => exact h3.elim
        | ok n w' =>
          cases n <;> simp only at h3
          case value u => exact go u w' h3.1 h3.2
          case enter fn args =>
            obtain ⟨rfl, hc⟩ := h3
            exact hc.mono fun e w'' ⟨u, he, hb, hq⟩ => by subst he; exact go u w'' hb hq
      · rename_i hf
        obtain ⟨v, h1, h2⟩ := H1 ⟨w, hall.cl oi⟩
        have h3 := h1 w (hall.cl oi)
        unfold Oper.quietAt at h3
        unfold Oper.wp
        generalize hr : (execOp a.eval oi).run P w = r at h3 ⊢
        cases r with
        | halt x w' => simp only [Oper.quietUpon] at h3
        | ok n w' =>
          cases n <;> simp only [Oper.quietUpon] at h3
          case value u =>
            obtain ⟨rfl, rfl⟩ := h3
            exact next _ _ _ hΓe hall h2
          case skip =>
            obtain ⟨rfl, rfl⟩ := h3
            exact next _ _ _ hΓe hall h2
          case enter fn args => exact absurd hr (plain_ne (hplain i oi (hh.2.1 i hi) (by simpa using hf) hoi) _)
    · rename_i hwant
      rw [if_neg hwant] at H1
      exact next _ _ _ hΓe hall H1

theorem wpAny_RD {Q : Exit → Act → World → Prop} {L : Array Bool} {a : Act} {w : World} (fs : List Nat) (hs : List Nat) (g : Nat)
    (hkeep : ∀ i v w1 w2, p i v w1 → Below w1.heap.size w1 w2 → p i v w2)
    (hB : (groupB md ops L hs && pairsB md ops (fs.contains ·) hs && plainsB ops (fs.contains ·) hs) = true) (hw : Gr w0 w)
    (h : wpRD P md ops w0 (fs.contains ·) p (fun Γ' a' => ∀ w', AllD w0 p Γ' w' → wpAny P md ops Q g (mark hs L) a' w') hs (fun _ => none) a) : wpAny P md ops Q (hs.length + g) L a w := by
  simp only [Bool.and_eq_true] at hB
  obtain ⟨⟨hG, hP⟩, hPl⟩ := hB
  have hG' := hG
  simp only [groupB, Bool.and_eq_true, decide_eq_true_eq] at hG'
  obtain ⟨⟨⟨⟨hsz, hsel⟩, hcl⟩, hout⟩, hord⟩ := hG'
  obtain ⟨hnd, hmem, hpre⟩ := orderB_spec hord
  have hleft : left hs L = hs.length := by
    unfold left
    rw [List.filter_eq_self.2 (fun j hj => by rw [(hmem j hj).2.1]; rfl)]
  have hsh : Shut md ops L := by
    intro j o ho hj e he hb
    have hjo : j < ops.size := by
      rcases Nat.lt_or_ge j ops.size with h' | h'
      · exact h'
      · simp [Array.getElem?_eq_none h'] at ho
    have h1 := List.all_eq_true.1 hcl j (List.mem_range.2 hjo)
    simp only [hj, ho, Bool.not_true, Bool.false_or] at h1
    simpa [hb] using Array.all_eq_true'.1 h1 e he
  have hh := hered_of hG hs.length L hleft hsh hsz (fun j hj => .inl hj) (fun j hj => hj)
  refine wpAny_of_wpRD (hs := hs) (L := L) hsel (fun k o hk hf ho => ?_) hkeep hsz hs.length L hs (fun _ => none) a w rfl hnd (pairs_of hP) (fun j hj => (hmem j hj).2.1)
    (fun j hj => .inl hj) (fun _ _ => rfl) hh ⟨hw, fun _ _ hg => by cases hg⟩ rfl h
  have := List.all_eq_true.1 hPl k hk
  simp only [show (fs.contains k) = false from hf, ho, Bool.false_or] at this
  exact this

/-- A REGION THAT DRAWS: a group first: quiet operations, and (fs) operations that make memory, of whose yields p tells; then the others. -/
theorem wp_region_RD {id : Nat} {Q : Exit → Act → World → Prop} {a : Act} {w : World} {l : List Oper} (fs hs : List Nat) (g : Nat) (p : Nat → Value → World → Prop) (hm : P.follows .mixedOrders = true)
    (hn : hs.length + g = l.length) (hkeep : ∀ i v w1 w2, p i v w1 → Below w1.heap.size w1 w2 → p i v w2)
    (hB : (groupB .any l.toArray (Array.replicate l.length false) hs && pairsB .any l.toArray (fs.contains ·) hs && plainsB l.toArray (fs.contains ·) hs) = true)
    (h : wpRD P .any l.toArray w (fs.contains ·) p (fun Γ' a' => ∀ w', AllD w p Γ' w' → wpAny P .any l.toArray Q g (mark hs (Array.replicate l.length false)) a' w') hs (fun _ => none) a) :
    (Code.region id l.toArray true).wp P Q a w := by
  refine wp_region_any hm ?_
  have := wpAny_RD (P := P) (Q := Q) (w0 := w) (w := w.drew) (a := a) fs hs g hkeep hB (Gr.refl w).drew h
  rw [hn] at this
  simpa using this

/-! The steps of the walk through a group, its operations written out. -/
def wpSD (P : Program) (md : Region.Mode) (ops : Array Oper) (w0 : World) (fr : Nat → Bool) (p : Nat → Value → World → Prop) (Fin : Known → Act → Prop) (l : List (Nat × Oper)) (Γ : Known) (a : Act) : Prop :=
  (∀ x ∈ l, ops[x.1]? = some x.2) → wpRD P md ops w0 fr p Fin (l.map (·.1)) Γ a
theorem wpS_quietD {Fin : Known → Act → Prop} {h : Nat} {rest : List (Nat × Oper)} {Γ : Known} {a : Act} {o : Oper} (hw : Region.wanted o (yielded ops a.tmps) = true) (hf : fr h = false)
    (H : ∀ K : Act → Prop, (∀ a, wpSD P md ops w0 fr p Fin rest Γ a → K a) → Nonempty (BQD w0 (Facts md p Γ o)) → (∀ (x : BQD w0 (Facts md p Γ o)) b i, (w0.cell? ⟨b, i, none⟩).isSome = true → x.w'.cell? ⟨b, i, none⟩ = w0.cell? ⟨b, i, none⟩) →
      o.quiet P a (fun w' => ∃ x : BQD w0 (Facts md p Γ o), w' = x.w') K) : wpSD P md ops w0 fr p Fin ((h, o) :: rest) Γ a := by
  intro hl
  have ho : ops[h]? = some o := hl (h, o) (by simp)
  simp only [List.map_cons]
  unfold wpRD oneRD; simp only [ho, hw, hf, if_true, Bool.false_eq_true, if_false]
  exact fun ⟨_, x, _⟩ => H _ (fun _ h => h fun x hx => hl x (by simp [hx])) ⟨x⟩ (fun x b i hv => (bcell x.below.b).1 b i hv)
theorem wpS_freshD {Fin : Known → Act → Prop} {h : Nat} {rest : List (Nat × Oper)} {Γ : Known} {a : Act} {o : Oper} (hw : Region.wanted o (yielded ops a.tmps) = true) (hf : fr h = true)
    (H1 : ∀ w', Gr w0 w' → Facts md p Γ o w' → freshAtD P o a (p h) w') (H2 : ∀ v W, p h v W → wpSD P md ops w0 fr p Fin rest (upd Γ h v) (a.put o.dst v)) : wpSD P md ops w0 fr p Fin ((h, o) :: rest) Γ a := by
  intro hl
  have ho : ops[h]? = some o := hl (h, o) (by simp)
  simp only [List.map_cons]
  unfold wpRD oneRD; simp only [ho, hw, hf, if_true]
  exact ⟨fun w' hc => H1 w' (ClD.iff.1 hc).1 (ClD.iff.1 hc).2, fun v ⟨W, hW⟩ => H2 v W (hW.2 h v (by simp [upd])) fun x hx => hl x (by simp [hx])⟩
theorem wpS_nilD {Fin : Known → Act → Prop} {Γ : Known} {a : Act} (H : Fin Γ a) : wpSD P md ops w0 fr p Fin [] Γ a := fun _ => H
theorem wpR_of_wpSD {Fin : Known → Act → Prop} {hs : List Nat} {Γ : Known} {a : Act} (ho : ∀ h ∈ hs, ∃ o, ops[h]? = some o) (H : wpSD P md ops w0 fr p Fin (numbered ops hs) Γ a) : wpRD P md ops w0 fr p Fin hs Γ a := by
  have h1 : ∀ x ∈ numbered ops hs, ops[x.1]? = some x.2 := by
    intro x hx
    unfold numbered at hx
    obtain ⟨h, _, hx⟩ := List.mem_filterMap.1 hx
    cases hh : ops[h]? with
    | none => simp [hh] at hx
    | some o => simp [hh] at hx; subst hx; exact hh
  have h2 : (numbered ops hs).map (·.1) = hs := by
    clear H h1
    induction hs with
    | nil => rfl
    | cons h hs ih =>
      obtain ⟨o, hho⟩ := ho h (by simp)
      unfold numbered at ih ⊢
      simp only [List.filterMap_cons, hho, Option.map_some, List.map_cons]
      rw [ih fun k hk => ho k (by simp [hk])]
  have := H h1
  rwa [h2] at this
end
theorem wp_region_RsD {P : Program} {id : Nat} {Q : Exit → Act → World → Prop} {a : Act} {w : World} {l : List Oper} (ps : List (Nat × (Value → World → Prop))) (hs : List Nat) (g : Nat) (hm : P.follows .mixedOrders = true)
    (hn : hs.length + g = l.length) (hkeep : ∀ x ∈ ps, Keeps x.2)
    (hB : (groupB .any l.toArray (Array.replicate l.length false) hs && pairsB .any l.toArray ((ps.map (·.1)).contains ·) hs && plainsB l.toArray ((ps.map (·.1)).contains ·) hs) = true)
    (h : wpSD P .any l.toArray w ((ps.map (·.1)).contains ·) (pOf ps) (fun Γ' a' => ∀ w', AllD w (pOf ps) Γ' w' → wpAny P .any l.toArray Q g (mark hs (Array.replicate l.length false)) a' w') (numbered l.toArray hs) (fun _ => none) a) :
    (Code.region id l.toArray true).wp P Q a w := by
  refine wp_region_RD (ps.map (·.1)) hs g (pOf ps) hm hn (pOf_keeps hkeep) hB (wpR_of_wpSD (fun k hk => ?_) h)
  simp only [groupB, Bool.and_eq_true] at hB
  obtain ⟨_, hmem, _⟩ := orderB_spec hB.1.1.2
  exact (hmem k hk).2.2
end Go.Pb

/- A region that draws: loads of what stays as it is, whatever the other operations do, are run first; then a group; then the rest. -/
namespace Go.Pb
set_option linter.unusedVariables false
open Go Go.RowKit
section
variable {P : Program} {md : Region.Mode} {ops : Array Oper} {Q : Exit → Act → World → Prop} {C : World → Prop}
/-- As wpAny; C holds wherever an operation is about to be run. -/
def wpAnyC (P : Program) (md : Region.Mode) (ops : Array Oper) (Q : Exit → Act → World → Prop) (C : World → Prop) : Nat → Array Bool → Act → World → Prop
  | 0, L, a, w => C w ∧ Region.ready md ops L = [] ∧ Q .normal a w
  | n + 1, L, a, w => C w ∧ (Region.ready md ops L = [] → Q .normal a w) ∧ ∀ i ∈ Region.ready md ops L, wpOp P ops Q i (wpAnyC P md ops Q C n (L.setIfInBounds i true)) a w
theorem wpAnyC_any : ∀ {n : Nat} {L : Array Bool} {a : Act} {w : World}, wpAnyC P md ops Q C n L a w → wpAny P md ops Q n L a w
  | 0, _, _, _, h => h.2
  | n + 1, _, _, _, h => ⟨h.2.1, fun i hi => wpOp_mono (fun _ _ h => wpAnyC_any h) (h.2.2 i hi)⟩
theorem wpAnyC_ready {n r : Nat} {L : Array Bool} {a : Act} {w : World} (hC : C w) (hr : Region.ready md ops L = [r]) (h : wpOp P ops Q r (wpAnyC P md ops Q C n (L.setIfInBounds r true)) a w) : wpAnyC P md ops Q C (n + 1) L a w :=
  ⟨hC, fun h0 => (by rw [hr] at h0; cases h0), fun i hi => by rw [hr, List.mem_singleton] at hi; subst hi; exact h⟩
theorem wpAnyC_op {n r : Nat} {o : Oper} {L : Array Bool} {a : Act} {w : World} (hC : C w) (hr : Region.ready md ops L = [r]) (ho : ops[r]? = some o) (hw : Region.wanted o (yielded ops a.tmps) = true)
    (h : ∀ K : Act → World → Prop, (∀ a' w', wpAnyC P md ops Q C n (L.setIfInBounds r true) a' w' → K a' w') → o.wp P a w K Q) : wpAnyC P md ops Q C (n + 1) L a w := by
  refine wpAnyC_ready hC hr ?_
  unfold wpOp
  simp only [ho, hw, if_true]
  exact .inl (h _ fun _ _ h => h)
theorem wpAnyC_end {L : Array Bool} {a : Act} {w : World} (hC : C w) (hr : Region.ready md ops L = []) (h : Q .normal a w) : wpAnyC P md ops Q C 0 L a w := ⟨hC, hr, h⟩
theorem wpAnyC_at {n : Nat} {L : Array Bool} {a : Act} {w : World} (h : wpAnyC P md ops Q C n L a w) : C w := by cases n <;> exact h.1
/-- Where C holds, the operation yields v and leaves the world as it is. -/
def LoadsC (P : Program) (ops : Array Oper) (C : World → Prop) (o : Oper) (v : Value) (a : Act) : Prop := Region.wanted o (yielded ops a.tmps) = true ∧ ∀ w, C w → (execOp a.eval o).run P w = .ok (.value v) w
theorem wpOp_keep {R : Act → Prop} {j : Nat} {oj : Oper} (hj : ops[j]? = some oj) {K : Act → World → Prop} {a : Act} {w : World} (hk : ∀ u, R (a.put oj.dst u)) (hkD : ∀ d u, R (({ a with defers := d :: a.defers } : Act).put oj.dst u))
    (h : wpOp P ops Q j K a w) : wpOp P ops Q j (fun a' w' => R a' ∧ K a' w') a w := by
  unfold wpOp at *
  simp only [hj] at *
  split
  · rename_i hw
    simp only [hw, if_true] at h
    rcases h with h | h
    · left
      unfold Oper.wp at *
      generalize (execOp a.eval oj).run P w = r at *
      cases r with
      | ok n w' =>
        cases n <;> simp only [Oper.upon] at h ⊢
        case value u => exact ⟨hk u, h⟩
        case skip => exact ⟨hk _, h⟩
        case defer d => exact ⟨hkD d _, h⟩
        case enter f args =>
          refine Calls.mono h fun e w'' he => ?_
          cases e with
          | returned u => exact ⟨hk u, he⟩
          | panicked c => exact he
          | outgrown => exact he
        case row row args => exact Rows.mono h fun u w'' he => ⟨hk u, he⟩
      | halt x w' => cases x <;> exact h
    · exact .inr h
  · rename_i hw
    simp only [hw] at h
    exact ⟨hk _, h⟩
theorem wpOp_putC {j : Nat} {oi oj : Oper} {v : Value} (hj : ops[j]? = some oj) (hap : oi.apart ops oj = true) (hsi : ∀ cs b, oi.op ≠ .select cs b) (hsj : ∀ cs b, oj.op ≠ .select cs b) {K : Act → World → Prop} {a : Act} {w : World}
    (hy : LoadsC P ops C oi v a) (h : wpOp P ops (Only Q) j K (a.put oi.dst v) w) : wpOp P ops (Only Q) j (fun a' w' => LoadsC P ops C oi v a' ∧ K (a'.put oi.dst v) w') a w := by
  obtain ⟨h1, h2, h3⟩ := Oper.apart_spec hap
  refine wpOp_keep hj (fun u => ?_) (fun d u => ?_) ?_
  · exact ⟨by rw [wanted_put oi a oj.dst u h3]; exact hy.1, fun w hC => by rw [execOp_put oi hsi a oj.dst u h3]; exact hy.2 w hC⟩
  · exact ⟨by rw [wanted_put oi _ oj.dst u h3]; exact hy.1, fun w hC => by rw [execOp_put oi hsi _ oj.dst u h3]; exact hy.2 w hC⟩
  · unfold wpOp at *
    simp only [hj] at *
    rw [wanted_put oj a oi.dst v h1] at h
    split
    · rename_i hw
      simp only [hw, if_true] at h
      rcases h with h | ⟨_, hl⟩
      · left
        unfold Oper.wp at *
        rw [execOp_put oj hsj a oi.dst v h1] at h
        generalize (execOp a.eval oj).run P w = r at *
        cases r with
        | ok n w' =>
          cases n <;> simp only [Oper.upon] at h ⊢
          case value u => rw [← Act.put_comm a v u h2]; exact h
          case skip => rw [← Act.put_comm a v undef h2]; exact h
          case defer d => rw [← Act.put_comm _ v undef h2, ← Act.put_defers]; exact h
          case enter f args =>
            refine Calls.mono h fun e w'' he => ?_
            cases e with
            | returned u => show K _ _; rw [← Act.put_comm a v u h2]; exact he
            | panicked c => exact absurd he.1 (by simp)
            | outgrown => exact absurd he only_lets
          case row row args => exact Rows.mono h fun u w'' he => by rw [← Act.put_comm a v u h2]; exact he
        | halt x w' =>
          cases x <;> simp only [Oper.upon] at h ⊢
          case panic u => exact absurd h.1 (by simp)
      · exact absurd hl only_lets
    · rename_i hw
      simp only [hw] at h
      rw [← Act.put_comm a v undef h2]; exact h
theorem LoadsC.op {i : Nat} {o : Oper} {v : Value} {a : Act} (hi : ops[i]? = some o) (hy : LoadsC P ops C o v a) {K : Act → World → Prop} {w : World} (hC : C w) (h : K (a.put o.dst v) w) : wpOp P ops Q i K a w := by
  unfold wpOp
  simp only [hi, hy.1, if_true]
  left
  unfold Oper.wp
  rw [hy.2 w hC]
  exact h
/-- Such a load may be run first. -/
theorem wpAnyC_first {i : Nat} {oi : Oper} {v : Value} (hi : ops[i]? = some oi) (hsel : ∀ (j : Nat) (o : Oper) cs b, ops[j]? = some o → o.op ≠ .select cs b) :
    ∀ (n : Nat) (L : Array Bool) (a : Act) (w : World),
      (∀ j oj, ops[j]? = some oj → j ≠ i → L.getD j true = false → (∀ e ∈ oj.after, Region.binds md e = true → e.on ≠ i) → oi.apart ops oj = true) →
      i ∈ Region.ready md ops L → LoadsC P ops C oi v a → C w →
      wpAnyC P md ops (Only Q) C n (L.setIfInBounds i true) (a.put oi.dst v) w → wpAnyC P md ops (Only Q) C (n + 1) L a w := by
  intro n
  induction n with
  | zero =>
    intro L a w _ hr hy hC H
    refine ⟨hC, fun h => (by rw [h] at hr; cases hr), fun j hj => ?_⟩
    by_cases hji : j = i
    · subst hji; exact hy.op hi hC H
    · have := ready_mono hj hji
      rw [H.2.1] at this
      cases this
  | succ n ih =>
    intro L a w hfree hr hy hC H
    refine ⟨hC, fun h => (by rw [h] at hr; cases hr), fun j hj => ?_⟩
    by_cases hji : j = i
    · subst hji; exact hy.op hi hC H
    · have h1 := H.2.2 j (ready_mono hj hji)
      obtain ⟨hjun, oj, hoj, hall⟩ := mem_ready.1 hj
      have hnot : ∀ e ∈ oj.after, Region.binds md e = true → e.on ≠ i := fun e he hb heq => by
        have h2 := hall e he hb
        have h0 := (mem_ready.1 hr).1
        rw [heq] at h2
        rcases Nat.lt_or_ge i L.size with h' | h'
        · simp [h'] at h0 h2; rw [h0] at h2; cases h2
        · simp [Array.getElem?_eq_none h'] at h2
      have h2 := wpOp_putC hoj (hfree j oj hoj hji hjun hnot) (fun cs b => hsel i oi cs b hi) (fun cs b => hsel j oj cs b hoj) hy h1
      have hfree' : ∀ k ok, ops[k]? = some ok → k ≠ i → (L.setIfInBounds j true).getD k true = false → (∀ e ∈ ok.after, Region.binds md e = true → e.on ≠ i) → oi.apart ops ok = true := fun k ok hk hki hun hno => by
        refine hfree k ok hk hki ?_ hno
        by_cases hjk : j = k
        · subst hjk; exact hjun
        · rw [getD_set_ne true hjk] at hun; exact hun
      have key : ∀ a' w', LoadsC P ops C oi v a' → wpAnyC P md ops (Only Q) C n ((L.setIfInBounds i true).setIfInBounds j true) (a'.put oi.dst v) w' → wpAnyC P md ops (Only Q) C (n + 1) (L.setIfInBounds j true) a' w' := by
        intro a' w' hy' H'
        rw [Array.setIfInBounds_comm _ _ (Ne.symm hji)] at H'
        have hr' := ready_mono hr (Ne.symm hji)
        exact ih (L.setIfInBounds j true) a' w' hfree' hr' hy' (wpAnyC_at H') H'
      exact wpOp_mono (fun a' w' h3 => key a' w' h3.1 h3.2) h2
end
section
variable {P : Program} {md : Region.Mode} {ops : Array Oper} {w0 : World} {fr : Nat → Bool} {p : Nat → Value → World → Prop} {C : World → Prop}
theorem wpAnyC_of_wpR {Q : Exit → Act → World → Prop} (hC : ∀ w, Below w0.heap.size w0 w → C w) {g : Nat} {hs : List Nat} {L : Array Bool} (hsel : Region.noSelect ops = true) (hplain : ∀ h o, h ∈ hs → fr h = false → ops[h]? = some o → plainOp o.op = true)
    (hkeep : ∀ i v w1 w2, p i v w1 → Below w1.heap.size w1 w2 → p i v w2) (hL : L.size = ops.size) :
    ∀ (f : Nat) (M : Array Bool) (l : List Nat) (Γ : Known) (a : Act) (w : World), l.length = f → l.Nodup → l.Pairwise (Pair md ops fr) → (∀ j ∈ l, M.getD j true = false) →
      (∀ j ∈ hs, j ∈ l ∨ M.getD j true = true) → (∀ h ∈ l, Γ h = none) → Hered md ops hs f M → All w0 p Γ w → mark l M = mark hs L →
      wpR P md ops w0 fr p (fun Γ' a' => ∀ w', All w0 p Γ' w' → wpAnyC P md ops Q C g (mark hs L) a' w') l Γ a → wpAnyC P md ops Q C (f + g) M a w := by
  intro f
  induction f with
  | zero =>
    intro M l Γ a w hlen _ _ _ _ _ _ hall hmk H
    obtain rfl := List.length_eq_zero_iff.1 hlen
    rw [Nat.zero_add, show M = mark hs L from hmk]
    exact H w hall
  | succ f ih =>
    intro M l Γ a w hlen hnd hpw hun hcov hΓ hh hall hmk H
    rw [show f + 1 + g = (f + g) + 1 by omega]
    refine ⟨hC _ hall.1, fun h0 => absurd h0 hh.1, fun i hi => ?_⟩
    obtain ⟨hiu, oi, hoi, hdeps⟩ := mem_ready.1 hi
    have hil : i ∈ l := by
      rcases hcov i (hh.2.1 i hi) with h1 | h1
      · exact h1
      · rw [h1] at hiu; cases hiu
    have hiM : i < M.size := by
      rcases Nat.lt_or_ge i M.size with h' | h'
      · exact h'
      · simp [Array.getElem?_eq_none h'] at hiu
    have H1 := wpR_pull hsel hkeep hoi l Γ a hil hnd hpw (fun j hj => waits_dep hdeps (hun j hj)) hΓ ⟨w, hall⟩ H
    have hle : (l.erase i).length = f := by rw [List.length_erase_of_mem hil]; omega
    have next : ∀ Γ' a' w', (∀ h ∈ l.erase i, Γ' h = none) → All w0 p Γ' w' → wpR P md ops w0 fr p (fun Γ' a' => ∀ w', All w0 p Γ' w' → wpAnyC P md ops Q C g (mark hs L) a' w') (l.erase i) Γ' a' →
        wpAnyC P md ops Q C (f + g) (M.setIfInBounds i true) a' w' := fun Γ' a' w' hΓ' hall' H' =>
      ih (M.setIfInBounds i true) (l.erase i) Γ' a' w' hle (hnd.erase i) (hpw.sublist List.erase_sublist) (fun j hj => by
          have hne : j ≠ i := by rintro rfl; exact (List.Nodup.not_mem_erase hnd) hj
          rw [getD_set_ne true (Ne.symm hne)]; exact hun j (List.mem_of_mem_erase hj))
        (fun j hj => by
          by_cases hji : j = i
          · subst hji; right; simp
          · rcases hcov j hj with h1 | h1
            · left; exact (List.mem_erase_of_ne hji).2 h1
            · right; rw [getD_set_ne true (Ne.symm hji)]; exact h1)
        hΓ' (hh.2.2.2 i hi) hall' (by
          rw [← hmk]
          have key : ∀ (l : List Nat) (M : Array Bool), i ∈ l → mark l M = mark (l.erase i) (M.setIfInBounds i true) := by
            intro l
            induction l with
            | nil => intro M h; cases h
            | cons x l ihl =>
              intro M h
              by_cases hx : x = i
              · subst hx; simp [mark]
              · rw [List.erase_cons_tail (by simpa using hx)]
                simp only [mark, List.foldl_cons]
                have h2 := ihl (M.setIfInBounds x true) (by simpa [Ne.symm hx] using h)
                simp only [mark] at h2
                rw [h2, Array.setIfInBounds_comm _ _ hx]
          exact (key l M hil).symm) H'
    have hΓe : ∀ h ∈ l.erase i, Γ h = none := fun h hh' => hΓ h (List.mem_of_mem_erase hh')
    unfold wpR oneR at H1
    simp only [hoi] at H1
    unfold wpOp
    simp only [hoi]
    split
    · rename_i hwant
      rw [if_pos hwant] at H1
      left
      split at H1
      · rename_i hf
        obtain ⟨h1, h2⟩ := H1
        have h3 := h1 w (hall.cl oi)
        have go : ∀ u w'', Below w.heap.size w w'' → p i u w'' → wpAnyC P md ops Q C (f + g) (M.setIfInBounds i true) (a.put oi.dst u) w'' := by
          intro u w'' hb hq
          have hall' : All w0 p (upd Γ i u) w'' := ⟨hall.1.trans (hb.mono hall.1.size), fun k v hk => by
            unfold upd at hk
            by_cases hki : k = i
            · subst hki; rw [if_pos rfl] at hk; cases hk; exact hq
            · rw [if_neg hki] at hk; exact hkeep _ _ _ _ (hall.2 k v hk) hb⟩
          refine next _ _ _ (fun k hk => ?_) hall' (h2 u ⟨w'', hall'⟩)
          unfold upd
          rw [if_neg (by rintro rfl; exact (List.Nodup.not_mem_erase hnd) hk)]
          exact hΓe k hk
        unfold freshAt at h3
        unfold Oper.wp
        generalize (execOp a.eval oi).run P w = r at h3 ⊢
        cases r with
        | halt x w' => exact h3.elim
        | ok n w' =>
          cases n <;> simp only at h3
          case value u => exact go u w' h3.1 h3.2
          case enter fn args =>
            obtain ⟨rfl, hc⟩ := h3
            exact hc.mono fun e w'' ⟨u, he, hb, hq⟩ => by subst he; exact go u w'' hb hq
      · rename_i hf
        obtain ⟨v, h1, h2⟩ := H1 ⟨w, hall.cl oi⟩
        have h3 := h1 w (hall.cl oi)
        unfold Oper.quietAt at h3
        unfold Oper.wp
        generalize hr : (execOp a.eval oi).run P w = r at h3 ⊢
        cases r with
        | halt x w' => simp only [Oper.quietUpon] at h3
        | ok n w' =>
          cases n <;> simp only [Oper.quietUpon] at h3
          case value u =>
            obtain ⟨rfl, rfl⟩ := h3
            exact next _ _ _ hΓe hall h2
          case skip =>
            obtain ⟨rfl, rfl⟩ := h3
            exact next _ _ _ hΓe hall h2
          case enter fn args => exact absurd hr (plain_ne (hplain i oi (hh.2.1 i hi) (by simpa using hf) hoi) _)
    · rename_i hwant
      rw [if_neg hwant] at H1
      exact next _ _ _ hΓe hall H1

theorem wpAnyC_R {Q : Exit → Act → World → Prop} (hC : ∀ w, Below w0.heap.size w0 w → C w) {L : Array Bool} {a : Act} {w : World} (fs : List Nat) (hs : List Nat) (g : Nat)
    (hkeep : ∀ i v w1 w2, p i v w1 → Below w1.heap.size w1 w2 → p i v w2)
    (hB : (groupB md ops L hs && pairsB md ops (fs.contains ·) hs && plainsB ops (fs.contains ·) hs) = true) (hw : Below w0.heap.size w0 w)
    (h : wpR P md ops w0 (fs.contains ·) p (fun Γ' a' => ∀ w', All w0 p Γ' w' → wpAnyC P md ops Q C g (mark hs L) a' w') hs (fun _ => none) a) : wpAnyC P md ops Q C (hs.length + g) L a w := by
  simp only [Bool.and_eq_true] at hB
  obtain ⟨⟨hG, hP⟩, hPl⟩ := hB
  have hG' := hG
  simp only [groupB, Bool.and_eq_true, decide_eq_true_eq] at hG'
  obtain ⟨⟨⟨⟨hsz, hsel⟩, hcl⟩, hout⟩, hord⟩ := hG'
  obtain ⟨hnd, hmem, hpre⟩ := orderB_spec hord
  have hleft : left hs L = hs.length := by
    unfold left
    rw [List.filter_eq_self.2 (fun j hj => by rw [(hmem j hj).2.1]; rfl)]
  have hsh : Shut md ops L := by
    intro j o ho hj e he hb
    have hjo : j < ops.size := by
      rcases Nat.lt_or_ge j ops.size with h' | h'
      · exact h'
      · simp [Array.getElem?_eq_none h'] at ho
    have h1 := List.all_eq_true.1 hcl j (List.mem_range.2 hjo)
    simp only [hj, ho, Bool.not_true, Bool.false_or] at h1
    simpa [hb] using Array.all_eq_true'.1 h1 e he
  have hh := hered_of hG hs.length L hleft hsh hsz (fun j hj => .inl hj) (fun j hj => hj)
  refine wpAnyC_of_wpR hC (hs := hs) (L := L) hsel (fun k o hk hf ho => ?_) hkeep hsz hs.length L hs (fun _ => none) a w rfl hnd (pairs_of hP) (fun j hj => (hmem j hj).2.1)
    (fun j hj => .inl hj) (fun _ _ => rfl) hh ⟨hw, fun _ _ hg => by cases hg⟩ rfl h
  have := List.all_eq_true.1 hPl k hk
  simp only [show (fs.contains k) = false from hf, ho, Bool.false_or] at this
  exact this

end

section
variable {P : Program} {md : Region.Mode} {ops : Array Oper} {C : World → Prop}
/-- These loads, one behind the other. -/
def wpFirstC (P : Program) (ops : Array Oper) (C : World → Prop) : List Nat → (Act → Prop) → Act → Prop
  | [], H, a => H a
  | i :: is, H, a => ∃ o v, ops[i]? = some o ∧ LoadsC P ops C o v a ∧ wpFirstC P ops C is H (a.put o.dst v)
theorem wpFirstC_any {Q : Exit → Act → World → Prop} (hsel : Region.noSelect ops = true) {w : World} (hC : C w) {n : Nat} {H : Act → Prop} : ∀ (fs : List Nat) (L : Array Bool) (a : Act), firstB md ops fs L = true →
    (∀ a, H a → wpAnyC P md ops (Only Q) C n (mark fs L) a w) → wpFirstC P ops C fs H a → wpAnyC P md ops (Only Q) C (fs.length + n) L a w
  | [], L, a, _, hH, h => by simpa using hH a h
  | i :: is, L, a, hb, hH, h => by
    obtain ⟨o, v, ho, hy, h⟩ := h
    simp only [firstB, Bool.and_eq_true, ho] at hb
    obtain ⟨⟨hr, hf⟩, hb⟩ := hb
    have hr2 : i ∈ Region.ready md ops L := by simpa using hr
    have ih := wpFirstC_any hsel hC is (L.setIfInBounds i true) _ hb hH h
    rw [List.length_cons, show is.length + 1 + n = is.length + n + 1 by omega]
    exact wpAnyC_first ho (Region.noSelect_spec hsel) _ L a w (fun j oj hj hne hun hno => freeB_spec ho hf hr2 j oj hj hne hun hno) hr2 hy hC ih
end
theorem wpAny_G {P : Program} {Q : Exit → Act → World → Prop} {a : Act} {w : World} {l : List Oper} (C : World → Prop) (hC : ∀ w', Below w.heap.size w w' → C w') (fs : List Nat)
    (hF : (Region.noSelect l.toArray && firstB .any l.toArray fs (Array.replicate l.length false)) = true)
    (ps : List (Nat × (Value → World → Prop))) (hs : List Nat) (g : Nat)
    (hn : fs.length + (hs.length + g) = l.length) (hkeep : ∀ x ∈ ps, Keeps x.2)
    (hB : (groupB .any l.toArray (mark fs (Array.replicate l.length false)) hs && pairsB .any l.toArray ((ps.map (·.1)).contains ·) hs && plainsB l.toArray ((ps.map (·.1)).contains ·) hs) = true)
    (h : wpFirstC P l.toArray C fs (fun a => wpS P .any l.toArray w ((ps.map (·.1)).contains ·) (pOf ps) (fun Γ' a' => ∀ w', All w (pOf ps) Γ' w' → wpAnyC P .any l.toArray (Only Q) C g (mark hs (mark fs (Array.replicate l.length false))) a' w') (numbered l.toArray hs) (fun _ => none) a) a) :
    wpAny P .any l.toArray (Only Q) l.toArray.size (Array.replicate l.toArray.size false) a w.drew := by
  simp only [Bool.and_eq_true] at hF
  have h1 := wpFirstC_any (P := P) (Q := Q) (md := .any) (C := C) hF.1 (w := w.drew) (hC _ (Below.refl _ w).drew) (n := hs.length + g) fs (Array.replicate l.length false) a hF.2 (fun a h => ?_) h
  · rw [hn] at h1
    simpa using wpAnyC_any h1
  · have h2 := wpR_of_wpS (fun k hk => by
      simp only [groupB, Bool.and_eq_true] at hB
      obtain ⟨_, hmem, _⟩ := orderB_spec hB.1.1.2
      exact (hmem k hk).2.2) h
    exact wpAnyC_R (P := P) (Q := Only Q) (w0 := w) (w := w.drew) (a := a) hC (ps.map (·.1)) hs g (pOf_keeps hkeep) hB (Below.refl _ w).drew h2
theorem wp_region_G {P : Program} {id : Nat} {Q : Exit → Act → World → Prop} {a : Act} {w : World} {l : List Oper} (C : World → Prop) (hC : ∀ w', Below w.heap.size w w' → C w') (fs : List Nat)
    (hF : (Region.noSelect l.toArray && firstB .any l.toArray fs (Array.replicate l.length false)) = true)
    (ps : List (Nat × (Value → World → Prop))) (hs : List Nat) (g : Nat) (hm : P.follows .mixedOrders = true)
    (hn : fs.length + (hs.length + g) = l.length) (hkeep : ∀ x ∈ ps, Keeps x.2)
    (hB : (groupB .any l.toArray (mark fs (Array.replicate l.length false)) hs && pairsB .any l.toArray ((ps.map (·.1)).contains ·) hs && plainsB l.toArray ((ps.map (·.1)).contains ·) hs) = true)
    (h : wpFirstC P l.toArray C fs (fun a => wpS P .any l.toArray w ((ps.map (·.1)).contains ·) (pOf ps) (fun Γ' a' => ∀ w', All w (pOf ps) Γ' w' → wpAnyC P .any l.toArray (Only Q) C g (mark hs (mark fs (Array.replicate l.length false))) a' w') (numbered l.toArray hs) (fun _ => none) a) a) :
    (Code.region id l.toArray true).wp P Q a w := wp_region_any hm (wpAny_only (wpAny_G C hC fs hF ps hs g hn hkeep hB h))
end Go.Pb

/- A region that draws its order: loads that nothing disturbs are run first; then each order of the rest, in worlds told exactly. -/
namespace Go.Pb
set_option linter.unusedVariables false
open Go Go.RowKit
section
variable {P : Program} {md : Region.Mode} {ops : Array Oper} {Q : Exit → Act → World → Prop} {C : World → Prop}
theorem wpAnyC_pair {n r s : Nat} {o1 o2 : Oper} {L : Array Bool} {a : Act} {w : World} (hC : C w) (hr : Region.ready md ops L = [r, s]) (ho1 : ops[r]? = some o1) (hw1 : Region.wanted o1 (yielded ops a.tmps) = true) (ho2 : ops[s]? = some o2) (hw2 : Region.wanted o2 (yielded ops a.tmps) = true)
    (h1 : ∀ K : Act → World → Prop, (∀ a' w', wpAnyC P md ops Q C n (L.setIfInBounds r true) a' w' → K a' w') → o1.wp P a w K Q)
    (h2 : ∀ K : Act → World → Prop, (∀ a' w', wpAnyC P md ops Q C n (L.setIfInBounds s true) a' w' → K a' w') → o2.wp P a w K Q) : wpAnyC P md ops Q C (n + 1) L a w := by
  refine ⟨hC, fun h0 => (by rw [hr] at h0; cases h0), fun i hi => ?_⟩
  rw [hr] at hi
  simp only [List.mem_cons, List.not_mem_nil, or_false] at hi
  rcases hi with rfl | rfl
  · unfold wpOp; simp only [ho1, hw1, if_true]; exact .inl (h1 _ fun _ _ h => h)
  · unfold wpOp; simp only [ho2, hw2, if_true]; exact .inl (h2 _ fun _ _ h => h)
end
theorem wp_region_H {P : Program} {id : Nat} {Q : Exit → Act → World → Prop} {a : Act} {w : World} {l : List Oper} (C : World → Prop) (hC : C w.drew) (fs : List Nat) (g : Nat)
    (hF : (Region.noSelect l.toArray && firstB .any l.toArray fs (Array.replicate l.length false)) = true) (hm : P.follows .mixedOrders = true) (hn : fs.length + g = l.length)
    (h : wpFirstC P l.toArray C fs (fun a => wpAnyC P .any l.toArray (Only Q) C g (mark fs (Array.replicate l.length false)) a w.drew) a) :
    (Code.region id l.toArray true).wp P Q a w := by
  refine wp_region_any hm (wpAny_only ?_)
  simp only [Bool.and_eq_true] at hF
  have h1 := wpFirstC_any (P := P) (Q := Q) (md := .any) (C := C) hF.1 (w := w.drew) hC (n := g) fs (Array.replicate l.length false) a hF.2 (fun a h => h) h
  rw [hn] at h1
  simpa using wpAnyC_any h1
/-! A struct of eight cells that is stored. -/
abbrev put8 (v : World) (b : Nat) (x0 x1 x2 x3 x4 x5 x6 x7 : Value) : World := ((((((((v.setCell ⟨b, 0, none⟩ x0).setCell ⟨b, 1, none⟩ x1).setCell ⟨b, 2, none⟩ x2).setCell ⟨b, 3, none⟩ x3).setCell ⟨b, 4, none⟩ x4).setCell ⟨b, 5, none⟩ x5).setCell ⟨b, 6, none⟩ x6).setCell ⟨b, 7, none⟩ x7)
theorem put8_gr {b : Nat} {w v : World} {x0 x1 x2 x3 x4 x5 x6 x7 : Value} (h : Gr w v) (hb : w.heap.size ≤ b) : Gr w (put8 v b x0 x1 x2 x3 x4 x5 x6 x7) := ((((((((h.setCell (p := ⟨b, 0, none⟩) hb _).setCell (p := ⟨b, 1, none⟩) hb _).setCell (p := ⟨b, 2, none⟩) hb _).setCell (p := ⟨b, 3, none⟩) hb _).setCell (p := ⟨b, 4, none⟩) hb _).setCell (p := ⟨b, 5, none⟩) hb _).setCell (p := ⟨b, 6, none⟩) hb _).setCell (p := ⟨b, 7, none⟩) hb _)
theorem put8_cells {b : Nat} {v : World} {z0 z1 z2 z3 z4 z5 z6 z7 x0 x1 x2 x3 x4 x5 x6 x7 : Value} (h : CellsAt v b [z0, z1, z2, z3, z4, z5, z6, z7]) : CellsAt (put8 v b x0 x1 x2 x3 x4 x5 x6 x7) b [x0, x1, x2, x3, x4, x5, x6, x7] := (Sag.cells_store (o := 7) (u := x7) (Sag.cells_store (o := 6) (u := x6) (Sag.cells_store (o := 5) (u := x5) (Sag.cells_store (o := 4) (u := x4) (Sag.cells_store (o := 3) (u := x3) (Sag.cells_store (o := 2) (u := x2) (Sag.cells_store (o := 1) (u := x1) (Sag.cells_store (o := 0) (u := x0) h))))))))
theorem put8_other {b b' : Nat} {v : World} {x0 x1 x2 x3 x4 x5 x6 x7 : Value} {zs : List Value} (h : CellsAt v b' zs) (hne : b' ≠ b) : CellsAt (put8 v b x0 x1 x2 x3 x4 x5 x6 x7) b' zs := (CellsAt.other (CellsAt.other (CellsAt.other (CellsAt.other (CellsAt.other (CellsAt.other (CellsAt.other (CellsAt.other h hne _) hne _) hne _) hne _) hne _) hne _) hne _) hne _)
end Go.Pb

/- What the setter's rule says of two saggars. -/
namespace Go.Proofs.Ytnchhleokdkejaa
open Go.RowKit Go.Pb Go.Pb.Ware Go.Pb.Sag
set_option linter.unusedVariables false
set_option linter.unusedSimpArgs false

open Go.Pb.Bung
theorem isNaN_any {w : World} {x : Int} : Calls Try.prog 144 #[.int .i64 x] w (fun e w' => e = .returned (.bool false) ∧ w' = w) := by
  go_enter Try.func144, Try.ntmps144
  go_wp2
  go_ret
  exact ⟨ret_bool (by simp [bne, BEq.beq]), rfl⟩
set_option maxHeartbeats 400000 in
theorem compare_any {w : World} {x y : Int} : Calls Try.prog 132 #[.int .i64 x, .int .i64 y] w (fun e w' => e = .returned (.int .i64 (Lib.compareInt x y)) ∧ w' = w) := by
  by_cases h1 : x < y
  · have hr : Lib.compareInt x y = -1 := by unfold Lib.compareInt; rw [if_pos h1]
    rw [hr]
    go_enter Try.func132, Try.ntmps132
    go_wp2_with (go_at_call 144; refine isNaN_any.mono ?_; rintro e w1 ⟨rfl, rfl⟩)
    go_ret
    exact ⟨rfl, rfl⟩
  by_cases h2 : x > y
  · have h3 : y < x := h2
    have hr : Lib.compareInt x y = 1 := by unfold Lib.compareInt; rw [if_neg h1, if_pos h2]
    rw [hr]
    go_enter Try.func132, Try.ntmps132
    go_wp2_with (go_at_call 144; refine isNaN_any.mono ?_; rintro e w1 ⟨rfl, rfl⟩)
    go_ret
    exact ⟨rfl, rfl⟩
  · have h3 : ¬ y < x := h2
    have hr : Lib.compareInt x y = 0 := by unfold Lib.compareInt; rw [if_neg h1, if_neg h2]
    rw [hr]
    go_enter Try.func132, Try.ntmps132
    go_wp2_with (go_at_call 144; refine isNaN_any.mono ?_; rintro e w1 ⟨rfl, rfl⟩)
    go_ret
    exact ⟨rfl, rfl⟩
set_option maxHeartbeats 400000 in
theorem or_any {w : World} {x y r : Int} {g : Nat} (h0 : w.cell? ⟨g, 0, none⟩ = some (.int .i64 x)) (h1 : w.cell? ⟨g, 1, none⟩ = some (.int .i64 y)) (hr : (if x ≠ 0 then x else y) = r) : Calls Try.prog 131 #[.slice (some ⟨g, 0, none⟩) 2 2] w (fun e w' => e = .returned (.int .i64 r) ∧ w' = w) := by
  by_cases hx : x = 0
  · subst hx
    rw [if_neg (by simp)] at hr
    subst hr
    by_cases hy : y = 0
    · subst hy
      go_enter Try.func131, Try.ntmps131
      go_wp2_with fail
      refine wp_loop_rounds 3 ?_
      rw [rounds_succ]
      go_wp2_with fail
      rw [rounds_succ]
      go_wp2_with fail
      rw [rounds_succ]
      go_wp2_with fail
      go_ret
      exact ⟨rfl, rfl⟩
    · have hyb : (y != 0) = true := by simpa using hy
      go_enter Try.func131, Try.ntmps131
      go_wp2_with fail
      refine wp_loop_rounds 2 ?_
      rw [rounds_succ]
      go_wp2_with fail
      rw [rounds_succ]
      go_wp2_with fail
      go_ret
      exact ⟨rfl, rfl⟩
  · rw [if_pos hx] at hr
    subst hr
    have hxb : (x != 0) = true := by simpa using hx
    go_enter Try.func131, Try.ntmps131
    go_wp2_with fail
    refine wp_loop_rounds 1 ?_
    rw [rounds_succ]
    go_wp2_with fail
    go_ret
    exact ⟨rfl, rfl⟩

theorem listD {w w' : World} {n : Nat} {cs : List Value} {t : TypeId} (hb : Gr w w') : Gr w' (w'.alloc (.cells cs.toArray t)) ∧ NewList w.heap.size n cs (.slice (some ⟨w'.heap.size, 0, none⟩) n n) (w'.alloc (.cells cs.toArray t)) :=
  ⟨(Gr.refl _).alloc _, (list_of hb.b).2⟩

theorem sg_small {s : Sg} (h : sgOk s = true) : (0 ≤ s.wl ∧ s.wl ≤ 10000000) ∧ (0 ≤ s.wh ∧ s.wh ≤ 10000000) ∧ (0 ≤ s.bl ∧ s.bl ≤ 10000000) ∧ (0 ≤ s.bh ∧ s.bh ≤ 10000000) := by
  unfold sgOk at h
  simp only [Bool.and_eq_true, btw_iff, rgOk] at h
  simp only [decide_eq_true_eq, Bool.and_eq_true] at h
  omega
set_option maxRecDepth 100000 in
set_option maxHeartbeats 1000000 in
theorem ruleCmp_any {w : World} {X i j : Nat} {lv : Value} {l : List Sg} (hX : w.cell? ⟨X, 0, none⟩ = some lv) (h : RowsAt 8 w lv (l.map rowG)) (hok : ∀ s ∈ l, sgOk s = true) (hi : i < l.length) (hj : j < l.length) :
    Calls Try.prog 130 #[.int .i64 (i : Int), .int .i64 (j : Int), .pointer (some ⟨X, 0, none⟩)] w (fun e w' => e = .returned (.int .i64 (cmpR l i j)) ∧ Gr w w') := by
  obtain ⟨a, cap, rfl, hll⟩ := h.shape
  rw [List.length_map] at h hll hX
  obtain ⟨x, hx⟩ : ∃ s, l[i]? = some s := ⟨_, List.getElem?_eq_getElem hi⟩
  obtain ⟨y, hy⟩ : ∃ s, l[j]? = some s := ⟨_, List.getElem?_eq_getElem hj⟩
  have hcm : cmpR l i j = (if Lib.compareInt (keyG y) (keyG x) ≠ 0 then Lib.compareInt (keyG y) (keyG x) else Lib.compareInt x.id y.id) := by unfold cmpR atG; rw [List.getD_eq_getElem?_getD, List.getD_eq_getElem?_getD, hx, hy]; rfl
  have bx := sg_small (hok x (List.mem_of_getElem? hx)); have by_ := sg_small (hok y (List.mem_of_getElem? hy))
  obtain ⟨a', ha, u0, hcx, -⟩ := sg_row h hx
  subst ha
  obtain ⟨b', hb', v0, hcy, -⟩ := sg_row h hy
  obtain rfl : a' = b' := by injection hb'
  obtain ⟨n, hn⟩ : ∃ n, l.length = n := ⟨_, rfl⟩
  rw [hn] at h hll hX hi hj
  have hii : (i : Int) < (n : Int) := by omega
  have hjj : (j : Int) < (n : Int) := by omega
  clear h hn hx hy hok
  obtain ⟨xid, xwl, xwh, xbl, xbh, xhl, xhh, xti⟩ := x
  obtain ⟨yid, ywl, ywh, ybl, ybh, yhl, yhh, yti⟩ := y
  have u1 := hcx 1 _ (by decide) rfl; have v1 := hcy 1 _ (by decide) rfl
  have u2 := hcx 2 _ (by decide) rfl; have v2 := hcy 2 _ (by decide) rfl
  have u3 := hcx 3 _ (by decide) rfl; have v3 := hcy 3 _ (by decide) rfl
  have u4 := hcx 4 _ (by decide) rfl; have v4 := hcy 4 _ (by decide) rfl
  have u5 := hcx 5 _ (by decide) rfl; have v5 := hcy 5 _ (by decide) rfl
  have u6 := hcx 6 _ (by decide) rfl; have v6 := hcy 6 _ (by decide) rfl
  have u7 := hcx 7 _ (by decide) rfl; have v7 := hcy 7 _ (by decide) rfl
  dsimp only at u0 v0 u1 v1 u2 v2 u3 v3 u4 v4 u5 v5 u6 v6 u7 v7 bx by_
  unfold keyG at hcm
  dsimp only at hcm
  obtain ⟨c1, hc1⟩ : ∃ c, Lib.compareInt (ywh + ybl) (xwh + xbl) = c := ⟨_, rfl⟩
  obtain ⟨c2, hc2⟩ : ∃ c, Lib.compareInt xid yid = c := ⟨_, rfl⟩
  rw [hc1, hc2] at hcm
  rw [hcm]
  have HC1 := hid hc1; have HC2 := hid hc2
  obtain ⟨r, hr⟩ : ∃ r, (if c1 ≠ 0 then c1 else c2) = r := ⟨_, rfl⟩
  rw [hr]
  have HR := hid hr; clear hcm hc1 hc2 hr hcx hcy
  go_enter Try.func130, Try.ntmps130
  go_upto_region 1 with fail
  refine wp_region_H (fun V => Below w.heap.size w V) (Below.refl _ _).drew [0, 1, 2, 3, 4, 5, 6, 7] 4 (by kernel_rfl) (by kernel_rfl) rfl ?_
  refine ⟨_, .slice (some a') n cap, rfl, ⟨rfl, fun V hV => by (dsimp only at hV); have s0 := bkeep hV hX; go_simp⟩, ?_⟩
  simp only [Act.put, List.getElem_toArray, List.getElem_cons_succ, List.getElem_cons_zero, List.setIfInBounds_toArray, List.set_cons_succ, List.set_cons_zero]
  refine ⟨_, .int .i64 (i : Int), rfl, ⟨rfl, fun V hV => by (dsimp only at hV); skip; go_simp⟩, ?_⟩
  simp only [Act.put, List.getElem_toArray, List.getElem_cons_succ, List.getElem_cons_zero, List.setIfInBounds_toArray, List.set_cons_succ, List.set_cons_zero]
  refine ⟨_, .pointer (some (a'.add (i * 8))), rfl, ⟨rfl, fun V hV => by (dsimp only at hV); skip; go_simp⟩, ?_⟩
  simp only [Act.put, List.getElem_toArray, List.getElem_cons_succ, List.getElem_cons_zero, List.setIfInBounds_toArray, List.set_cons_succ, List.set_cons_zero]
  refine ⟨_, .agg #[.int .i64 xid, .int .i64 xwl, .int .i64 xwh, .int .i64 xbl, .int .i64 xbh, .int .i64 xhl, .int .i64 xhh, .int .i64 xti], rfl, ⟨rfl, fun V hV => by (dsimp only at hV); have s0 := bkeep hV u0; have s1 := bkeep hV u1; have s2 := bkeep hV u2; have s3 := bkeep hV u3; have s4 := bkeep hV u4; have s5 := bkeep hV u5; have s6 := bkeep hV u6; have s7 := bkeep hV u7; go_simp⟩, ?_⟩
  simp only [Act.put, List.getElem_toArray, List.getElem_cons_succ, List.getElem_cons_zero, List.setIfInBounds_toArray, List.set_cons_succ, List.set_cons_zero]
  refine ⟨_, .slice (some a') n cap, rfl, ⟨rfl, fun V hV => by (dsimp only at hV); have s0 := bkeep hV hX; go_simp⟩, ?_⟩
  simp only [Act.put, List.getElem_toArray, List.getElem_cons_succ, List.getElem_cons_zero, List.setIfInBounds_toArray, List.set_cons_succ, List.set_cons_zero]
  refine ⟨_, .int .i64 (j : Int), rfl, ⟨rfl, fun V hV => by (dsimp only at hV); skip; go_simp⟩, ?_⟩
  simp only [Act.put, List.getElem_toArray, List.getElem_cons_succ, List.getElem_cons_zero, List.setIfInBounds_toArray, List.set_cons_succ, List.set_cons_zero]
  refine ⟨_, .pointer (some (a'.add (j * 8))), rfl, ⟨rfl, fun V hV => by (dsimp only at hV); skip; go_simp⟩, ?_⟩
  simp only [Act.put, List.getElem_toArray, List.getElem_cons_succ, List.getElem_cons_zero, List.setIfInBounds_toArray, List.set_cons_succ, List.set_cons_zero]
  refine ⟨_, .agg #[.int .i64 yid, .int .i64 ywl, .int .i64 ywh, .int .i64 ybl, .int .i64 ybh, .int .i64 yhl, .int .i64 yhh, .int .i64 yti], rfl, ⟨rfl, fun V hV => by (dsimp only at hV); have s0 := bkeep hV v0; have s1 := bkeep hV v1; have s2 := bkeep hV v2; have s3 := bkeep hV v3; have s4 := bkeep hV v4; have s5 := bkeep hV v5; have s6 := bkeep hV v6; have s7 := bkeep hV v7; go_simp⟩, ?_⟩
  simp only [Act.put, List.getElem_toArray, List.getElem_cons_succ, List.getElem_cons_zero, List.setIfInBounds_toArray, List.set_cons_succ, List.set_cons_zero]
  have C0 : Below w.heap.size w w.drew := (Below.refl _ _).drew
  refine wpAnyC_pair (r := 8) (s := 9) C0 (by kernel_rfl) rfl rfl rfl rfl (fun K hK => ?_) (fun K hK => ?_)
  · go_simp
    refine hK _ _ ?_; clear hK K
    have C1 : Below w.heap.size w (w.drew.alloc (.cells #[.int .i64 0, .int .i64 0, .int .i64 0, .int .i64 0, .int .i64 0, .int .i64 0, .int .i64 0, .int .i64 0] 33)) := C0.alloc (Nat.le_refl _) _
    refine wpAnyC_op (r := 9) C1 (by kernel_rfl) rfl rfl (fun K hK => ?_)
    go_simp
    refine hK _ _ ?_; clear hK K
    have g2 : Gr w ((w.alloc (.cells #[.int .i64 0, .int .i64 0, .int .i64 0, .int .i64 0, .int .i64 0, .int .i64 0, .int .i64 0, .int .i64 0] 33)).alloc (.cells #[.int .i64 0, .int .i64 0, .int .i64 0, .int .i64 0, .int .i64 0, .int .i64 0, .int .i64 0, .int .i64 0] 33)).drew := (((Gr.refl w).alloc _).alloc _).drew
    have a0 : CellsAt ((w.alloc (.cells #[.int .i64 0, .int .i64 0, .int .i64 0, .int .i64 0, .int .i64 0, .int .i64 0, .int .i64 0, .int .i64 0] 33)).alloc (.cells #[.int .i64 0, .int .i64 0, .int .i64 0, .int .i64 0, .int .i64 0, .int .i64 0, .int .i64 0, .int .i64 0] 33)).drew w.heap.size [.int .i64 0, .int .i64 0, .int .i64 0, .int .i64 0, .int .i64 0, .int .i64 0, .int .i64 0, .int .i64 0] := (CellsAt.new w [.int .i64 0, .int .i64 0, .int .i64 0, .int .i64 0, .int .i64 0, .int .i64 0, .int .i64 0, .int .i64 0] 33).alloc _
    have a1 : CellsAt ((w.alloc (.cells #[.int .i64 0, .int .i64 0, .int .i64 0, .int .i64 0, .int .i64 0, .int .i64 0, .int .i64 0, .int .i64 0] 33)).alloc (.cells #[.int .i64 0, .int .i64 0, .int .i64 0, .int .i64 0, .int .i64 0, .int .i64 0, .int .i64 0, .int .i64 0] 33)).drew (w.heap.size + 1) [.int .i64 0, .int .i64 0, .int .i64 0, .int .i64 0, .int .i64 0, .int .i64 0, .int .i64 0, .int .i64 0] := by have h := CellsAt.new (w.alloc (.cells #[.int .i64 0, .int .i64 0, .int .i64 0, .int .i64 0, .int .i64 0, .int .i64 0, .int .i64 0, .int .i64 0] 33)) [.int .i64 0, .int .i64 0, .int .i64 0, .int .i64 0, .int .i64 0, .int .i64 0, .int .i64 0, .int .i64 0] 33; rw [World.size_alloc] at h; exact h
    generalize World.drew (World.alloc (World.alloc _ _) _) = V2 at *
    clear C0 C1
    have q0 := (a0 0 _ rfl).1; have f0 := (a0 0 _ rfl).2; have q1 := (a0 1 _ rfl).1; have f1 := (a0 1 _ rfl).2; have q2 := (a0 2 _ rfl).1; have f2 := (a0 2 _ rfl).2; have q3 := (a0 3 _ rfl).1; have f3 := (a0 3 _ rfl).2; have q4 := (a0 4 _ rfl).1; have f4 := (a0 4 _ rfl).2; have q5 := (a0 5 _ rfl).1; have f5 := (a0 5 _ rfl).2; have q6 := (a0 6 _ rfl).1; have f6 := (a0 6 _ rfl).2; have q7 := (a0 7 _ rfl).1; have f7 := (a0 7 _ rfl).2
    refine wpAnyC_op (r := 10) g2.b (by kernel_rfl) rfl rfl (fun K hK => ?_)
    go_simp
    refine hK _ _ ?_; clear hK K
    clear q0 f0 q1 f1 q2 f2 q3 f3 q4 f4 q5 f5 q6 f6 q7 f7
    skip
    have g3 : Gr w (put8 V2 (w.heap.size) (.int .i64 xid) (.int .i64 xwl) (.int .i64 xwh) (.int .i64 xbl) (.int .i64 xbh) (.int .i64 xhl) (.int .i64 xhh) (.int .i64 xti)) := put8_gr g2 (by omega)
    have y6 : CellsAt (put8 V2 (w.heap.size) (.int .i64 xid) (.int .i64 xwl) (.int .i64 xwh) (.int .i64 xbl) (.int .i64 xbh) (.int .i64 xhl) (.int .i64 xhh) (.int .i64 xti)) (w.heap.size) [.int .i64 xid, .int .i64 xwl, .int .i64 xwh, .int .i64 xbl, .int .i64 xbh, .int .i64 xhl, .int .i64 xhh, .int .i64 xti] := put8_cells a0
    have y7 : CellsAt (put8 V2 (w.heap.size) (.int .i64 xid) (.int .i64 xwl) (.int .i64 xwh) (.int .i64 xbl) (.int .i64 xbh) (.int .i64 xhl) (.int .i64 xhh) (.int .i64 xti)) (w.heap.size + 1) [.int .i64 0, .int .i64 0, .int .i64 0, .int .i64 0, .int .i64 0, .int .i64 0, .int .i64 0, .int .i64 0] := put8_other a1 (by omega)
    clear a0 a1 g2
    dsimp only [put8] at g3 y6 y7
    generalize (World.setCell _ _ _ : World) = V5 at *
    have q0 := (y7 0 _ rfl).1; have f0 := (y7 0 _ rfl).2; have q1 := (y7 1 _ rfl).1; have f1 := (y7 1 _ rfl).2; have q2 := (y7 2 _ rfl).1; have f2 := (y7 2 _ rfl).2; have q3 := (y7 3 _ rfl).1; have f3 := (y7 3 _ rfl).2; have q4 := (y7 4 _ rfl).1; have f4 := (y7 4 _ rfl).2; have q5 := (y7 5 _ rfl).1; have f5 := (y7 5 _ rfl).2; have q6 := (y7 6 _ rfl).1; have f6 := (y7 6 _ rfl).2; have q7 := (y7 7 _ rfl).1; have f7 := (y7 7 _ rfl).2
    refine wpAnyC_op (r := 11) g3.b (by kernel_rfl) rfl rfl (fun K hK => ?_)
    go_simp
    refine hK _ _ ?_; clear hK K
    clear q0 f0 q1 f1 q2 f2 q3 f3 q4 f4 q5 f5 q6 f6 q7 f7
    have hG : Gr w (put8 V5 (w.heap.size + 1) (.int .i64 yid) (.int .i64 ywl) (.int .i64 ywh) (.int .i64 ybl) (.int .i64 ybh) (.int .i64 yhl) (.int .i64 yhh) (.int .i64 yti)) := put8_gr g3 (by omega)
    have z7 : CellsAt (put8 V5 (w.heap.size + 1) (.int .i64 yid) (.int .i64 ywl) (.int .i64 ywh) (.int .i64 ybl) (.int .i64 ybh) (.int .i64 yhl) (.int .i64 yhh) (.int .i64 yti)) (w.heap.size + 1) [.int .i64 yid, .int .i64 ywl, .int .i64 ywh, .int .i64 ybl, .int .i64 ybh, .int .i64 yhl, .int .i64 yhh, .int .i64 yti] := put8_cells y7
    have z6 : CellsAt (put8 V5 (w.heap.size + 1) (.int .i64 yid) (.int .i64 ywl) (.int .i64 ywh) (.int .i64 ybl) (.int .i64 ybh) (.int .i64 yhl) (.int .i64 yhh) (.int .i64 yti)) (w.heap.size) [.int .i64 xid, .int .i64 xwl, .int .i64 xwh, .int .i64 xbl, .int .i64 xbh, .int .i64 xhl, .int .i64 xhh, .int .i64 xti] := put8_other y6 (by omega)
    clear y6 y7 g3
    dsimp only [put8] at hG z6 z7
    refine wpAnyC_end hG.b (by kernel_rfl) ?_
    refine ⟨rfl, ?_⟩
    generalize (World.setCell _ _ _ : World) = V3 at *
    have p0 := (z6 0 _ rfl).1; have r0 := (z7 0 _ rfl).1
    have p2 := (z6 2 _ rfl).1; have r2 := (z7 2 _ rfl).1
    have p3 := (z6 3 _ rfl).1; have r3 := (z7 3 _ rfl).1
    skip
    clear z6 z7 u0 v0 u1 v1 u2 v2 u3 v3 u4 v4 u5 v5 u6 v6 u7 v7 hX
    have w1 : IntKind.i64.wrap (xwh + xbl) = xwh + xbl := IntWalk.i64_in _ (by omega)
    have w2 : IntKind.i64.wrap (ywh + ybl) = ywh + ybl := IntWalk.i64_in _ (by omega)
    go_upto_region 2 with fail
    refine wp_region_RsD [(14, fun v _ => v = .int .i64 c1), (19, fun v _ => v = .int .i64 c2), (20, NewList V3.heap.size 2 [.int .i64 c1, .int .i64 c2]), (21, fun v _ => v = .int .i64 r)] [0, 1, 2, 3, 4, 5, 6, 7, 8, 9, 10, 11, 12, 13, 14, 15, 16, 17, 18, 19, 20, 21] 1 (by kernel_rfl) rfl (by simp only [List.forall_mem_cons]; exact ⟨keeps_eq, keeps_eq, keeps_list, keeps_eq, fun _ h => by cases h⟩) (by kernel_rfl) ?_
    simp only [numbered, List.filterMap_cons, List.filterMap_nil, List.getElem?_toArray, List.getElem?_cons_succ, List.getElem?_cons_zero, Option.map_some]
    show wpSD _ _ _ _ _ _ _ [(_, _), (_, _), (_, _), (_, _), (_, _), (_, _), (_, _), (_, _), (_, _), (_, _), (_, _), (_, _), (_, _), (_, _), (_, _), (_, _), (_, _), (_, _), (_, _), (_, _), (_, _), (_, _)] _ _
    (refine wpS_quietD rfl rfl ?_; intro K hK inst hx; go_big_quiet_op; (first | go_big_quiet_on | (refine ⟨_, fun _ => rfl, ?_⟩; go_big_quiet_on)); clear hx inst)
    (refine wpS_quietD rfl rfl ?_; intro K hK inst hx; go_big_quiet_op; (first | go_big_quiet_on | (refine ⟨_, fun _ => rfl, ?_⟩; go_big_quiet_on)); clear hx inst)
    (refine wpS_quietD rfl rfl ?_; intro K hK inst hx; have s0 := fun x => (fun _ => bkeep (Gr.b (BQD.below x)) r2) (hx x); go_big_quiet_op; (first | go_big_quiet_on | (refine ⟨_, fun _ => rfl, ?_⟩; go_big_quiet_on)); clear hx inst)
    (refine wpS_quietD rfl rfl ?_; intro K hK inst hx; go_big_quiet_op; (first | go_big_quiet_on | (refine ⟨_, fun _ => rfl, ?_⟩; go_big_quiet_on)); clear hx inst)
    (refine wpS_quietD rfl rfl ?_; intro K hK inst hx; go_big_quiet_op; (first | go_big_quiet_on | (refine ⟨_, fun _ => rfl, ?_⟩; go_big_quiet_on)); clear hx inst)
    (refine wpS_quietD rfl rfl ?_; intro K hK inst hx; have s0 := fun x => (fun _ => bkeep (Gr.b (BQD.below x)) r3) (hx x); go_big_quiet_op; (first | go_big_quiet_on | (refine ⟨_, fun _ => rfl, ?_⟩; go_big_quiet_on)); clear hx inst)
    (refine wpS_quietD rfl rfl ?_; intro K hK inst hx; go_big_quiet_op; (first | go_big_quiet_on | (refine ⟨_, fun _ => rfl, ?_⟩; go_big_quiet_on)); clear hx inst)
    (refine wpS_quietD rfl rfl ?_; intro K hK inst hx; go_big_quiet_op; (first | go_big_quiet_on | (refine ⟨_, fun _ => rfl, ?_⟩; go_big_quiet_on)); clear hx inst)
    (refine wpS_quietD rfl rfl ?_; intro K hK inst hx; go_big_quiet_op; (first | go_big_quiet_on | (refine ⟨_, fun _ => rfl, ?_⟩; go_big_quiet_on)); clear hx inst)
    (refine wpS_quietD rfl rfl ?_; intro K hK inst hx; have s0 := fun x => (fun _ => bkeep (Gr.b (BQD.below x)) p2) (hx x); go_big_quiet_op; (first | go_big_quiet_on | (refine ⟨_, fun _ => rfl, ?_⟩; go_big_quiet_on)); clear hx inst)
    (refine wpS_quietD rfl rfl ?_; intro K hK inst hx; go_big_quiet_op; (first | go_big_quiet_on | (refine ⟨_, fun _ => rfl, ?_⟩; go_big_quiet_on)); clear hx inst)
    (refine wpS_quietD rfl rfl ?_; intro K hK inst hx; go_big_quiet_op; (first | go_big_quiet_on | (refine ⟨_, fun _ => rfl, ?_⟩; go_big_quiet_on)); clear hx inst)
    (refine wpS_quietD rfl rfl ?_; intro K hK inst hx; have s0 := fun x => (fun _ => bkeep (Gr.b (BQD.below x)) p3) (hx x); go_big_quiet_op; (first | go_big_quiet_on | (refine ⟨_, fun _ => rfl, ?_⟩; go_big_quiet_on)); clear hx inst)
    (refine wpS_quietD rfl rfl ?_; intro K hK inst hx; go_big_quiet_op; (first | go_big_quiet_on | (refine ⟨_, fun _ => rfl, ?_⟩; go_big_quiet_on)); clear hx inst)
    refine wpS_freshD rfl rfl (fun w' hb hF => ?_) ?_
    · change freshAtD _ _ _ (fun v _ => v = .int .i64 c1) _; unfold freshAtD; go_simp; exact compare_any.mono fun e w'' ⟨he, hw⟩ => ⟨by rw [← HC1.out]; exact he, hw ▸ Gr.refl _⟩
    intro v W hv; simp only [pOf, List.lookup_cons, Nat.reduceBEq, beq_self_eq_true] at hv; subst hv
    simp only [Act.put, List.setIfInBounds_toArray, List.set_cons_succ, List.set_cons_zero]
    (refine wpS_quietD rfl rfl ?_; intro K hK inst hx; go_big_quiet_op; (first | go_big_quiet_on | (refine ⟨_, fun _ => rfl, ?_⟩; go_big_quiet_on)); clear hx inst)
    (refine wpS_quietD rfl rfl ?_; intro K hK inst hx; have s0 := fun x => (fun _ => bkeep (Gr.b (BQD.below x)) p0) (hx x); go_big_quiet_op; (first | go_big_quiet_on | (refine ⟨_, fun _ => rfl, ?_⟩; go_big_quiet_on)); clear hx inst)
    (refine wpS_quietD rfl rfl ?_; intro K hK inst hx; go_big_quiet_op; (first | go_big_quiet_on | (refine ⟨_, fun _ => rfl, ?_⟩; go_big_quiet_on)); clear hx inst)
    (refine wpS_quietD rfl rfl ?_; intro K hK inst hx; have s0 := fun x => (fun _ => bkeep (Gr.b (BQD.below x)) r0) (hx x); go_big_quiet_op; (first | go_big_quiet_on | (refine ⟨_, fun _ => rfl, ?_⟩; go_big_quiet_on)); clear hx inst)
    refine wpS_freshD rfl rfl (fun w' hb hF => ?_) ?_
    · change freshAtD _ _ _ (fun v _ => v = .int .i64 c2) _; unfold freshAtD; go_simp; exact compare_any.mono fun e w'' ⟨he, hw⟩ => ⟨by rw [← HC2.out]; exact he, hw ▸ Gr.refl _⟩
    intro v W hv; simp only [pOf, List.lookup_cons, Nat.reduceBEq, beq_self_eq_true] at hv; subst hv
    simp only [Act.put, List.setIfInBounds_toArray, List.set_cons_succ, List.set_cons_zero]
    refine wpS_freshD rfl rfl (fun w' hb hF => ?_) ?_
    · change freshAtD _ _ _ (NewList V3.heap.size 2 [.int .i64 c1, .int .i64 c2]) _; unfold freshAtD; go_simp; exact listD hb
    intro v W hv; simp only [pOf, List.lookup_cons, Nat.reduceBEq, beq_self_eq_true] at hv; obtain ⟨BL, hBL, rfl, -⟩ := hv
    simp only [Act.put, List.setIfInBounds_toArray, List.set_cons_succ, List.set_cons_zero]
    refine wpS_freshD rfl rfl (fun w' hb hF => ?_) ?_
    · change freshAtD _ _ _ (fun v _ => v = .int .i64 r) _; have h4 := hF 20 _ rfl (by kernel_rfl); obtain ⟨B', hB', hv', hn'⟩ := h4; obtain rfl : BL = B' := (by simpa using hv'); unfold freshAtD; go_simp; exact (or_any (hn' 0 _ rfl).1 (hn' 1 _ rfl).1 HR.out).mono fun e w'' ⟨he, hw⟩ => ⟨he, hw ▸ Gr.refl _⟩
    intro v W hv; simp only [pOf, List.lookup_cons, Nat.reduceBEq, beq_self_eq_true] at hv; subst hv
    simp only [Act.put, List.setIfInBounds_toArray, List.set_cons_succ, List.set_cons_zero]
    refine wpS_nilD ?_
    intro V4 hall
    have hb := hall.1
    clear hall
    refine wpAny_ready (rs := [22]) (by kernel_rfl) (by simp) ?_
    refine AllReady.cons rfl (fun K hK => ?_) AllReady.nil
    go_simp
    refine hK _ _ ?_; clear hK K
    refine wpAny_done (by kernel_rfl) ?_ _
    go_wp2_with fail
    go_ret
    exact ⟨rfl, hG.trans hb⟩
  · go_simp
    refine hK _ _ ?_; clear hK K
    have C1 : Below w.heap.size w (w.drew.alloc (.cells #[.int .i64 0, .int .i64 0, .int .i64 0, .int .i64 0, .int .i64 0, .int .i64 0, .int .i64 0, .int .i64 0] 33)) := C0.alloc (Nat.le_refl _) _
    refine wpAnyC_op (r := 8) C1 (by kernel_rfl) rfl rfl (fun K hK => ?_)
    go_simp
    refine hK _ _ ?_; clear hK K
    have g2 : Gr w ((w.alloc (.cells #[.int .i64 0, .int .i64 0, .int .i64 0, .int .i64 0, .int .i64 0, .int .i64 0, .int .i64 0, .int .i64 0] 33)).alloc (.cells #[.int .i64 0, .int .i64 0, .int .i64 0, .int .i64 0, .int .i64 0, .int .i64 0, .int .i64 0, .int .i64 0] 33)).drew := (((Gr.refl w).alloc _).alloc _).drew
    have a0 : CellsAt ((w.alloc (.cells #[.int .i64 0, .int .i64 0, .int .i64 0, .int .i64 0, .int .i64 0, .int .i64 0, .int .i64 0, .int .i64 0] 33)).alloc (.cells #[.int .i64 0, .int .i64 0, .int .i64 0, .int .i64 0, .int .i64 0, .int .i64 0, .int .i64 0, .int .i64 0] 33)).drew w.heap.size [.int .i64 0, .int .i64 0, .int .i64 0, .int .i64 0, .int .i64 0, .int .i64 0, .int .i64 0, .int .i64 0] := (CellsAt.new w [.int .i64 0, .int .i64 0, .int .i64 0, .int .i64 0, .int .i64 0, .int .i64 0, .int .i64 0, .int .i64 0] 33).alloc _
    have a1 : CellsAt ((w.alloc (.cells #[.int .i64 0, .int .i64 0, .int .i64 0, .int .i64 0, .int .i64 0, .int .i64 0, .int .i64 0, .int .i64 0] 33)).alloc (.cells #[.int .i64 0, .int .i64 0, .int .i64 0, .int .i64 0, .int .i64 0, .int .i64 0, .int .i64 0, .int .i64 0] 33)).drew (w.heap.size + 1) [.int .i64 0, .int .i64 0, .int .i64 0, .int .i64 0, .int .i64 0, .int .i64 0, .int .i64 0, .int .i64 0] := by have h := CellsAt.new (w.alloc (.cells #[.int .i64 0, .int .i64 0, .int .i64 0, .int .i64 0, .int .i64 0, .int .i64 0, .int .i64 0, .int .i64 0] 33)) [.int .i64 0, .int .i64 0, .int .i64 0, .int .i64 0, .int .i64 0, .int .i64 0, .int .i64 0, .int .i64 0] 33; rw [World.size_alloc] at h; exact h
    generalize World.drew (World.alloc (World.alloc _ _) _) = V2 at *
    clear C0 C1
    have q0 := (a1 0 _ rfl).1; have f0 := (a1 0 _ rfl).2; have q1 := (a1 1 _ rfl).1; have f1 := (a1 1 _ rfl).2; have q2 := (a1 2 _ rfl).1; have f2 := (a1 2 _ rfl).2; have q3 := (a1 3 _ rfl).1; have f3 := (a1 3 _ rfl).2; have q4 := (a1 4 _ rfl).1; have f4 := (a1 4 _ rfl).2; have q5 := (a1 5 _ rfl).1; have f5 := (a1 5 _ rfl).2; have q6 := (a1 6 _ rfl).1; have f6 := (a1 6 _ rfl).2; have q7 := (a1 7 _ rfl).1; have f7 := (a1 7 _ rfl).2
    refine wpAnyC_op (r := 10) g2.b (by kernel_rfl) rfl rfl (fun K hK => ?_)
    go_simp
    refine hK _ _ ?_; clear hK K
    clear q0 f0 q1 f1 q2 f2 q3 f3 q4 f4 q5 f5 q6 f6 q7 f7
    skip
    have g3 : Gr w (put8 V2 (w.heap.size + 1) (.int .i64 xid) (.int .i64 xwl) (.int .i64 xwh) (.int .i64 xbl) (.int .i64 xbh) (.int .i64 xhl) (.int .i64 xhh) (.int .i64 xti)) := put8_gr g2 (by omega)
    have y6 : CellsAt (put8 V2 (w.heap.size + 1) (.int .i64 xid) (.int .i64 xwl) (.int .i64 xwh) (.int .i64 xbl) (.int .i64 xbh) (.int .i64 xhl) (.int .i64 xhh) (.int .i64 xti)) (w.heap.size + 1) [.int .i64 xid, .int .i64 xwl, .int .i64 xwh, .int .i64 xbl, .int .i64 xbh, .int .i64 xhl, .int .i64 xhh, .int .i64 xti] := put8_cells a1
    have y7 : CellsAt (put8 V2 (w.heap.size + 1) (.int .i64 xid) (.int .i64 xwl) (.int .i64 xwh) (.int .i64 xbl) (.int .i64 xbh) (.int .i64 xhl) (.int .i64 xhh) (.int .i64 xti)) (w.heap.size) [.int .i64 0, .int .i64 0, .int .i64 0, .int .i64 0, .int .i64 0, .int .i64 0, .int .i64 0, .int .i64 0] := put8_other a0 (by omega)
    clear a0 a1 g2
    dsimp only [put8] at g3 y6 y7
    generalize (World.setCell _ _ _ : World) = V5 at *
    have q0 := (y7 0 _ rfl).1; have f0 := (y7 0 _ rfl).2; have q1 := (y7 1 _ rfl).1; have f1 := (y7 1 _ rfl).2; have q2 := (y7 2 _ rfl).1; have f2 := (y7 2 _ rfl).2; have q3 := (y7 3 _ rfl).1; have f3 := (y7 3 _ rfl).2; have q4 := (y7 4 _ rfl).1; have f4 := (y7 4 _ rfl).2; have q5 := (y7 5 _ rfl).1; have f5 := (y7 5 _ rfl).2; have q6 := (y7 6 _ rfl).1; have f6 := (y7 6 _ rfl).2; have q7 := (y7 7 _ rfl).1; have f7 := (y7 7 _ rfl).2
    refine wpAnyC_op (r := 11) g3.b (by kernel_rfl) rfl rfl (fun K hK => ?_)
    go_simp
    refine hK _ _ ?_; clear hK K
    clear q0 f0 q1 f1 q2 f2 q3 f3 q4 f4 q5 f5 q6 f6 q7 f7
    have hG : Gr w (put8 V5 (w.heap.size) (.int .i64 yid) (.int .i64 ywl) (.int .i64 ywh) (.int .i64 ybl) (.int .i64 ybh) (.int .i64 yhl) (.int .i64 yhh) (.int .i64 yti)) := put8_gr g3 (by omega)
    have z7 : CellsAt (put8 V5 (w.heap.size) (.int .i64 yid) (.int .i64 ywl) (.int .i64 ywh) (.int .i64 ybl) (.int .i64 ybh) (.int .i64 yhl) (.int .i64 yhh) (.int .i64 yti)) (w.heap.size) [.int .i64 yid, .int .i64 ywl, .int .i64 ywh, .int .i64 ybl, .int .i64 ybh, .int .i64 yhl, .int .i64 yhh, .int .i64 yti] := put8_cells y7
    have z6 : CellsAt (put8 V5 (w.heap.size) (.int .i64 yid) (.int .i64 ywl) (.int .i64 ywh) (.int .i64 ybl) (.int .i64 ybh) (.int .i64 yhl) (.int .i64 yhh) (.int .i64 yti)) (w.heap.size + 1) [.int .i64 xid, .int .i64 xwl, .int .i64 xwh, .int .i64 xbl, .int .i64 xbh, .int .i64 xhl, .int .i64 xhh, .int .i64 xti] := put8_other y6 (by omega)
    clear y6 y7 g3
    dsimp only [put8] at hG z6 z7
    refine wpAnyC_end hG.b (by kernel_rfl) ?_
    refine ⟨rfl, ?_⟩
    generalize (World.setCell _ _ _ : World) = V3 at *
    have p0 := (z6 0 _ rfl).1; have r0 := (z7 0 _ rfl).1
    have p2 := (z6 2 _ rfl).1; have r2 := (z7 2 _ rfl).1
    have p3 := (z6 3 _ rfl).1; have r3 := (z7 3 _ rfl).1
    skip
    clear z6 z7 u0 v0 u1 v1 u2 v2 u3 v3 u4 v4 u5 v5 u6 v6 u7 v7 hX
    have w1 : IntKind.i64.wrap (xwh + xbl) = xwh + xbl := IntWalk.i64_in _ (by omega)
    have w2 : IntKind.i64.wrap (ywh + ybl) = ywh + ybl := IntWalk.i64_in _ (by omega)
    go_upto_region 2 with fail
    refine wp_region_RsD [(14, fun v _ => v = .int .i64 c1), (19, fun v _ => v = .int .i64 c2), (20, NewList V3.heap.size 2 [.int .i64 c1, .int .i64 c2]), (21, fun v _ => v = .int .i64 r)] [0, 1, 2, 3, 4, 5, 6, 7, 8, 9, 10, 11, 12, 13, 14, 15, 16, 17, 18, 19, 20, 21] 1 (by kernel_rfl) rfl (by simp only [List.forall_mem_cons]; exact ⟨keeps_eq, keeps_eq, keeps_list, keeps_eq, fun _ h => by cases h⟩) (by kernel_rfl) ?_
    simp only [numbered, List.filterMap_cons, List.filterMap_nil, List.getElem?_toArray, List.getElem?_cons_succ, List.getElem?_cons_zero, Option.map_some]
    show wpSD _ _ _ _ _ _ _ [(_, _), (_, _), (_, _), (_, _), (_, _), (_, _), (_, _), (_, _), (_, _), (_, _), (_, _), (_, _), (_, _), (_, _), (_, _), (_, _), (_, _), (_, _), (_, _), (_, _), (_, _), (_, _)] _ _
    (refine wpS_quietD rfl rfl ?_; intro K hK inst hx; go_big_quiet_op; (first | go_big_quiet_on | (refine ⟨_, fun _ => rfl, ?_⟩; go_big_quiet_on)); clear hx inst)
    (refine wpS_quietD rfl rfl ?_; intro K hK inst hx; go_big_quiet_op; (first | go_big_quiet_on | (refine ⟨_, fun _ => rfl, ?_⟩; go_big_quiet_on)); clear hx inst)
    (refine wpS_quietD rfl rfl ?_; intro K hK inst hx; have s0 := fun x => (fun _ => bkeep (Gr.b (BQD.below x)) r2) (hx x); go_big_quiet_op; (first | go_big_quiet_on | (refine ⟨_, fun _ => rfl, ?_⟩; go_big_quiet_on)); clear hx inst)
    (refine wpS_quietD rfl rfl ?_; intro K hK inst hx; go_big_quiet_op; (first | go_big_quiet_on | (refine ⟨_, fun _ => rfl, ?_⟩; go_big_quiet_on)); clear hx inst)
    (refine wpS_quietD rfl rfl ?_; intro K hK inst hx; go_big_quiet_op; (first | go_big_quiet_on | (refine ⟨_, fun _ => rfl, ?_⟩; go_big_quiet_on)); clear hx inst)
    (refine wpS_quietD rfl rfl ?_; intro K hK inst hx; have s0 := fun x => (fun _ => bkeep (Gr.b (BQD.below x)) r3) (hx x); go_big_quiet_op; (first | go_big_quiet_on | (refine ⟨_, fun _ => rfl, ?_⟩; go_big_quiet_on)); clear hx inst)
    (refine wpS_quietD rfl rfl ?_; intro K hK inst hx; go_big_quiet_op; (first | go_big_quiet_on | (refine ⟨_, fun _ => rfl, ?_⟩; go_big_quiet_on)); clear hx inst)
    (refine wpS_quietD rfl rfl ?_; intro K hK inst hx; go_big_quiet_op; (first | go_big_quiet_on | (refine ⟨_, fun _ => rfl, ?_⟩; go_big_quiet_on)); clear hx inst)
    (refine wpS_quietD rfl rfl ?_; intro K hK inst hx; go_big_quiet_op; (first | go_big_quiet_on | (refine ⟨_, fun _ => rfl, ?_⟩; go_big_quiet_on)); clear hx inst)
    (refine wpS_quietD rfl rfl ?_; intro K hK inst hx; have s0 := fun x => (fun _ => bkeep (Gr.b (BQD.below x)) p2) (hx x); go_big_quiet_op; (first | go_big_quiet_on | (refine ⟨_, fun _ => rfl, ?_⟩; go_big_quiet_on)); clear hx inst)
    (refine wpS_quietD rfl rfl ?_; intro K hK inst hx; go_big_quiet_op; (first | go_big_quiet_on | (refine ⟨_, fun _ => rfl, ?_⟩; go_big_quiet_on)); clear hx inst)
    (refine wpS_quietD rfl rfl ?_; intro K hK inst hx; go_big_quiet_op; (first | go_big_quiet_on | (refine ⟨_, fun _ => rfl, ?_⟩; go_big_quiet_on)); clear hx inst)
    (refine wpS_quietD rfl rfl ?_; intro K hK inst hx; have s0 := fun x => (fun _ => bkeep (Gr.b (BQD.below x)) p3) (hx x); go_big_quiet_op; (first | go_big_quiet_on | (refine ⟨_, fun _ => rfl, ?_⟩; go_big_quiet_on)); clear hx inst)
    (refine wpS_quietD rfl rfl ?_; intro K hK inst hx; go_big_quiet_op; (first | go_big_quiet_on | (refine ⟨_, fun _ => rfl, ?_⟩; go_big_quiet_on)); clear hx inst)
    refine wpS_freshD rfl rfl (fun w' hb hF => ?_) ?_
    · change freshAtD _ _ _ (fun v _ => v = .int .i64 c1) _; unfold freshAtD; go_simp; exact compare_any.mono fun e w'' ⟨he, hw⟩ => ⟨by rw [← HC1.out]; exact he, hw ▸ Gr.refl _⟩
    intro v W hv; simp only [pOf, List.lookup_cons, Nat.reduceBEq, beq_self_eq_true] at hv; subst hv
    simp only [Act.put, List.setIfInBounds_toArray, List.set_cons_succ, List.set_cons_zero]
    (refine wpS_quietD rfl rfl ?_; intro K hK inst hx; go_big_quiet_op; (first | go_big_quiet_on | (refine ⟨_, fun _ => rfl, ?_⟩; go_big_quiet_on)); clear hx inst)
    (refine wpS_quietD rfl rfl ?_; intro K hK inst hx; have s0 := fun x => (fun _ => bkeep (Gr.b (BQD.below x)) p0) (hx x); go_big_quiet_op; (first | go_big_quiet_on | (refine ⟨_, fun _ => rfl, ?_⟩; go_big_quiet_on)); clear hx inst)
    (refine wpS_quietD rfl rfl ?_; intro K hK inst hx; go_big_quiet_op; (first | go_big_quiet_on | (refine ⟨_, fun _ => rfl, ?_⟩; go_big_quiet_on)); clear hx inst)
    (refine wpS_quietD rfl rfl ?_; intro K hK inst hx; have s0 := fun x => (fun _ => bkeep (Gr.b (BQD.below x)) r0) (hx x); go_big_quiet_op; (first | go_big_quiet_on | (refine ⟨_, fun _ => rfl, ?_⟩; go_big_quiet_on)); clear hx inst)
    refine wpS_freshD rfl rfl (fun w' hb hF => ?_) ?_
    · change freshAtD _ _ _ (fun v _ => v = .int .i64 c2) _; unfold freshAtD; go_simp; exact compare_any.mono fun e w'' ⟨he, hw⟩ => ⟨by rw [← HC2.out]; exact he, hw ▸ Gr.refl _⟩
    intro v W hv; simp only [pOf, List.lookup_cons, Nat.reduceBEq, beq_self_eq_true] at hv; subst hv
    simp only [Act.put, List.setIfInBounds_toArray, List.set_cons_succ, List.set_cons_zero]
    refine wpS_freshD rfl rfl (fun w' hb hF => ?_) ?_
    · change freshAtD _ _ _ (NewList V3.heap.size 2 [.int .i64 c1, .int .i64 c2]) _; unfold freshAtD; go_simp; exact listD hb
    intro v W hv; simp only [pOf, List.lookup_cons, Nat.reduceBEq, beq_self_eq_true] at hv; obtain ⟨BL, hBL, rfl, -⟩ := hv
    simp only [Act.put, List.setIfInBounds_toArray, List.set_cons_succ, List.set_cons_zero]
    refine wpS_freshD rfl rfl (fun w' hb hF => ?_) ?_
    · change freshAtD _ _ _ (fun v _ => v = .int .i64 r) _; have h4 := hF 20 _ rfl (by kernel_rfl); obtain ⟨B', hB', hv', hn'⟩ := h4; obtain rfl : BL = B' := (by simpa using hv'); unfold freshAtD; go_simp; exact (or_any (hn' 0 _ rfl).1 (hn' 1 _ rfl).1 HR.out).mono fun e w'' ⟨he, hw⟩ => ⟨he, hw ▸ Gr.refl _⟩
    intro v W hv; simp only [pOf, List.lookup_cons, Nat.reduceBEq, beq_self_eq_true] at hv; subst hv
    simp only [Act.put, List.setIfInBounds_toArray, List.set_cons_succ, List.set_cons_zero]
    refine wpS_nilD ?_
    intro V4 hall
    have hb := hall.1
    clear hall
    refine wpAny_ready (rs := [22]) (by kernel_rfl) (by simp) ?_
    refine AllReady.cons rfl (fun K hK => ?_) AllReady.nil
    go_simp
    refine hK _ _ ?_; clear hK K
    refine wpAny_done (by kernel_rfl) ?_ _
    go_wp2_with fail
    go_ret
    exact ⟨rfl, hG.trans hb⟩

end Go.Proofs.Ytnchhleokdkejaa

/- The library's contracts of slices.SortFunc at slices of numbers, at this translation's numbers. -/
namespace Go.Proofs
open Go.Shelf
def Try.lays125_ren : Go.Shelf.Ren := ⟨fun | 125 => 143 | 128 => 156 | 129 => 157 | n => n, fun | 46 => 176 | 3 => 3 | 51 => 188 | 53 => 190 | 4 => 4 | 5 => 5 | 9 => 9 | n => n, fun | n => n⟩
theorem Try.lays125 : Go.Proofs.Lays.n125 Try.prog Try.lays125_ren := {
  mixed := by kernel_rfl
  f125 := Try.func143.trans (congrArg some (by kernel_rfl))
  f128 := Try.func156.trans (congrArg some (by kernel_rfl))
  f129 := Try.func157.trans (congrArg some (by kernel_rfl))
  t3 := Try.underlying3
  a3 := Try.isAgg3
  z3 := Try.sizeOf3
  v3 := Try.zeroValue3
  t4 := Try.underlying4
  a4 := Try.isAgg4
  z4 := Try.sizeOf4
  v4 := Try.zeroValue4
  t5 := Try.underlying5
  a5 := Try.isAgg5
  z5 := Try.sizeOf5
  v5 := Try.zeroValue5
  t9 := Try.underlying9
  a9 := Try.isAgg9
  z9 := Try.sizeOf9
  v9 := Try.zeroValue9
  t46 := Try.underlying176
  a46 := Try.isAgg176
  z46 := Try.sizeOf176
  v46 := Try.zeroValue176
  t51 := Try.underlying188
  a51 := Try.isAgg188
  z51 := Try.sizeOf188
  v51 := Try.zeroValue188
  t53 := Try.underlying190
  a53 := Try.isAgg190
  z53 := Try.sizeOf190
  v53 := Try.zeroValue190 }
theorem Try.bits_Len (x : Int) (w : World) (h0 : 0 ≤ x) (h1 : x ≤ 18446744073709551615) :
    Calls Try.prog 143 #[.int .u64 x] w fun e w' => e = .returned (.int .i64 (Lib.bitLen x.toNat)) ∧ w' = w := Any.bits_Len Try.lays125 x w h0 h1
def Try.sortIdx_ren : Go.Shelf.Ren := ⟨fun | 6 => 129 | 15 => 143 | 14 => 142 | 28 => 156 | 29 => 157 | 20 => 148 | 21 => 149 | 22 => 150 | 23 => 151 | 24 => 152 | 25 => 153 | 26 => 154 | 27 => 155 | 46 => 158 | 47 => 159 | 48 => 160 | 49 => 161 | 50 => 162 | 57 => 163 | n => n, fun | 22 => 41 | 24 => 3 | 25 => 98 | 3 => 3 | 39 => 176 | 0 => 0 | 53 => 188 | 55 => 190 | 4 => 4 | 46 => 181 | 45 => 180 | 50 => 185 | 5 => 5 | 9 => 9 | 66 => 191 | 70 => 195 | 76 => 197 | 77 => 198 | n => n, fun | n => n⟩
theorem Try.sortIdx : Go.Proofs.SlLaysF.n6 Try.prog Try.sortIdx_ren := {
  mixed := by kernel_rfl
  f6 := ⟨Try.f129.name, by decide, Try.func129.trans (congrArg some (by kernel_rfl))⟩
  f14 := ⟨Try.f142.name, by decide, Try.func142.trans (congrArg some (by kernel_rfl))⟩
  f15 := Try.func143.trans (congrArg some (by kernel_rfl))
  f20 := ⟨Try.f148.name, by decide, Try.func148.trans (congrArg some (by kernel_rfl))⟩
  f21 := ⟨Try.f149.name, by decide, Try.func149.trans (congrArg some (by kernel_rfl))⟩
  f22 := ⟨Try.f150.name, by decide, Try.func150.trans (congrArg some (by kernel_rfl))⟩
  f23 := ⟨Try.f151.name, by decide, Try.func151.trans (congrArg some (by kernel_rfl))⟩
  f24 := ⟨Try.f152.name, by decide, Try.func152.trans (congrArg some (by kernel_rfl))⟩
  f25 := ⟨Try.f153.name, by decide, Try.func153.trans (congrArg some (by kernel_rfl))⟩
  f26 := ⟨Try.f154.name, by decide, Try.func154.trans (congrArg some (by kernel_rfl))⟩
  f27 := ⟨Try.f155.name, by decide, Try.func155.trans (congrArg some (by kernel_rfl))⟩
  f28 := Try.func156.trans (congrArg some (by kernel_rfl))
  f29 := Try.func157.trans (congrArg some (by kernel_rfl))
  f46 := ⟨Try.f158.name, by decide, Try.func158.trans (congrArg some (by kernel_rfl))⟩
  f47 := Try.func159.trans (congrArg some (by kernel_rfl))
  f48 := Try.func160.trans (congrArg some (by kernel_rfl))
  f49 := ⟨Try.f161.name, by decide, Try.func161.trans (congrArg some (by kernel_rfl))⟩
  f50 := ⟨Try.f162.name, by decide, Try.func162.trans (congrArg some (by kernel_rfl))⟩
  f57 := ⟨Try.f163.name, by decide, Try.func163.trans (congrArg some (by kernel_rfl))⟩
  t0 := Try.underlying0
  a0 := Try.isAgg0
  z0 := Try.sizeOf0
  v0 := Try.zeroValue0
  t3 := Try.underlying3
  a3 := Try.isAgg3
  z3 := Try.sizeOf3
  v3 := Try.zeroValue3
  t4 := Try.underlying4
  a4 := Try.isAgg4
  z4 := Try.sizeOf4
  v4 := Try.zeroValue4
  t5 := Try.underlying5
  a5 := Try.isAgg5
  z5 := Try.sizeOf5
  v5 := Try.zeroValue5
  t9 := Try.underlying9
  a9 := Try.isAgg9
  z9 := Try.sizeOf9
  v9 := Try.zeroValue9
  t22 := Try.underlying41
  a22 := Try.isAgg41
  z22 := Try.sizeOf41
  v22 := Try.zeroValue41
  a24 := Try.isAgg3
  z24 := Try.sizeOf3
  t25 := Try.underlying98
  a25 := Try.isAgg98
  z25 := Try.sizeOf98
  v25 := Try.zeroValue98
  t39 := Try.underlying176
  a39 := Try.isAgg176
  z39 := Try.sizeOf176
  v39 := Try.zeroValue176
  t45 := Try.underlying180
  a45 := Try.isAgg180
  z45 := Try.sizeOf180
  v45 := Try.zeroValue180
  t46 := Try.underlying181
  a46 := Try.isAgg181
  z46 := Try.sizeOf181
  v46 := Try.zeroValue181
  t50 := Try.underlying185
  a50 := Try.isAgg185
  z50 := Try.sizeOf185
  v50 := Try.zeroValue185
  t53 := Try.underlying188
  a53 := Try.isAgg188
  z53 := Try.sizeOf188
  v53 := Try.zeroValue188
  t55 := Try.underlying190
  a55 := Try.isAgg190
  z55 := Try.sizeOf190
  v55 := Try.zeroValue190
  t66 := Try.underlying191
  a66 := Try.isAgg191
  z66 := Try.sizeOf191
  v66 := Try.zeroValue191
  t70 := Try.underlying195
  a70 := Try.isAgg195
  z70 := Try.sizeOf195
  v70 := Try.zeroValue195
  t76 := Try.underlying197
  a76 := Try.isAgg197
  z76 := Try.sizeOf197
  v76 := Try.zeroValue197
  t77 := Try.underlying198
  a77 := Try.isAgg198
  z77 := Try.sizeOf198
  v77 := Try.zeroValue198 }
end Go.Proofs

/- The order of the setter's rule, and saggars in this order. -/
namespace Go.Proofs.Ytnchhleokdkejaa
open Go.RowKit Go.Pb Go.Pb.Ware Go.Pb.Sag
set_option linter.unusedVariables false
set_option linter.unusedSimpArgs false

open Go.Proofs Go.Sort Go.Pb.Bung
set_option maxHeartbeats 400000 in
theorem ins_no (p : Option Addr) (fv : Value) (w : World) : Calls Try.prog 148 #[.slice p 0 0, .int .i64 0, .int .i64 0, fv] w (fun e w' => e = .returned (.tuple #[]) ∧ w' = w) := by
  go_enter Try.func148, Try.ntmps148
  go_wp2_with fail
  refine wp_loop_rounds 1 ?_
  rw [rounds_succ]
  go_wp2_with fail
  go_end0
  exact ⟨rfl, rfl⟩
set_option maxHeartbeats 400000 in
theorem pdq_no (p : Option Addr) (lim : Int) (fv : Value) (w : World) : Calls Try.prog 142 #[.slice p 0 0, .int .i64 0, .int .i64 0, .int .i64 lim, fv] w (fun e w' => e = .returned (.tuple #[]) ∧ w' = w) := by
  go_enter Try.func142, Try.ntmps142
  go_wp2_with fail
  refine wp_loop_rounds 1 ?_
  rw [rounds_succ]
  go_wp2_with (go_at_call 148; refine (ins_no _ _ _).mono ?_; rintro e w' ⟨rfl, rfl⟩)
  (try simp only [Exit.inBlock, Exit.then])
  refine bodyPost_ret (results_none rfl _ _ _) rfl ?_
  exact ⟨rfl, rfl⟩
set_option maxHeartbeats 400000 in
theorem sort_no (p : Option Addr) (fv : Value) (w : World) : Calls Try.prog 129 #[.slice p 0 0, fv] w (fun e w' => e = .returned (.tuple #[]) ∧ w' = w) := by
  go_enter Try.func129, Try.ntmps129
  go_wp2_with (first | (go_at_call 143; refine (Try.bits_Len 0 _ (by omega) (by omega)).mono ?_; rintro e w' ⟨rfl, rfl⟩) | (go_at_call 142; refine (pdq_no _ _ _ _).mono ?_; rintro e w' ⟨rfl, rfl⟩))
  go_end0
  exact ⟨rfl, rfl⟩

set_option maxRecDepth 100000 in
set_option maxHeartbeats 800000 in
/-- Sorting the indices by the rule. -/
theorem sortRule_any {w0 w : World} {X M n : Nat} {lv : Value} {l : List Sg} (hX : w.cell? ⟨X, 0, none⟩ = some lv) (hXM : X < M) (h0 : w0.heap.size ≤ M) (hB : Below w0.heap.size w0 w) (h : RowsAt 8 w0 lv (l.map rowG)) (hok : ∀ s ∈ l, sgOk s = true) (hid : IdsN l) (hn : l.length = n) (hl : l.length ≤ 30) (hM : M < w.heap.size) (hU : UpN M n n w) :
    Calls Try.prog 129 #[.slice (some ⟨M, 0, none⟩) n n, .func (.func 130) #[] #[.pointer (some ⟨X, 0, none⟩)]] w (fun e w' => e = .returned (.tuple #[]) ∧ Below M w w' ∧ NumsAt w' (.slice (some ⟨M, 0, none⟩) n n) (ruleL l)) := by
  rcases Nat.eq_zero_or_pos n with hz | hz
  · subst hz
    rw [List.length_eq_zero_iff] at hn
    subst hn
    refine (sort_no _ _ w).mono ?_
    rintro e w' ⟨rfl, rfl⟩
    exact ⟨rfl, Below.refl _ _, .inr ⟨⟨M, 0, none⟩, 0, rfl, Nat.le_refl _, by omega, fun k z hk => by simp [ruleL, ruleN, ruleUp] at hk⟩⟩
  · obtain ⟨m, hm⟩ : ∃ m, n = m + 1 := ⟨n - 1, by omega⟩
    have hs := Any.slices_SortFunc (α := Ix m) Try.sortIdx encX (fun _ => rfl) (cmpI l) (cmpI_swo l m) 130 #[.pointer (some ⟨X, 0, none⟩)] M 0 n (valI m) w (enters_of Try.func130 (by kernel_rfl) rfl)
      (fun k os dk _ x y => by
        have hb := below_sort (w := w) (B := M) (b := M) (m := k) (d := dk) (os := os) (Nat.le_refl _) (by omega)
        have hx2 : (sortWorld encX w M 0 k dk os).cell? ⟨X, 0, none⟩ = some lv := (hb.1.cell (p := ⟨X, 0, none⟩) hXM).trans hX
        refine (ruleCmp_any hx2 (h.below (hB.trans (hb.1.mono h0))) hok (i := x.1) (j := y.1) (by have := x.2; omega) (by have := y.2; omega)).mono ?_
        rintro e w' ⟨rfl, hg⟩
        exact ⟨rfl, hg.grow⟩)
      (holds_made hm hU) hM (by rw [valI_size]; omega)
    rw [valI_size] at hs
    rw [show m + 1 = n from hm.symm] at hs
    refine hs.mono ?_
    rintro e w' ⟨rfl, d, q, os, hp, hso, rfl⟩
    rw [show n = (valI m).size by rw [valI_size]; exact hm] at hp hso
    obtain ⟨p1, p2⟩ := sorted_rule (hn.trans hm) hid hp hso
    have hb := below_sort (w := w) (B := M) (b := M) (m := q) (d := d) (os := os) (Nat.le_refl _) (by omega)
    have hh := holds_sortWorld encX w M 0 q (valI m) d os hM (holds_made hm hU) (by rw [p1, valI_size])
    refine ⟨rfl, hb.1, ?_⟩
    have hq := nums_holds (n := n) (by rw [p1]; exact hm.symm) (by omega) (by omega) hh
    rw [p2] at hq
    exact hq

theorem Try.infoIn : (Try.prog.info? 3).map (fun i => (i.zero, i.size, i.bytes)) = some (some (.int .i64 0), 1, 8) := by kernel_rfl
set_option maxRecDepth 100000 in
set_option maxHeartbeats 1000000 in
theorem rule_any {w : World} {v : Value} {l : List Sg} (h : RowsAt 8 w v (l.map rowG)) (hk : listOk l = true) :
    Calls Try.prog 99 #[v] w (fun e w' => ∃ u, e = .returned u ∧ Below w.heap.size w w' ∧ NumsAt w' u (ruleL l)) := by
  obtain ⟨i0, hi0, hz0, hz1, hz2⟩ := info_parts Try.infoIn
  obtain ⟨a, cap, rfl, hll⟩ := h.shape
  rw [List.length_map] at h hll ⊢
  obtain ⟨hl, hok, hid⟩ := listOk_iff.1 hk
  obtain ⟨n, hn⟩ : ∃ n, l.length = n := ⟨_, rfl⟩
  rw [hn] at h hll ⊢
  have HN : Hid (l.length = n) := hn
  have hmf : ∀ (fn : Fn) (first cap : Array Value) (w : World), (Instr.makeFunc fn first cap).run Try.prog w = .ok (.func fn first cap) w := fun _ _ _ _ => rfl
  go_enter Try.func99, Try.ntmps99
  go_upto_region 2 with (at_make; refine wpList_make_full _ rfl _ _ 41 rfl (w.heap.size + 1) 3 i0 (.int .i64 0) 1 Try.underlying41 hi0 hz0 hz1 .i64 .i64 _ _ n rfl rfl rfl rfl (by rw [hz2]; omega) (by unfold maxLen; omega) (by simp) ?_; intro w5 ho5 hg5)
  simp only [World.size_alloc] at ho5
  have hm5 := made_at (B := w.heap.size + 1) rfl ho5
  have hb5 : Below (w.alloc (.cells #[.slice a n cap] 24)).heap.size (w.alloc (.cells #[.slice a n cap] 24)) w5 := (Below.refl _ _).grown hg5 (Nat.le_refl _) (fun k h => by cases h)
  have hz5 : w.heap.size + 1 < w5.heap.size := by have := (World.ownsRow.lt ho5 (w.heap.size + 1) (by simp [Value.ownBlock])).2; exact this
  have hB5 : Below w.heap.size w w5 := ((Below.refl w.heap.size w).alloc (Nat.le_refl _) _).trans (hb5.mono (by simp))
  have x5 : w5.cell? ⟨w.heap.size, 0, none⟩ = some (.slice a n cap) := bkeep hb5 (by simp [go_sem])
  have U5 : UpN (w.heap.size + 1) n 0 w5 := UpN.start hm5
  clear ho5 hg5 hm5 hb5
  go_wp2_with fail
  go_loopg [10] n (fun gk iv wr => ∃ k : Nat, k ≤ n ∧ gk = n - k ∧ iv = .int .i64 k ∧ UpN (w.heap.size + 1) n k wr ∧ Below w.heap.size w wr ∧ w.heap.size + 1 < wr.heap.size ∧ wr.cell? ⟨w.heap.size, 0, none⟩ = some (.slice a n cap))
  case atStart => exact ⟨0, Nat.zero_le _, rfl, rfl, U5, hB5, hz5, x5⟩
  case round =>
    clear U5 hB5 hz5 x5
    obtain ⟨k, hk1, hgk, rfl, hU, hB, hz, hx⟩ := hrel
    have HGK : Hid (gk = n - k) := hgk; clear hgk
    by_cases hlt : k < n
    · have hki : (k : Int) < (n : Int) := by omega
      obtain ⟨q0, f0⟩ := hU k hlt
      go_wp2_with fail
      go_roundg (n - (k + 1))
      case measure => have h := HGK.out; omega
      case rel => exact ⟨k + 1, by omega, rfl, by go_num, hU.put hlt, hB.setCell (p := ⟨w.heap.size + 1, k, none⟩) (Nat.le_succ _) _, by simpa using hz, (World.cell?_setCell_other _ _ _ _ (by intro e; injection e with e _; omega)).trans hx⟩
    · obtain rfl : k = n := by omega
      go_wp2_with fail
      refine (sortRule_any (w0 := w) hx (Nat.lt_succ_self _) (Nat.le_succ _) hB h hok hid HN.out hl hz hU).mono ?_
      rintro e w9 ⟨rfl, hb9, hn9⟩
      go_wp2_with fail
      go_ret
      exact ⟨_, rfl, hB.trans (hb9.mono (Nat.le_succ _)), hn9⟩

set_option maxRecDepth 100000 in
set_option maxHeartbeats 1000000 in
theorem ruled_any {w : World} {v : Value} {l : List Sg} (h : RowsAt 8 w v (l.map rowG)) (hk : listOk l = true) :
    Calls Try.prog 101 #[v] w (NewSgs 33 (ruledL l) w) := by
  have hl := (listOk_iff.1 hk).1
  unfold NewSgs
  go_enter Try.func101, Try.ntmps101
  go_wp2_with fail
  refine (rule_any (h.below (by go_grown)) hk).mono ?_
  rintro e w2 ⟨u, rfl, hb2, hu⟩
  have hz2 := hb2.size
  go_wp2_with fail
  refine (chosenG_any (h.below hb2) (by omega) hu (by rw [ruleL_length]; omega) (ruleL_in l)).mono ?_
  unfold NewSgs
  rintro e w3 ⟨x, rfl, hb3, ho3⟩
  go_wp2_with fail
  go_ret
  exact ⟨_, rfl, hb2.trans (hb3.mono hz2), owns_base hz2 ho3⟩

end Go.Proofs.Ytnchhleokdkejaa

/- What the reference of layer 2 does, by plain maths: covers, room, what can be packed. -/
namespace Go.Pb.Sag
open Go Go.Pb Go.Pb.Ware Go.RowKit
set_option linter.unusedVariables false
/-- No foot is higher than the box, and all together are not too heavy. -/
def lowB (s : Bx) (fs : List Ft) : Bool := !troubleB s fs 1 && !troubleB s fs 3
end Go.Pb.Sag

/- The fewest groups: whatever groups are accepted, the search finds some that are no more. -/
namespace Go.Pb.Sag
open Go Go.Pb Go.Pb.Ware Go.RowKit
set_option linter.unusedVariables false
/-- What of a group lies below i. -/
def below (i : Nat) (g : List Int) : List Int := g.filter fun z => decide (z < (i : Int))
end Go.Pb.Sag

/- Partitions of the reference of layer 2, by plain maths: the first one is the groups that the program's search finds. -/
namespace Go.Pb.Sag
open Go Go.Pb Go.Pb.Ware Go.RowKit
set_option linter.unusedVariables false
/-- The indices, from i on, of what is g. -/
def whereL (g : Nat) : Nat → List Nat → List Int
  | _, [] => []
  | i, a :: l => if a = g then (i : Int) :: whereL g (i + 1) l else whereL g (i + 1) l
/-- Lists of indices by group. -/
def groupedL (of : List Nat) (many : Nat) : List (List Int) := (List.range many).map fun g => whereL g 0 of
theorem grouped_len {of : List Nat} {many : Nat} : (groupedL of many).length = many := by unfold groupedL; simp
theorem grouped_at {of : List Nat} {many k : Nat} (h : k < many) : (groupedL of many)[k]? = some (whereL k 0 of) := by unfold groupedL; simp [h]
end Go.Pb.Sag

/- The fewest parts that all do: the search for them, and what it holds in memory. -/
namespace Go.Pb.Sag
open Go Go.Pb Go.Pb.Ware Go.RowKit
set_option linter.unusedVariables false
/-- The first way to put the things from i on (d of them) into at most so many parts; none if there is none. -/
def putG (does : List Int → Bool) (most : Nat) : Nat → Nat → List (List Int) → Option (List (List Int))
  | 0, _, gs => some gs
  | d + 1, i, gs =>
    match (List.range gs.length).findSome? (fun k => if does (gs.getD k [] ++ [(i : Int)]) = true then putG does most d (i + 1) (gs.set k (gs.getD k [] ++ [(i : Int)])) else none) with
    | some r => some r
    | none => if gs.length = most then none else (if does [(i : Int)] = true then putG does most d (i + 1) (gs ++ [[(i : Int)]]) else none)
def tryG (does : List Int → Bool) (most d i : Nat) (gs : List (List Int)) (k : Nat) : Option (List (List Int)) := if does (gs.getD k [] ++ [(i : Int)]) = true then putG does most d (i + 1) (gs.set k (gs.getD k [] ++ [(i : Int)])) else none
theorem tryG_last (does : List Int → Bool) (most d i : Nat) (gs : List (List Int)) : tryG does most d i (gs ++ [[]]) gs.length = if does [(i : Int)] = true then putG does most d (i + 1) (gs ++ [[(i : Int)]]) else none := by
  unfold tryG
  rw [List.getD_eq_getElem?_getD, List.getElem?_append_right (Nat.le_refl _), Nat.sub_self, List.set_append_right _ _ (Nat.le_refl _), Nat.sub_self]
  rfl
theorem putG_succ (does : List Int → Bool) (most d i : Nat) (gs : List (List Int)) : putG does most (d + 1) i gs = match (List.range gs.length).findSome? (tryG does most d i gs) with
    | some r => some r
    | none => if gs.length = most then none else tryG does most d i (gs ++ [[]]) gs.length := by rw [tryG_last, putG]; rfl
theorem putG_some {does : List Int → Bool} {most : Nat} : ∀ (d i : Nat) (gs : List (List Int)), (∀ j, i ≤ j → j < i + d → does [(j : Int)] = true) → i + d ≤ most → gs.length ≤ i → ∃ r, putG does most d i gs = some r
  | 0, i, gs, _, _, _ => ⟨gs, rfl⟩
  | d + 1, i, gs, h, h1, h2 => by
    rw [putG_succ]
    cases hf : (List.range gs.length).findSome? (tryG does most d i gs) with
    | some r => exact ⟨r, rfl⟩
    | none =>
      dsimp only
      rw [if_neg (by omega), tryG_last, if_pos (h i (Nat.le_refl _) (by omega))]
      exact putG_some d (i + 1) _ (fun j h3 h4 => h j (by omega) (by omega)) (by omega) (by rw [List.length_append, List.length_singleton]; omega)
/-- Parts of things below i: as groups are, and each rises. -/
def GoodR (i : Nat) (gs : List (List Int)) : Prop := Good i gs ∧ ∀ g ∈ gs, g.Pairwise (· < ·)
theorem GoodR.nil : GoodR 0 [] := ⟨Good.nil, fun g h => by cases h⟩
theorem rise_snoc {i : Nat} {g : List Int} (h : g.Pairwise (· < ·)) (hl : ∀ z ∈ g, 0 ≤ z ∧ z < (i : Int)) : (g ++ [(i : Int)]).Pairwise (· < ·) := by
  rw [List.pairwise_append]
  exact ⟨h, List.pairwise_singleton _ _, fun a ha b hb => by rw [List.mem_singleton.1 hb]; exact (hl a ha).2⟩
theorem GoodR.push {i k : Nat} {gs : List (List Int)} {g : List Int} (h : GoodR i gs) (hg : gs[k]? = some g) : GoodR (i + 1) (gs.set k (g ++ [(i : Int)])) := by
  refine ⟨h.1.push hg, fun g' hm => ?_⟩
  have hgm := List.mem_of_getElem? hg
  rcases List.mem_or_eq_of_mem_set hm with h1 | rfl
  · exact h.2 g' h1
  · exact rise_snoc (h.2 g hgm) (h.1.lt g hgm)
theorem GoodR.snoc {i : Nat} {gs : List (List Int)} (h : GoodR i gs) : GoodR (i + 1) (gs ++ [[(i : Int)]]) := by
  refine ⟨h.1.snoc, fun g hm => ?_⟩
  rcases List.mem_append.1 hm with h1 | h1
  · exact h.2 g h1
  · simp at h1; subst h1; exact List.pairwise_singleton _ _
theorem set_last (gs : List (List Int)) (g : List Int) : (gs ++ [[]]).set gs.length g = gs ++ [g] := by
  rw [List.set_append_right _ _ (Nat.le_refl _), Nat.sub_self]; rfl
theorem putG_good {does : List Int → Bool} {most : Nat} : ∀ (d i : Nat) (gs rs : List (List Int)), GoodR i gs → gs.length ≤ most → putG does most d i gs = some rs → GoodR (i + d) rs ∧ rs.length ≤ most
  | 0, i, gs, rs, hG, hm, h => by
    rw [putG] at h; injection h with h; subst h; exact ⟨hG, hm⟩
  | d + 1, i, gs, rs, hG, hm, h => by
    rw [putG_succ] at h
    cases hf : (List.range gs.length).findSome? (tryG does most d i gs) with
    | some r =>
      rw [hf] at h
      injection h with h
      subst h
      obtain ⟨k, hk, h2⟩ := find_some hf
      unfold tryG at h2
      split at h2
      · have hg : gs[k]? = some gs[k] := List.getElem?_eq_getElem hk
        rw [List.getD_eq_getElem?_getD, hg, Option.getD_some] at h2
        have := putG_good d (i + 1) _ _ (hG.push hg) (by rw [List.length_set]; exact hm) h2
        rw [show i + 1 + d = i + (d + 1) by omega] at this
        exact this
      · cases h2
    | none =>
      rw [hf] at h
      dsimp only at h
      split at h
      · cases h
      · rw [tryG_last] at h
        split at h
        · have := putG_good d (i + 1) _ _ hG.snoc (by rw [List.length_append, List.length_singleton]; omega) h
          rw [show i + 1 + d = i + (d + 1) by omega] at this
          exact this
        · cases h
/-- The fewest parts: what Fewest answers. -/
def fewG (does : List Int → Bool) (n : Nat) : Option (List (List Int)) :=
  if (List.range n).all (fun j => does [(j : Int)]) = true then (List.range (n + 1)).findSome? (fun m => putG does m n 0 []) else none

/-- From block B on all is as it was. -/
structure Above (B : Nat) (W W' : World) : Prop where
  size : W.heap.size ≤ W'.heap.size
  block : ∀ b, B ≤ b → b < W.heap.size → W'.heap[b]? = W.heap[b]?
theorem Above.of_below {B : Nat} {W W' : World} (h : Below W.heap.size W W') : Above B W W' := ⟨h.size, fun b _ h1 => h.block b h1⟩
theorem Above.cell {B b o : Nat} {W W' : World} {v : Value} (h : Above B W W') (hb : B ≤ b) (hc : W.cell? ⟨b, o, none⟩ = some v) : W'.cell? ⟨b, o, none⟩ = some v :=
  (World.cell?_of_block (a := ⟨b, o, none⟩) (h.block b hb (World.block_lt_of_cell? W _ hc))).trans hc
theorem Above.free {B b o : Nat} {W W' : World} {v : Value} (h : Above B W W') (hb : B ≤ b) (hc : W.cell? ⟨b, o, none⟩ = some v) (hf : W.frozen? ⟨b, o, none⟩ = false) : W'.frozen? ⟨b, o, none⟩ = false :=
  (World.frozen?_of_block (a := ⟨b, o, none⟩) (h.block b hb (World.block_lt_of_cell? W _ hc))).trans hf
theorem owns_above {B lo e s n : Nat} {W W' : World} {v : Value} {xs : List Value} (h : W.ownsRow lo e s v n xs) (hB : B ≤ lo) (ha : Above B W W') : W'.ownsRow lo e s v n xs := by
  refine ⟨h.1, ?_⟩
  rcases h.2 with hn | ⟨g, cap, cur, h1, h2, h3, h4⟩
  · exact .inl hn
  · exact .inr ⟨g, cap, cur, h1, h2, (ha.block g (by omega) (Array.getElem?_eq_some_iff.1 h3).1).trans h3, h4⟩
/-- No two slices share a block. -/
def Apart (vs : List Value) : Prop := ∀ (j k : Nat) (u v : Value), j ≠ k → vs[j]? = some u → vs[k]? = some v → u.ownBlock = none ∨ u.ownBlock ≠ v.ownBlock
/-- The parts so far, in the box B + 3; their memory lies behind the six boxes. -/
def PartsAt (B TO TI : Nat) (gs : List (List Int)) (W : World) : Prop := ∃ (gv : Value) (vs : List Value), (W.cell? ⟨B + 3, 0, none⟩ = some gv ∧ W.frozen? ⟨B + 3, 0, none⟩ = false) ∧ W.ownsRow (B + 6) TO 1 gv gs.length vs ∧ RowsIn (B + 6) TI W vs gs ∧ Apart vs ∧ B + 6 ≤ W.heap.size
theorem PartsAt.keep {B TO TI : Nat} {gs : List (List Int)} {W W' : World} (h : PartsAt B TO TI gs W) (ha : Above B W W') : PartsAt B TO TI gs W' := by
  obtain ⟨gv, vs, ⟨c1, c2⟩, ho, hr, hA, hs⟩ := h
  exact ⟨gv, vs, ⟨ha.cell (by omega) c1, ha.free (by omega) c1 c2⟩, owns_above ho (by omega) ha, fun k v g h1 h2 => owns_above (hr k v g h1 h2) (by omega) ha, hA, by have := ha.size; omega⟩
/-- The five other boxes. -/
def BoxesAt (B : Nat) (a0 a1 a2 a4 a5 : Value) (W : World) : Prop := W.cell? ⟨B, 0, none⟩ = some a0 ∧ W.cell? ⟨B + 1, 0, none⟩ = some a1 ∧ W.cell? ⟨B + 2, 0, none⟩ = some a2 ∧ W.cell? ⟨B + 4, 0, none⟩ = some a4 ∧ W.cell? ⟨B + 5, 0, none⟩ = some a5
theorem BoxesAt.keep {B : Nat} {a0 a1 a2 a4 a5 : Value} {W W' : World} (h : BoxesAt B a0 a1 a2 a4 a5 W) (hb : ∀ b, B ≤ b → b < B + 6 → b ≠ B + 3 → W'.heap[b]? = W.heap[b]?) : BoxesAt B a0 a1 a2 a4 a5 W' := by
  obtain ⟨h0, h1, h2, h4, h5⟩ := h
  have key : ∀ {b : Nat} {v : Value}, B ≤ b → b < B + 6 → b ≠ B + 3 → W.cell? ⟨b, 0, none⟩ = some v → W'.cell? ⟨b, 0, none⟩ = some v := fun h1 h2 h3 h4 => (World.cell?_of_block (a := ⟨_, 0, none⟩) (hb _ h1 h2 h3)).trans h4
  exact ⟨key (by omega) (by omega) (by omega) h0, key (by omega) (by omega) (by omega) h1, key (by omega) (by omega) (by omega) h2, key (by omega) (by omega) (by omega) h4, key (by omega) (by omega) (by omega) h5⟩
theorem BoxesAt.above {B : Nat} {a0 a1 a2 a4 a5 : Value} {W W' : World} (h : BoxesAt B a0 a1 a2 a4 a5 W) (hs : B + 6 ≤ W.heap.size) (ha : Above B W W') : BoxesAt B a0 a1 a2 a4 a5 W' := h.keep fun b h1 h2 _ => ha.block b h1 (by omega)
theorem BoxesAt.below {B : Nat} {a0 a1 a2 a4 a5 : Value} {W W' : World} (h : BoxesAt B a0 a1 a2 a4 a5 W) (hb : Below (B + 6) W W') : BoxesAt B a0 a1 a2 a4 a5 W' := h.keep fun b h1 h2 _ => hb.block b h2
theorem BoxesAt.set {B : Nat} {a0 a1 a2 a4 a5 v : Value} {W : World} (h : BoxesAt B a0 a1 a2 a4 a5 W) : BoxesAt B a0 a1 a2 a4 a5 (W.setCell ⟨B + 3, 0, none⟩ v) := h.keep fun b h1 h2 h3 => Below.heap_setCell _ _ _ _ h3
/-- What is there behind an append to the part k, ahead of its store. -/
theorem PartsAt.push {B TO TI i k : Nat} (hT : TO ≠ TI) {gs : List (List Int)} {g : List Int} {W w2 w3 : World} {v v' : Value} {vs : List Value} {gb cap : Nat} (hG : Good (i + 1) (gs.set k (g ++ [(i : Int)]))) (hg : gs[k]? = some g) (hv : vs[k]? = some v)
    (c8 : W.cell? ⟨B + 3, 0, none⟩ = some (.slice (some ⟨gb, 0, none⟩) gs.length cap) ∧ W.frozen? ⟨B + 3, 0, none⟩ = false) (ho : W.ownsRow (B + 6) TO 1 (.slice (some ⟨gb, 0, none⟩) gs.length cap) gs.length vs) (hr : RowsIn (B + 6) TI W vs gs) (hA : Apart vs) (hsz : B + 6 ≤ W.heap.size)
    (hb : Below W.heap.size W w2) (hg3 : w2.grownBy w3 v.ownBlock) (ho3 : w3.ownsRow (B + 6) TI 1 v' (g.length + 1) (g.map (Value.int .i64) ++ [.int .i64 (i : Int)])) :
    (w3.cell? ⟨gb, k, none⟩ = some v ∧ w3.frozen? ⟨gb, k, none⟩ = false) ∧ PartsAt B TO TI (gs.set k (g ++ [(i : Int)])) (w3.setCell ⟨gb, k, none⟩ v') ∧ Below (B + 6) W (w3.setCell ⟨gb, k, none⟩ v') := by
  have hk : k < gs.length := (List.getElem?_eq_some_iff.1 hg).1
  have hrow := hr k v g hv hg
  have ho2 := owns_below ho hb
  have hrow2 := owns_below hrow hb
  have hgb : B + 6 ≤ gb := own_ge ho gb rfl
  have a1 : (Value.slice (some ⟨gb, 0, none⟩) gs.length cap).ownBlock = none ∨ (Value.slice (some ⟨gb, 0, none⟩) gs.length cap).ownBlock ≠ v.ownBlock := apart_types ho2 hrow2 hT
  have ho4 : w3.ownsRow (B + 6) TO 1 (.slice (some ⟨gb, 0, none⟩) gs.length cap) gs.length vs := ho2.kept hg3 a1
  have hbw : Below (B + 6) W w3 := (hb.mono hsz).grown hg3 (by have := hb.size; omega) (own_ge hrow)
  have a2 : some gb ≠ v.ownBlock := by rcases a1 with h | h; cases h; exact h
  have hcell : w3.cell? ⟨gb, k, none⟩ = some v := by
    have h1 := ho4.cells (g := gb) rfl k v hv
    rw [Go.WideShapes.add_plain, Nat.zero_add] at h1
    exact h1
  have hvl : k < vs.length := (List.getElem?_eq_some_iff.1 hv).1
  have hts : ∀ {u : Value} {n : Nat} {xs : List Value}, w3.ownsRow (B + 6) TI 1 u n xs → u.ownBlock = none ∨ u.ownBlock ≠ some gb := fun h => apart_types h ho4 (Ne.symm hT)
  have hrj : ∀ (j : Nat) (u : Value) (g' : List Int), j ≠ k → vs[j]? = some u → gs[j]? = some g' → w3.ownsRow (B + 6) TI 1 u g'.length (g'.map (Value.int .i64)) := fun j u g' e hu hg' =>
    (owns_below (hr j u g' hu hg') hb).kept hg3 (hA j k u v e hu hv)
  have hkey : ∀ (j : Nat) (u : Value), j ≠ k → vs[j]? = some u → (v'.ownBlock = none ∨ v'.ownBlock ≠ u.ownBlock) ∧ (u.ownBlock = none ∨ u.ownBlock ≠ v'.ownBlock) := fun j u e hu => by
    have hjl : j < gs.length := by have h1 := ho.1; have h2 := (List.getElem?_eq_some_iff.1 hu).1; omega
    have hg' : gs[j]? = some gs[j] := List.getElem?_eq_getElem hjl
    have hj := hrj j u _ e hu hg'
    obtain ⟨x, hx⟩ := hG.one j gs[j] (by rw [List.getElem?_set_ne (Ne.symm e)]; exact hg')
    obtain ⟨y, hy⟩ := hG.one k (g ++ [(i : Int)]) (List.getElem?_set_self hk)
    have hxy := hG.apart j k gs[j] (g ++ [(i : Int)]) x y e (by rw [List.getElem?_set_ne (Ne.symm e)]; exact hg') (List.getElem?_set_self hk) hx hy
    have h1 : (gs[j].map (Value.int .i64))[0]? = some (.int .i64 x) := by rw [List.getElem?_map, hx]; rfl
    have h2 : (g.map (Value.int .i64) ++ [.int .i64 (i : Int)])[0]? = some (.int .i64 y) := by
      have h3 : ((g ++ [(i : Int)]).map (Value.int .i64))[0]? = some (.int .i64 y) := by rw [List.getElem?_map, hy]; rfl
      simpa using h3
    exact ⟨apart_heads ho3 hj h2 h1 (fun h => hxy (by injection h with _ h; exact h.symm)), apart_heads hj ho3 h1 h2 (fun h => hxy (by injection h))⟩
  refine ⟨⟨hcell, owns_frozen ho4 rfl k⟩, ⟨.slice (some ⟨gb, 0, none⟩) gs.length cap, vs.set k v', ⟨?_, ?_⟩, ?_, ?_, ?_, ?_⟩, hbw.setCell (p := ⟨gb, k, none⟩) hgb v'⟩
  · exact setc_block ((hbw.cell (p := ⟨B + 3, 0, none⟩) (by simp)).trans c8.1) (by omega)
  · exact set_free ((hbw.cell (p := ⟨B + 3, 0, none⟩) (by simp)).trans c8.1) ((hbw.frozen (p := ⟨B + 3, 0, none⟩) (by simp)).trans c8.2)
  · rw [List.length_set]; exact row_set ho4 hk
  · intro j u g' hu hg'
    by_cases e : j = k
    · subst e
      rw [List.getElem?_set_self hvl] at hu
      rw [List.getElem?_set_self hk] at hg'
      obtain rfl : v' = u := by simpa using hu
      obtain rfl : g ++ [(i : Int)] = g' := by simpa using hg'
      have h1 := set_own (o := j) (u := v') ho3 (hts ho3)
      simpa using h1
    · rw [List.getElem?_set_ne (Ne.symm e)] at hu hg'
      have h3 := hrj j u g' e hu hg'
      exact set_own h3 (hts h3)
  · intro j l u x hne hu hx
    by_cases e : j = k
    · subst e
      rw [List.getElem?_set_self hvl] at hu
      rw [List.getElem?_set_ne hne] at hx
      obtain rfl : v' = u := by simpa using hu
      exact (hkey l x (Ne.symm hne) hx).1
    · rw [List.getElem?_set_ne (Ne.symm e)] at hu
      by_cases e2 : l = k
      · subst e2
        rw [List.getElem?_set_self hvl] at hx
        obtain rfl : v' = x := by simpa using hx
        exact (hkey j u e hu).2
      · rw [List.getElem?_set_ne (Ne.symm e2)] at hx
        exact hA j l u x hne hu hx
  · have := hbw.size; show B + 6 ≤ (w3.setCell _ _).heap.size; simp; omega
/-- The part k is cut back to g. -/
theorem PartsAt.pop {B TO TI i k : Nat} (hT : TO ≠ TI) {gs : List (List Int)} {g : List Int} {W : World} {gb gcap b cap n : Nat} {vs : List Value} (hgs : gs[k]? = some g) (hn : gs.length = n)
    (c8 : W.cell? ⟨B + 3, 0, none⟩ = some (.slice (some ⟨gb, 0, none⟩) n gcap) ∧ W.frozen? ⟨B + 3, 0, none⟩ = false) (ho : W.ownsRow (B + 6) TO 1 (.slice (some ⟨gb, 0, none⟩) n gcap) n vs) (hr : RowsIn (B + 6) TI W vs (gs.set k (g ++ [(i : Int)]))) (hA : Apart vs) (hsz : B + 6 ≤ W.heap.size)
    (hv : vs[k]? = some (.slice (some ⟨b, 0, none⟩) (g.length + 1) cap)) :
    PartsAt B TO TI gs (W.setCell ⟨gb, k, none⟩ (.slice (some ⟨b, 0, none⟩) g.length cap)) ∧ Below (B + 6) W (W.setCell ⟨gb, k, none⟩ (.slice (some ⟨b, 0, none⟩) g.length cap)) := by
  subst hn
  have hk : k < gs.length := (List.getElem?_eq_some_iff.1 hgs).1
  have hvl : k < vs.length := (List.getElem?_eq_some_iff.1 hv).1
  have hgb : B + 6 ≤ gb := own_ge ho gb rfl
  have hts : ∀ {u : Value} {n : Nat} {xs : List Value}, W.ownsRow (B + 6) TI 1 u n xs → u.ownBlock = none ∨ u.ownBlock ≠ some gb := fun h => apart_types h ho (Ne.symm hT)
  refine ⟨⟨.slice (some ⟨gb, 0, none⟩) gs.length gcap, vs.set k (.slice (some ⟨b, 0, none⟩) g.length cap), ⟨setc_block c8.1 (by omega), set_free c8.1 c8.2⟩, row_set ho hk, ?_, ?_, by simpa using hsz⟩, (Below.refl _ _).setCell (p := ⟨gb, k, none⟩) hgb _⟩
  · intro j u g' hu hg'
    by_cases e : j = k
    · subst e
      rw [List.getElem?_set_self hvl] at hu
      rw [hgs] at hg'
      obtain rfl : Value.slice (some ⟨b, 0, none⟩) g.length cap = u := by simpa using hu
      obtain rfl : g = g' := by simpa using hg'
      have h1 := hr j _ _ hv (List.getElem?_set_self hk)
      rw [List.length_append, List.length_singleton] at h1
      have h2 := row_take (m := g.length) h1 (by omega)
      rw [List.map_append, List.take_append_of_le_length (by simp), List.take_of_length_le (by simp)] at h2
      exact set_own h2 (hts h2)
    · rw [List.getElem?_set_ne (Ne.symm e)] at hu
      have h1 := hr j u g' hu (by rw [List.getElem?_set_ne (Ne.symm e)]; exact hg')
      exact set_own h1 (hts h1)
  · have blk : ∀ (j : Nat) (u : Value), (vs.set k (.slice (some ⟨b, 0, none⟩) g.length cap))[j]? = some u → ∃ u0, vs[j]? = some u0 ∧ u0.ownBlock = u.ownBlock := fun j u hu => by
      by_cases e : j = k
      · subst e
        rw [List.getElem?_set_self hvl] at hu
        injection hu with hu
        subst hu
        exact ⟨_, hv, rfl⟩
      · rw [List.getElem?_set_ne (Ne.symm e)] at hu
        exact ⟨u, hu, rfl⟩
    intro j l u x hne hu hx
    obtain ⟨u0, h1, h2⟩ := blk j u hu
    obtain ⟨x0, h3, h4⟩ := blk l x hx
    rw [← h2, ← h4]
    exact hA j l u0 x0 hne h1 h3
/-- A new empty part. -/
theorem PartsAt.grow {B TO TI n : Nat} {gs : List (List Int)} {W w2 w3 : World} {gv gv' : Value} {vs : List Value} (hT : TO ≠ TI) (hn : gs.length = n)
    (c8 : W.cell? ⟨B + 3, 0, none⟩ = some gv ∧ W.frozen? ⟨B + 3, 0, none⟩ = false) (ho : W.ownsRow (B + 6) TO 1 gv n vs) (hr : RowsIn (B + 6) TI W vs gs) (hA : Apart vs) (hsz : B + 6 ≤ W.heap.size)
    (hb : Below W.heap.size W w2) (hg3 : w2.grownBy w3 gv.ownBlock) (ho3 : w3.ownsRow (B + 6) TO 1 gv' (n + 1) (vs ++ [.slice none 0 0])) :
    (w3.cell? ⟨B + 3, 0, none⟩ = some gv ∧ w3.frozen? ⟨B + 3, 0, none⟩ = false) ∧ PartsAt B TO TI (gs ++ [[]]) (w3.setCell ⟨B + 3, 0, none⟩ gv') ∧ Below (B + 6) W w3 := by
  subst hn
  have hbw : Below (B + 6) W w3 := (hb.mono hsz).grown hg3 (by have := hb.size; omega) (own_ge ho)
  have hG8 : w3.cell? ⟨B + 3, 0, none⟩ = some gv ∧ w3.frozen? ⟨B + 3, 0, none⟩ = false := ⟨(hbw.cell (p := ⟨B + 3, 0, none⟩) (by simp)).trans c8.1, (hbw.frozen (p := ⟨B + 3, 0, none⟩) (by simp)).trans c8.2⟩
  have far : ∀ {T n : Nat} {v : Value} {xs : List Value}, w3.ownsRow (B + 6) T 1 v n xs → v.ownBlock = none ∨ v.ownBlock ≠ some (B + 3) := fun h => .inr fun e => by have := own_ge h _ e; omega
  have hvl : vs.length = gs.length := by have := ho.1; omega
  refine ⟨hG8, ⟨gv', vs ++ [.slice none 0 0], ⟨setc_same hG8.1, set_free hG8.1 hG8.2⟩, ?_, ?_, ?_, ?_⟩, hbw⟩
  · rw [List.length_append, List.length_singleton]; exact set_own ho3 (far ho3)
  · intro k v g hv hg
    rcases Nat.lt_or_ge k gs.length with h1 | h1
    · rw [List.getElem?_append_left (by omega)] at hv
      rw [List.getElem?_append_left h1] at hg
      have h2 := owns_below (hr k v g hv hg) hb
      have h3 := h2.kept hg3 (apart_types h2 (owns_below ho hb) (Ne.symm hT))
      exact set_own h3 (far h3)
    · rw [List.getElem?_append_right (by omega), hvl] at hv
      rw [List.getElem?_append_right h1] at hg
      have h4 := (List.getElem?_eq_some_iff.1 hg).1
      simp at h4
      have e : k = gs.length := by omega
      subst e
      simp at hv hg
      subst hv; subst hg
      exact World.ownsRow_nil _ _ _ _
  · intro j k u v hne hu hv
    rcases Nat.lt_or_ge j vs.length with h1 | h1
    · rw [List.getElem?_append_left h1] at hu
      rcases Nat.lt_or_ge k vs.length with h2 | h2
      · rw [List.getElem?_append_left h2] at hv
        exact hA j k u v hne hu hv
      · rw [List.getElem?_append_right h2] at hv
        have h4 := (List.getElem?_eq_some_iff.1 hv).1
        simp at h4
        rw [show k - vs.length = 0 by omega] at hv
        simp at hv
        subst hv
        cases hob : u.ownBlock with
        | none => exact .inl rfl
        | some b => exact .inr (by simp [Value.ownBlock])
    · rw [List.getElem?_append_right h1] at hu
      have h4 := (List.getElem?_eq_some_iff.1 hu).1
      simp at h4
      rw [show j - vs.length = 0 by omega] at hu
      simp at hu
      subst hu
      exact .inl rfl
  · have := hbw.size; show B + 6 ≤ (w3.setCell _ _).heap.size; simp; omega
/-- The last part is taken away. -/
theorem PartsAt.shrink {B TO TI n gb cap : Nat} {gs : List (List Int)} {g : List Int} {W : World} {vs : List Value} (hn : gs.length = n)
    (c8 : W.cell? ⟨B + 3, 0, none⟩ = some (.slice (some ⟨gb, 0, none⟩) (n + 1) cap) ∧ W.frozen? ⟨B + 3, 0, none⟩ = false) (ho : W.ownsRow (B + 6) TO 1 (.slice (some ⟨gb, 0, none⟩) (n + 1) cap) (n + 1) vs) (hr : RowsIn (B + 6) TI W vs (gs ++ [g])) (hA : Apart vs) (hsz : B + 6 ≤ W.heap.size) :
    PartsAt B TO TI gs (W.setCell ⟨B + 3, 0, none⟩ (.slice (some ⟨gb, 0, none⟩) n cap)) := by
  subst hn
  have far : ∀ {T n : Nat} {v : Value} {xs : List Value}, W.ownsRow (B + 6) T 1 v n xs → v.ownBlock = none ∨ v.ownBlock ≠ some (B + 3) := fun h => .inr fun e => by have := own_ge h _ e; omega
  have h1 := row_take (m := gs.length) ho (by omega)
  refine ⟨.slice (some ⟨gb, 0, none⟩) gs.length cap, vs.take gs.length, ⟨setc_same c8.1, set_free c8.1 c8.2⟩, set_own h1 (far h1), ?_, ?_, by simpa using hsz⟩
  · intro k v g' hv hg
    have hk : k < gs.length := (List.getElem?_eq_some_iff.1 hg).1
    rw [List.getElem?_take, if_pos hk] at hv
    have h2 := hr k v g' hv (by rw [List.getElem?_append_left hk]; exact hg)
    exact set_own h2 (far h2)
  · intro j k u v hne hu hv
    rw [List.getElem?_take] at hu hv
    split at hu
    · split at hv
      · exact hA j k u v hne hu hv
      · cases hv
    · cases hu
/-- What put answers: the parts, or that there are none, and the parts are as they were. -/
def PutsRes (B TO TI : Nat) (a0 a1 a2 a4 a5 : Value) (Q : World → Prop) (gs : List (List Int)) (r : Option (List (List Int))) (e : Ending) (w' : World) : Prop :=
  Q w' ∧ BoxesAt B a0 a1 a2 a4 a5 w' ∧ ((∃ rs, r = some rs ∧ e = .returned (.bool true) ∧ PartsAt B TO TI rs w') ∨ (r = none ∧ e = .returned (.bool false) ∧ PartsAt B TO TI gs w'))
theorem PutsRes.yes {B TO TI : Nat} {a0 a1 a2 a4 a5 : Value} {Q : World → Prop} {gs rs : List (List Int)} {r : Option (List (List Int))} {e : Ending} {w' : World} (hq : Q w') (hB : BoxesAt B a0 a1 a2 a4 a5 w') (hr : r = some rs) (he : e = .returned (.bool true)) (hP : PartsAt B TO TI rs w') : PutsRes B TO TI a0 a1 a2 a4 a5 Q gs r e w' := ⟨hq, hB, .inl ⟨rs, hr, he, hP⟩⟩
theorem PutsRes.no {B TO TI : Nat} {a0 a1 a2 a4 a5 : Value} {Q : World → Prop} {gs : List (List Int)} {r : Option (List (List Int))} {e : Ending} {w' : World} (hq : Q w') (hB : BoxesAt B a0 a1 a2 a4 a5 w') (hr : r = none) (he : e = .returned (.bool false)) (hP : PartsAt B TO TI gs w') : PutsRes B TO TI a0 a1 a2 a4 a5 Q gs r e w' := ⟨hq, hB, .inr ⟨hr, he, hP⟩⟩
theorem Above.trans {B : Nat} {a b c : World} (h : Above B a b) (k : Above B b c) : Above B a c :=
  ⟨Nat.le_trans h.size k.size, fun i h1 h2 => (k.block i h1 (Nat.lt_of_lt_of_le h2 h.size)).trans (h.block i h1 h2)⟩
theorem Above.mono {B B' : Nat} {a b : World} (h : Above B a b) (hB : B ≤ B') : Above B' a b := ⟨h.size, fun i h1 h2 => h.block i (by omega) h2⟩
/-- The rest of a region: a group of it, walked once. -/
theorem wpAny_Rs {P : Program} {Q : Exit → Act → World → Prop} {a : Act} {w0 w : World} {l : List Oper} {L : Array Bool} {n : Nat} (ps : List (Nat × (Value → World → Prop))) (hs : List Nat) (g : Nat) (hn : hs.length + g = n) (hkeep : ∀ x ∈ ps, Keeps x.2)
    (hB : (groupB .any l.toArray L hs && pairsB .any l.toArray ((ps.map (·.1)).contains ·) hs && plainsB l.toArray ((ps.map (·.1)).contains ·) hs) = true) (hw : Below w0.heap.size w0 w)
    (h : wpS P .any l.toArray w0 ((ps.map (·.1)).contains ·) (pOf ps) (fun Γ' a' => ∀ w', All w0 (pOf ps) Γ' w' → wpAny P .any l.toArray Q g (mark hs L) a' w') (numbered l.toArray hs) (fun _ => none) a) :
    wpAny P .any l.toArray Q n L a w := by
  subst hn
  refine wpAny_R (ps.map (·.1)) hs g (pOf_keeps hkeep) hB hw (wpR_of_wpS (fun k hk => ?_) h)
  simp only [groupB, Bool.and_eq_true] at hB
  obtain ⟨_, hmem, _⟩ := orderB_spec hB.1.1.2
  exact (hmem k hk).2.2
end Go.Pb.Sag

/- Lists of indices by group, as they are made: each in memory of its own. -/
namespace Go.Pb.Sag
open Go Go.Pb Go.Pb.Ware Go.RowKit
set_option linter.unusedVariables false
/-- Groups in memory of the call's own. -/
def GrpAt (lo TO TI : Nat) (gv : Value) (gs : List (List Int)) (W : World) : Prop := ∃ vs : List Value, W.ownsRow lo TO 1 gv gs.length vs ∧ RowsIn lo TI W vs gs ∧ Apart vs ∧ ∀ (k : Nat) (u : Value), vs[k]? = some u → gs[k]? = some [] → u.ownBlock = none
theorem GrpAt.push {lo TO TI i k n : Nat} (hT : TO ≠ TI) {gs : List (List Int)} {g : List Int} {W w2 w3 : World} {v v' : Value} {vs : List Value} {gb cap : Nat} (hn : gs.length = n) (hg : gs[k]? = some g) (hv : vs[k]? = some v)
    (hheads : ∀ (j : Nat) (g' : List Int) (x y : Int), j ≠ k → gs[j]? = some g' → g'[0]? = some x → (g ++ [(i : Int)])[0]? = some y → x ≠ y)
    (ho : W.ownsRow lo TO 1 (.slice (some ⟨gb, 0, none⟩) n cap) n vs) (hr : RowsIn lo TI W vs gs) (hA : Apart vs) (hE : ∀ (k : Nat) (u : Value), vs[k]? = some u → gs[k]? = some [] → u.ownBlock = none) (hsz : lo ≤ W.heap.size)
    (hb : Below W.heap.size W w2) (hg3 : w2.grownBy w3 v.ownBlock) (ho3 : w3.ownsRow lo TI 1 v' (g.length + 1) (g.map (Value.int .i64) ++ [.int .i64 (i : Int)])) :
    (w3.cell? ⟨gb, k, none⟩ = some v ∧ w3.frozen? ⟨gb, k, none⟩ = false) ∧ GrpAt lo TO TI (.slice (some ⟨gb, 0, none⟩) n cap) (gs.set k (g ++ [(i : Int)])) (w3.setCell ⟨gb, k, none⟩ v') ∧ Below lo W (w3.setCell ⟨gb, k, none⟩ v') := by
  subst hn
  have hk : k < gs.length := (List.getElem?_eq_some_iff.1 hg).1
  have hrow := hr k v g hv hg
  have ho2 := owns_below ho hb
  have hrow2 := owns_below hrow hb
  have hgb : lo ≤ gb := own_ge ho gb rfl
  have a1 : (Value.slice (some ⟨gb, 0, none⟩) gs.length cap).ownBlock = none ∨ (Value.slice (some ⟨gb, 0, none⟩) gs.length cap).ownBlock ≠ v.ownBlock := apart_types ho2 hrow2 hT
  have ho4 : w3.ownsRow lo TO 1 (.slice (some ⟨gb, 0, none⟩) gs.length cap) gs.length vs := ho2.kept hg3 a1
  have hbw : Below lo W w3 := (hb.mono hsz).grown hg3 (by have := hb.size; omega) (own_ge hrow)
  have hcell : w3.cell? ⟨gb, k, none⟩ = some v := by
    have h1 := ho4.cells (g := gb) rfl k v hv
    rw [Go.WideShapes.add_plain, Nat.zero_add] at h1
    exact h1
  have hvl : k < vs.length := (List.getElem?_eq_some_iff.1 hv).1
  have hts : ∀ {u : Value} {n : Nat} {xs : List Value}, w3.ownsRow lo TI 1 u n xs → u.ownBlock = none ∨ u.ownBlock ≠ some gb := fun h => apart_types h ho4 (Ne.symm hT)
  have hrj : ∀ (j : Nat) (u : Value) (g' : List Int), j ≠ k → vs[j]? = some u → gs[j]? = some g' → w3.ownsRow lo TI 1 u g'.length (g'.map (Value.int .i64)) := fun j u g' e hu hg' =>
    (owns_below (hr j u g' hu hg') hb).kept hg3 (hA j k u v e hu hv)
  have hvb : v'.ownBlock ≠ none := by
    obtain ⟨b, c, rfl, _⟩ := own_some ho3 (by omega)
    simp [Value.ownBlock]
  have hkey : ∀ (j : Nat) (u : Value), j ≠ k → vs[j]? = some u → (v'.ownBlock = none ∨ v'.ownBlock ≠ u.ownBlock) ∧ (u.ownBlock = none ∨ u.ownBlock ≠ v'.ownBlock) := fun j u e hu => by
    have hjl : j < gs.length := by have h1 := ho.1; have h2 := (List.getElem?_eq_some_iff.1 hu).1; omega
    have hg' : gs[j]? = some gs[j] := List.getElem?_eq_getElem hjl
    have hj := hrj j u _ e hu hg'
    cases hq : gs[j] with
    | nil =>
      have h0 := hE j u hu (by rw [hg', hq])
      exact ⟨.inr (by rw [h0]; exact hvb), .inl h0⟩
    | cons a l =>
      obtain ⟨y, hy⟩ : ∃ y, (g ++ [(i : Int)])[0]? = some y := ⟨_, List.getElem?_eq_getElem (by simp)⟩
      have hx : (gs[j])[0]? = some a := by rw [hq]; rfl
      have hxy := hheads j gs[j] a y e hg' hx hy
      have h1 : (gs[j].map (Value.int .i64))[0]? = some (.int .i64 a) := by rw [List.getElem?_map, hx]; rfl
      have h2 : (g.map (Value.int .i64) ++ [.int .i64 (i : Int)])[0]? = some (.int .i64 y) := by
        have h3 : ((g ++ [(i : Int)]).map (Value.int .i64))[0]? = some (.int .i64 y) := by rw [List.getElem?_map, hy]; rfl
        simpa using h3
      exact ⟨apart_heads ho3 hj h2 h1 (fun h => hxy (by injection h with _ h; exact h.symm)), apart_heads hj ho3 h1 h2 (fun h => hxy (by injection h))⟩
  refine ⟨⟨hcell, owns_frozen ho4 rfl k⟩, ⟨vs.set k v', ?_, ?_, ?_, ?_⟩, hbw.setCell (p := ⟨gb, k, none⟩) hgb v'⟩
  · rw [List.length_set]; exact row_set ho4 hk
  · intro j u g' hu hg'
    by_cases e : j = k
    · subst e
      rw [List.getElem?_set_self hvl] at hu
      rw [List.getElem?_set_self hk] at hg'
      obtain rfl : v' = u := by simpa using hu
      obtain rfl : g ++ [(i : Int)] = g' := by simpa using hg'
      have h1 := set_own (o := j) (u := v') ho3 (hts ho3)
      simpa using h1
    · rw [List.getElem?_set_ne (Ne.symm e)] at hu hg'
      have h3 := hrj j u g' e hu hg'
      exact set_own h3 (hts h3)
  · intro j l u x hne hu hx
    by_cases e : j = k
    · subst e
      rw [List.getElem?_set_self hvl] at hu
      rw [List.getElem?_set_ne hne] at hx
      obtain rfl : v' = u := by simpa using hu
      exact (hkey l x (Ne.symm hne) hx).1
    · rw [List.getElem?_set_ne (Ne.symm e)] at hu
      by_cases e2 : l = k
      · subst e2
        rw [List.getElem?_set_self hvl] at hx
        obtain rfl : v' = x := by simpa using hx
        exact (hkey j u e hu).2
      · rw [List.getElem?_set_ne (Ne.symm e2)] at hx
        exact hA j l u x hne hu hx
  · intro j u hu hg'
    by_cases e : j = k
    · subst e
      rw [List.getElem?_set_self hk] at hg'
      injection hg' with hg'
      simp at hg'
    · rw [List.getElem?_set_ne (Ne.symm e)] at hu hg'
      exact hE j u hu hg'
/-- So many empty groups. -/
theorem GrpAt.new {lo TO TI n B : Nat} {W : World} (h : W.ownsRow lo TO 1 (.slice (some ⟨B, 0, none⟩) n n) n (madeCells (Value.slice none 0 0).cells (n * 1)).toList) : GrpAt lo TO TI (.slice (some ⟨B, 0, none⟩) n n) (groupedL [] n) W := by
  have hnil : ∀ (k : Nat) (u : Value), (madeCells (Value.slice none 0 0).cells (n * 1)).toList[k]? = some u → u = .slice none 0 0 := by
    intro k u hu
    have hk : k < n := by have := (List.getElem?_eq_some_iff.1 hu).1; simpa [madeCells] using this
    rw [Array.getElem?_toList] at hu
    unfold madeCells at hu
    rw [Array.getElem?_map, Array.getElem?_range, if_pos (by omega)] at hu
    have h2 : (#[Value.slice none 0 0] : Array Value)[k % 1]! = u := by injection hu
    rw [Nat.mod_one] at h2
    exact h2.symm
  have hg : ∀ (k : Nat) (g : List Int), (groupedL [] n)[k]? = some g → g = [] := by
    intro k g h
    have hk : k < n := by have := (List.getElem?_eq_some_iff.1 h).1; rwa [grouped_len] at this
    rw [grouped_at hk] at h
    injection h with h
    exact h.symm
  refine ⟨_, by rw [grouped_len]; exact h, ?_, ?_, ?_⟩
  · intro k u g hu hg'
    rw [hnil k u hu, hg k g hg']
    exact World.ownsRow_nil _ _ _ _
  · intro j k u v _ hu _
    rw [hnil j u hu]
    exact .inl rfl
  · intro k u hu _
    rw [hnil k u hu]
    rfl
end Go.Pb.Sag
