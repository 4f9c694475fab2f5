/- A region that draws its order: a group of quiet operations, allocations and calls that hand back new memory, taken first and walked once; what the new memory is known for is told by predicates. -/
import Derived.Test.YtcadbcmldlammaaLib
namespace Go.Pb
set_option linter.unusedVariables false
open Go.RowKit

/-- No call: what it yields is a value. -/
def plainOp : Op → Bool
  | .move _ | .assign _ | .load _ _ | .fieldAddr _ _ _ | .binOp _ _ _ _ _ | .unOp _ _ _ | .build _ _ | .field _ _ _ | .extract _ _ | .index _ _ _ | .indexAddr _ _ _ | .slice _ _ _ _ _ | .pick _ _ _ => true
  | .call c => match c.callee with
    | .builtin .len | .builtin .cap | .builtin .max | .builtin .min => true
    | _ => false
  | _ => false

theorem run_value_ne {P : Program} {w : World} {s : Sem Value} {f : FuncId} {args : Array Value} {w' : World} :
    (do pure (Next.value (← s)) : Sem Next).run P w ≠ .ok (.enter f args) w' := by
  intro h
  simp only [Sem.run_bind] at h
  cases hs : s.run P w with
  | ok x w1 => simp [hs, Result.andThen] at h
  | halt x w1 => simp [hs, Result.andThen] at h
theorem plain_ne {P : Program} {w : World} {o : Oper} (ho : plainOp o.op = true) (ρ : Operand → Value) {f : FuncId} {args : Array Value} {w' : World} :
    (execOp ρ o).run P w ≠ .ok (.enter f args) w' := by
  obtain ⟨dst, op, type, pos, after, guard⟩ := o
  cases op
  case call c =>
    obtain ⟨callee, args', tys⟩ := c
    simp only [plainOp] at ho
    simp only [execOp, resolve]
    split at ho
    all_goals first | cases ho | skip
    all_goals (simp only [pure_bind, invoke, builtin]; exact run_value_ne)
  case pick c x y =>
    simp only [execOp]
    intro h
    simp only [Sem.run_bind] at h
    cases hs : (asBool (ρ c)).run P w with
    | ok x w1 => simp [hs, Result.andThen] at h
    | halt x w1 => simp [hs, Result.andThen] at h
  all_goals simp only [plainOp] at ho <;> (try cases ho) <;> simp only [execOp] <;> first | exact run_value_ne | (intro h; simp at h)

section
variable {P : Program} {md : Region.Mode} {ops : Array Oper} {w0 : World} {fr : Nat → Bool} {p : Nat → Value → World → Prop}

abbrev Known := Nat → Option Value
def upd (Γ : Known) (h : Nat) (v : Value) : Known := fun g => if g = h then some v else Γ g

/-- The worlds of the walk in which what an operation waits for is known. -/
structure BQ (w0 : World) (q : World → Prop) where
  w' : World
  below : Below w0.heap.size w0 w'
  has : q w'

def Facts (md : Region.Mode) (p : Nat → Value → World → Prop) (Γ : Known) (o : Oper) (w' : World) : Prop := ∀ g v, Γ g = some v → waits md o g = true → p g v w'
def Cl (w0 : World) (md : Region.Mode) (p : Nat → Value → World → Prop) (Γ : Known) (o : Oper) (w' : World) : Prop := ∃ x : BQ w0 (Facts md p Γ o), w' = x.w'

theorem Cl.iff {Γ : Known} {o : Oper} {w' : World} : Cl w0 md p Γ o w' ↔ Below w0.heap.size w0 w' ∧ Facts md p Γ o w' :=
  ⟨fun ⟨x, hx⟩ => hx ▸ ⟨x.below, x.has⟩, fun ⟨h1, h2⟩ => ⟨⟨w', h1, h2⟩, rfl⟩⟩

/-- All that is known, in one world. -/
def All (w0 : World) (p : Nat → Value → World → Prop) (Γ : Known) (W : World) : Prop := Below w0.heap.size w0 W ∧ ∀ g v, Γ g = some v → p g v W
theorem All.cl {Γ : Known} {W : World} (h : All w0 p Γ W) (o : Oper) : Cl w0 md p Γ o W := Cl.iff.2 ⟨h.1, fun g v hg _ => h.2 g v hg⟩

/-- An operation that makes memory: in the world w' it yields a value of which p is known; what was there stays. -/
def freshAt (P : Program) (o : Oper) (a : Act) (p : Value → World → Prop) (w' : World) : Prop :=
  match (execOp a.eval o).run P w' with
  | .ok (.value u) w'' => Below w'.heap.size w' w'' ∧ p u w''
  | .ok (.enter f args) w'' => w'' = w' ∧ Calls P f args w' (fun e w'' => ∃ u, e = .returned u ∧ Below w'.heap.size w' w'' ∧ p u w'')
  | _ => False

/-- One operation of the group. -/
def oneR (P : Program) (md : Region.Mode) (ops : Array Oper) (w0 : World) (fr : Nat → Bool) (p : Nat → Value → World → Prop) (Γ : Known) (h : Nat) (K : Known → Act → Prop) (a : Act) : Prop :=
  match ops[h]? with
  | none => K Γ a
  | some o =>
    if Region.wanted o (yielded ops a.tmps) = true then
      if fr h = true then (∀ w', Cl w0 md p Γ o w' → freshAt P o a (p h) w') ∧ ∀ v, (∃ W, All w0 p (upd Γ h v) W) → K (upd Γ h v) (a.put o.dst v)
      else (∃ W, Cl w0 md p Γ o W) → ∃ v, (∀ w', Cl w0 md p Γ o w' → o.quietAt P a (Cl w0 md p Γ o) w' v) ∧ K Γ (a.put o.dst v)
    else K Γ (a.put o.dst undef)

def wpR (P : Program) (md : Region.Mode) (ops : Array Oper) (w0 : World) (fr : Nat → Bool) (p : Nat → Value → World → Prop) (Fin : Known → Act → Prop) : List Nat → Known → Act → Prop
  | [], Γ, a => Fin Γ a
  | h :: rest, Γ, a => oneR P md ops w0 fr p Γ h (wpR P md ops w0 fr p Fin rest) a

theorem oneR_mono {Γ : Known} {h : Nat} {K K' : Known → Act → Prop} {a : Act} (hK : ∀ Γ a, K Γ a → K' Γ a) (H : oneR P md ops w0 fr p Γ h K a) : oneR P md ops w0 fr p Γ h K' a := by
  unfold oneR at *
  split
  · rename_i ho; simp only [ho] at H; exact hK _ _ H
  · rename_i o ho
    simp only [ho] at H
    split
    · rename_i hw
      rw [if_pos hw] at H
      split
      · rename_i hf; rw [if_pos hf] at H; exact ⟨H.1, fun v hv => hK _ _ (H.2 v hv)⟩
      · rename_i hf; rw [if_neg hf] at H; intro hc; obtain ⟨v, h1, h2⟩ := H hc; exact ⟨v, h1, hK _ _ h2⟩
    · rename_i hw; rw [if_neg hw] at H; exact hK _ _ H

theorem facts_upd {Γ : Known} {j : Nat} {v : Value} {o : Oper} {w' : World} (hw : waits md o j = false) : Facts md p (upd Γ j v) o w' ↔ Facts md p Γ o w' := by
  unfold Facts upd
  constructor
  · intro h g u hg hwt
    refine h g u ?_ hwt
    rw [if_neg (by rintro rfl; rw [hw] at hwt; cases hwt)]; exact hg
  · intro h g u hg hwt
    refine h g u ?_ hwt
    rwa [if_neg (by rintro rfl; rw [hw] at hwt; cases hwt)] at hg
theorem cl_upd {Γ : Known} {j : Nat} {v : Value} {o : Oper} (hw : waits md o j = false) : Cl w0 md p (upd Γ j v) o = Cl w0 md p Γ o := by
  funext w'; rw [eq_iff_iff, Cl.iff, Cl.iff, facts_upd hw]
theorem upd_comm {Γ : Known} {i j : Nat} {v u : Value} (h : i ≠ j) : upd (upd Γ i v) j u = upd (upd Γ j u) i v := by
  funext g; unfold upd
  by_cases h1 : g = j
  · subst h1; simp [Ne.symm h]
  · by_cases h2 : g = i
    · subst h2; simp [h1]
    · simp [h1, h2]
theorem All.less {Γ : Known} {j : Nat} {v : Value} {W : World} (hj : Γ j = none) (h : All w0 p (upd Γ j v) W) : All w0 p Γ W :=
  ⟨h.1, fun g u hg => h.2 g u (by unfold upd; rw [if_neg (by rintro rfl; rw [hj] at hg; cases hg)]; exact hg)⟩
theorem fresh_inh {o : Oper} {a : Act} {q : Value → World → Prop} {W : World} (h : freshAt P o a q W) : ∃ u W', Below W.heap.size W W' ∧ q u W' := by
  unfold freshAt at h
  split at h
  · exact ⟨_, _, h⟩
  · obtain ⟨e, w', fr', ⟨u, _, hb, hq⟩, _⟩ := h.2 []
    exact ⟨u, w', hb, hq⟩
  · exact h.elim

theorem quietAt_det {o : Oper} (ho : plainOp o.op = true) {a : Act} {C C' : World → Prop} {w' : World} {v u : Value} (h1 : o.quietAt P a C w' v) (h2 : o.quietAt P a C' w' u) : v = u := by
  unfold Oper.quietAt at h1 h2
  generalize hr : (execOp a.eval o).run P w' = r at h1 h2
  cases r with
  | halt x w'' => simp only [Oper.quietUpon] at h1
  | ok n w'' =>
    cases n <;> simp only [Oper.quietUpon] at h1 h2
    case value x => rw [← h1.2, ← h2.2]
    case skip => rw [h1.2, h2.2]
    case enter f args => exact absurd hr (plain_ne ho _)

/-- Two neighbours that do not wait for each other, and are apart, may change places. -/
theorem oneR_swap {Γ : Known} {i j : Nat} {oi oj : Oper} {K : Known → Act → Prop} {a : Act} (hne : i ≠ j) (hi : ops[i]? = some oi) (hj : ops[j]? = some oj)
    (hsel : Region.noSelect ops = true) (hap : oj.apart ops oi = true) (hij : waits md oi j = false) (hji : waits md oj i = false)
    (hpl : fr j = true → fr i = false → plainOp oi.op = true) {W : World} (hW : All w0 p Γ W) (hΓi : Γ i = none) (hΓj : Γ j = none)
    (hkeep : ∀ i v w1 w2, p i v w1 → Below w1.heap.size w1 w2 → p i v w2)
    (H : oneR P md ops w0 fr p Γ j (fun Γ' a' => oneR P md ops w0 fr p Γ' i K a') a) : oneR P md ops w0 fr p Γ i (fun Γ' a' => oneR P md ops w0 fr p Γ' j K a') a := by
  obtain ⟨a1, a2, a3⟩ := Oper.apart_spec hap
  have si := fun cs b => Region.noSelect_spec hsel i oi cs b hi
  have sj := fun cs b => Region.noSelect_spec hsel j oj cs b hj
  have e1 : ∀ v, Region.wanted oi (yielded ops (a.put oj.dst v).tmps) = Region.wanted oi (yielded ops a.tmps) := fun v => wanted_put oi a oj.dst v a1
  have e2 : ∀ v, Region.wanted oj (yielded ops (a.put oi.dst v).tmps) = Region.wanted oj (yielded ops a.tmps) := fun v => wanted_put oj a oi.dst v a3
  have q1 : ∀ v C w' u, oi.quietAt P (a.put oj.dst v) C w' u ↔ oi.quietAt P a C w' u := fun v C w' u => by unfold Oper.quietAt; rw [execOp_put oi si a oj.dst v a1]
  have q2 : ∀ v C w' u, oj.quietAt P (a.put oi.dst v) C w' u ↔ oj.quietAt P a C w' u := fun v C w' u => by unfold Oper.quietAt; rw [execOp_put oj sj a oi.dst v a3]
  have f1 : ∀ v q w', freshAt P oi (a.put oj.dst v) q w' ↔ freshAt P oi a q w' := fun v q w' => by unfold freshAt; rw [execOp_put oi si a oj.dst v a1]
  have f2 : ∀ v q w', freshAt P oj (a.put oi.dst v) q w' ↔ freshAt P oj a q w' := fun v q w' => by unfold freshAt; rw [execOp_put oj sj a oi.dst v a3]
  have pc : ∀ v u, (a.put oj.dst v).put oi.dst u = (a.put oi.dst u).put oj.dst v := fun v u => Act.put_comm a v u a2
  have inh : ∀ h o, Γ h = none → (∀ w', Cl w0 md p Γ o w' → freshAt P o a (p h) w') → ∃ v, ∃ W, All w0 p (upd Γ h v) W := by
    intro h o hh hf
    obtain ⟨u, W', hb, hq⟩ := fresh_inh (hf W (hW.cl o))
    refine ⟨u, W', hW.1.trans (hb.mono hW.1.size), fun g v hg => ?_⟩
    unfold upd at hg
    by_cases hgh : g = h
    · subst hgh; rw [if_pos rfl] at hg; cases hg; exact hq
    · rw [if_neg hgh] at hg; exact hkeep _ _ _ _ (hW.2 g v hg) hb
  unfold oneR at *
  simp only [hi, hj, e1, e2, q1, q2, f1, f2, pc] at *
  by_cases wj : Region.wanted oj (yielded ops a.tmps) = true
  · by_cases wi : Region.wanted oi (yielded ops a.tmps) = true
    · simp only [wj, wi, if_true] at *
      by_cases fj : fr j = true
      · by_cases fi : fr i = true
        · simp only [fj, fi, if_true, cl_upd hij, cl_upd hji] at *
          obtain ⟨h1, h2⟩ := H
          obtain ⟨v0, hv0⟩ := inh j oj hΓj h1
          refine ⟨(h2 v0 hv0).1, fun v _ => ⟨h1, fun u hu => ?_⟩⟩
          rw [upd_comm hne] at hu ⊢
          have hΓ : upd Γ j u i = none := by unfold upd; rw [if_neg hne]; exact hΓi
          obtain ⟨W', hW'⟩ := hu
          exact (h2 u ⟨W', hW'.less hΓ⟩).2 v ⟨W', hW'⟩
        · have fi' : fr i = false := by simpa using fi
          simp only [fj, fi', if_true, Bool.false_eq_true, if_false, cl_upd hij, cl_upd hji] at *
          obtain ⟨h1, h2⟩ := H
          obtain ⟨v0, hv0⟩ := inh j oj hΓj h1
          obtain ⟨vi, hvi, _⟩ := h2 v0 hv0 ⟨W, hW.cl _⟩
          refine fun _ => ⟨vi, hvi, h1, fun u hu => ?_⟩
          obtain ⟨vi', hvi', hK⟩ := h2 u hu ⟨W, hW.cl _⟩
          obtain rfl : vi = vi' := quietAt_det (hpl trivial trivial) (hvi W (hW.cl _)) (hvi' W (hW.cl _))
          exact hK
      · have fj' : fr j = false := by simpa using fj
        by_cases fi : fr i = true
        · simp only [fj', fi, if_true, Bool.false_eq_true, if_false, cl_upd hij, cl_upd hji] at *
          obtain ⟨vj, h1, h2, h3⟩ := H ⟨W, hW.cl _⟩
          exact ⟨h2, fun v hv => fun _ => ⟨vj, h1, h3 v hv⟩⟩
        · have fi' : fr i = false := by simpa using fi
          simp only [fj', fi', Bool.false_eq_true, if_false, cl_upd hij, cl_upd hji] at *
          obtain ⟨vj, h1, h4⟩ := H ⟨W, hW.cl _⟩
          obtain ⟨vi, h2, h3⟩ := h4 ⟨W, hW.cl _⟩
          exact fun _ => ⟨vi, h2, fun _ => ⟨vj, h1, h3⟩⟩
    · simp only [wj, wi, if_true] at *
      by_cases fj : fr j = true
      · simp only [fj, if_true] at *
        exact H
      · simp only [fj] at *
        exact H
  · by_cases wi : Region.wanted oi (yielded ops a.tmps) = true
    · simp only [wj, wi, if_true] at *
      by_cases fi : fr i = true
      · simp only [fi, if_true] at *
        exact H
      · simp only [fi] at *
        exact H
    · simp only [wj, wi] at *
      exact H

/-- What two operations of the group, the one ahead of the other, must be to each other. -/
def Pair (md : Region.Mode) (ops : Array Oper) (fr : Nat → Bool) (h j : Nat) : Prop :=
  ∃ oh oj, ops[h]? = some oh ∧ ops[j]? = some oj ∧ (waits md oj h = true ∨ oh.apart ops oj = true) ∧ waits md oh j = false ∧ (fr h = true → fr j = false → waits md oj h = true ∨ plainOp oj.op = true)
def pairsB (md : Region.Mode) (ops : Array Oper) (fr : Nat → Bool) : List Nat → Bool
  | [] => true
  | h :: rest => (rest.all fun j => match ops[h]?, ops[j]? with
      | some oh, some oj => (waits md oj h || oh.apart ops oj) && !waits md oh j && (!fr h || fr j || waits md oj h || plainOp oj.op)
      | _, _ => false) && pairsB md ops fr rest
theorem pairs_of : ∀ {l : List Nat}, pairsB md ops fr l = true → l.Pairwise (Pair md ops fr)
  | [], _ => List.Pairwise.nil
  | h :: rest, hB => by
    simp only [pairsB, Bool.and_eq_true] at hB
    refine List.pairwise_cons.2 ⟨fun j hj => ?_, pairs_of hB.2⟩
    have := List.all_eq_true.1 hB.1 j hj
    cases hh : ops[h]? with
    | none => simp [hh] at this
    | some oh =>
      cases hj' : ops[j]? with
      | none => simp [hh, hj'] at this
      | some oj =>
        simp only [hh, hj', Bool.and_eq_true, Bool.or_eq_true, Bool.not_eq_true'] at this
        refine ⟨oh, oj, hh, hj', this.1.1, this.1.2, fun h1 h2 => ?_⟩
        rcases this.2 with ((h3 | h3) | h3) | h3
        · rw [h1] at h3; cases h3
        · rw [h2] at h3; cases h3
        · exact .inl h3
        · exact .inr h3

theorem wpR_pull {Fin : Known → Act → Prop} (hsel : Region.noSelect ops = true) (hkeep : ∀ i v w1 w2, p i v w1 → Below w1.heap.size w1 w2 → p i v w2) {i : Nat} {oi : Oper} (hi : ops[i]? = some oi) :
    ∀ (l : List Nat) (Γ : Known) (a : Act), i ∈ l → l.Nodup → l.Pairwise (Pair md ops fr) → (∀ j ∈ l, waits md oi j = false) →
      (∀ h ∈ l, Γ h = none) → (∃ W, All w0 p Γ W) →
      wpR P md ops w0 fr p Fin l Γ a → wpR P md ops w0 fr p Fin (i :: l.erase i) Γ a := by
  intro l
  induction l with
  | nil => intro Γ a h; cases h
  | cons h rest ih =>
    intro Γ a hil hnd hpw hw hΓ hall H
    by_cases hhi : h = i
    · subst hhi; simpa using H
    have hir : i ∈ rest := by simpa [Ne.symm hhi] using hil
    rw [List.nodup_cons] at hnd
    rw [List.pairwise_cons] at hpw
    obtain ⟨oh, oi', hoh, hi', hap, hback, hpl⟩ := hpw.1 i hir
    obtain rfl : oi = oi' := Option.some.inj (hi.symm.trans hi')
    have he : (h :: rest).erase i = h :: rest.erase i := by rw [List.erase_cons_tail (by simpa using hhi)]
    rw [he]
    have step : ∀ Γ' a', (∀ g ∈ rest, Γ' g = none) → (∃ W, All w0 p Γ' W) → wpR P md ops w0 fr p Fin rest Γ' a' → wpR P md ops w0 fr p Fin (i :: rest.erase i) Γ' a' := fun Γ' a' hΓ' hall' H' =>
      ih Γ' a' hir hnd.2 hpw.2 (fun j hj => hw j (by simp [hj])) hΓ' hall' H'
    have hij : waits md oi h = false := hw h (by simp)
    obtain ⟨W, hW⟩ := hall
    have H1 : oneR P md ops w0 fr p Γ h (fun Γ' a' => oneR P md ops w0 fr p Γ' i (wpR P md ops w0 fr p Fin (rest.erase i)) a') a := by
      unfold wpR at H
      unfold oneR at H ⊢
      simp only [hoh] at H ⊢
      split
      · rename_i hwant
        rw [if_pos hwant] at H
        split
        · rename_i hf
          rw [if_pos hf] at H
          refine ⟨H.1, fun v hv => ?_⟩
          exact step (upd Γ h v) _ (fun g hg => by
            unfold upd; rw [if_neg (by rintro rfl; exact hnd.1 hg)]; exact hΓ g (by simp [hg])) hv (H.2 v hv)
        · rename_i hf
          rw [if_neg hf] at H
          intro hc
          obtain ⟨v, h1, h2⟩ := H hc
          exact ⟨v, h1, step Γ _ (fun g hg => hΓ g (by simp [hg])) ⟨W, hW⟩ h2⟩
      · rename_i hwant
        rw [if_neg hwant] at H
        exact step Γ _ (fun g hg => hΓ g (by simp [hg])) ⟨W, hW⟩ H
    rw [hij] at hap hpl
    exact oneR_swap (Ne.symm hhi) hi hoh hsel (by simpa using hap) hij hback (fun h1 h2 => by simpa using hpl h1 h2) hW (hΓ i (by simp [hir])) (hΓ h (by simp)) hkeep H1

theorem waits_dep {o : Oper} {M : Array Bool} {i : Nat} (hd : ∀ e ∈ o.after, Region.binds md e = true → M.getD e.on false = true) (hM : M.getD i true = false) : waits md o i = false := by
  cases hw : waits md o i with
  | false => rfl
  | true =>
    obtain ⟨e, he, hb⟩ := Array.any_eq_true'.1 hw
    simp only [Bool.and_eq_true, beq_iff_eq] at hb
    have h1 := hd e he hb.1
    rw [hb.2] at h1
    rcases Nat.lt_or_ge i M.size with h' | h'
    · simp [h'] at h1 hM; rw [h1] at hM; cases hM
    · simp [Array.getElem?_eq_none h'] at h1

theorem wpAny_of_wpR {Q : Exit → Act → World → Prop} {g : Nat} {hs : List Nat} {L : Array Bool} (hsel : Region.noSelect ops = true) (hplain : ∀ h o, h ∈ hs → fr h = false → ops[h]? = some o → plainOp o.op = true)
    (hkeep : ∀ i v w1 w2, p i v w1 → Below w1.heap.size w1 w2 → p i v w2) (hL : L.size = ops.size) :
    ∀ (f : Nat) (M : Array Bool) (l : List Nat) (Γ : Known) (a : Act) (w : World), l.length = f → l.Nodup → l.Pairwise (Pair md ops fr) → (∀ j ∈ l, M.getD j true = false) →
      (∀ j ∈ hs, j ∈ l ∨ M.getD j true = true) → (∀ h ∈ l, Γ h = none) → Hered md ops hs f M → All w0 p Γ w → mark l M = mark hs L →
      wpR P md ops w0 fr p (fun Γ' a' => ∀ w', All w0 p Γ' w' → wpAny P md ops Q g (mark hs L) a' w') l Γ a → wpAny P md ops Q (f + g) M a w := by
  intro f
  induction f with
  | zero =>
    intro M l Γ a w hlen _ _ _ _ _ _ hall hmk H
    obtain rfl := List.length_eq_zero_iff.1 hlen
    rw [Nat.zero_add, show M = mark hs L from hmk]
    exact H w hall
  | succ f ih =>
    intro M l Γ a w hlen hnd hpw hun hcov hΓ hh hall hmk H
    rw [show f + 1 + g = (f + g) + 1 by omega]
    refine ⟨fun h0 => absurd h0 hh.1, fun i hi => ?_⟩
    obtain ⟨hiu, oi, hoi, hdeps⟩ := mem_ready.1 hi
    have hil : i ∈ l := by
      rcases hcov i (hh.2.1 i hi) with h1 | h1
      · exact h1
      · rw [h1] at hiu; cases hiu
    have hiM : i < M.size := by
      rcases Nat.lt_or_ge i M.size with h' | h'
      · exact h'
      · simp [Array.getElem?_eq_none h'] at hiu
    have H1 := wpR_pull hsel hkeep hoi l Γ a hil hnd hpw (fun j hj => waits_dep hdeps (hun j hj)) hΓ ⟨w, hall⟩ H
    have hle : (l.erase i).length = f := by rw [List.length_erase_of_mem hil]; omega
    have next : ∀ Γ' a' w', (∀ h ∈ l.erase i, Γ' h = none) → All w0 p Γ' w' → wpR P md ops w0 fr p (fun Γ' a' => ∀ w', All w0 p Γ' w' → wpAny P md ops Q g (mark hs L) a' w') (l.erase i) Γ' a' →
        wpAny P md ops Q (f + g) (M.setIfInBounds i true) a' w' := fun Γ' a' w' hΓ' hall' H' =>
      ih (M.setIfInBounds i true) (l.erase i) Γ' a' w' hle (hnd.erase i) (hpw.sublist List.erase_sublist) (fun j hj => by
          have hne : j ≠ i := by rintro rfl; exact (List.Nodup.not_mem_erase hnd) hj
          rw [getD_set_ne true (Ne.symm hne)]; exact hun j (List.mem_of_mem_erase hj))
        (fun j hj => by
          by_cases hji : j = i
          · subst hji; right; simp
          · rcases hcov j hj with h1 | h1
            · left; exact (List.mem_erase_of_ne hji).2 h1
            · right; rw [getD_set_ne true (Ne.symm hji)]; exact h1)
        hΓ' (hh.2.2.2 i hi) hall' (by
          rw [← hmk]
          have key : ∀ (l : List Nat) (M : Array Bool), i ∈ l → mark l M = mark (l.erase i) (M.setIfInBounds i true) := by
            intro l
            induction l with
            | nil => intro M h; cases h
            | cons x l ihl =>
              intro M h
              by_cases hx : x = i
              · subst hx; simp [mark]
              · rw [List.erase_cons_tail (by simpa using hx)]
                simp only [mark, List.foldl_cons]
                have h2 := ihl (M.setIfInBounds x true) (by simpa [Ne.symm hx] using h)
                simp only [mark] at h2
                rw [h2, Array.setIfInBounds_comm _ _ hx]
          exact (key l M hil).symm) H'
    have hΓe : ∀ h ∈ l.erase i, Γ h = none := fun h hh' => hΓ h (List.mem_of_mem_erase hh')
    unfold wpR oneR at H1
    simp only [hoi] at H1
    unfold wpOp
    simp only [hoi]
    split
    · rename_i hwant
      rw [if_pos hwant] at H1
      left
      split at H1
      · rename_i hf
        obtain ⟨h1, h2⟩ := H1
        have h3 := h1 w (hall.cl oi)
        have go : ∀ u w'', Below w.heap.size w w'' → p i u w'' → wpAny P md ops Q (f + g) (M.setIfInBounds i true) (a.put oi.dst u) w'' := by
          intro u w'' hb hq
          have hall' : All w0 p (upd Γ i u) w'' := ⟨hall.1.trans (hb.mono hall.1.size), fun k v hk => by
            unfold upd at hk
            by_cases hki : k = i
            · subst hki; rw [if_pos rfl] at hk; cases hk; exact hq
            · rw [if_neg hki] at hk; exact hkeep _ _ _ _ (hall.2 k v hk) hb⟩
          refine next _ _ _ (fun k hk => ?_) hall' (h2 u ⟨w'', hall'⟩)
          unfold upd
          rw [if_neg (by rintro rfl; exact (List.Nodup.not_mem_erase hnd) hk)]
          exact hΓe k hk
        unfold freshAt at h3
        unfold Oper.wp
        generalize (execOp a.eval oi).run P w = r at h3 ⊢
        cases r with
        | halt x w' => exact h3.elim
        | ok n w' =>
          cases n <;> simp only at h3
          case value u => exact go u w' h3.1 h3.2
          case enter fn args =>
            obtain ⟨rfl, hc⟩ := h3
            exact hc.mono fun e w'' ⟨u, he, hb, hq⟩ => by subst he; exact go u w'' hb hq
      · rename_i hf
        obtain ⟨v, h1, h2⟩ := H1 ⟨w, hall.cl oi⟩
        have h3 := h1 w (hall.cl oi)
        unfold Oper.quietAt at h3
        unfold Oper.wp
        generalize hr : (execOp a.eval oi).run P w = r at h3 ⊢
        cases r with
        | halt x w' => simp only [Oper.quietUpon] at h3
        | ok n w' =>
          cases n <;> simp only [Oper.quietUpon] at h3
          case value u =>
            obtain ⟨rfl, rfl⟩ := h3
            exact next _ _ _ hΓe hall h2
          case skip =>
            obtain ⟨rfl, rfl⟩ := h3
            exact next _ _ _ hΓe hall h2
          case enter fn args => exact absurd hr (plain_ne (hplain i oi (hh.2.1 i hi) (by simpa using hf) hoi) _)
    · rename_i hwant
      rw [if_neg hwant] at H1
      exact next _ _ _ hΓe hall H1

def plainsB (ops : Array Oper) (fr : Nat → Bool) (hs : List Nat) : Bool := hs.all fun h => fr h || match ops[h]? with
  | none => false
  | some o => plainOp o.op

theorem wpAny_R {Q : Exit → Act → World → Prop} {L : Array Bool} {a : Act} {w : World} (fs : List Nat) (hs : List Nat) (g : Nat)
    (hkeep : ∀ i v w1 w2, p i v w1 → Below w1.heap.size w1 w2 → p i v w2)
    (hB : (groupB md ops L hs && pairsB md ops (fs.contains ·) hs && plainsB ops (fs.contains ·) hs) = true) (hw : Below w0.heap.size w0 w)
    (h : wpR P md ops w0 (fs.contains ·) p (fun Γ' a' => ∀ w', All w0 p Γ' w' → wpAny P md ops Q g (mark hs L) a' w') hs (fun _ => none) a) : wpAny P md ops Q (hs.length + g) L a w := by
  simp only [Bool.and_eq_true] at hB
  obtain ⟨⟨hG, hP⟩, hPl⟩ := hB
  have hG' := hG
  simp only [groupB, Bool.and_eq_true, decide_eq_true_eq] at hG'
  obtain ⟨⟨⟨⟨hsz, hsel⟩, hcl⟩, hout⟩, hord⟩ := hG'
  obtain ⟨hnd, hmem, hpre⟩ := orderB_spec hord
  have hleft : left hs L = hs.length := by
    unfold left
    rw [List.filter_eq_self.2 (fun j hj => by rw [(hmem j hj).2.1]; rfl)]
  have hsh : Shut md ops L := by
    intro j o ho hj e he hb
    have hjo : j < ops.size := by
      rcases Nat.lt_or_ge j ops.size with h' | h'
      · exact h'
      · simp [Array.getElem?_eq_none h'] at ho
    have h1 := List.all_eq_true.1 hcl j (List.mem_range.2 hjo)
    simp only [hj, ho, Bool.not_true, Bool.false_or] at h1
    simpa [hb] using Array.all_eq_true'.1 h1 e he
  have hh := hered_of hG hs.length L hleft hsh hsz (fun j hj => .inl hj) (fun j hj => hj)
  refine wpAny_of_wpR (hs := hs) (L := L) hsel (fun k o hk hf ho => ?_) hkeep hsz hs.length L hs (fun _ => none) a w rfl hnd (pairs_of hP) (fun j hj => (hmem j hj).2.1)
    (fun j hj => .inl hj) (fun _ _ => rfl) hh ⟨hw, fun _ _ hg => by cases hg⟩ rfl h
  have := List.all_eq_true.1 hPl k hk
  simp only [show (fs.contains k) = false from hf, ho, Bool.false_or] at this
  exact this

/-- A REGION THAT DRAWS: a group first: quiet operations, and (fs) operations that make memory, of whose yields p tells; then the others. -/
theorem wp_region_R {id : Nat} {Q : Exit → Act → World → Prop} {a : Act} {w : World} {l : List Oper} (fs hs : List Nat) (g : Nat) (p : Nat → Value → World → Prop) (hm : P.follows .mixedOrders = true)
    (hn : hs.length + g = l.length) (hkeep : ∀ i v w1 w2, p i v w1 → Below w1.heap.size w1 w2 → p i v w2)
    (hB : (groupB .any l.toArray (Array.replicate l.length false) hs && pairsB .any l.toArray (fs.contains ·) hs && plainsB l.toArray (fs.contains ·) hs) = true)
    (h : wpR P .any l.toArray w (fs.contains ·) p (fun Γ' a' => ∀ w', All w p Γ' w' → wpAny P .any l.toArray Q g (mark hs (Array.replicate l.length false)) a' w') hs (fun _ => none) a) :
    (Code.region id l.toArray true).wp P Q a w := by
  refine wp_region_any hm ?_
  have := wpAny_R (P := P) (Q := Q) (w0 := w) (w := w.drew) (a := a) fs hs g hkeep hB (Below.refl _ w).drew h
  rw [hn] at this
  simpa using this

/-! The steps of the walk through a group, its operations written out. -/
def numbered (ops : Array Oper) (hs : List Nat) : List (Nat × Oper) := hs.filterMap fun h => (ops[h]?).map (h, ·)
def wpS (P : Program) (md : Region.Mode) (ops : Array Oper) (w0 : World) (fr : Nat → Bool) (p : Nat → Value → World → Prop) (Fin : Known → Act → Prop) (l : List (Nat × Oper)) (Γ : Known) (a : Act) : Prop :=
  (∀ x ∈ l, ops[x.1]? = some x.2) → wpR P md ops w0 fr p Fin (l.map (·.1)) Γ a
theorem wpS_skip {Fin : Known → Act → Prop} {h : Nat} {rest : List (Nat × Oper)} {Γ : Known} {a : Act} {o : Oper} (hw : Region.wanted o (yielded ops a.tmps) = false)
    (H : wpS P md ops w0 fr p Fin rest Γ (a.put o.dst undef)) : wpS P md ops w0 fr p Fin ((h, o) :: rest) Γ a := by
  intro hl
  have ho : ops[h]? = some o := hl (h, o) (by simp)
  simp only [List.map_cons]
  unfold wpR oneR; simp only [ho, hw]; exact H fun x hx => hl x (by simp [hx])
theorem wpS_quiet {Fin : Known → Act → Prop} {h : Nat} {rest : List (Nat × Oper)} {Γ : Known} {a : Act} {o : Oper} (hw : Region.wanted o (yielded ops a.tmps) = true) (hf : fr h = false)
    (H : ∀ K : Act → Prop, (∀ a, wpS P md ops w0 fr p Fin rest Γ a → K a) → Nonempty (BQ w0 (Facts md p Γ o)) → (∀ (x : BQ w0 (Facts md p Γ o)) b i, (w0.cell? ⟨b, i, none⟩).isSome = true → x.w'.cell? ⟨b, i, none⟩ = w0.cell? ⟨b, i, none⟩) →
      o.quiet P a (fun w' => ∃ x : BQ w0 (Facts md p Γ o), w' = x.w') K) : wpS P md ops w0 fr p Fin ((h, o) :: rest) Γ a := by
  intro hl
  have ho : ops[h]? = some o := hl (h, o) (by simp)
  simp only [List.map_cons]
  unfold wpR oneR; simp only [ho, hw, hf, if_true, Bool.false_eq_true, if_false]
  exact fun ⟨_, x, _⟩ => H _ (fun _ h => h fun x hx => hl x (by simp [hx])) ⟨x⟩ (fun x b i hv => (bcell x.below).1 b i hv)
theorem wpS_fresh {Fin : Known → Act → Prop} {h : Nat} {rest : List (Nat × Oper)} {Γ : Known} {a : Act} {o : Oper} (hw : Region.wanted o (yielded ops a.tmps) = true) (hf : fr h = true)
    (H1 : ∀ w', Below w0.heap.size w0 w' → Facts md p Γ o w' → freshAt P o a (p h) w') (H2 : ∀ v W, p h v W → wpS P md ops w0 fr p Fin rest (upd Γ h v) (a.put o.dst v)) : wpS P md ops w0 fr p Fin ((h, o) :: rest) Γ a := by
  intro hl
  have ho : ops[h]? = some o := hl (h, o) (by simp)
  simp only [List.map_cons]
  unfold wpR oneR; simp only [ho, hw, hf, if_true]
  exact ⟨fun w' hc => H1 w' (Cl.iff.1 hc).1 (Cl.iff.1 hc).2, fun v ⟨W, hW⟩ => H2 v W (hW.2 h v (by simp [upd])) fun x hx => hl x (by simp [hx])⟩
theorem wpS_nil {Fin : Known → Act → Prop} {Γ : Known} {a : Act} (H : Fin Γ a) : wpS P md ops w0 fr p Fin [] Γ a := fun _ => H
theorem wpR_of_wpS {Fin : Known → Act → Prop} {hs : List Nat} {Γ : Known} {a : Act} (ho : ∀ h ∈ hs, ∃ o, ops[h]? = some o) (H : wpS P md ops w0 fr p Fin (numbered ops hs) Γ a) : wpR P md ops w0 fr p Fin hs Γ a := by
  have h1 : ∀ x ∈ numbered ops hs, ops[x.1]? = some x.2 := by
    intro x hx
    unfold numbered at hx
    obtain ⟨h, _, hx⟩ := List.mem_filterMap.1 hx
    cases hh : ops[h]? with
    | none => simp [hh] at hx
    | some o => simp [hh] at hx; subst hx; exact hh
  have h2 : (numbered ops hs).map (·.1) = hs := by
    clear H h1
    induction hs with
    | nil => rfl
    | cons h hs ih =>
      obtain ⟨o, hho⟩ := ho h (by simp)
      unfold numbered at ih ⊢
      simp only [List.filterMap_cons, hho, Option.map_some, List.map_cons]
      rw [ih fun k hk => ho k (by simp [hk])]
  have := H h1
  rwa [h2] at this
end

/-- What predicates, by number, say. -/
def pOf (ps : List (Nat × (Value → World → Prop))) (i : Nat) (v : Value) (W : World) : Prop := match ps.lookup i with
  | some q => q v W
  | none => False
def Keeps (q : Value → World → Prop) : Prop := ∀ v w1 w2, q v w1 → Below w1.heap.size w1 w2 → q v w2
theorem pOf_keeps {ps : List (Nat × (Value → World → Prop))} (h : ∀ x ∈ ps, Keeps x.2) : ∀ i v w1 w2, pOf ps i v w1 → Below w1.heap.size w1 w2 → pOf ps i v w2 := by
  induction ps with
  | nil => intro i v w1 w2 hp; exact hp.elim
  | cons x ps ih =>
    intro i v w1 w2 hp hb
    unfold pOf at *
    rw [List.lookup_cons] at *
    cases he : i == x.1 with
    | true => rw [he] at hp; exact h x (by simp) v w1 w2 hp hb
    | false => rw [he] at hp; exact ih (fun y hy => h y (by simp [hy])) i v w1 w2 hp hb

/-- A pointer to a block of the call's own that holds these cells. -/
def NewCells (B0 : Nat) (cs : List Value) (v : Value) (W : World) : Prop :=
  ∃ B, B0 ≤ B ∧ v = .pointer (some ⟨B, 0, none⟩) ∧ ∀ o c, cs[o]? = some c → W.cell? ⟨B, o, none⟩ = some c ∧ W.frozen? ⟨B, o, none⟩ = false
theorem keeps_new {B0 : Nat} {cs : List Value} : Keeps (NewCells B0 cs) := fun _ _ _ ⟨B, h1, h2, h3⟩ hb =>
  ⟨B, h1, h2, fun o c hc => ⟨bkeep hb (h3 o c hc).1, bfree hb (h3 o c hc).1 (h3 o c hc).2⟩⟩
theorem keeps_eq {u : Value} : Keeps (fun v _ => v = u) := fun _ _ _ h _ => h
theorem new_of {w w' : World} {cs : List Value} {t : TypeId} (hb : Below w.heap.size w w') :
    Below w'.heap.size w' (w'.alloc (.cells cs.toArray t)) ∧ NewCells w.heap.size cs (.pointer (some ⟨w'.heap.size, 0, none⟩)) (w'.alloc (.cells cs.toArray t)) :=
  ⟨(Below.refl _ _).alloc (Nat.le_refl _) _, w'.heap.size, hb.size, rfl, fun o c hc => by
    refine ⟨?_, World.frozen?_alloc_new w' cs.toArray t o⟩
    rw [World.cell?_alloc_new]; simpa using hc⟩

theorem wp_region_Rs {P : Program} {id : Nat} {Q : Exit → Act → World → Prop} {a : Act} {w : World} {l : List Oper} (ps : List (Nat × (Value → World → Prop))) (hs : List Nat) (g : Nat) (hm : P.follows .mixedOrders = true)
    (hn : hs.length + g = l.length) (hkeep : ∀ x ∈ ps, Keeps x.2)
    (hB : (groupB .any l.toArray (Array.replicate l.length false) hs && pairsB .any l.toArray ((ps.map (·.1)).contains ·) hs && plainsB l.toArray ((ps.map (·.1)).contains ·) hs) = true)
    (h : wpS P .any l.toArray w ((ps.map (·.1)).contains ·) (pOf ps) (fun Γ' a' => ∀ w', All w (pOf ps) Γ' w' → wpAny P .any l.toArray Q g (mark hs (Array.replicate l.length false)) a' w') (numbered l.toArray hs) (fun _ => none) a) :
    (Code.region id l.toArray true).wp P Q a w := by
  refine wp_region_R (ps.map (·.1)) hs g (pOf ps) hm hn (pOf_keeps hkeep) hB (wpR_of_wpS (fun k hk => ?_) h)
  simp only [groupB, Bool.and_eq_true] at hB
  obtain ⟨_, hmem, _⟩ := orderB_spec hB.1.1.2
  exact (hmem k hk).2.2
end Go.Pb
