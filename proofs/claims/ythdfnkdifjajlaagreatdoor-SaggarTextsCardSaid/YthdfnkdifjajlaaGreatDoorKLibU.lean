/- Part of a claim. -/
import Derived.WalkKit
import Derived.WalkSpells
import Derived.Handy
import Derived.BigQuiet
import Derived.Deep.QuietTactic
import Derived.Deep.DeepCutAuto
import Derived.ProofKit
import Derived.OpenShut
import Derived.ChangeSlices
import Derived.SizedLaws
import Derived.Deep.Slices
import Derived.RangeFuncNested
import Derived.RangeFuncBound
import Derived.RangeFuncCalls
import Derived.RangeFuncLeaves
import Derived.Shelf.Abstract
import Derived.Shelf.RegionOpen
import Derived.OwnWalkIn
import Derived.TacticsInMore
import Derived.LoopNIn
import Derived.LoopIn
import Derived.Laws.BitsAllLaws
set_option linter.unusedVariables false
set_option linter.unusedSimpArgs false
namespace Go.Pb
open Go.RowKit
def waits (md : Region.Mode) (o : Oper) (i : Nat) : Bool := o.after.any fun e => Region.binds md e && e.on == i
def reach (md : Region.Mode) (ops : Array Oper) : Nat → Nat → Nat → Bool
 | 0,_,_ => false
 | f + 1,t,h => match ops[t]? with
  | none => false
  | some o => o.after.any fun e => Region.binds md e && (e.on == h || reach md ops f e.on h)
def orderB (md : Region.Mode) (ops : Array Oper) (L : Array Bool) : List Nat → List Nat → Bool
 | _, [] => true
 | done,h :: rest =>
  (match ops[h]? with
   | none => false
   | some o => !L.getD h true && !done.contains h && !rest.contains h &&
    (o.after.all fun e => !Region.binds md e || L.getD e.on false || done.contains e.on) &&
    (rest.all fun j => match ops[j]? with
     | none => false
     | some oj => waits md oj h || o.apart ops oj)) &&
  orderB md ops L (done ++ [h]) rest
def outB (md : Region.Mode) (ops : Array Oper) (L : Array Bool) (hs : List Nat) : Bool :=
 (List.range ops.size).all fun t => L.getD t true || hs.contains t || match ops[t]? with
  | none => true
  | some o => (o.after.any fun e => Region.binds md e && !L.getD e.on false && !hs.contains e.on) || hs.all fun h => reach md ops ops.size t h
def closedB (md : Region.Mode) (ops : Array Oper) (L : Array Bool) : Bool :=
 (List.range ops.size).all fun t => !L.getD t false || match ops[t]? with
  | none => true
  | some o => o.after.all fun e => !Region.binds md e || L.getD e.on false
def groupB (md : Region.Mode) (ops : Array Oper) (L : Array Bool) (hs : List Nat) : Bool :=
 decide (L.size = ops.size) && Region.noSelect ops && closedB md ops L && outB md ops L hs && orderB md ops L [] hs
section
variable {P : Program} {md : Region.Mode} {ops : Array Oper} {C : World → Prop} {hs : List Nat}
def Hered (md : Region.Mode) (ops : Array Oper) (hs : List Nat) : Nat → Array Bool → Prop
 | 0,_ => True
 | f + 1,M => Region.ready md ops M ≠ [] ∧ (∀ i ∈ Region.ready md ops M,i ∈ hs) ∧ (f = 0 → ∀ i ∈ Region.ready md ops M, ∀ j ∈ Region.ready md ops M,i = j) ∧
  ∀ i ∈ Region.ready md ops M,Hered md ops hs f (M.setIfInBounds i true)
def wpG (P : Program) (md : Region.Mode) (ops : Array Oper) (C : World → Prop) (Fin : Array Bool → Act → Prop) : Nat → Array Bool → Act → Prop
 | 0,M,a => Fin M a
 | f + 1,M,a => ∀ i ∈ Region.ready md ops M,qOp P ops C i (wpG P md ops C Fin f (M.setIfInBounds i true)) a
theorem wpG_first {Fin : Array Bool → Act → Prop} {i : Nat} {oi : Oper} {v : Value} (hi : ops[i]? = some oi) (hsel : Region.noSelect ops = true) :
  ∀ (f : Nat) (M : Array Bool) (a : Act),Hered md ops hs (f + 1) M → i ∈ Region.ready md ops M →
   (∀ j ∈ hs, ∀ oj,ops[j]? = some oj → j ≠ i → M.getD j true = false → waits md oj i = true ∨ oi.apart ops oj = true) →
   YieldsIn P ops C oi v a → wpG P md ops C Fin f (M.setIfInBounds i true) (a.put oi.dst v) → wpG P md ops C Fin (f + 1) M a := by
 intro f
 induction f with
 | zero =>
  intro M a hh hr _ hy hG j hj
  obtain rfl := hh.2.2.1 rfl j hj i hr
  exact hy.qOp hi hG
 | succ f ih =>
  intro M a hh hr hfree hy hG j hj
  by_cases hji : j = i
  ·subst hji;exact hy.qOp hi hG
  obtain ⟨hun,oj,hoj,hdeps⟩ := mem_ready.1 hj
  have hap : oi.apart ops oj = true := by
   rcases hfree j (hh.2.1 j hj) oj hoj hji hun with hw | hap
   ·exfalso
    obtain ⟨e,he,hb⟩ := Array.any_eq_true'.1 hw
    simp only [Bool.and_eq_true,beq_iff_eq] at hb
    have h1 := hdeps e he hb.1
    rw [hb.2] at h1
    have h2 := (mem_ready.1 hr).1
    rcases Nat.lt_or_ge i M.size with h' | h'
    ·simp [h'] at h1 h2;rw [h1] at h2;cases h2
    ·simp [Array.getElem?_eq_none h'] at h1
   ·exact hap
  have h1 := hG j (ready_mono hj hji)
  have h2 := qOp_put hoj hap (fun cs b => Region.noSelect_spec hsel i oi cs b hi) (fun cs b => Region.noSelect_spec hsel j oj cs b hoj) hy h1
  refine qOp_mono (fun a' h3 => ih (M.setIfInBounds j true) a' (hh.2.2.2 j hj) (ready_mono hr (Ne.symm hji)) ?_ h3.1 ?_) h2
  ·intro k hk ok hok hki hku
   refine hfree k hk ok hok hki ?_
   by_cases hjk : j = k
   ·subst hjk;exact hun
   ·rwa [getD_set_ne true hjk] at hku
  ·rw [Array.setIfInBounds_comm _ _ hji];exact h3.2
def named (ops : Array Oper) (hs : List Nat) : List Oper := hs.filterMap (ops[·]?)
abbrev mark (l : List Nat) (M : Array Bool) : Array Bool := l.foldl (fun M h => M.setIfInBounds h true) M
theorem mark_out : ∀ (l : List Nat) (M : Array Bool) (j : Nat) (d : Bool),j ∉ l → (mark l M).getD j d = M.getD j d
 | [],_,_,_,_ => rfl
 | x :: l,M,j,d,hj => by
  simp only [mark,List.foldl_cons]
  rw [mark_out l _ j d (by simp_all),getD_set_ne d (by simp_all;omega)]
theorem mark_size : ∀ (l : List Nat) (M : Array Bool),(mark l M).size = M.size
 | [],_ => rfl
 | x :: l,M => by simp only [mark,List.foldl_cons];rw [mark_size l _];simp
theorem mark_in : ∀ (l : List Nat) (M : Array Bool) (j : Nat),j < M.size → j ∈ l ∨ M.getD j false = true → (mark l M).getD j false = true
 | [],_,_,_,hj => by simpa using hj
 | x :: l,M,j,hjs,hj => by
  simp only [mark,List.foldl_cons]
  refine mark_in l _ j (by simpa using hjs) ?_
  by_cases hjx : j = x
  ·subst hjx;right;simp [hjs]
  ·rcases hj with hj | hj
   ·left;simpa [hjx] using hj
   ·right;exact getD_set_true hj
theorem wpG_lex {Fin : Array Bool → Act → Prop} {L : Array Bool} (hsel : Region.noSelect ops = true) (hsz : L.size = ops.size) :
  ∀ (rest done : List Nat) (a : Act),(∀ j ∈ hs,j ∈ done ∨ j ∈ rest) → (∀ j ∈ done,j < L.size) → orderB md ops L done rest = true →
   Hered md ops hs rest.length (mark done L) →
   wpQuiet P ops C (Fin (mark (done ++ rest) L)) (named ops rest) a →
   wpG P md ops C Fin rest.length (mark done L) a := by
 intro rest
 induction rest with
 | nil => intro done a _ _ _ _ h;simpa [wpG,named,wpQuiet] using h
 | cons h rest ih =>
  intro done a hcov hin hB hh hq
  simp only [orderB,Bool.and_eq_true] at hB
  obtain ⟨hB1,hB2⟩ := hB
  cases ho : ops[h]? with
  | none => simp [ho] at hB1
  | some o =>
   simp only [ho,Bool.and_eq_true,Bool.not_eq_true',List.contains_eq_mem,decide_eq_false_iff_not] at hB1
   obtain ⟨⟨⟨⟨hL,hnd⟩,hnr⟩,hdep⟩,hfree⟩ := hB1
   simp only [named,List.filterMap_cons,ho] at hq
   have hst : qOp P ops C h (wpQuiet P ops C (Fin (mark (done ++ h :: rest) L)) (named ops rest)) a := by
    unfold qOp;simp only [ho];exact hq
   obtain ⟨v,hy,hK⟩ := yieldsIn_of_qOp ho hst
   have hhs : h < L.size := by
    rw [hsz]
    rcases Nat.lt_or_ge h ops.size with h' | h'
    ·exact h'
    ·simp [Array.getElem?_eq_none h'] at ho
   have hr : h ∈ Region.ready md ops (mark done L) := by
    refine mem_ready.2 ⟨by rw [mark_out _ _ _ _ hnd];exact hL,o,ho,fun e he hb => ?_⟩
    have := Array.all_eq_true'.1 hdep e he
    simp only [hb,Bool.not_true,Bool.false_or,Bool.or_eq_true,decide_eq_true_eq] at this
    rcases this with this | this
    ·refine mark_in _ _ _ ?_ (.inr this)
     rcases Nat.lt_or_ge e.on L.size with h' | h'
     ·exact h'
     ·simp [Array.getElem?_eq_none h'] at this
    ·exact mark_in _ _ _ (hin _ this) (.inl this)
   have hmk : (mark done L).setIfInBounds h true = mark (done ++ [h]) L := by simp [mark]
   simp only [List.length_cons]
   refine wpG_first ho hsel rest.length (mark done L) a (by simpa using hh) hr ?_ hy ?_
   ·intro j hj oj hoj hjh hju
    have hjr : j ∈ rest := by
     rcases hcov j hj with hd | hd
     ·exfalso
      have h1 := mark_in done L j (hin j hd) (.inl hd)
      have h2 : j < (mark done L).size := by rw [mark_size];exact hin j hd
      simp [h2] at h1 hju
      rw [h1] at hju;cases hju
     ·simpa [hjh] using hd
    have := List.all_eq_true.1 hfree j hjr
    simpa [hoj] using this
   ·rw [hmk]
    refine ih (done ++ [h]) _ ?_ ?_ hB2 ?_ ?_
    ·intro j hj
     rcases hcov j hj with hd | hd
     ·left;simp [hd]
     ·rcases List.mem_cons.1 hd with rfl | hd
      ·left;simp
      ·right;exact hd
    ·intro j hj
     rcases List.mem_append.1 hj with hj | hj
     ·exact hin j hj
     ·simp at hj;subst hj;exact hhs
    ·rw [← hmk];exact hh.2.2.2 h hr
    ·simpa using hK
def left (hs : List Nat) (M : Array Bool) : Nat := (hs.filter fun h => !M.getD h true).length
theorem left_set {M : Array Bool} {i : Nat} : ∀ {hs : List Nat},hs.Nodup → i ∈ hs → M.getD i true = false → left hs (M.setIfInBounds i true) + 1 = left hs M
 | [],_,hi,_ => by cases hi
 | x :: l,hn,hi,hu => by
  rw [List.nodup_cons] at hn
  have same : ∀ (l : List Nat),i ∉ l → left l (M.setIfInBounds i true) = left l M := by
   intro l hl
   unfold left
   congr 1
   refine List.filter_congr fun j hj => ?_
   rw [getD_set_ne true (by rintro rfl;exact hl hj)]
  by_cases hx : x = i
  ·subst hx
   have h1 := same l hn.1
   unfold left at h1 ⊢
   have h2 : x < M.size := by
    rcases Nat.lt_or_ge x M.size with h' | h'
    ·exact h'
    ·simp [Array.getElem?_eq_none h'] at hu
   have h3 : (M.setIfInBounds x true).getD x true = true := by simp
   simp only [List.filter_cons,hu,h3,Bool.not_true,Bool.not_false,Bool.false_eq_true,if_false,if_true,List.length_cons,h1]
  ·have hil : i ∈ l := by simpa [Ne.symm hx] using hi
   have ihl := left_set hn.2 hil hu
   unfold left at ihl ⊢
   simp only [List.filter_cons,getD_set_ne true (Ne.symm hx)]
   split
   ·simp only [List.length_cons];omega
   ·omega
theorem left_pos {M : Array Bool} {hs : List Nat} (h : 0 < left hs M) : ∃ i ∈ hs,M.getD i true = false := by
 unfold left at h
 obtain ⟨i,hi⟩ := List.exists_mem_of_length_pos h
 rw [List.mem_filter] at hi
 exact ⟨i,hi.1,by simpa using hi.2⟩
theorem left_one {M : Array Bool} {hs : List Nat} (h : left hs M = 1) {i j : Nat} (hi : i ∈ hs) (hj : j ∈ hs) (hiu : M.getD i true = false) (hju : M.getD j true = false) : i = j := by
 unfold left at h
 obtain ⟨x,hx⟩ := List.length_eq_one_iff.1 h
 have h1 : i ∈ hs.filter fun h => !M.getD h true := List.mem_filter.2 ⟨hi,by simp [hiu]⟩
 have h2 : j ∈ hs.filter fun h => !M.getD h true := List.mem_filter.2 ⟨hj,by simp [hju]⟩
 rw [hx] at h1 h2
 simp at h1 h2
 rw [h1,h2]
theorem orderB_spec {L : Array Bool} : ∀ {rest done : List Nat},orderB md ops L done rest = true → rest.Nodup ∧ (∀ h ∈ rest,h ∉ done ∧ L.getD h true = false ∧ ∃ o,ops[h]? = some o) ∧
  ∀ pre h post,rest = pre ++ h :: post → ∀ o,ops[h]? = some o → ∀ e ∈ o.after,Region.binds md e = true → L.getD e.on false = true ∨ e.on ∈ done ∨ e.on ∈ pre
 | [],done,_ => ⟨List.nodup_nil,by simp,by intro pre h post hp;simp at hp⟩
 | h :: rest,done,hB => by
  simp only [orderB,Bool.and_eq_true] at hB
  obtain ⟨hB1,hB2⟩ := hB
  cases ho : ops[h]? with
  | none => simp [ho] at hB1
  | some o =>
   simp only [ho,Bool.and_eq_true,Bool.not_eq_true',List.contains_eq_mem,decide_eq_false_iff_not] at hB1
   obtain ⟨⟨⟨⟨hL,hnd⟩,hnr⟩,hdep⟩,hfree⟩ := hB1
   obtain ⟨i1,i2,i3⟩ := orderB_spec hB2
   refine ⟨List.nodup_cons.2 ⟨hnr,i1⟩,fun k hk => ?_,fun pre k post hp o' ho' e he hb => ?_⟩
   ·rcases List.mem_cons.1 hk with rfl | hk
    ·exact ⟨hnd,hL,o,ho⟩
    ·have := i2 k hk
     exact ⟨fun hkd => this.1 (by simp [hkd]),this.2⟩
   ·cases pre with
    | nil =>
     simp at hp
     obtain ⟨rfl,rfl⟩ := hp
     obtain rfl : o = o' := Option.some.inj (ho.symm.trans ho')
     have := Array.all_eq_true'.1 hdep e he
     simp only [hb,Bool.not_true,Bool.false_or,Bool.or_eq_true,decide_eq_true_eq] at this
     rcases this with this | this
     ·exact .inl this
     ·exact .inr (.inl this)
    | cons y pre =>
     simp at hp
     obtain ⟨rfl,hp⟩ := hp
     rcases i3 pre k post hp o' ho' e he hb with h1 | h1 | h1
     ·exact .inl h1
     ·rcases List.mem_append.1 h1 with h1 | h1
      ·exact .inr (.inl h1)
      ·simp at h1;subst h1;exact .inr (.inr (by simp))
     ·exact .inr (.inr (by simp [h1]))
def Shut (md : Region.Mode) (ops : Array Oper) (M : Array Bool) : Prop := ∀ j o,ops[j]? = some o → M.getD j false = true → ∀ e ∈ o.after,Region.binds md e = true → M.getD e.on false = true
theorem Shut.set {M : Array Bool} (h : Shut md ops M) {i : Nat} (hi : i ∈ Region.ready md ops M) : Shut md ops (M.setIfInBounds i true) := by
 intro j o ho hj e he hb
 by_cases hij : i = j
 ·subst hij
  obtain ⟨_,o',ho',hd⟩ := mem_ready.1 hi
  obtain rfl : o = o' := Option.some.inj (ho.symm.trans ho')
  exact getD_set_true (hd e he hb)
 ·rw [getD_set_ne false hij] at hj
  exact getD_set_true (h j o ho hj e he hb)
theorem Shut.reach {M : Array Bool} (h : Shut md ops M) {hd : Nat} : ∀ (f t : Nat),(∀ o,ops[t]? = some o → ∀ e ∈ o.after,Region.binds md e = true → M.getD e.on false = true) →
  Pb.reach md ops f t hd = true → M.getD hd false = true
 | 0,_,_,hr => by simp [Pb.reach] at hr
 | f + 1,t,ht,hr => by
  unfold Pb.reach at hr
  cases ho : ops[t]? with
  | none => simp [ho] at hr
  | some o =>
   simp only [ho] at hr
   obtain ⟨e,he,hb⟩ := Array.any_eq_true'.1 hr
   simp only [Bool.and_eq_true,Bool.or_eq_true,beq_iff_eq] at hb
   have h1 := ht o ho e he hb.1
   rcases hb.2 with h2 | h2
   ·rw [← h2];exact h1
   ·exact h.reach f e.on (fun o' ho' e' he' hb' => h _ o' ho' h1 e' he' hb') h2
theorem hered_of {L : Array Bool} (hB : groupB md ops L hs = true) : ∀ (f : Nat) (M : Array Bool),left hs M = f → Shut md ops M → M.size = ops.size →
  (∀ j,M.getD j false = true → L.getD j false = true ∨ j ∈ hs) → (∀ j,L.getD j false = true → M.getD j false = true) → Hered md ops hs f M := by
 simp only [groupB,Bool.and_eq_true,decide_eq_true_eq] at hB
 obtain ⟨⟨⟨⟨hsz,hsel⟩,hcl⟩,hout⟩,hord⟩ := hB
 obtain ⟨hnd,hmem,hpre⟩ := orderB_spec hord
 intro f
 induction f with
 | zero => intros;trivial
 | succ f ih =>
  intro M hl hsh hms hML hLM
  have only : ∀ i ∈ Region.ready md ops M,i ∈ hs := by
   intro i hi
   obtain ⟨hu,o,ho,hd⟩ := mem_ready.1 hi
   have hio : i < ops.size := by
    rcases Nat.lt_or_ge i ops.size with h' | h'
    ·exact h'
    ·simp [Array.getElem?_eq_none h'] at ho
   have h1 := List.all_eq_true.1 hout i (List.mem_range.2 hio)
   simp only [Bool.or_eq_true,ho,List.contains_eq_mem,decide_eq_true_eq] at h1
   have hboth : M.getD i false = false := by simp [hms,hio] at hu ⊢;exact hu
   rcases h1 with (h1 | h1) | h1 | h1
   ·exfalso
    have : L.getD i false = true := by simp [hsz,hio] at h1 ⊢;exact h1
    rw [hLM i this] at hboth;cases hboth
   ·exact h1
   ·exfalso
    obtain ⟨e,he,hb⟩ := Array.any_eq_true'.1 h1
    simp only [Bool.and_eq_true,Bool.not_eq_true',decide_eq_false_iff_not] at hb
    rcases hML _ (hd e he hb.1.1) with h2 | h2
    ·rw [h2] at hb;simp at hb
    ·exact hb.2 h2
   ·exfalso
    obtain ⟨k,hk,hku⟩ := left_pos (hs := hs) (M := M) (by omega)
    have h2 := hsh.reach ops.size i (fun o' ho' => by
     obtain rfl : o = o' := Option.some.inj (ho.symm.trans ho')
     exact hd) (List.all_eq_true.1 h1 k hk)
    have hks : k < M.size := by
     rcases Nat.lt_or_ge k M.size with h' | h'
     ·exact h'
     ·simp [Array.getElem?_eq_none h'] at h2
    simp [hks] at h2 hku
    rw [h2] at hku;cases hku
  refine ⟨?_,only,fun hf0 i hi j hj => left_one (by omega) (only i hi) (only j hj) (mem_ready.1 hi).1 (mem_ready.1 hj).1,fun i hi => ?_⟩
  ·-- the first one that is not listed is ready
   have key : ∀ (rest pre : List Nat),hs = pre ++ rest → (∀ j ∈ pre,M.getD j false = true) → (∃ k ∈ rest,M.getD k true = false) → ∃ i,i ∈ Region.ready md ops M := by
    intro rest
    induction rest with
    | nil => intro pre _ _ hk;obtain ⟨k,hk,_⟩ := hk;cases hk
    | cons h rest ihr =>
     intro pre hp hall hk
     have hmh : h ∈ hs := by rw [hp];simp
     obtain ⟨_,_,o,ho⟩ := hmem h hmh
     have hho : h < M.size := by
      rw [hms]
      rcases Nat.lt_or_ge h ops.size with h' | h'
      ·exact h'
      ·simp [Array.getElem?_eq_none h'] at ho
     cases hu : M.getD h true with
     | false =>
      refine ⟨h,mem_ready.2 ⟨hu,o,ho,fun e he hb => ?_⟩⟩
      rcases hpre pre h rest hp o ho e he hb with h1 | h1 | h1
      ·exact hLM _ h1
      ·cases h1
      ·exact hall _ h1
     | true =>
      refine ihr (pre ++ [h]) (by simp [hp]) ?_ ?_
      ·intro j hj
       rcases List.mem_append.1 hj with hj | hj
       ·exact hall j hj
       ·simp at hj;subst hj;simp [hho] at hu ⊢;exact hu
      ·obtain ⟨k,hk,hku⟩ := hk
       rcases List.mem_cons.1 hk with rfl | hk
       ·rw [hu] at hku;cases hku
       ·exact ⟨k,hk,hku⟩
   obtain ⟨i,hi⟩ := key hs [] rfl (by simp) (left_pos (by omega))
   intro h0
   rw [h0] at hi;cases hi
  ·have hiu := (mem_ready.1 hi).1
   have hih := only i hi
   refine ih (M.setIfInBounds i true) ?_ (hsh.set hi) (by simpa using hms) ?_ ?_
   ·have := left_set hnd hih hiu;omega
   ·intro j hj
    by_cases hij : i = j
    ·subst hij;exact .inr hih
    ·rw [getD_set_ne false hij] at hj;exact hML j hj
   ·intro j hj;exact getD_set_true (hLM j hj)
theorem wpAny_of_wpG {Q : Exit → Act → World → Prop} {g : Nat} {Fin : Array Bool → Act → Prop} (hF : ∀ M a,Fin M a → ∀ w,C w → wpAny P md ops Q g M a w) :
  ∀ (f : Nat) (M : Array Bool) (a : Act) (w : World),Hered md ops hs f M → wpG P md ops C Fin f M a → C w → wpAny P md ops Q (f + g) M a w
 | 0,M,a,w,_,h,hw => by rw [Nat.zero_add];exact hF M a h w hw
 | f + 1,M,a,w,hh,h,hw => by
  rw [show f + 1 + g = (f + g) + 1 by omega]
  exact ⟨fun h0 => absurd h0 hh.1,fun i hi => wpOp_of_qOp hw (fun a' w' hw' h' => wpAny_of_wpG hF f _ a' w' (hh.2.2.2 i hi) h' hw') (h i hi)⟩
theorem wpAny_group {Q : Exit → Act → World → Prop} {L : Array Bool} {a : Act} {w : World} (hs : List Nat) (g : Nat) (hB : groupB md ops L hs = true) (hC : C w)
  (h : wpQuiet P ops C (fun a' => ∀ w',C w' → wpAny P md ops Q g (mark hs L) a' w') (named ops hs) a) : wpAny P md ops Q (hs.length + g) L a w := by
 have hB' := hB
 simp only [groupB,Bool.and_eq_true,decide_eq_true_eq] at hB'
 obtain ⟨⟨⟨⟨hsz,hsel⟩,hcl⟩,hout⟩,hord⟩ := hB'
 obtain ⟨hnd,hmem,hpre⟩ := orderB_spec hord
 have hleft : left hs L = hs.length := by
  unfold left
  rw [List.filter_eq_self.2 (fun j hj => by rw [(hmem j hj).2.1];rfl)]
 have hsh : Shut md ops L := by
  intro j o ho hj e he hb
  have hjo : j < ops.size := by
   rcases Nat.lt_or_ge j ops.size with h' | h'
   ·exact h'
   ·simp [Array.getElem?_eq_none h'] at ho
  have h1 := List.all_eq_true.1 hcl j (List.mem_range.2 hjo)
  simp only [hj,ho,Bool.not_true,Bool.false_or] at h1
  simpa [hb] using Array.all_eq_true'.1 h1 e he
 have hh := hered_of hB hs.length L hleft hsh hsz (fun j hj => .inl hj) (fun j hj => hj)
 refine wpAny_of_wpG (hs := hs) (Fin := fun M a' => ∀ w',C w' → wpAny P md ops Q g M a' w') (fun M a h w hw => h w hw) hs.length L a w hh ?_ hC
 have := wpG_lex (P := P) (C := C) (hs := hs) (Fin := fun M a' => ∀ w',C w' → wpAny P md ops Q g M a' w') hsel hsz hs [] a (fun j hj => .inr hj) (by simp) hord (by simpa [mark] using hh) (by simpa using h)
 simpa [mark] using this
end
theorem hid {p : Prop} (h : p) : Hid p := h
theorem ret_int {k : IntKind} {a b : Int} (h : a = b) : Ending.returned (.int k a) = .returned (.int k b) := by rw [h]
theorem ret_bool {a b : Bool} (h : a = b) : Ending.returned (.bool a) = .returned (.bool b) := by rw [h]
structure BW (w : World) where
 w' : World
 below : Below w.heap.size w w'
instance BW.inst (w : World) : Nonempty (BW w) := ⟨⟨w,Below.refl _ _⟩⟩
theorem lt_of_isSome {w : World} {a : Addr} (h : (w.cell? a).isSome = true) : a.block < w.heap.size := by
 obtain ⟨v,hv⟩ := Option.isSome_iff_exists.1 h
 exact World.block_lt_of_cell? w a hv
theorem BW.cell {w : World} (x : BW w) (b o : Nat) (h : (w.cell? ⟨b,o,none⟩).isSome = true) : x.w'.cell? ⟨b,o,none⟩ = w.cell? ⟨b,o,none⟩ := x.below.cell (lt_of_isSome h)
theorem BW.frozen {w : World} (x : BW w) (b o : Nat) (h : (w.cell? ⟨b,o,none⟩).isSome = true) : x.w'.frozen? ⟨b,o,none⟩ = w.frozen? ⟨b,o,none⟩ := x.below.frozen (lt_of_isSome h)
@[go_sem] theorem cell_alloc_kept (w : World) (o : Obj) (b i : Nat) (h : (w.cell? ⟨b,i,none⟩).isSome = true) : (w.alloc o).cell? ⟨b,i,none⟩ = w.cell? ⟨b,i,none⟩ :=
 World.cell?_alloc_lt w o _ (lt_of_isSome h)
@[go_sem] theorem frozen_alloc_kept (w : World) (o : Obj) (b i : Nat) (h : (w.cell? ⟨b,i,none⟩).isSome = true) : (w.alloc o).frozen? ⟨b,i,none⟩ = w.frozen? ⟨b,i,none⟩ :=
 World.frozen?_alloc_old w o _ (Nat.ne_of_lt (lt_of_isSome h))
theorem bcell {W w1 : World} (hb : Below W.heap.size W w1) : (∀ b o,(W.cell? ⟨b,o,none⟩).isSome = true → w1.cell? ⟨b,o,none⟩ = W.cell? ⟨b,o,none⟩) ∧
  (∀ b o,(W.cell? ⟨b,o,none⟩).isSome = true → w1.frozen? ⟨b,o,none⟩ = W.frozen? ⟨b,o,none⟩) :=
 ⟨fun _ _ h => hb.cell (lt_of_isSome h),fun _ _ h => hb.frozen (lt_of_isSome h)⟩
theorem bkeep {W w1 : World} (hb : Below W.heap.size W w1) {a : Addr} {v : Value} (h : W.cell? a = some v) : w1.cell? a = some v :=
 (hb.cell (World.block_lt_of_cell? W a h)).trans h
theorem bfree {W w1 : World} (hb : Below W.heap.size W w1) {a : Addr} {v : Value} (h : W.cell? a = some v) (hf : W.frozen? a = false) : w1.frozen? a = false :=
 (hb.frozen (World.block_lt_of_cell? W a h)).trans hf
theorem bnext {w W w1 : World} (h0 : Below w.heap.size w W) (hb : Below W.heap.size W w1) : Below w.heap.size w w1 := h0.trans (hb.mono h0.size)
def Ret (W : World) (v : Value) (e : Ending) (w' : World) : Prop := e = .returned v ∧ Below W.heap.size W w'
theorem BW.call {P : Program} {f : FuncId} {args : Array Value} {w : World} {v : Value} (x : BW w) (h : Calls P f args x.w' (Ret x.w' v)) :
  Calls P f args x.w' fun e w'' => e = .returned v ∧ ∃ y : BW w,w'' = y.w' :=
 h.mono fun _ w'' ⟨he,hb⟩ => ⟨he,⟨w'',x.below.trans (hb.mono x.below.size)⟩,rfl⟩
theorem wp_region_qb {P : Program} {id : Nat} {Q : Exit → Act → World → Prop} {a : Act} {w : World} {l : List Oper} (hm : P.follows .mixedOrders = true) (hB : Region.lexB .any l.toArray = true)
  (h : (∀ (x : BW w) b o,(w.cell? ⟨b,o,none⟩).isSome = true → x.w'.cell? ⟨b,o,none⟩ = w.cell? ⟨b,o,none⟩) →
   wpQuiet P l.toArray (fun w' => ∃ x : BW w,w' = x.w') (fun a' => ∀ w',Below w.heap.size w w' → Q .normal a' w') l a) : (Code.region id l.toArray true).wp P Q a w := by
 replace h := h fun x => x.cell
 refine wp_region_quiet (C := fun w' => ∃ x : BW w,w' = x.w') hm hB ⟨⟨_,(Below.refl _ w).drew⟩,rfl⟩ ?_
 have : (fun a' => ∀ w',Below w.heap.size w w' → Q .normal a' w') = (fun a' => ∀ w',(∃ x : BW w,w' = x.w') → Q .normal a' w') := by
  funext a';simp only [eq_iff_iff]
  exact ⟨fun h w' ⟨x,hx⟩ => hx ▸ h _ x.below,fun h w' hb => h w' ⟨⟨w',hb⟩,rfl⟩⟩
 rw [← this];simpa using h
theorem wp_region_gb {P : Program} {id : Nat} {Q : Exit → Act → World → Prop} {a : Act} {w : World} {l : List Oper} (hs : List Nat) (g : Nat) (hm : P.follows .mixedOrders = true)
  (hn : hs.length + g = l.length) (hB : groupB .any l.toArray (Array.replicate l.length false) hs = true)
  (h : (∀ (x : BW w) b o,(w.cell? ⟨b,o,none⟩).isSome = true → x.w'.cell? ⟨b,o,none⟩ = w.cell? ⟨b,o,none⟩) →
   wpQuiet P l.toArray (fun w' => ∃ x : BW w,w' = x.w') (fun a' => ∀ w',Below w.heap.size w w' → wpAny P .any l.toArray Q g (mark hs (Array.replicate l.length false)) a' w') (named l.toArray hs) a) :
  (Code.region id l.toArray true).wp P Q a w := by
 replace h := h fun x => x.cell
 refine wp_region_any hm ?_
 have := wpAny_group (P := P) (Q := Q) (C := fun w' => ∃ x : BW w,w' = x.w') (w := w.drew) (a := a) hs g hB ⟨⟨_,(Below.refl _ w).drew⟩,rfl⟩ (by
  have e : (fun a' => ∀ w',(∃ x : BW w,w' = x.w') → wpAny P .any l.toArray Q g (mark hs (Array.replicate l.length false)) a' w') = (fun a' => ∀ w',Below w.heap.size w w' → wpAny P .any l.toArray Q g (mark hs (Array.replicate l.length false)) a' w') := by
   funext a';simp only [eq_iff_iff]
   exact ⟨fun h w' hb => h w' ⟨⟨w',hb⟩,rfl⟩,fun h w' ⟨x,hx⟩ => hx ▸ h _ x.below⟩
  rw [e];exact h)
 rw [hn] at this
 simpa using this
theorem wpList_of_quiet {P : Program} {ops : Array Oper} {C : World → Prop} {Q : Exit → Act → World → Prop} : ∀ (l : List Oper) (a : Act) (w : World),C w →
  wpQuiet P ops C (fun a' => ∀ w',C w' → Q .normal a' w') l a → wpList P ops Q l a w
 | [],_,w,hw,h => h w hw
 | o :: rest,a,w,hw,h => by
  unfold wpQuiet at h
  unfold wpList
  split
  ·rename_i hwant
   rw [if_pos hwant] at h
   exact .inl (Oper.wp_of_quiet hw (fun a' w' hw' h' => wpList_of_quiet rest a' w' hw' h') h)
  ·rename_i hwant
   rw [if_neg hwant] at h
   exact wpList_of_quiet rest _ w hw h
theorem wp_region_qf {P : Program} {id : Nat} {Q : Exit → Act → World → Prop} {a : Act} {w : World} {l : List Oper}
  (h : (∀ (x : BW w) b o,(w.cell? ⟨b,o,none⟩).isSome = true → x.w'.cell? ⟨b,o,none⟩ = w.cell? ⟨b,o,none⟩) →
   wpQuiet P l.toArray (fun w' => ∃ x : BW w,w' = x.w') (fun a' => ∀ w',Below w.heap.size w w' → Q .normal a' w') l a) : (Code.region id l.toArray false).wp P Q a w := by
 replace h := h fun x => x.cell
 have e : (fun a' => ∀ w',Below w.heap.size w w' → Q .normal a' w') = (fun a' => ∀ w',(∃ x : BW w,w' = x.w') → Q .normal a' w') := by
  funext a';simp only [eq_iff_iff]
  exact ⟨fun h w' ⟨x,hx⟩ => hx ▸ h _ x.below,fun h w' hb => h w' ⟨⟨w',hb⟩,rfl⟩⟩
 rw [e] at h
 exact wp_region_lit (wpList_of_quiet (C := fun w' => ∃ x : BW w,w' = x.w') l a w ⟨⟨w,Below.refl _ _⟩,rfl⟩ h)
end Go.Pb
namespace Go.Pb.Ware
structure Rg where
 lo : Int
 hi : Int
structure Sh where
 id : Int
 wide : Rg
 deep : Rg
 high : Rg
 nest : Int
 weight : Rg
 bears : Int
structure Bo where
 id : Int
 shrink : Rg
 loss : Rg
 heat : Rg
structure Tr where
 source : Int
 wet : Rg
 dry : Rg
def btw (n lo hi : Int) : Bool := decide (lo ≤ n) && decide (n ≤ hi)
def rgOk (r : Rg) (lo hi : Int) : Bool := decide (lo ≤ r.lo) && decide (r.lo ≤ r.hi) && decide (r.hi ≤ hi)
def shOk (s : Sh) : Bool :=
 btw s.id 1 999 && rgOk s.wide 0 2000 && rgOk s.deep 0 2000 && rgOk s.high 0 2000 && btw s.nest 0 s.high.lo && rgOk s.weight 0 100000 && btw s.bears 0 1000000
def boOk (b : Bo) : Bool :=
 btw b.id 1 999 && rgOk b.shrink 0 200 && rgOk b.loss 0 300 && rgOk b.heat 1 2000
def trOk (t : Tr) : Bool := btw t.source 1 99999 && rgOk t.wet 1 2000 && rgOk t.dry 0 2000
theorem btw_iff {n lo hi : Int} : btw n lo hi = true ↔ lo ≤ n ∧ n ≤ hi := by simp [btw]
theorem rgOk_iff {r : Rg} {lo hi : Int} : rgOk r lo hi = true ↔ lo ≤ r.lo ∧ r.lo ≤ r.hi ∧ r.hi ≤ hi := by simp [rgOk,and_assoc]
theorem shOk_iff {s : Sh} : shOk s = true ↔ (1 ≤ s.id ∧ s.id ≤ 999) ∧ (0 ≤ s.wide.lo ∧ s.wide.lo ≤ s.wide.hi ∧ s.wide.hi ≤ 2000) ∧ (0 ≤ s.deep.lo ∧ s.deep.lo ≤ s.deep.hi ∧ s.deep.hi ≤ 2000) ∧
  (0 ≤ s.high.lo ∧ s.high.lo ≤ s.high.hi ∧ s.high.hi ≤ 2000) ∧ (0 ≤ s.nest ∧ s.nest ≤ s.high.lo) ∧ (0 ≤ s.weight.lo ∧ s.weight.lo ≤ s.weight.hi ∧ s.weight.hi ≤ 100000) ∧ (0 ≤ s.bears ∧ s.bears ≤ 1000000) := by
 simp only [shOk,Bool.and_eq_true,btw_iff,rgOk_iff];omega
theorem mul_bd (a b m n : Int) (h0 : 0 ≤ a) (h1 : a ≤ m) (h2 : 0 ≤ b) (h3 : b ≤ n) : 0 ≤ a * b ∧ a * b ≤ m * n :=
 ⟨Int.mul_nonneg h0 h2,Int.mul_le_mul h1 h3 h2 (by omega)⟩
def up (n d : Int) : Int := -(-n / d)
theorem up_eq (n d : Int) (hd : 0 < d) : (n + d - 1) / d = up n d := by
 unfold up
 have h1 := Int.mul_ediv_add_emod (-n) d
 have h2 := Int.emod_nonneg (-n) (Int.ne_of_gt hd)
 have h3 := Int.emod_lt_of_pos (-n) hd
 have h4 : n + d - 1 = (d - 1 - (-n) % d) + d * (-(-n / d)) := by rw [Int.mul_neg];omega
 rw [h4,Int.add_mul_ediv_left _ _ (Int.ne_of_gt hd),Int.ediv_eq_zero_of_lt (by omega) (by omega)]
 omega
def ckS (s : Sh) : Int := if shOk s = true then 0 else 10
def zRg : Rg := ⟨0,0⟩
def ckP (s : Sh) (many : Int) : Int := if shOk s = true then if btw many 1 40 = true then 0 else 14 else 10
def heightOf (s : Sh) (many : Int) : Rg := ⟨s.high.lo + (many - 1) * (s.high.lo - s.nest),s.high.hi + (many - 1) * (s.high.hi - s.nest)⟩
def standsB (s : Sh) (many : Int) : Bool := decide ((many - 1) * s.weight.hi ≤ s.bears)
def height (s : Sh) (many : Int) : Rg × Int := if ckP s many = 0 then (heightOf s many,0) else (zRg,ckP s many)
def load (s : Sh) (many at' : Int) : Rg × Int :=
 if ckP s many = 0 then if btw at' 0 (many - 1) = true then (⟨(many - 1 - at') * s.weight.lo,(many - 1 - at') * s.weight.hi⟩,0) else (zRg,1) else (zRg,ckP s many)
def stands (s : Sh) (many : Int) : Bool × Int := if ckP s many = 0 then (standsB s many,0) else (false,ckP s many)
def fitsB (s : Sh) (high many : Int) : Bool := standsB s many && decide ((heightOf s many).hi ≤ high)
def mostTo (s : Sh) (high : Int) : Nat → Nat
 | 0 => 0
 | k + 1 => if fitsB s high ((k + 1 : Nat) : Int) = true then k + 1 else mostTo s high k
def most (s : Sh) (high : Int) : Int × Int :=
 if shOk s = true then if mostTo s high 40 = 0 then (0,3) else ((mostTo s high 40 : Nat),0) else (0,10)
end Go.Pb.Ware
namespace Go.Pb
open Go.RowKit Go.ChangeShapes Go.WideShapes Go.ChangeAt
section
variable {H : Type} {enc : TypeId × Value → H} {P : Program} {w : World} {base : Nat} {spare : Nat → Bool} {held : Bool}
theorem trodAll_below (hl : laidOutB P = true) {W W' : World} (hb : Below W.heap.size W W') : ∀ {ts : List TypeId} {vs : List Value} {ds : List (DataW H)} {ps : List MemPlace},
  (ts.all fun t => P.readableRec t && decide (t < P.types.size)) = true → DataW.TrodAll enc P W 0 (fun _ => true) true ts vs ds ps → (∀ x ∈ ps,x.block < W.heap.size) →
  DataW.TrodAll enc P W' 0 (fun b => decide (b < W.heap.size)) true ts vs ds ps
 | [], [], [],_,_,h,_ => h
 | t :: ts,v :: vs,d :: ds,ps,hr,h,hlt => by
  obtain ⟨p,q,h1,h2,rfl⟩ := h
  simp only [List.all_cons,Bool.and_eq_true,decide_eq_true_eq] at hr
  exact ⟨p,q,Below.trod hl hr.1.1 hr.1.2 h1 hb (fun x hx => hlt x (by simp [hx])),trodAll_below hl hb hr.2 h2 (fun x hx => hlt x (by simp [hx])),rfl⟩
 | [], [],_ :: _,_,_,h,_ => h.elim
 | [],_ :: _,_,_,_,h,_ => by cases h
 | _ :: _, [],_,_,_,h,_ => by cases h
 | _ :: _,_ :: _, [],_,_,h,_ => by cases h
theorem law_post {f : Func} {s : ChangeSpec} {W W' : World} {args : Array Value} {ds gs : List (DataW H)} {before : List MemPlace} {tb : TypeId}
  (hl : laidOutB P = true) (hr : (f.params.toList.all fun t => P.readableRec t && decide (t < P.types.size)) = true) (hvars : s.vars = [])
  (hfn : ∀ ds : List (DataW H),ds.length = f.params.size → s.fn H ds = { results := [.lit (.bool true)],args := ds })
  (hres : f.resultTypes = #[tb]) (htb : P.underlying tb = some .bool)
  (hW : DataW.Whole enc P f.params.toList s.vars false W args.toList ds gs before) (hb : Below W.heap.size W W') :
  s.post enc P f false true false false W args (.bool true) W' := by
 have hW' := hW
 obtain ⟨p,q,hA,hV,rfl,hfz,hnd⟩ := hW
 rw [hvars] at hV
 obtain ⟨rfl,rfl⟩ := trodVars_none hV
 have hlen : ∀ {ts : List TypeId} {vs : List Value} {ds : List (DataW H)} {ps : List MemPlace},DataW.TrodAll enc P W 0 (fun _ => true) true ts vs ds ps → ds.length = ts.length := by
  intro ts
  induction ts with
  | nil => intro vs ds ps h;cases vs <;> cases ds <;> first | rfl | exact h.elim
  | cons t ts ih =>
   intro vs ds ps h
   cases vs with
   | nil => cases ds <;> exact h.elim
   | cons v vs => cases ds with
    | nil => exact h.elim
    | cons d ds => obtain ⟨_,_,_,h2,_⟩ := h;simp [ih h2]
 have hfn' := hfn ds (by rw [hlen hA];simp)
 have hlt : ∀ x ∈ p,x.block < W.heap.size := fun x hx => by simpa using hW'.lt x (by simpa using hx)
 refine ⟨ds, [],p ++ [], [],p, [],hW', ?_, ?_, ?_,hb.frame _,fun h => by cases h⟩
 ·simp only [List.append_nil,hfn',hres]
  exact trodAll_mk1 (shut_bool htb _)
 ·simp only [List.append_nil,hfn']
  exact trodAll_below hl hb hr hA hlt
 ·simp only [List.append_nil,hfn',hvars];rfl
end
end Go.Pb
namespace Go.Pb

open Go.RowKit
def plainOp : Op → Bool
 | .nilCheck _ | .move _ | .assign _ | .load _ _ | .fieldAddr _ _ _ | .binOp _ _ _ _ _ | .unOp _ _ _ | .build _ _ | .field _ _ _ | .extract _ _ | .index _ _ _ | .indexAddr _ _ _ | .slice _ _ _ _ _ | .pick _ _ _ => true
 | .call c => match c.callee with
  | .builtin .len | .builtin .cap | .builtin .max | .builtin .min => true
  | _ => false
 | _ => false
theorem run_value_ne {P : Program} {w : World} {s : Sem Value} {f : FuncId} {args : Array Value} {w' : World} :
  (do pure (Next.value (← s)) : Sem Next).run P w ≠ .ok (.enter f args) w' := by
 intro h
 simp only [Sem.run_bind] at h
 cases hs : s.run P w with
 | ok x w1 => simp [hs,Result.andThen] at h
 | halt x w1 => simp [hs,Result.andThen] at h
theorem bind_ne {α : Type} {P : Program} {s : Sem α} {k : α → Sem Next} (hk : ∀ x (w : World) f args w',(k x).run P w ≠ .ok (.enter f args) w') {w : World} {f : FuncId} {args : Array Value} {w' : World} : (s >>= k).run P w ≠ .ok (.enter f args) w' := by
 intro h
 simp only [Sem.run_bind] at h
 cases hs : s.run P w with
 | ok x w1 => rw [hs] at h;exact hk x w1 f args w' h
 | halt x w1 => simp [hs,Result.andThen] at h
theorem pure_ne {P : Program} {v : Value} (w : World) (f : FuncId) (args : Array Value) (w' : World) : (pure (Next.value v) : Sem Next).run P w ≠ .ok (.enter f args) w' := by simp
theorem plain_ne {P : Program} {w : World} {o : Oper} (ho : plainOp o.op = true) (ρ : Operand → Value) {f : FuncId} {args : Array Value} {w' : World} :
  (execOp ρ o).run P w ≠ .ok (.enter f args) w' := by
 obtain ⟨dst,op,type,pos,after,guard⟩ := o
 cases op
 case call c =>
  obtain ⟨callee,args',tys⟩ := c
  simp only [plainOp] at ho
  simp only [execOp,resolve]
  split at ho
  all_goals first | cases ho | skip
  all_goals (simp only [pure_bind,invoke,builtin];exact run_value_ne)
 case nilCheck x =>
  simp only [execOp]
  split
  ·intro h;simp [runtimePanic] at h
  ·intro h;simp [runtimePanic] at h
  ·intro h;simp [runtimePanic] at h
  ·split
   ·intro h;simp [runtimePanic] at h
   ·refine bind_ne fun p w1 f1 a1 w2 => bind_ne fun b w3 f3 a3 w4 => ?_
    split
    ·exact bind_ne (fun _ w f args w' => pure_ne w f args w')
    ·exact pure_ne _ _ _ _
   ·exact pure_ne _ _ _ _
  ·exact pure_ne _ _ _ _
 case pick c x y =>
  simp only [execOp]
  intro h
  simp only [Sem.run_bind] at h
  cases hs : (asBool (ρ c)).run P w with
  | ok x w1 => simp [hs,Result.andThen] at h
  | halt x w1 => simp [hs,Result.andThen] at h
 all_goals simp only [plainOp] at ho <;> (try cases ho) <;> simp only [execOp] <;> first | exact run_value_ne | (intro h;simp at h)
section
variable {P : Program} {md : Region.Mode} {ops : Array Oper} {w0 : World} {fr : Nat → Bool} {p : Nat → Value → World → Prop}
abbrev Known := Nat → Option Value
def upd (Γ : Known) (h : Nat) (v : Value) : Known := fun g => if g = h then some v else Γ g
structure BQ (w0 : World) (q : World → Prop) where
 w' : World
 below : Below w0.heap.size w0 w'
 has : q w'
def Facts (md : Region.Mode) (p : Nat → Value → World → Prop) (Γ : Known) (o : Oper) (w' : World) : Prop := ∀ g v, Γ g = some v → waits md o g = true → p g v w'
def Cl (w0 : World) (md : Region.Mode) (p : Nat → Value → World → Prop) (Γ : Known) (o : Oper) (w' : World) : Prop := ∃ x : BQ w0 (Facts md p Γ o),w' = x.w'
theorem Cl.iff {Γ : Known} {o : Oper} {w' : World} : Cl w0 md p Γ o w' ↔ Below w0.heap.size w0 w' ∧ Facts md p Γ o w' :=
 ⟨fun ⟨x,hx⟩ => hx ▸ ⟨x.below,x.has⟩,fun ⟨h1,h2⟩ => ⟨⟨w',h1,h2⟩,rfl⟩⟩
def All (w0 : World) (p : Nat → Value → World → Prop) (Γ : Known) (W : World) : Prop := Below w0.heap.size w0 W ∧ ∀ g v, Γ g = some v → p g v W
theorem All.cl {Γ : Known} {W : World} (h : All w0 p Γ W) (o : Oper) : Cl w0 md p Γ o W := Cl.iff.2 ⟨h.1,fun g v hg _ => h.2 g v hg⟩
def freshAt (P : Program) (o : Oper) (a : Act) (p : Value → World → Prop) (w' : World) : Prop :=
 match (execOp a.eval o).run P w' with
 | .ok (.value u) w'' => Below w'.heap.size w' w'' ∧ p u w''
 | .ok (.enter f args) w'' => w'' = w' ∧ Calls P f args w' (fun e w'' => ∃ u,e = .returned u ∧ Below w'.heap.size w' w'' ∧ p u w'')
 | _ => False
def oneR (P : Program) (md : Region.Mode) (ops : Array Oper) (w0 : World) (fr : Nat → Bool) (p : Nat → Value → World → Prop) (Γ : Known) (h : Nat) (K : Known → Act → Prop) (a : Act) : Prop :=
 match ops[h]? with
 | none => K Γ a
 | some o =>
  if Region.wanted o (yielded ops a.tmps) = true then
   if fr h = true then (∀ w',Cl w0 md p Γ o w' → freshAt P o a (p h) w') ∧ ∀ v,(∃ W,All w0 p (upd Γ h v) W) → K (upd Γ h v) (a.put o.dst v)
   else (∃ W,Cl w0 md p Γ o W) → ∃ v,(∀ w',Cl w0 md p Γ o w' → o.quietAt P a (Cl w0 md p Γ o) w' v) ∧ K Γ (a.put o.dst v)
  else K Γ (a.put o.dst undef)
def wpR (P : Program) (md : Region.Mode) (ops : Array Oper) (w0 : World) (fr : Nat → Bool) (p : Nat → Value → World → Prop) (Fin : Known → Act → Prop) : List Nat → Known → Act → Prop
 | [], Γ,a => Fin Γ a
 | h :: rest, Γ,a => oneR P md ops w0 fr p Γ h (wpR P md ops w0 fr p Fin rest) a
theorem facts_upd {Γ : Known} {j : Nat} {v : Value} {o : Oper} {w' : World} (hw : waits md o j = false) : Facts md p (upd Γ j v) o w' ↔ Facts md p Γ o w' := by
 unfold Facts upd
 constructor
 ·intro h g u hg hwt
  refine h g u ?_ hwt
  rw [if_neg (by rintro rfl;rw [hw] at hwt;cases hwt)];exact hg
 ·intro h g u hg hwt
  refine h g u ?_ hwt
  rwa [if_neg (by rintro rfl;rw [hw] at hwt;cases hwt)] at hg
theorem cl_upd {Γ : Known} {j : Nat} {v : Value} {o : Oper} (hw : waits md o j = false) : Cl w0 md p (upd Γ j v) o = Cl w0 md p Γ o := by
 funext w';rw [eq_iff_iff,Cl.iff,Cl.iff,facts_upd hw]
theorem upd_comm {Γ : Known} {i j : Nat} {v u : Value} (h : i ≠ j) : upd (upd Γ i v) j u = upd (upd Γ j u) i v := by
 funext g;unfold upd
 by_cases h1 : g = j
 ·subst h1;simp [Ne.symm h]
 ·by_cases h2 : g = i
  ·subst h2;simp [h1]
  ·simp [h1,h2]
theorem All.less {Γ : Known} {j : Nat} {v : Value} {W : World} (hj : Γ j = none) (h : All w0 p (upd Γ j v) W) : All w0 p Γ W :=
 ⟨h.1,fun g u hg => h.2 g u (by unfold upd;rw [if_neg (by rintro rfl;rw [hj] at hg;cases hg)];exact hg)⟩
theorem fresh_inh {o : Oper} {a : Act} {q : Value → World → Prop} {W : World} (h : freshAt P o a q W) : ∃ u W',Below W.heap.size W W' ∧ q u W' := by
 unfold freshAt at h
 split at h
 ·exact ⟨_,_,h⟩
 ·obtain ⟨e,w',fr',⟨u,_,hb,hq⟩,_⟩ := h.2 []
  exact ⟨u,w',hb,hq⟩
 ·exact h.elim
theorem quietAt_det {o : Oper} (ho : plainOp o.op = true) {a : Act} {C C' : World → Prop} {w' : World} {v u : Value} (h1 : o.quietAt P a C w' v) (h2 : o.quietAt P a C' w' u) : v = u := by
 unfold Oper.quietAt at h1 h2
 generalize hr : (execOp a.eval o).run P w' = r at h1 h2
 cases r with
 | halt x w'' => simp only [Oper.quietUpon] at h1
 | ok n w'' =>
  cases n <;> simp only [Oper.quietUpon] at h1 h2
  case value x => rw [← h1.2, ← h2.2]
  case skip => rw [h1.2,h2.2]
  case enter f args => exact absurd hr (plain_ne ho _)
theorem oneR_swap {Γ : Known} {i j : Nat} {oi oj : Oper} {K : Known → Act → Prop} {a : Act} (hne : i ≠ j) (hi : ops[i]? = some oi) (hj : ops[j]? = some oj)
  (hsel : Region.noSelect ops = true) (hap : oj.apart ops oi = true) (hij : waits md oi j = false) (hji : waits md oj i = false)
  (hpl : fr j = true → fr i = false → plainOp oi.op = true) {W : World} (hW : All w0 p Γ W) (hΓi : Γ i = none) (hΓj : Γ j = none)
  (hkeep : ∀ i v w1 w2,p i v w1 → Below w1.heap.size w1 w2 → p i v w2)
  (H : oneR P md ops w0 fr p Γ j (fun Γ' a' => oneR P md ops w0 fr p Γ' i K a') a) : oneR P md ops w0 fr p Γ i (fun Γ' a' => oneR P md ops w0 fr p Γ' j K a') a := by
 obtain ⟨a1,a2,a3⟩ := Oper.apart_spec hap
 have si := fun cs b => Region.noSelect_spec hsel i oi cs b hi
 have sj := fun cs b => Region.noSelect_spec hsel j oj cs b hj
 have e1 : ∀ v,Region.wanted oi (yielded ops (a.put oj.dst v).tmps) = Region.wanted oi (yielded ops a.tmps) := fun v => wanted_put oi a oj.dst v a1
 have e2 : ∀ v,Region.wanted oj (yielded ops (a.put oi.dst v).tmps) = Region.wanted oj (yielded ops a.tmps) := fun v => wanted_put oj a oi.dst v a3
 have q1 : ∀ v C w' u,oi.quietAt P (a.put oj.dst v) C w' u ↔ oi.quietAt P a C w' u := fun v C w' u => by unfold Oper.quietAt;rw [execOp_put oi si a oj.dst v a1]
 have q2 : ∀ v C w' u,oj.quietAt P (a.put oi.dst v) C w' u ↔ oj.quietAt P a C w' u := fun v C w' u => by unfold Oper.quietAt;rw [execOp_put oj sj a oi.dst v a3]
 have f1 : ∀ v q w',freshAt P oi (a.put oj.dst v) q w' ↔ freshAt P oi a q w' := fun v q w' => by unfold freshAt;rw [execOp_put oi si a oj.dst v a1]
 have f2 : ∀ v q w',freshAt P oj (a.put oi.dst v) q w' ↔ freshAt P oj a q w' := fun v q w' => by unfold freshAt;rw [execOp_put oj sj a oi.dst v a3]
 have pc : ∀ v u,(a.put oj.dst v).put oi.dst u = (a.put oi.dst u).put oj.dst v := fun v u => Act.put_comm a v u a2
 have inh : ∀ h o, Γ h = none → (∀ w',Cl w0 md p Γ o w' → freshAt P o a (p h) w') → ∃ v, ∃ W,All w0 p (upd Γ h v) W := by
  intro h o hh hf
  obtain ⟨u,W',hb,hq⟩ := fresh_inh (hf W (hW.cl o))
  refine ⟨u,W',hW.1.trans (hb.mono hW.1.size),fun g v hg => ?_⟩
  unfold upd at hg
  by_cases hgh : g = h
  ·subst hgh;rw [if_pos rfl] at hg;cases hg;exact hq
  ·rw [if_neg hgh] at hg;exact hkeep _ _ _ _ (hW.2 g v hg) hb
 unfold oneR at *
 simp only [hi,hj,e1,e2,q1,q2,f1,f2,pc] at *
 by_cases wj : Region.wanted oj (yielded ops a.tmps) = true
 ·by_cases wi : Region.wanted oi (yielded ops a.tmps) = true
  ·simp only [wj,wi,if_true] at *
   by_cases fj : fr j = true
   ·by_cases fi : fr i = true
    ·simp only [fj,fi,if_true,cl_upd hij,cl_upd hji] at *
     obtain ⟨h1,h2⟩ := H
     obtain ⟨v0,hv0⟩ := inh j oj hΓj h1
     refine ⟨(h2 v0 hv0).1,fun v _ => ⟨h1,fun u hu => ?_⟩⟩
     rw [upd_comm hne] at hu ⊢
     have hΓ : upd Γ j u i = none := by unfold upd;rw [if_neg hne];exact hΓi
     obtain ⟨W',hW'⟩ := hu
     exact (h2 u ⟨W',hW'.less hΓ⟩).2 v ⟨W',hW'⟩
    ·have fi' : fr i = false := by simpa using fi
     simp only [fj,fi',if_true,Bool.false_eq_true,if_false,cl_upd hij,cl_upd hji] at *
     obtain ⟨h1,h2⟩ := H
     obtain ⟨v0,hv0⟩ := inh j oj hΓj h1
     obtain ⟨vi,hvi,_⟩ := h2 v0 hv0 ⟨W,hW.cl _⟩
     refine fun _ => ⟨vi,hvi,h1,fun u hu => ?_⟩
     obtain ⟨vi',hvi',hK⟩ := h2 u hu ⟨W,hW.cl _⟩
     obtain rfl : vi = vi' := quietAt_det (hpl trivial trivial) (hvi W (hW.cl _)) (hvi' W (hW.cl _))
     exact hK
   ·have fj' : fr j = false := by simpa using fj
    by_cases fi : fr i = true
    ·simp only [fj',fi,if_true,Bool.false_eq_true,if_false,cl_upd hij,cl_upd hji] at *
     obtain ⟨vj,h1,h2,h3⟩ := H ⟨W,hW.cl _⟩
     exact ⟨h2,fun v hv => fun _ => ⟨vj,h1,h3 v hv⟩⟩
    ·have fi' : fr i = false := by simpa using fi
     simp only [fj',fi',Bool.false_eq_true,if_false,cl_upd hij,cl_upd hji] at *
     obtain ⟨vj,h1,h4⟩ := H ⟨W,hW.cl _⟩
     obtain ⟨vi,h2,h3⟩ := h4 ⟨W,hW.cl _⟩
     exact fun _ => ⟨vi,h2,fun _ => ⟨vj,h1,h3⟩⟩
  ·simp only [wj,wi,if_true] at *
   by_cases fj : fr j = true
   ·simp only [fj,if_true] at *
    exact H
   ·simp only [fj] at *
    exact H
 ·by_cases wi : Region.wanted oi (yielded ops a.tmps) = true
  ·simp only [wj,wi,if_true] at *
   by_cases fi : fr i = true
   ·simp only [fi,if_true] at *
    exact H
   ·simp only [fi] at *
    exact H
  ·simp only [wj,wi] at *
   exact H
def Pair (md : Region.Mode) (ops : Array Oper) (fr : Nat → Bool) (h j : Nat) : Prop :=
 ∃ oh oj,ops[h]? = some oh ∧ ops[j]? = some oj ∧ (waits md oj h = true ∨ oh.apart ops oj = true) ∧ waits md oh j = false ∧ (fr h = true → fr j = false → waits md oj h = true ∨ plainOp oj.op = true)
def pairsB (md : Region.Mode) (ops : Array Oper) (fr : Nat → Bool) : List Nat → Bool
 | [] => true
 | h :: rest => (rest.all fun j => match ops[h]?,ops[j]? with
   | some oh,some oj => (waits md oj h || oh.apart ops oj) && !waits md oh j && (!fr h || fr j || waits md oj h || plainOp oj.op)
   | _,_ => false) && pairsB md ops fr rest
theorem pairs_of : ∀ {l : List Nat},pairsB md ops fr l = true → l.Pairwise (Pair md ops fr)
 | [],_ => List.Pairwise.nil
 | h :: rest,hB => by
  simp only [pairsB,Bool.and_eq_true] at hB
  refine List.pairwise_cons.2 ⟨fun j hj => ?_,pairs_of hB.2⟩
  have := List.all_eq_true.1 hB.1 j hj
  cases hh : ops[h]? with
  | none => simp [hh] at this
  | some oh =>
   cases hj' : ops[j]? with
   | none => simp [hh,hj'] at this
   | some oj =>
    simp only [hh,hj',Bool.and_eq_true,Bool.or_eq_true,Bool.not_eq_true'] at this
    refine ⟨oh,oj,hh,hj',this.1.1,this.1.2,fun h1 h2 => ?_⟩
    rcases this.2 with ((h3 | h3) | h3) | h3
    ·rw [h1] at h3;cases h3
    ·rw [h2] at h3;cases h3
    ·exact .inl h3
    ·exact .inr h3
theorem wpR_pull {Fin : Known → Act → Prop} (hsel : Region.noSelect ops = true) (hkeep : ∀ i v w1 w2,p i v w1 → Below w1.heap.size w1 w2 → p i v w2) {i : Nat} {oi : Oper} (hi : ops[i]? = some oi) :
  ∀ (l : List Nat) (Γ : Known) (a : Act),i ∈ l → l.Nodup → l.Pairwise (Pair md ops fr) → (∀ j ∈ l,waits md oi j = false) →
   (∀ h ∈ l, Γ h = none) → (∃ W,All w0 p Γ W) →
   wpR P md ops w0 fr p Fin l Γ a → wpR P md ops w0 fr p Fin (i :: l.erase i) Γ a := by
 intro l
 induction l with
 | nil => intro Γ a h;cases h
 | cons h rest ih =>
  intro Γ a hil hnd hpw hw hΓ hall H
  by_cases hhi : h = i
  ·subst hhi;simpa using H
  have hir : i ∈ rest := by simpa [Ne.symm hhi] using hil
  rw [List.nodup_cons] at hnd
  rw [List.pairwise_cons] at hpw
  obtain ⟨oh,oi',hoh,hi',hap,hback,hpl⟩ := hpw.1 i hir
  obtain rfl : oi = oi' := Option.some.inj (hi.symm.trans hi')
  have he : (h :: rest).erase i = h :: rest.erase i := by rw [List.erase_cons_tail (by simpa using hhi)]
  rw [he]
  have step : ∀ Γ' a',(∀ g ∈ rest, Γ' g = none) → (∃ W,All w0 p Γ' W) → wpR P md ops w0 fr p Fin rest Γ' a' → wpR P md ops w0 fr p Fin (i :: rest.erase i) Γ' a' := fun Γ' a' hΓ' hall' H' =>
   ih Γ' a' hir hnd.2 hpw.2 (fun j hj => hw j (by simp [hj])) hΓ' hall' H'
  have hij : waits md oi h = false := hw h (by simp)
  obtain ⟨W,hW⟩ := hall
  have H1 : oneR P md ops w0 fr p Γ h (fun Γ' a' => oneR P md ops w0 fr p Γ' i (wpR P md ops w0 fr p Fin (rest.erase i)) a') a := by
   unfold wpR at H
   unfold oneR at H ⊢
   simp only [hoh] at H ⊢
   split
   ·rename_i hwant
    rw [if_pos hwant] at H
    split
    ·rename_i hf
     rw [if_pos hf] at H
     refine ⟨H.1,fun v hv => ?_⟩
     exact step (upd Γ h v) _ (fun g hg => by
      unfold upd;rw [if_neg (by rintro rfl;exact hnd.1 hg)];exact hΓ g (by simp [hg])) hv (H.2 v hv)
    ·rename_i hf
     rw [if_neg hf] at H
     intro hc
     obtain ⟨v,h1,h2⟩ := H hc
     exact ⟨v,h1,step Γ _ (fun g hg => hΓ g (by simp [hg])) ⟨W,hW⟩ h2⟩
   ·rename_i hwant
    rw [if_neg hwant] at H
    exact step Γ _ (fun g hg => hΓ g (by simp [hg])) ⟨W,hW⟩ H
  rw [hij] at hap hpl
  exact oneR_swap (Ne.symm hhi) hi hoh hsel (by simpa using hap) hij hback (fun h1 h2 => by simpa using hpl h1 h2) hW (hΓ i (by simp [hir])) (hΓ h (by simp)) hkeep H1
theorem waits_dep {o : Oper} {M : Array Bool} {i : Nat} (hd : ∀ e ∈ o.after,Region.binds md e = true → M.getD e.on false = true) (hM : M.getD i true = false) : waits md o i = false := by
 cases hw : waits md o i with
 | false => rfl
 | true =>
  obtain ⟨e,he,hb⟩ := Array.any_eq_true'.1 hw
  simp only [Bool.and_eq_true,beq_iff_eq] at hb
  have h1 := hd e he hb.1
  rw [hb.2] at h1
  rcases Nat.lt_or_ge i M.size with h' | h'
  ·simp [h'] at h1 hM;rw [h1] at hM;cases hM
  ·simp [Array.getElem?_eq_none h'] at h1
theorem wpAny_of_wpR {Q : Exit → Act → World → Prop} {g : Nat} {hs : List Nat} {L : Array Bool} (hsel : Region.noSelect ops = true) (hplain : ∀ h o,h ∈ hs → fr h = false → ops[h]? = some o → plainOp o.op = true)
  (hkeep : ∀ i v w1 w2,p i v w1 → Below w1.heap.size w1 w2 → p i v w2) (hL : L.size = ops.size) :
  ∀ (f : Nat) (M : Array Bool) (l : List Nat) (Γ : Known) (a : Act) (w : World),l.length = f → l.Nodup → l.Pairwise (Pair md ops fr) → (∀ j ∈ l,M.getD j true = false) →
   (∀ j ∈ hs,j ∈ l ∨ M.getD j true = true) → (∀ h ∈ l, Γ h = none) → Hered md ops hs f M → All w0 p Γ w → mark l M = mark hs L →
   wpR P md ops w0 fr p (fun Γ' a' => ∀ w',All w0 p Γ' w' → wpAny P md ops Q g (mark hs L) a' w') l Γ a → wpAny P md ops Q (f + g) M a w := by
 intro f
 induction f with
 | zero =>
  intro M l Γ a w hlen _ _ _ _ _ _ hall hmk H
  obtain rfl := List.length_eq_zero_iff.1 hlen
  rw [Nat.zero_add,show M = mark hs L from hmk]
  exact H w hall
 | succ f ih =>
  intro M l Γ a w hlen hnd hpw hun hcov hΓ hh hall hmk H
  rw [show f + 1 + g = (f + g) + 1 by omega]
  refine ⟨fun h0 => absurd h0 hh.1,fun i hi => ?_⟩
  obtain ⟨hiu,oi,hoi,hdeps⟩ := mem_ready.1 hi
  have hil : i ∈ l := by
   rcases hcov i (hh.2.1 i hi) with h1 | h1
   ·exact h1
   ·rw [h1] at hiu;cases hiu
  have hiM : i < M.size := by
   rcases Nat.lt_or_ge i M.size with h' | h'
   ·exact h'
   ·simp [Array.getElem?_eq_none h'] at hiu
  have H1 := wpR_pull hsel hkeep hoi l Γ a hil hnd hpw (fun j hj => waits_dep hdeps (hun j hj)) hΓ ⟨w,hall⟩ H
  have hle : (l.erase i).length = f := by rw [List.length_erase_of_mem hil];omega
  have next : ∀ Γ' a' w',(∀ h ∈ l.erase i, Γ' h = none) → All w0 p Γ' w' → wpR P md ops w0 fr p (fun Γ' a' => ∀ w',All w0 p Γ' w' → wpAny P md ops Q g (mark hs L) a' w') (l.erase i) Γ' a' →
    wpAny P md ops Q (f + g) (M.setIfInBounds i true) a' w' := fun Γ' a' w' hΓ' hall' H' =>
   ih (M.setIfInBounds i true) (l.erase i) Γ' a' w' hle (hnd.erase i) (hpw.sublist List.erase_sublist) (fun j hj => by
     have hne : j ≠ i := by rintro rfl;exact (List.Nodup.not_mem_erase hnd) hj
     rw [getD_set_ne true (Ne.symm hne)];exact hun j (List.mem_of_mem_erase hj))
    (fun j hj => by
     by_cases hji : j = i
     ·subst hji;right;simp
     ·rcases hcov j hj with h1 | h1
      ·left;exact (List.mem_erase_of_ne hji).2 h1
      ·right;rw [getD_set_ne true (Ne.symm hji)];exact h1)
    hΓ' (hh.2.2.2 i hi) hall' (by
     rw [← hmk]
     have key : ∀ (l : List Nat) (M : Array Bool),i ∈ l → mark l M = mark (l.erase i) (M.setIfInBounds i true) := by
      intro l
      induction l with
      | nil => intro M h;cases h
      | cons x l ihl =>
       intro M h
       by_cases hx : x = i
       ·subst hx;simp [mark]
       ·rw [List.erase_cons_tail (by simpa using hx)]
        simp only [mark,List.foldl_cons]
        have h2 := ihl (M.setIfInBounds x true) (by simpa [Ne.symm hx] using h)
        simp only [mark] at h2
        rw [h2,Array.setIfInBounds_comm _ _ hx]
     exact (key l M hil).symm) H'
  have hΓe : ∀ h ∈ l.erase i, Γ h = none := fun h hh' => hΓ h (List.mem_of_mem_erase hh')
  unfold wpR oneR at H1
  simp only [hoi] at H1
  unfold wpOp
  simp only [hoi]
  split
  ·rename_i hwant
   rw [if_pos hwant] at H1
   left
   split at H1
   ·rename_i hf
    obtain ⟨h1,h2⟩ := H1
    have h3 := h1 w (hall.cl oi)
    have go : ∀ u w'',Below w.heap.size w w'' → p i u w'' → wpAny P md ops Q (f + g) (M.setIfInBounds i true) (a.put oi.dst u) w'' := by
     intro u w'' hb hq
     have hall' : All w0 p (upd Γ i u) w'' := ⟨hall.1.trans (hb.mono hall.1.size),fun k v hk => by
      unfold upd at hk
      by_cases hki : k = i
      ·subst hki;rw [if_pos rfl] at hk;cases hk;exact hq
      ·rw [if_neg hki] at hk;exact hkeep _ _ _ _ (hall.2 k v hk) hb⟩
     refine next _ _ _ (fun k hk => ?_) hall' (h2 u ⟨w'',hall'⟩)
     unfold upd
     rw [if_neg (by rintro rfl;exact (List.Nodup.not_mem_erase hnd) hk)]
     exact hΓe k hk
    unfold freshAt at h3
    unfold Oper.wp
    generalize (execOp a.eval oi).run P w = r at h3 ⊢
    cases r with
    | halt x w' => exact h3.elim
    | ok n w' =>
     cases n <;> simp only at h3
     case value u => exact go u w' h3.1 h3.2
     case enter fn args =>
      obtain ⟨rfl,hc⟩ := h3
      exact hc.mono fun e w'' ⟨u,he,hb,hq⟩ => by subst he;exact go u w'' hb hq
   ·rename_i hf
    obtain ⟨v,h1,h2⟩ := H1 ⟨w,hall.cl oi⟩
    have h3 := h1 w (hall.cl oi)
    unfold Oper.quietAt at h3
    unfold Oper.wp
    generalize hr : (execOp a.eval oi).run P w = r at h3 ⊢
    cases r with
    | halt x w' => simp only [Oper.quietUpon] at h3
    | ok n w' =>
     cases n <;> simp only [Oper.quietUpon] at h3
     case value u =>
      obtain ⟨rfl,rfl⟩ := h3
      exact next _ _ _ hΓe hall h2
     case skip =>
      obtain ⟨rfl,rfl⟩ := h3
      exact next _ _ _ hΓe hall h2
     case enter fn args => exact absurd hr (plain_ne (hplain i oi (hh.2.1 i hi) (by simpa using hf) hoi) _)
  ·rename_i hwant
   rw [if_neg hwant] at H1
   exact next _ _ _ hΓe hall H1
def plainsB (ops : Array Oper) (fr : Nat → Bool) (hs : List Nat) : Bool := hs.all fun h => fr h || match ops[h]? with
 | none => false
 | some o => plainOp o.op
theorem wpAny_R {Q : Exit → Act → World → Prop} {L : Array Bool} {a : Act} {w : World} (fs : List Nat) (hs : List Nat) (g : Nat)
  (hkeep : ∀ i v w1 w2,p i v w1 → Below w1.heap.size w1 w2 → p i v w2)
  (hB : (groupB md ops L hs && pairsB md ops (fs.contains ·) hs && plainsB ops (fs.contains ·) hs) = true) (hw : Below w0.heap.size w0 w)
  (h : wpR P md ops w0 (fs.contains ·) p (fun Γ' a' => ∀ w',All w0 p Γ' w' → wpAny P md ops Q g (mark hs L) a' w') hs (fun _ => none) a) : wpAny P md ops Q (hs.length + g) L a w := by
 simp only [Bool.and_eq_true] at hB
 obtain ⟨⟨hG,hP⟩,hPl⟩ := hB
 have hG' := hG
 simp only [groupB,Bool.and_eq_true,decide_eq_true_eq] at hG'
 obtain ⟨⟨⟨⟨hsz,hsel⟩,hcl⟩,hout⟩,hord⟩ := hG'
 obtain ⟨hnd,hmem,hpre⟩ := orderB_spec hord
 have hleft : left hs L = hs.length := by
  unfold left
  rw [List.filter_eq_self.2 (fun j hj => by rw [(hmem j hj).2.1];rfl)]
 have hsh : Shut md ops L := by
  intro j o ho hj e he hb
  have hjo : j < ops.size := by
   rcases Nat.lt_or_ge j ops.size with h' | h'
   ·exact h'
   ·simp [Array.getElem?_eq_none h'] at ho
  have h1 := List.all_eq_true.1 hcl j (List.mem_range.2 hjo)
  simp only [hj,ho,Bool.not_true,Bool.false_or] at h1
  simpa [hb] using Array.all_eq_true'.1 h1 e he
 have hh := hered_of hG hs.length L hleft hsh hsz (fun j hj => .inl hj) (fun j hj => hj)
 refine wpAny_of_wpR (hs := hs) (L := L) hsel (fun k o hk hf ho => ?_) hkeep hsz hs.length L hs (fun _ => none) a w rfl hnd (pairs_of hP) (fun j hj => (hmem j hj).2.1)
  (fun j hj => .inl hj) (fun _ _ => rfl) hh ⟨hw,fun _ _ hg => by cases hg⟩ rfl h
 have := List.all_eq_true.1 hPl k hk
 simp only [show (fs.contains k) = false from hf,ho,Bool.false_or] at this
 exact this
theorem wp_region_R {id : Nat} {Q : Exit → Act → World → Prop} {a : Act} {w : World} {l : List Oper} (fs hs : List Nat) (g : Nat) (p : Nat → Value → World → Prop) (hm : P.follows .mixedOrders = true)
  (hn : hs.length + g = l.length) (hkeep : ∀ i v w1 w2,p i v w1 → Below w1.heap.size w1 w2 → p i v w2)
  (hB : (groupB .any l.toArray (Array.replicate l.length false) hs && pairsB .any l.toArray (fs.contains ·) hs && plainsB l.toArray (fs.contains ·) hs) = true)
  (h : wpR P .any l.toArray w (fs.contains ·) p (fun Γ' a' => ∀ w',All w p Γ' w' → wpAny P .any l.toArray Q g (mark hs (Array.replicate l.length false)) a' w') hs (fun _ => none) a) :
  (Code.region id l.toArray true).wp P Q a w := by
 refine wp_region_any hm ?_
 have := wpAny_R (P := P) (Q := Q) (w0 := w) (w := w.drew) (a := a) fs hs g hkeep hB (Below.refl _ w).drew h
 rw [hn] at this
 simpa using this
def numbered (ops : Array Oper) (hs : List Nat) : List (Nat × Oper) := hs.filterMap fun h => (ops[h]?).map (h, ·)
def wpS (P : Program) (md : Region.Mode) (ops : Array Oper) (w0 : World) (fr : Nat → Bool) (p : Nat → Value → World → Prop) (Fin : Known → Act → Prop) (l : List (Nat × Oper)) (Γ : Known) (a : Act) : Prop :=
 (∀ x ∈ l,ops[x.1]? = some x.2) → wpR P md ops w0 fr p Fin (l.map (·.1)) Γ a
theorem wpS_skip {Fin : Known → Act → Prop} {h : Nat} {rest : List (Nat × Oper)} {Γ : Known} {a : Act} {o : Oper} (hw : Region.wanted o (yielded ops a.tmps) = false)
  (H : wpS P md ops w0 fr p Fin rest Γ (a.put o.dst undef)) : wpS P md ops w0 fr p Fin ((h,o) :: rest) Γ a := by
 intro hl
 have ho : ops[h]? = some o := hl (h,o) (by simp)
 simp only [List.map_cons]
 unfold wpR oneR;simp only [ho,hw];exact H fun x hx => hl x (by simp [hx])
theorem wpS_quiet {Fin : Known → Act → Prop} {h : Nat} {rest : List (Nat × Oper)} {Γ : Known} {a : Act} {o : Oper} (hw : Region.wanted o (yielded ops a.tmps) = true) (hf : fr h = false)
  (H : ∀ K : Act → Prop,(∀ a,wpS P md ops w0 fr p Fin rest Γ a → K a) → Nonempty (BQ w0 (Facts md p Γ o)) → (∀ (x : BQ w0 (Facts md p Γ o)) b i,(w0.cell? ⟨b,i,none⟩).isSome = true → x.w'.cell? ⟨b,i,none⟩ = w0.cell? ⟨b,i,none⟩) →
   o.quiet P a (fun w' => ∃ x : BQ w0 (Facts md p Γ o),w' = x.w') K) : wpS P md ops w0 fr p Fin ((h,o) :: rest) Γ a := by
 intro hl
 have ho : ops[h]? = some o := hl (h,o) (by simp)
 simp only [List.map_cons]
 unfold wpR oneR;simp only [ho,hw,hf,if_true,Bool.false_eq_true,if_false]
 exact fun ⟨_,x,_⟩ => H _ (fun _ h => h fun x hx => hl x (by simp [hx])) ⟨x⟩ (fun x b i hv => (bcell x.below).1 b i hv)
theorem wpS_fresh {Fin : Known → Act → Prop} {h : Nat} {rest : List (Nat × Oper)} {Γ : Known} {a : Act} {o : Oper} (hw : Region.wanted o (yielded ops a.tmps) = true) (hf : fr h = true)
  (H1 : ∀ w',Below w0.heap.size w0 w' → Facts md p Γ o w' → freshAt P o a (p h) w') (H2 : ∀ v W,p h v W → wpS P md ops w0 fr p Fin rest (upd Γ h v) (a.put o.dst v)) : wpS P md ops w0 fr p Fin ((h,o) :: rest) Γ a := by
 intro hl
 have ho : ops[h]? = some o := hl (h,o) (by simp)
 simp only [List.map_cons]
 unfold wpR oneR;simp only [ho,hw,hf,if_true]
 exact ⟨fun w' hc => H1 w' (Cl.iff.1 hc).1 (Cl.iff.1 hc).2,fun v ⟨W,hW⟩ => H2 v W (hW.2 h v (by simp [upd])) fun x hx => hl x (by simp [hx])⟩
theorem wpS_nil {Fin : Known → Act → Prop} {Γ : Known} {a : Act} (H : Fin Γ a) : wpS P md ops w0 fr p Fin [] Γ a := fun _ => H
theorem wpR_of_wpS {Fin : Known → Act → Prop} {hs : List Nat} {Γ : Known} {a : Act} (ho : ∀ h ∈ hs, ∃ o,ops[h]? = some o) (H : wpS P md ops w0 fr p Fin (numbered ops hs) Γ a) : wpR P md ops w0 fr p Fin hs Γ a := by
 have h1 : ∀ x ∈ numbered ops hs,ops[x.1]? = some x.2 := by
  intro x hx
  unfold numbered at hx
  obtain ⟨h,_,hx⟩ := List.mem_filterMap.1 hx
  cases hh : ops[h]? with
  | none => simp [hh] at hx
  | some o => simp [hh] at hx;subst hx;exact hh
 have h2 : (numbered ops hs).map (·.1) = hs := by
  clear H h1
  induction hs with
  | nil => rfl
  | cons h hs ih =>
   obtain ⟨o,hho⟩ := ho h (by simp)
   unfold numbered at ih ⊢
   simp only [List.filterMap_cons,hho,Option.map_some,List.map_cons]
   rw [ih fun k hk => ho k (by simp [hk])]
 have := H h1
 rwa [h2] at this
end
def pOf (ps : List (Nat × (Value → World → Prop))) (i : Nat) (v : Value) (W : World) : Prop := match ps.lookup i with
 | some q => q v W
 | none => False
def Keeps (q : Value → World → Prop) : Prop := ∀ v w1 w2,q v w1 → Below w1.heap.size w1 w2 → q v w2
theorem pOf_keeps {ps : List (Nat × (Value → World → Prop))} (h : ∀ x ∈ ps,Keeps x.2) : ∀ i v w1 w2,pOf ps i v w1 → Below w1.heap.size w1 w2 → pOf ps i v w2 := by
 induction ps with
 | nil => intro i v w1 w2 hp;exact hp.elim
 | cons x ps ih =>
  intro i v w1 w2 hp hb
  unfold pOf at *
  rw [List.lookup_cons] at *
  cases he : i == x.1 with
  | true => rw [he] at hp;exact h x (by simp) v w1 w2 hp hb
  | false => rw [he] at hp;exact ih (fun y hy => h y (by simp [hy])) i v w1 w2 hp hb
def NewCells (B0 : Nat) (cs : List Value) (v : Value) (W : World) : Prop :=
 ∃ B,B0 ≤ B ∧ v = .pointer (some ⟨B,0,none⟩) ∧ ∀ o c,cs[o]? = some c → W.cell? ⟨B,o,none⟩ = some c ∧ W.frozen? ⟨B,o,none⟩ = false
theorem keeps_new {B0 : Nat} {cs : List Value} : Keeps (NewCells B0 cs) := fun _ _ _ ⟨B,h1,h2,h3⟩ hb =>
 ⟨B,h1,h2,fun o c hc => ⟨bkeep hb (h3 o c hc).1,bfree hb (h3 o c hc).1 (h3 o c hc).2⟩⟩
theorem keeps_eq {u : Value} : Keeps (fun v _ => v = u) := fun _ _ _ h _ => h
theorem new_of {w w' : World} {cs : List Value} {t : TypeId} (hb : Below w.heap.size w w') :
  Below w'.heap.size w' (w'.alloc (.cells cs.toArray t)) ∧ NewCells w.heap.size cs (.pointer (some ⟨w'.heap.size,0,none⟩)) (w'.alloc (.cells cs.toArray t)) :=
 ⟨(Below.refl _ _).alloc (Nat.le_refl _) _,w'.heap.size,hb.size,rfl,fun o c hc => by
  refine ⟨?_,World.frozen?_alloc_new w' cs.toArray t o⟩
  rw [World.cell?_alloc_new];simpa using hc⟩
theorem wp_region_Rs {P : Program} {id : Nat} {Q : Exit → Act → World → Prop} {a : Act} {w : World} {l : List Oper} (ps : List (Nat × (Value → World → Prop))) (hs : List Nat) (g : Nat) (hm : P.follows .mixedOrders = true)
  (hn : hs.length + g = l.length) (hkeep : ∀ x ∈ ps,Keeps x.2)
  (hB : (groupB .any l.toArray (Array.replicate l.length false) hs && pairsB .any l.toArray ((ps.map (·.1)).contains ·) hs && plainsB l.toArray ((ps.map (·.1)).contains ·) hs) = true)
  (h : wpS P .any l.toArray w ((ps.map (·.1)).contains ·) (pOf ps) (fun Γ' a' => ∀ w',All w (pOf ps) Γ' w' → wpAny P .any l.toArray Q g (mark hs (Array.replicate l.length false)) a' w') (numbered l.toArray hs) (fun _ => none) a) :
  (Code.region id l.toArray true).wp P Q a w := by
 refine wp_region_R (ps.map (·.1)) hs g (pOf ps) hm hn (pOf_keeps hkeep) hB (wpR_of_wpS (fun k hk => ?_) h)
 simp only [groupB,Bool.and_eq_true] at hB
 obtain ⟨_,hmem,_⟩ := orderB_spec hB.1.1.2
 exact (hmem k hk).2.2
end Go.Pb
namespace Go.Pb
theorem akeep {W : World} {a : Addr} {v : Value} {o : Obj} (h : W.cell? a = some v) : (W.alloc o).cell? a = some v := by
 rw [World.cell?_alloc_lt W o a (World.block_lt_of_cell? W a h)];exact h
theorem afree {W : World} {a : Addr} {v : Value} {o : Obj} (h : W.cell? a = some v) (hf : W.frozen? a = false) : (W.alloc o).frozen? a = false := by
 rw [World.frozen?_alloc_old W o a (Nat.ne_of_lt (World.block_lt_of_cell? W a h))];exact hf
end Go.Pb
namespace Go.Pb
open Go.RowKit Go.ChangeShapes Go.WideShapes
def I64 (k : Int) : Prop := (Lit.int .i64 k).wf = true
theorem I64.mk {k : Int} (h0 : -9223372036854775808 ≤ k) (h1 : k ≤ 9223372036854775807) : I64 k := by
 simp [I64,Lit.wf,IntKind.min,IntKind.max,IntKind.signed,IntKind.bits];omega
def IntsAt (w : World) (v : Value) (zs : List Int) : Prop :=
 (v = .slice none 0 0 ∧ zs = []) ∨ ∃ (a : Addr) (cap : Nat),v = .slice (some a) zs.length cap ∧ zs.length ≤ cap ∧ cap ≤ 140737488355328 ∧
  ∀ k z,zs[k]? = some z → w.cell? (a.add k) = some (.int .i64 z) ∧ I64 z
theorem IntsAt.below {w w' : World} {v : Value} {zs : List Int} (h : IntsAt w v zs) (hb : Below w.heap.size w w') : IntsAt w' v zs := by
 rcases h with h | ⟨a,cap,h1,h2,h3,h4⟩
 ·exact .inl h
 ·exact .inr ⟨a,cap,h1,h2,h3,fun k z hz => ⟨bkeep hb (h4 k z hz).1,(h4 k z hz).2⟩⟩
theorem IntsAt.i64 {w : World} {v : Value} {zs : List Int} (h : IntsAt w v zs) : ∀ z ∈ zs,I64 z := by
 rcases h with ⟨_,rfl⟩ | ⟨a,cap,h1,h2,h3,h4⟩
 ·simp
 ·intro z hz
  obtain ⟨k,hk⟩ := List.getElem?_of_mem hz
  exact (h4 k z hk).2
end Go.Pb
namespace Go.Pb
open Go.RowKit Go.ChangeShapes Go.WideShapes Go.ChangeAt
section
variable {H : Type} {enc : TypeId × Value → H} {P : Program} {w : World} {base : Nat} {spare : Nat → Bool} {held : Bool}
theorem open_slice {r : Reach} {b0 : Nat} {t e : TypeId} {v : Value} {d : DataW H} {p : List MemPlace} (ht : P.underlying t = some (.slice e)) (he : P.underlying e = some (.int .i64)) (hc : P.cellsOf e = 1)
  (hv : Value.okWide P w r b0 t v) (h : DataW.Trod enc P w base spare held t v d p)
  (hs : ∀ el sp,d = .slice el sp → el.length + sp.length ≤ 140737488355328) (hsp : spare = fun _ => true) : ∃ zs : List Int,IntsAt w v zs := by
 obtain ⟨a0,l0,c0,rfl⟩ := okWide_slice ht hv
 obtain ⟨fuel,hf⟩ := h
 rcases open_ints ht he hc hf with ⟨h1,_⟩ | ⟨a,len,cap,zs,h1,_,h2,h3,h4,h5,h6,h7⟩
 ·exact ⟨[], .inl ⟨by simpa [Value.cells] using h1,rfl⟩⟩
 ·have hcap : cap ≤ 140737488355328 := by
   have := hs _ _ (congrArg Prod.fst h5)
   subst hsp
   simp [lits] at this h4
   omega
  have hl : len ≤ zs.length := by rw [h4];split <;> omega
  refine ⟨zs.take len, .inr ⟨a,cap, ?_, ?_,hcap,fun k z hz => ?_⟩⟩
  ·rw [List.length_take,Nat.min_eq_left hl];simpa [Value.cells] using h1
  ·rw [List.length_take,Nat.min_eq_left hl];exact h2
  ·have hk : k < len := by
    have := (List.getElem?_eq_some_iff.1 hz).1
    rw [List.length_take] at this;omega
   rw [List.getElem?_take,if_pos hk] at hz
   have hg : zs.getD k 0 = z := by simp [hz]
   refine ⟨by rw [h6 k (by omega),hg],h7 z (List.mem_of_getElem? hz)⟩
end
end Go.Pb
namespace Go.Pb
open Go.RowKit Go.ChangeShapes Go.WideShapes Go.ChangeAt Go.Deep
def RowsAt (n : Nat) (w : World) (v : Value) (rows : List (List Int)) : Prop :=
 (v = .slice none 0 0 ∧ rows = []) ∨ ∃ (a : Addr) (cap : Nat),v = .slice (some a) rows.length cap ∧ rows.length ≤ cap ∧ cap ≤ 9223372036854775807 ∧
  ∀ k r,rows[k]? = some r → r.length = n ∧ ∀ j z,r[j]? = some z → w.cell? (a.add (k * n + j)) = some (.int .i64 z) ∧ I64 z
theorem RowsAt.below {n : Nat} {w w' : World} {v : Value} {rows : List (List Int)} (h : RowsAt n w v rows) (hb : Below w.heap.size w w') : RowsAt n w' v rows := by
 rcases h with h | ⟨a,cap,h1,h2,h3,h4⟩
 ·exact .inl h
 ·exact .inr ⟨a,cap,h1,h2,h3,fun k r hr => ⟨(h4 k r hr).1,fun j z hz => ⟨bkeep hb ((h4 k r hr).2 j z hz).1,((h4 k r hr).2 j z hz).2⟩⟩⟩
theorem RowsAt.i64 {n : Nat} {w : World} {v : Value} {rows : List (List Int)} (h : RowsAt n w v rows) : ∀ r ∈ rows,r.length = n ∧ ∀ z ∈ r,I64 z := by
 rcases h with ⟨_,rfl⟩ | ⟨a,cap,h1,h2,h3,h4⟩
 ·simp
 ·intro r hr
  obtain ⟨k,hk⟩ := List.getElem?_of_mem hr
  refine ⟨(h4 k r hk).1,fun z hz => ?_⟩
  obtain ⟨j,hj⟩ := List.getElem?_of_mem hz
  exact ((h4 k r hk).2 j z hj).2
theorem RowsAt.shape {n : Nat} {w : World} {v : Value} {rows : List (List Int)} (h : RowsAt n w v rows) : ∃ (a : Option Addr) (cap : Nat),v = .slice a rows.length cap ∧ rows.length ≤ 9223372036854775807 := by
 rcases h with ⟨h,rfl⟩ | ⟨a,cap,h1,h2,h3,h4⟩
 ·exact ⟨none,0,h,by simp⟩
 ·exact ⟨some a,cap,h1,by omega⟩
section
variable {H : Type} {enc : TypeId × Value → H} {P : Program} {w : World} {base : Nat} {spare : Nat → Bool} {held : Bool}
end
end Go.Pb
namespace Go.Pb.Ware
open Go.Pb
def shR (r : List Int) : Sh := ⟨r.getD 0 0,⟨r.getD 1 0,r.getD 2 0⟩,⟨r.getD 3 0,r.getD 4 0⟩,⟨r.getD 5 0,r.getD 6 0⟩,r.getD 7 0,⟨r.getD 8 0,r.getD 9 0⟩,r.getD 10 0⟩
def boR (r : List Int) : Bo := ⟨r.getD 0 0,⟨r.getD 1 0,r.getD 2 0⟩,⟨r.getD 3 0,r.getD 4 0⟩,⟨r.getD 5 0,r.getD 6 0⟩⟩
def okS (r : List Int) : Bool := shOk (shR r)
def okB (r : List Int) : Bool := boOk (boR r)
def kept (ok : List Int → Bool) : Int → List (List Int) → Bool
 | _, [] => true
 | last,r :: rs => ok r && decide (last < r.getD 0 0) && kept ok (r.getD 0 0) rs
theorem kept_nil (ok : List Int → Bool) (last : Int) : kept ok last [] = true := rfl
theorem kept_cons {ok : List Int → Bool} {last : Int} {r : List Int} {rs : List (List Int)} : kept ok last (r :: rs) = (ok r && decide (last < r.getD 0 0) && kept ok (r.getD 0 0) rs) := rfl
theorem drop_row {α : Type} {rows : List α} {k : Nat} (hk : k < rows.length) : rows.drop k = rows[k] :: rows.drop (k + 1) := List.drop_eq_getElem_cons hk
def keptB (ok : List Int → Bool) (m : Int) (rows : List (List Int)) : Bool := decide ((rows.length : Int) ≤ m) && kept ok 0 rows
def ckW (ss bs : List (List Int)) : Int := if (keptB okS 40 ss && keptB okB 12 bs) = true then 0 else 12
theorem ckW_or {ss bs : List (List Int)} : ckW ss bs = 0 ∨ ckW ss bs = 12 := by unfold ckW;split <;> simp
theorem ckW_1 {ss bs : List (List Int)} (h1 : keptB okS 40 ss = true) (h2 : keptB okB 12 bs = true) : ckW ss bs = 0 := by simp [ckW,h1,h2]
theorem ckW_2 {ss bs : List (List Int)} (h1 : keptB okS 40 ss = false) : ckW ss bs = 12 := by simp [ckW,h1]
theorem ckW_3 {ss bs : List (List Int)} (h2 : keptB okB 12 bs = false) : ckW ss bs = 12 := by simp [ckW,h2]
theorem keptB_long {ok : List Int → Bool} {m : Int} {rows : List (List Int)} (h : m < (rows.length : Int)) : keptB ok m rows = false := by simp [keptB];omega
theorem keptB_short {ok : List Int → Bool} {m : Int} {rows : List (List Int)} (h : (rows.length : Int) ≤ m) : keptB ok m rows = kept ok 0 rows := by simp [keptB,h]
def row0 (n : Nat) : List Int := List.replicate n 0
def findR (id : Int) : List (List Int) → Option (List Int)
 | [] => none
 | r :: rs => if r.getD 0 0 = id then some r else findR id rs
def foundR (n : Nat) (id : Int) (rows : List (List Int)) : List Int × Int := match findR id rows with
 | some r => (r,0)
 | none => (row0 n,3)
def getR (n : Nat) (id c : Int) (rows : List (List Int)) : List Int × Int := if c = 0 then foundR n id rows else (row0 n,c)
theorem foundR_nil {n : Nat} {id : Int} : foundR n id [] = (row0 n,3) := rfl
theorem foundR_yes {n : Nat} {id : Int} {r : List Int} {rs : List (List Int)} (h : r.getD 0 0 = id) : foundR n id (r :: rs) = (r,0) := by
 unfold foundR findR;rw [if_pos h]
theorem foundR_no {n : Nat} {id : Int} {r : List Int} {rs : List (List Int)} (h : ¬ r.getD 0 0 = id) : foundR n id (r :: rs) = foundR n id rs := by
 unfold foundR
 rw [show findR id (r :: rs) = findR id rs by simp only [findR];rw [if_neg h]]
theorem len11 {r : List Int} (h : r.length = 11) : ∃ a0 a1 a2 a3 a4 a5 a6 a7 a8 a9 a10,r = [a0,a1,a2,a3,a4,a5,a6,a7,a8,a9,a10] := by
 match r,h with
 | [a0,a1,a2,a3,a4,a5,a6,a7,a8,a9,a10],_ => exact ⟨_,_,_,_,_,_,_,_,_,_,_,rfl⟩
theorem len7 {r : List Int} (h : r.length = 7) : ∃ a0 a1 a2 a3 a4 a5 a6,r = [a0,a1,a2,a3,a4,a5,a6] := by
 match r,h with
 | [a0,a1,a2,a3,a4,a5,a6],_ => exact ⟨_,_,_,_,_,_,_,rfl⟩
def vals (r : List Int) : Value := .agg (r.map (Value.int .i64)).toArray
end Go.Pb.Ware
namespace Go.Pb
theorem RowsAt.row {n : Nat} {w : World} {a : Option Addr} {cap : Nat} {rows : List (List Int)} (h : RowsAt n w (.slice a rows.length cap) rows) {k : Nat} (hk : k < rows.length) :
  ∃ a',a = some a' ∧ rows[k].length = n ∧ (∀ z,rows[k][0]? = some z → w.cell? (a'.add (k * n)) = some (.int .i64 z)) ∧
   ∀ j z,j ≠ 0 → rows[k][j]? = some z → w.cell? ⟨(a'.add (k * n)).block,(a'.add (k * n)).off + j,none⟩ = some (.int .i64 z) := by
 rcases h with ⟨h1,h2⟩ | ⟨a',cap',h1,h2,h3,h4⟩
 ·subst h2;simp at hk
 ·injection h1 with h1 _ _
  have h5 := (h4 k _ (List.getElem?_eq_getElem hk)).2
  refine ⟨a',h1,(h4 k _ (List.getElem?_eq_getElem hk)).1,fun z hz => (h5 0 z hz).1,fun j z hj hz => ?_⟩
  have := (h5 j z hz).1
  rw [← Go.Deep.add_add] at this
  rw [← this]
  generalize a'.add (k * n) = p
  unfold Addr.add
  rw [if_neg hj]
end Go.Pb
namespace Go.Pb.Sag
open Go.Pb Go.Pb.Ware

structure Bx where
 id : Int
 wide : Int
 deep : Int
 cell : Int
 high : Int
 bears : Int
structure It where
 shape : Int
 many : Int
 clear : Int
structure Ft where
 wide : Int
 deep : Int
 high : Int
 weight : Int
def boxOk (s : Bx) : Bool := btw s.id 1 999 && btw s.wide 1 6 && btw s.deep 1 6 && btw s.cell 1 500 && btw s.high 1 2000 && btw s.bears 0 1000000
def ckX (s : Bx) : Int := if boxOk s = true then 0 else 20
theorem boxOk_iff {s : Bx} : boxOk s = true ↔ (1 ≤ s.id ∧ s.id ≤ 999) ∧ (1 ≤ s.wide ∧ s.wide ≤ 6) ∧ (1 ≤ s.deep ∧ s.deep ≤ 6) ∧ (1 ≤ s.cell ∧ s.cell ≤ 500) ∧ (1 ≤ s.high ∧ s.high ≤ 2000) ∧ (0 ≤ s.bears ∧ s.bears ≤ 1000000) := by
 simp only [boxOk,Bool.and_eq_true,btw_iff];omega
theorem ckX_or (s : Bx) : ckX s = 0 ∨ ckX s = 20 := by unfold ckX;split <;> simp
theorem ckX_0 {s : Bx} (h : ckX s = 0) : boxOk s = true := by
 unfold ckX at h;split at h
 ·assumption
 ·cases h
def itemB (ss : List (List Int)) (x : It) : Bool := match findR x.shape ss with
 | some r => (Ware.stands (shR r) x.many).1 && btw x.clear 0 50
 | none => false
def ckI (ss bs : List (List Int)) (x : It) : Int := if ckW ss bs = 0 then if itemB ss x = true then 0 else 21 else 12
def ckG (ss bs : List (List Int)) (s : Bx) : Int := if ckW ss bs = 0 then ckX s else 12
theorem ckG_or (ss bs : List (List Int)) (s : Bx) : ckG ss bs s = 0 ∨ ckG ss bs s = 12 ∨ ckG ss bs s = 20 := by
 unfold ckG
 split
 ·rcases ckX_or s with h | h <;> simp [h]
 ·simp
theorem ckG_0 {ss bs : List (List Int)} {s : Bx} (h : ckG ss bs s = 0) : ckW ss bs = 0 ∧ boxOk s = true := by
 unfold ckG at h
 split at h
 ·rename_i h1;exact ⟨h1,ckX_0 h⟩
 ·cases h
theorem findR_mem {id : Int} : ∀ {rows : List (List Int)} {r : List Int},findR id rows = some r → r ∈ rows ∧ r.getD 0 0 = id
 | [],r,h => by cases h
 | x :: xs,r,h => by
  unfold findR at h
  split at h
  ·rename_i h1;injection h with h;subst h;exact ⟨List.mem_cons_self,by simpa using h1⟩
  ·obtain ⟨h1,h2⟩ := findR_mem h;exact ⟨List.mem_cons_of_mem _ h1,h2⟩
theorem kept_ok {ok : List Int → Bool} : ∀ {rows : List (List Int)} {last : Int},kept ok last rows = true → ∀ r ∈ rows,ok r = true
 | [],_,_,r,h => by cases h
 | x :: xs,last,h,r,hr => by
  rw [kept_cons,Bool.and_eq_true,Bool.and_eq_true] at h
  rcases List.mem_cons.1 hr with rfl | hr
  ·exact h.1.1
  ·exact kept_ok h.2 r hr
theorem ckW_0 {ss bs : List (List Int)} (h : ckW ss bs = 0) : ∀ r ∈ ss,shOk (shR r) = true := by
 unfold ckW at h
 split at h
 ·rename_i h1
  rw [Bool.and_eq_true] at h1
  have h2 := h1.1
  rw [keptB,Bool.and_eq_true] at h2
  exact fun r hr => kept_ok h2.2 r hr
 ·cases h
theorem getR_some {n : Nat} {id : Int} {ss bs r : List (List Int)} {x : List Int} (hw : ckW ss bs = 0) (h : findR id r = some x) : getR n id (ckW ss bs) r = (x,0) := by
 unfold getR foundR;rw [if_pos hw,h]
theorem getR_none {n : Nat} {id : Int} {ss bs r : List (List Int)} (hw : ckW ss bs = 0) (h : findR id r = none) : getR n id (ckW ss bs) r = (row0 n,3) := by
 unfold getR foundR;rw [if_pos hw,h]
def footOf (s : Sh) (cell many clear : Int) : Ft := ⟨max 1 (up (s.wide.hi + 2 * clear) cell),max 1 (up (s.deep.hi + 2 * clear) cell),(heightOf s many).hi,many * s.weight.hi⟩
def zFt : Ft := ⟨0,0,0,0⟩
def footR (ss : List (List Int)) (cell : Int) (x : It) : Ft := match findR x.shape ss with
 | some r => footOf (shR r) cell x.many x.clear
 | none => zFt
theorem item_open {ss bs : List (List Int)} {x : It} (hw : ckW ss bs = 0) (h : itemB ss x = true) : ∃ r,findR x.shape ss = some r ∧ r ∈ ss ∧ shOk (shR r) = true ∧ (1 ≤ x.many ∧ x.many ≤ 40) ∧ standsB (shR r) x.many = true ∧ (0 ≤ x.clear ∧ x.clear ≤ 50) := by
 unfold itemB at h
 split at h
 ·rename_i r hr
  rw [Bool.and_eq_true] at h
  have h1 := (findR_mem hr).1
  have h2 := ckW_0 hw r h1
  have h3 := h.1
  unfold Ware.stands at h3
  by_cases hc : ckP (shR r) x.many = 0
  ·rw [if_pos hc] at h3
   have h4 : 1 ≤ x.many ∧ x.many ≤ 40 := by
    unfold ckP at hc
    rw [if_pos h2] at hc
    split at hc
    ·rename_i h5;exact btw_iff.1 h5
    ·cases hc
   exact ⟨r,hr,h1,h2,h4,h3,btw_iff.1 h.2⟩
  ·rw [if_neg hc] at h3;cases h3
 ·cases h
theorem up_bd0 {n d : Int} (h0 : 0 ≤ n) (h1 : n ≤ 100000) (h2 : 1 ≤ d) : 0 ≤ up n d ∧ up n d ≤ n := by
 unfold up
 have h3 := Int.mul_ediv_add_emod (-n) d
 have h4 := Int.emod_nonneg (-n) (show d ≠ 0 by omega)
 have h5 := Int.emod_lt_of_pos (-n) (show 0 < d by omega)
 constructor
 ·have : -n / d ≤ 0 := by
   rcases Int.lt_or_le 0 (-n / d) with h | h
   ·have : d * 1 ≤ d * (-n / d) := Int.mul_le_mul_of_nonneg_left (by omega) (by omega)
    omega
   ·exact h
  omega
 ·have : -n ≤ -n / d := by
   rw [Int.le_ediv_iff_mul_le (by omega)]
   have : -n * d ≤ -n * 1 := Int.mul_le_mul_of_nonpos_left (by omega) (by omega)
   omega
  omega
theorem foot_bd {ss bs : List (List Int)} {x : It} {cell : Int} (hw : ckW ss bs = 0) (h : itemB ss x = true) (h1 : 1 ≤ cell) : (1 ≤ (footR ss cell x).wide ∧ (footR ss cell x).wide ≤ 2100) ∧ (1 ≤ (footR ss cell x).deep ∧ (footR ss cell x).deep ≤ 2100) ∧ (0 ≤ (footR ss cell x).high ∧ (footR ss cell x).high ≤ 80000) ∧ (0 ≤ (footR ss cell x).weight ∧ (footR ss cell x).weight ≤ 4000000) := by
 obtain ⟨r,hr,_,hs,hm,_,hc⟩ := item_open hw h
 have hs2 := shOk_iff.1 hs
 have e : footR ss cell x = footOf (shR r) cell x.many x.clear := by unfold footR;rw [hr]
 rw [e]
 unfold footOf
 dsimp only
 have a := up_bd0 (n := (shR r).wide.hi + 2 * x.clear) (d := cell) (by omega) (by omega) h1
 have b := up_bd0 (n := (shR r).deep.hi + 2 * x.clear) (d := cell) (by omega) (by omega) h1
 have c := mul_bd x.many (shR r).weight.hi 40 100000 (by omega) (by omega) (by omega) (by omega)
 have d := mul_bd (x.many - 1) ((shR r).high.hi - (shR r).nest) 39 2000 (by omega) (by omega) (by omega) (by omega)
 unfold heightOf
 dsimp only
 omega
end Go.Pb.Sag
namespace Go.Pb

open Go.RowKit
def CellsAt (W : World) (B : Nat) (vs : List Value) : Prop := ∀ (o : Nat) (v : Value),vs[o]? = some v → W.cell? ⟨B,o,none⟩ = some v ∧ W.frozen? ⟨B,o,none⟩ = false
theorem CellsAt.kept {W W' : World} {row : Option Nat} {B : Nat} {vs : List Value} (h : CellsAt W B vs) (hg : W.grownBy W' row) (hrow : ∀ r,row = some r → ∃ o : Obj,W.heap[r]? = some o ∧ o.isCells = false) : CellsAt W' B vs :=
 fun o v hv => ⟨cell_kept (h o v hv).1 hg hrow,(frozen_kept (h o v hv).1 hg hrow).trans (h o v hv).2⟩
theorem CellsAt.below {W W' : World} {B : Nat} {vs : List Value} (h : CellsAt W B vs) (hb : Below W.heap.size W W') : CellsAt W' B vs :=
 fun o v hv => ⟨bkeep hb (h o v hv).1,bfree hb (h o v hv).1 (h o v hv).2⟩
theorem CellsAt.alloc {W : World} {B : Nat} {vs : List Value} (h : CellsAt W B vs) (o : Obj) : CellsAt (W.alloc o) B vs := h.below ((Below.refl _ _).alloc (Nat.le_refl _) _)
theorem CellsAt.new (W : World) (vs : List Value) (t : TypeId) : CellsAt (W.alloc (.cells vs.toArray t)) W.heap.size vs := fun o v hv => by
 refine ⟨?_,World.frozen?_alloc_new W vs.toArray t o⟩
 rw [World.cell?_alloc_new];simpa using hv
theorem cells_own {β : Type} (B : Nat) (f : β → List Value) : Own (fun s W => CellsAt W B (f s)) := fun s X Y row hs hg hrow => hs.kept hg hrow
theorem keeps_of_below {W W' : World} (h : Below W.heap.size W W') : KeepsOthers W W' :=
 ⟨h.size,fun k o hk _ => by rw [h.block k (Array.getElem?_eq_some_iff.1 hk).1];exact hk⟩
theorem CellsAt.pair {W : World} {B : Nat} {a b : Value} (h0 : W.cell? ⟨B,0,none⟩ = some a) (h1 : W.frozen? ⟨B,0,none⟩ = false) (h2 : W.cell? ⟨B,1,none⟩ = some b) (h3 : W.frozen? ⟨B,1,none⟩ = false) : CellsAt W B [a,b] := by
 intro o v hv
 match o,hv with
 | 0,hv => cases hv;exact ⟨h0,h1⟩
 | 1,hv => cases hv;exact ⟨h2,h3⟩
 | o + 2,hv => simp at hv
theorem CellsAt.other {W : World} {B B' o' : Nat} {vs : List Value} (h : CellsAt W B vs) (hne : B ≠ B') (u : Value) : CellsAt (W.setCell ⟨B',o',none⟩ u) B vs :=
 fun o v hv => ⟨by have := (h o v hv).1;rw [World.cell?_setCell_other _ _ _ _ (by intro e;cases e;exact hne rfl)];exact this,by have := (h o v hv).2;simp [this]⟩
end Go.Pb
namespace Go.Pb.Ware
open Go.Pb
abbrev TT := { t : Tr // trOk t = true }
end Go.Pb.Ware
namespace Go.Pb.Ware

open Go.Pb
end Go.Pb.Ware
namespace Go.Pb
theorem rowsAt_of_owns {w : World} {base n : Nat} {e : TypeId} {v : Value} {rows : List (List Int)} (hr : ∀ r ∈ rows,r.length = n) (h : w.ownsRow base e n v rows.length (rows.flatten.map (Value.int .i64))) (hi : ∀ r ∈ rows, ∀ z ∈ r,I64 z) : RowsAt n w v rows := by
 obtain ⟨hl,h⟩ := h
 rcases h with ⟨h1,h2⟩ | ⟨g,cap,cur,h1,h2,h3,h4,h5,h6,h7⟩
 ·exact .inl ⟨h1,List.length_eq_zero_iff.1 h2⟩
 ·refine .inr ⟨_,cap,h1,h4,by unfold maxLen at h5;omega,fun k r hk => ?_⟩
  have hm := List.mem_of_getElem? hk
  refine ⟨hr r hm,fun j z hz => ⟨?_,hi r hm z (List.mem_of_getElem? hz)⟩⟩
  have hkl : k < rows.length := (List.getElem?_eq_some_iff.1 hk).1
  have hjl : j < n := by rw [← hr r hm];exact (List.getElem?_eq_some_iff.1 hz).1
  have key : ∀ (rows : List (List Int)) (k : Nat),(∀ r ∈ rows,r.length = n) → rows[k]? = some r → rows.flatten[k * n + j]? = some z := by
   intro rows
   induction rows with
   | nil => intro k _ hk;simp at hk
   | cons x xs ih =>
    intro k hx hk
    have hxl := hx x (by simp)
    rw [List.flatten_cons]
    cases k with
    | zero =>
     simp at hk;subst hk
     rw [List.getElem?_append_left (by omega),Nat.zero_mul,Nat.zero_add];exact hz
    | succ k =>
     simp at hk
     rw [List.getElem?_append_right (by rw [hxl,Nat.succ_mul];omega),hxl,show (k + 1) * n + j - n = k * n + j by rw [Nat.succ_mul];omega]
     exact ih k (fun y hy => hx y (by simp [hy])) hk
  have h8 := key rows k hr hk
  have hlt : k * n + j < rows.length * n := by
   have : (k + 1) * n ≤ rows.length * n := Nat.mul_le_mul_right n hkl
   rw [Nat.succ_mul] at this;omega
  have h9 : (cur.toList.take (rows.length * n))[k * n + j]? = some (.int .i64 z) := by rw [h7,List.getElem?_map,h8];rfl
  rw [List.getElem?_take,if_pos hlt] at h9
  show w.cell? ((⟨g,0,none⟩ : Addr).add (k * n + j)) = _
  rw [Go.WideShapes.add_plain]
  simp only [World.cell?,h3,Nat.zero_add]
  simpa using h9
end Go.Pb
namespace Go.Pb
open Go.RowKit
theorem owns_below {w w' : World} {base size n : Nat} {e : TypeId} {v : Value} {xs : List Value} (h : w.ownsRow base e size v n xs) (hb : Below w.heap.size w w') : w'.ownsRow base e size v n xs := by
 refine ⟨h.1, ?_⟩
 rcases h.2 with hn | ⟨g,cap,cur,h1,h2,h3,h4⟩
 ·exact .inl hn
 ·exact .inr ⟨g,cap,cur,h1,h2,(hb.block g (Array.getElem?_eq_some_iff.1 h3).1).trans h3,h4⟩
theorem owns_not {w : World} {base size n : Nat} {e : TypeId} {v : Value} {xs : List Value} (h : w.ownsRow base e size v n xs) {B : Nat} (hB : B < base) : some B ≠ v.ownBlock := by
 rcases h.2 with ⟨h1,_⟩ | ⟨g,cap,cur,h1,h2,_⟩
 ·subst h1;simp [Value.ownBlock]
 ·subst h1;simp [Value.ownBlock];omega
theorem owns_set {w : World} {base size n : Nat} {e : TypeId} {v : Value} {xs : List Value} (h : w.ownsRow base e size v n xs) {B o : Nat} (hB : B < base) (u : Value) : (w.setCell ⟨B,o,none⟩ u).ownsRow base e size v n xs := by
 refine ⟨h.1, ?_⟩
 rcases h.2 with hn | ⟨g,cap,cur,h1,h2,h3,h4⟩
 ·exact .inl hn
 ·exact .inr ⟨g,cap,cur,h1,h2,(Below.heap_setCell _ _ _ g (by simp;omega)).trans h3,h4⟩
theorem owns_shape {w : World} {base size n : Nat} {e : TypeId} {v : Value} {xs : List Value} (h : w.ownsRow base e size v n xs) : ∃ (a : Option Addr) (cap : Nat),v = .slice a n cap ∧ n ≤ 9223372036854775807 := by
 rcases h.2 with ⟨h1,h2⟩ | ⟨g,cap,cur,h1,h2,h3,h4,h5,_⟩
 ·subst h2;exact ⟨none,0,h1,by omega⟩
 ·exact ⟨_,cap,h1,by unfold maxLen at h5;omega⟩
theorem grown_kept {w w' : World} {row : Option Nat} (hg : w.grownBy w' row) {B o : Nat} {u : Value} (h : w.cell? ⟨B,o,none⟩ = some u) (hne : some B ≠ row) : w'.cell? ⟨B,o,none⟩ = some u := hg.cell (a := ⟨B,o,none⟩) h hne
theorem below_grown {B : Nat} {a w w' : World} {base size n : Nat} {e : TypeId} {v : Value} {xs : List Value} (h : Below B a w) (hg : w.grownBy w' v.ownBlock) (ho : w.ownsRow base e size v n xs) (hB : B ≤ w.heap.size) (hb : B ≤ base) : Below B a w' := by
 refine h.grown hg hB fun k hk => ?_
 rcases ho.2 with ⟨h1,_⟩ | ⟨g,cap,cur,h1,h2,_⟩
 ·subst h1;simp [Value.ownBlock] at hk
 ·subst h1;simp [Value.ownBlock] at hk;omega
end Go.Pb
namespace Go.Pb.Ware
end Go.Pb.Ware
namespace Go.Pb.Ware
open Go.Pb Go.RowKit
end Go.Pb.Ware
namespace Go.Pb.Ware
open Go.Pb Go.RowKit
end Go.Pb.Ware
namespace Go.Pb

open Go.RowKit
def NumsAt (w : World) (v : Value) (zs : List Int) : Prop :=
 (v = .slice none 0 0 ∧ zs = []) ∨ ∃ (a : Addr) (cap : Nat),v = .slice (some a) zs.length cap ∧ zs.length ≤ cap ∧ cap ≤ 9223372036854775807 ∧
  ∀ k z,zs[k]? = some z → w.cell? (a.add k) = some (.int .i64 z) ∧ I64 z
theorem NumsAt.below {w w' : World} {v : Value} {zs : List Int} (h : NumsAt w v zs) (hb : Below w.heap.size w w') : NumsAt w' v zs := by
 rcases h with h | ⟨a,cap,h1,h2,h3,h4⟩
 ·exact .inl h
 ·exact .inr ⟨a,cap,h1,h2,h3,fun k z hz => ⟨bkeep hb (h4 k z hz).1,(h4 k z hz).2⟩⟩
theorem NumsAt.i64 {w : World} {v : Value} {zs : List Int} (h : NumsAt w v zs) : ∀ z ∈ zs,I64 z := by
 rcases h with ⟨_,rfl⟩ | ⟨a,cap,h1,h2,h3,h4⟩
 ·simp
 ·intro z hz
  obtain ⟨k,hk⟩ := List.getElem?_of_mem hz
  exact (h4 k z hk).2
theorem IntsAt.nums {w : World} {v : Value} {zs : List Int} (h : IntsAt w v zs) : NumsAt w v zs := by
 rcases h with h | ⟨a,cap,h1,h2,h3,h4⟩
 ·exact .inl h
 ·exact .inr ⟨a,cap,h1,h2,by omega,h4⟩
theorem NumsAt.head {w : World} {a : Option Addr} {cap : Nat} {zs : List Int} (h : NumsAt w (.slice a zs.length cap) zs) {k : Nat} (hk : k ≤ zs.length) : NumsAt w (.slice a k cap) (zs.take k) := by
 have hl : (zs.take k).length = k := by simp [hk]
 rcases h with ⟨h1,h2⟩ | ⟨a',cap',h1,h2,h3,h4⟩
 ·subst h2;injection h1 with e1 _ e3;subst e1;subst e3
  simp at hk;subst hk;exact .inl ⟨rfl,rfl⟩
 ·injection h1 with e1 _ e3;subst e1;subst e3
  refine .inr ⟨a',cap,by rw [hl],by omega,h3,fun j z hz => ?_⟩
  rw [List.getElem?_take] at hz
  split at hz
  ·exact h4 j z hz
  ·cases hz
theorem NumsAt.tail {w : World} {a' : Addr} {cap : Nat} {zs : List Int} (h : NumsAt w (.slice (some a') zs.length cap) zs) {k : Nat} (hk : k ≤ zs.length) (q : Addr) (hq : k < zs.length → q = a'.add k) : NumsAt w (.slice (some q) (zs.length - k) (cap - k)) (zs.drop k) := by
 rcases h with ⟨h1,h2⟩ | ⟨a2,cap',h1,h2,h3,h4⟩
 ·cases h1
 ·injection h1 with e1 _ e3;injection e1 with e1;subst e1;subst e3
  refine .inr ⟨q,cap - k,by rw [List.length_drop],by rw [List.length_drop];omega,by omega,fun j z hz => ?_⟩
  rw [List.getElem?_drop] at hz
  have hlt : k + j < zs.length := (List.getElem?_eq_some_iff.1 hz).1
  rw [hq (by omega),Go.Deep.add_add]
  exact h4 (k + j) z hz
theorem NumsAt.shape {w : World} {v : Value} {zs : List Int} (h : NumsAt w v zs) : ∃ (a : Option Addr) (cap : Nat),v = .slice a zs.length cap ∧ zs.length ≤ cap ∧ cap ≤ 9223372036854775807 := by
 rcases h with ⟨h,rfl⟩ | ⟨a,cap,h1,h2,h3,h4⟩
 ·exact ⟨none,0,h,by simp,by omega⟩
 ·exact ⟨some a,cap,h1,h2,h3⟩
theorem NumsAt.elem {w : World} {a : Option Addr} {cap : Nat} {zs : List Int} (h : NumsAt w (.slice a zs.length cap) zs) {k : Nat} (hk : k < zs.length) : ∃ a',a = some a' ∧ w.cell? (a'.add k) = some (.int .i64 zs[k]) := by
 rcases h with ⟨h1,h2⟩ | ⟨a',cap',h1,h2,h3,h4⟩
 ·subst h2;simp at hk
 ·injection h1 with h1 _ _
  exact ⟨a',h1,(h4 k _ (List.getElem?_eq_getElem hk)).1⟩
theorem numsAt_of_owns {w : World} {base : Nat} {e : TypeId} {v : Value} {zs : List Int} (hi : ∀ z ∈ zs,I64 z) (h : w.ownsRow base e 1 v zs.length (zs.map (Value.int .i64))) : NumsAt w v zs := by
 obtain ⟨hl,h⟩ := h
 rcases h with ⟨h1,h2⟩ | ⟨g,cap,cur,h1,h2,h3,h4,h5,h6,h7⟩
 ·exact .inl ⟨h1,List.length_eq_zero_iff.1 h2⟩
 ·refine .inr ⟨_,cap,h1,h4,by unfold maxLen at h5;omega,fun k z hz => ⟨?_,hi z (List.mem_of_getElem? hz)⟩⟩
  have hk : k < zs.length := (List.getElem?_eq_some_iff.1 hz).1
  rw [Go.WideShapes.add_plain]
  have h9 : (cur.toList.take (zs.length * 1))[k]? = some (.int .i64 z) := by rw [h7,List.getElem?_map,hz];rfl
  rw [List.getElem?_take,if_pos (by omega)] at h9
  simp only [World.cell?,h3,Nat.zero_add]
  simpa using h9
theorem grown_of_below {w w' : World} (hb : Below w.heap.size w w') : w.grownBy w' none := ⟨hb.os,hb.tape,hb.output,hb.size,fun k hk _ => hb.block k hk⟩
end Go.Pb
namespace Go.Pb.Ware
open Go.Pb
def src (t : TT) : Int := t.1.source
def only (by' : List Int) (ts : List TT) : List TT := ts.filter fun t => by'.contains (src t)
end Go.Pb.Ware
namespace Go.Pb.Sag
open Go Go.Pb Go.Pb.Ware Go.RowKit

def rowX (x : It) : List Int := [x.shape,x.many,x.clear]
def rowF (f : Ft) : List Int := [f.wide,f.deep,f.high,f.weight]
def cellsF (f : Ft) : List Value := [.int .i64 f.wide, .int .i64 f.deep, .int .i64 f.high, .int .i64 f.weight]
def FtOk (f : Ft) : Prop := (1 ≤ f.wide ∧ f.wide ≤ 2100) ∧ (1 ≤ f.deep ∧ f.deep ≤ 2100) ∧ (0 ≤ f.high ∧ f.high ≤ 80000) ∧ (0 ≤ f.weight ∧ f.weight ≤ 4000000)
def ckL (ss bs : List (List Int)) (s : Bx) (xs : List It) : Int := if ckG ss bs s = 0 then if 5 < (xs.length : Int) then 22 else if xs.all (itemB ss) = true then 0 else 22 else ckG ss bs s
def feetV (ss bs : List (List Int)) (s : Bx) (xs : List It) : List Ft := if ckL ss bs s xs = 0 then xs.map (footR ss s.cell) else []
theorem ckL_0 {ss bs : List (List Int)} {s : Bx} {xs : List It} (h : ckL ss bs s xs = 0) : ckW ss bs = 0 ∧ boxOk s = true ∧ xs.length ≤ 5 ∧ ∀ x ∈ xs,itemB ss x = true := by
 unfold ckL at h
 split at h
 ·rename_i hg
  split at h
  ·cases h
  ·split at h
   ·rename_i h1 h2
    exact ⟨(ckG_0 hg).1,(ckG_0 hg).2,by omega,fun x hx => List.all_eq_true.1 h2 x hx⟩
   ·cases h
 ·rename_i hg;exact absurd h hg
theorem feet_ok {ss bs : List (List Int)} {s : Bx} {xs : List It} : ∀ f ∈ feetV ss bs s xs,FtOk f := by
 intro f hf
 unfold feetV at hf
 split at hf
 ·rename_i h
  obtain ⟨h1,h2,h3,h4⟩ := ckL_0 h
  obtain ⟨x,hx,rfl⟩ := List.mem_map.1 hf
  exact foot_bd h1 (h4 x hx) (boxOk_iff.1 h2).2.2.2.1.1
 ·cases hf
theorem feet_len {ss bs : List (List Int)} {s : Bx} {xs : List It} : (feetV ss bs s xs).length ≤ 5 := by
 unfold feetV
 split
 ·rename_i h;rw [List.length_map];exact (ckL_0 h).2.2.1
 ·simp
theorem ckL_bad {ss bs : List (List Int)} {s : Bx} {xs : List It} (h : ckG ss bs s ≠ 0) : ckL ss bs s xs = ckG ss bs s := by unfold ckL;rw [if_neg h]
theorem ckL_long {ss bs : List (List Int)} {s : Bx} {xs : List It} (h : ckG ss bs s = 0) (h2 : 5 < (xs.length : Int)) : ckL ss bs s xs = 22 := by unfold ckL;rw [if_pos h,if_pos h2]
theorem ckL_item {ss bs : List (List Int)} {s : Bx} {xs : List It} (h : ckG ss bs s = 0) (h2 : ¬ 5 < (xs.length : Int)) (h3 : xs.all (itemB ss) = false) : ckL ss bs s xs = 22 := by
 unfold ckL;rw [if_pos h,if_neg h2,h3];rfl
theorem ckL_good {ss bs : List (List Int)} {s : Bx} {xs : List It} (h : ckG ss bs s = 0) (h2 : ¬ 5 < (xs.length : Int)) (h3 : xs.all (itemB ss) = true) : ckL ss bs s xs = 0 := by
 unfold ckL;rw [if_pos h,if_neg h2,h3];rfl
theorem feetV_0 {ss bs : List (List Int)} {s : Bx} {xs : List It} (h : ckL ss bs s xs = 0) : feetV ss bs s xs = xs.map (footR ss s.cell) := by unfold feetV;rw [if_pos h]
theorem feetV_no {ss bs : List (List Int)} {s : Bx} {xs : List It} (h : ckL ss bs s xs ≠ 0) : feetV ss bs s xs = [] := by unfold feetV;rw [if_neg h]
abbrev FeetAt (w : World) (v : Value) (fs : List Ft) : Prop := RowsAt 4 w v (fs.map rowF)
theorem i64F {f : Ft} (h : FtOk f) : ∀ z ∈ rowF f,I64 z := by
 intro z hz
 unfold FtOk at h
 simp only [rowF,List.mem_cons,List.not_mem_nil,or_false] at hz
 rcases hz with rfl | rfl | rfl | rfl <;> exact I64.mk (by omega) (by omega)
theorem flat_F (fs : List Ft) : (fs.map rowF).flatten.map (Value.int .i64) = fs.flatMap cellsF := by
 induction fs with
 | nil => rfl
 | cons f fs ih => simp only [List.map_cons,List.flatten_cons,List.map_append,List.flatMap_cons,ih];rfl
theorem feetAt_of_owns {w : World} {base : Nat} {e : TypeId} {v : Value} {fs : List Ft} (hf : ∀ f ∈ fs,FtOk f) (h : w.ownsRow base e 4 v fs.length (fs.flatMap cellsF)) : FeetAt w v fs := by
 refine rowsAt_of_owns (e := e) (base := base) (fun r hr => ?_) ?_ (fun r hr z hz => ?_)
 ·obtain ⟨f,_,rfl⟩ := List.mem_map.1 hr;rfl
 ·rw [List.length_map,flat_F];exact h
 ·obtain ⟨f,hf2,rfl⟩ := List.mem_map.1 hr
  exact i64F (hf f hf2) z hz
theorem one_cellsF {f : Ft} : ∀ u ∈ cellsF f,u.oneCell' = true := by
 intro u hu
 simp only [cellsF,List.mem_cons,List.not_mem_nil,or_false] at hu
 rcases hu with rfl | rfl | rfl | rfl <;> rfl
theorem new_cellsF (w : World) (f : Ft) (ty : TypeId) : ∀ j u,(cellsF f)[j]? = some u → (w.alloc (.cells (cellsF f).toArray ty)).cell? ((⟨w.heap.size,0,none⟩ : Addr).add j) = some u := by
 intro j u hu
 rw [Go.WideShapes.add_plain,Nat.zero_add]
 exact (CellsAt.new w (cellsF f) ty j u hu).1
theorem snocF (fs : List Ft) (f : Ft) : fs.flatMap cellsF ++ cellsF f = (fs ++ [f]).flatMap cellsF := by simp
def FeetRes (T : TypeId) (fs : List Ft) (c : Int) (W : World) (e : Ending) (w' : World) : Prop := ∃ v,e = .returned (.tuple #[v, .int .i64 c]) ∧ Below W.heap.size W w' ∧ w'.ownsRow W.heap.size T 4 v fs.length (fs.flatMap cellsF)
theorem all_snoc {α : Type} {p : α → Bool} {l : List α} {k : Nat} (hk : k < l.length) (h : (l.take k).all p = true) (h2 : p l[k] = true) : (l.take (k + 1)).all p = true := by
 rw [List.take_succ_eq_append_getElem hk,List.all_append,h];simp [h2]
theorem all_not {α : Type} {p : α → Bool} {l : List α} {k : Nat} (hk : k < l.length) (h2 : p l[k] = false) : l.all p = false := by
 rw [Bool.eq_false_iff];intro h;rw [List.all_eq_true.1 h _ (List.getElem_mem hk)] at h2;cases h2
end Go.Pb.Sag
namespace Go.Pb
open Go Go.RowKit
theorem owns_base {w : World} {b b2 size n : Nat} {e : TypeId} {v : Value} {xs : List Value} (hb : b2 ≤ b) (h : w.ownsRow b e size v n xs) : w.ownsRow b2 e size v n xs := by
 refine ⟨h.1, ?_⟩
 rcases h.2 with hn | ⟨g,cap,cur,h1,h2,h3⟩
 ·exact .inl hn
 ·exact .inr ⟨g,cap,cur,h1,Nat.le_trans hb h2,h3⟩
end Go.Pb
namespace Go.Pb.Sag
open Go Go.Pb Go.Pb.Ware Go.RowKit

structure St where
 y : Nat
 x : Nat
 turned : Bool
deriving DecidableEq
def bitAt (y x : Nat) : Nat := 2 ^ (y * 6 + x)
def rowM (y x : Nat) : Nat → Nat
 | 0 => 0
 | k + 1 => rowM y x k ||| bitAt y (x + k)
def boxM (y x wide : Nat) : Nat → Nat
 | 0 => 0
 | k + 1 => boxM y x wide k ||| rowM (y + k) x wide
theorem bit_lt {y x : Nat} (hy : y ≤ 5) (hx : x ≤ 5) : bitAt y x < 2 ^ 36 := Nat.pow_lt_pow_right (by decide) (by omega)
theorem row_lt {y x : Nat} (hy : y ≤ 5) : ∀ {k : Nat},x + k ≤ 6 → rowM y x k < 2 ^ 36
 | 0,_ => by simp [rowM]
 | k + 1,h => Nat.or_lt_two_pow (row_lt hy (by omega)) (bit_lt hy (by omega))
theorem box_lt {y x wide : Nat} (hx : x + wide ≤ 6) : ∀ {k : Nat},y + k ≤ 6 → boxM y x wide k < 2 ^ 36
 | 0,_ => by simp [boxM]
 | k + 1,h => Nat.or_lt_two_pow (box_lt hx (by omega)) (row_lt (by omega) hx)
theorem or_bit {c y x : Nat} (hc : c < 2 ^ 36) (hy : y ≤ 5) (hx : x ≤ 5) : bits .or .u64 (c : Int) (IntKind.u64.wrap (2 ^ (y * 6 + x))) = ((c ||| bitAt y x : Nat) : Int) := by
 have h3 := bit_lt hy hx
 have e3 : IntKind.u64.wrap (2 ^ (y * 6 + x)) = ((bitAt y x : Nat) : Int) := by
  have h4 : (2 ^ (y * 6 + x) : Int) = ((bitAt y x : Nat) : Int) := by unfold bitAt;simp
  rw [h4,IntKind.wrap_u64]
  exact Int.emod_eq_of_lt (by omega) (by omega)
 rw [e3,u64_or_nat c (bitAt y x) (by omega) (by omega)]
def sideV (f : Ft) (t : Bool) : Int × Int := if t = true then (f.deep,f.wide) else (f.wide,f.deep)
theorem grown_set {w w1 : World} (hb : Below w.heap.size w w1) (p o : Nat) (v : Value) : w.grownBy (w1.setCell ⟨p,o,none⟩ v) (some p) := by
 have h := (Below.refl 0 w1).setCell (p := ⟨p,o,none⟩) (Nat.zero_le _) v
 exact ⟨h.os.trans hb.os,h.tape.trans hb.tape,h.output.trans hb.output,Nat.le_trans hb.size h.size,fun k hk hne => (Below.heap_setCell w1 ⟨p,o,none⟩ v k (fun e => hne (by rw [e]))).trans (hb.block k hk)⟩
def maskOf (f : Ft) (p : St) : Nat := boxM p.y p.x (sideV f p.turned).1.toNat (sideV f p.turned).2.toNat
def cellsP (p : St) : List Value := [.int .i64 (p.y : Int), .int .i64 (p.x : Int), .bool p.turned]
def areaL (fs : List Ft) : Int := (fs.map fun f => f.wide * f.deep).sum
def weightL (fs : List Ft) : Int := (fs.map fun f => f.weight).sum
theorem areaL_snoc {fs : List Ft} {k : Nat} (hk : k < fs.length) : areaL (fs.take (k + 1)) = areaL (fs.take k) + fs[k].wide * fs[k].deep := by
 unfold areaL;rw [List.take_succ_eq_append_getElem hk,List.map_append,List.sum_append];simp
theorem weightL_snoc {fs : List Ft} {k : Nat} (hk : k < fs.length) : weightL (fs.take (k + 1)) = weightL (fs.take k) + fs[k].weight := by
 unfold weightL;rw [List.take_succ_eq_append_getElem hk,List.map_append,List.sum_append];simp
theorem areaL_bd {fs : List Ft} (h : ∀ f ∈ fs,FtOk f) : ∀ k,0 ≤ areaL (fs.take k) ∧ areaL (fs.take k) ≤ k * 4410000
 | 0 => by simp [areaL]
 | k + 1 => by
  have ih := areaL_bd h k
  by_cases hk : k < fs.length
  ·rw [areaL_snoc hk]
   have h2 := h fs[k] (List.getElem_mem hk)
   unfold FtOk at h2
   have h3 := mul_bd fs[k].wide fs[k].deep 2100 2100 (by omega) (by omega) (by omega) (by omega)
   omega
  ·rw [List.take_of_length_le (by omega)] at ih ⊢;omega
theorem weightL_bd {fs : List Ft} (h : ∀ f ∈ fs,FtOk f) : ∀ k,0 ≤ weightL (fs.take k) ∧ weightL (fs.take k) ≤ k * 4410000
 | 0 => by simp [weightL]
 | k + 1 => by
  have ih := weightL_bd h k
  by_cases hk : k < fs.length
  ·rw [weightL_snoc hk]
   have h2 := h fs[k] (List.getElem_mem hk)
   unfold FtOk at h2
   omega
  ·rw [List.take_of_length_le (by omega)] at ih ⊢;omega
end Go.Pb.Sag