import Derived.WalkKit
import Derived.WalkSpells
import Derived.Handy
import Derived.BigQuiet
import Derived.Deep.QuietTactic
import Derived.Deep.DeepCutAuto
namespace Go.Pb
open Go.RowKit

/-- An operation waits for operation number i. -/
def waits (md : Region.Mode) (o : Oper) (i : Nat) : Bool := o.after.any fun e => Region.binds md e && e.on == i

/-- A road of waiting leads from t to h, at most so long. -/
def reach (md : Region.Mode) (ops : Array Oper) : Nat → Nat → Nat → Bool
  | 0, _, _ => false
  | f + 1, t, h => match ops[t]? with
    | none => false
    | some o => o.after.any fun e => Region.binds md e && (e.on == h || reach md ops f e.on h)

/-- The group's operations in this order: each may come up behind those ahead of it, none is written twice, later ones wait for it or are apart. -/
def orderB (md : Region.Mode) (ops : Array Oper) (L : Array Bool) : List Nat → List Nat → Bool
  | _, [] => true
  | done, h :: rest =>
    (match ops[h]? with
      | none => false
      | some o => !L.getD h true && !done.contains h && !rest.contains h &&
        (o.after.all fun e => !Region.binds md e || L.getD e.on false || done.contains e.on) &&
        (rest.all fun j => match ops[j]? with
          | none => false
          | some oj => waits md oj h || o.apart ops oj)) &&
    orderB md ops L (done ++ [h]) rest

/-- What is not of the group, and not listed, waits: for something that is neither, or for the whole group. -/
def outB (md : Region.Mode) (ops : Array Oper) (L : Array Bool) (hs : List Nat) : Bool :=
  (List.range ops.size).all fun t => L.getD t true || hs.contains t || match ops[t]? with
    | none => true
    | some o => (o.after.any fun e => Region.binds md e && !L.getD e.on false && !hs.contains e.on) || hs.all fun h => reach md ops ops.size t h

def closedB (md : Region.Mode) (ops : Array Oper) (L : Array Bool) : Bool :=
  (List.range ops.size).all fun t => !L.getD t false || match ops[t]? with
    | none => true
    | some o => o.after.all fun e => !Region.binds md e || L.getD e.on false

def groupB (md : Region.Mode) (ops : Array Oper) (L : Array Bool) (hs : List Nat) : Bool :=
  decide (L.size = ops.size) && Region.noSelect ops && closedB md ops L && outB md ops L hs && orderB md ops L [] hs

section
variable {P : Program} {md : Region.Mode} {ops : Array Oper} {C : World → Prop} {hs : List Nat}

/-- Whatever order the group's operations take: while f of them are left, one may come up, and no other operation may. -/
def Hered (md : Region.Mode) (ops : Array Oper) (hs : List Nat) : Nat → Array Bool → Prop
  | 0, _ => True
  | f + 1, M => Region.ready md ops M ≠ [] ∧ (∀ i ∈ Region.ready md ops M, i ∈ hs) ∧ (f = 0 → ∀ i ∈ Region.ready md ops M, ∀ j ∈ Region.ready md ops M, i = j) ∧
    ∀ i ∈ Region.ready md ops M, Hered md ops hs f (M.setIfInBounds i true)

def wpG (P : Program) (md : Region.Mode) (ops : Array Oper) (C : World → Prop) (Fin : Array Bool → Act → Prop) : Nat → Array Bool → Act → Prop
  | 0, M, a => Fin M a
  | f + 1, M, a => ∀ i ∈ Region.ready md ops M, qOp P ops C i (wpG P md ops C Fin f (M.setIfInBounds i true)) a

theorem wpG_first {Fin : Array Bool → Act → Prop} {i : Nat} {oi : Oper} {v : Value} (hi : ops[i]? = some oi) (hsel : Region.noSelect ops = true) :
    ∀ (f : Nat) (M : Array Bool) (a : Act), Hered md ops hs (f + 1) M → i ∈ Region.ready md ops M →
      (∀ j ∈ hs, ∀ oj, ops[j]? = some oj → j ≠ i → M.getD j true = false → waits md oj i = true ∨ oi.apart ops oj = true) →
      YieldsIn P ops C oi v a → wpG P md ops C Fin f (M.setIfInBounds i true) (a.put oi.dst v) → wpG P md ops C Fin (f + 1) M a := by
  intro f
  induction f with
  | zero =>
    intro M a hh hr _ hy hG j hj
    obtain rfl := hh.2.2.1 rfl j hj i hr
    exact hy.qOp hi hG
  | succ f ih =>
    intro M a hh hr hfree hy hG j hj
    by_cases hji : j = i
    · subst hji; exact hy.qOp hi hG
    obtain ⟨hun, oj, hoj, hdeps⟩ := mem_ready.1 hj
    have hap : oi.apart ops oj = true := by
      rcases hfree j (hh.2.1 j hj) oj hoj hji hun with hw | hap
      · exfalso
        obtain ⟨e, he, hb⟩ := Array.any_eq_true'.1 hw
        simp only [Bool.and_eq_true, beq_iff_eq] at hb
        have h1 := hdeps e he hb.1
        rw [hb.2] at h1
        have h2 := (mem_ready.1 hr).1
        rcases Nat.lt_or_ge i M.size with h' | h'
        · simp [h'] at h1 h2; rw [h1] at h2; cases h2
        · simp [Array.getElem?_eq_none h'] at h1
      · exact hap
    have h1 := hG j (ready_mono hj hji)
    have h2 := qOp_put hoj hap (fun cs b => Region.noSelect_spec hsel i oi cs b hi) (fun cs b => Region.noSelect_spec hsel j oj cs b hoj) hy h1
    refine qOp_mono (fun a' h3 => ih (M.setIfInBounds j true) a' (hh.2.2.2 j hj) (ready_mono hr (Ne.symm hji)) ?_ h3.1 ?_) h2
    · intro k hk ok hok hki hku
      refine hfree k hk ok hok hki ?_
      by_cases hjk : j = k
      · subst hjk; exact hun
      · rwa [getD_set_ne true hjk] at hku
    · rw [Array.setIfInBounds_comm _ _ hji]; exact h3.2

/-- The list of the operations that numbers name. -/
def named (ops : Array Oper) (hs : List Nat) : List Oper := hs.filterMap (ops[·]?)

abbrev mark (l : List Nat) (M : Array Bool) : Array Bool := l.foldl (fun M h => M.setIfInBounds h true) M

theorem mark_out : ∀ (l : List Nat) (M : Array Bool) (j : Nat) (d : Bool), j ∉ l → (mark l M).getD j d = M.getD j d
  | [], _, _, _, _ => rfl
  | x :: l, M, j, d, hj => by
    simp only [mark, List.foldl_cons]
    rw [mark_out l _ j d (by simp_all), getD_set_ne d (by simp_all; omega)]
theorem mark_size : ∀ (l : List Nat) (M : Array Bool), (mark l M).size = M.size
  | [], _ => rfl
  | x :: l, M => by simp only [mark, List.foldl_cons]; rw [mark_size l _]; simp
theorem mark_in : ∀ (l : List Nat) (M : Array Bool) (j : Nat), j < M.size → j ∈ l ∨ M.getD j false = true → (mark l M).getD j false = true
  | [], _, _, _, hj => by simpa using hj
  | x :: l, M, j, hjs, hj => by
    simp only [mark, List.foldl_cons]
    refine mark_in l _ j (by simpa using hjs) ?_
    by_cases hjx : j = x
    · subst hjx; right; simp [hjs]
    · rcases hj with hj | hj
      · left; simpa [hjx] using hj
      · right; exact getD_set_true hj

theorem wpG_lex {Fin : Array Bool → Act → Prop} {L : Array Bool} (hsel : Region.noSelect ops = true) (hsz : L.size = ops.size) :
    ∀ (rest done : List Nat) (a : Act), (∀ j ∈ hs, j ∈ done ∨ j ∈ rest) → (∀ j ∈ done, j < L.size) → orderB md ops L done rest = true →
      Hered md ops hs rest.length (mark done L) →
      wpQuiet P ops C (Fin (mark (done ++ rest) L)) (named ops rest) a →
      wpG P md ops C Fin rest.length (mark done L) a := by
  intro rest
  induction rest with
  | nil => intro done a _ _ _ _ h; simpa [wpG, named, wpQuiet] using h
  | cons h rest ih =>
    intro done a hcov hin hB hh hq
    simp only [orderB, Bool.and_eq_true] at hB
    obtain ⟨hB1, hB2⟩ := hB
    cases ho : ops[h]? with
    | none => simp [ho] at hB1
    | some o =>
      simp only [ho, Bool.and_eq_true, Bool.not_eq_true', List.contains_eq_mem, decide_eq_false_iff_not] at hB1
      obtain ⟨⟨⟨⟨hL, hnd⟩, hnr⟩, hdep⟩, hfree⟩ := hB1
      simp only [named, List.filterMap_cons, ho] at hq
      have hst : qOp P ops C h (wpQuiet P ops C (Fin (mark (done ++ h :: rest) L)) (named ops rest)) a := by
        unfold qOp; simp only [ho]; exact hq
      obtain ⟨v, hy, hK⟩ := yieldsIn_of_qOp ho hst
      have hhs : h < L.size := by
        rw [hsz]
        rcases Nat.lt_or_ge h ops.size with h' | h'
        · exact h'
        · simp [Array.getElem?_eq_none h'] at ho
      have hr : h ∈ Region.ready md ops (mark done L) := by
        refine mem_ready.2 ⟨by rw [mark_out _ _ _ _ hnd]; exact hL, o, ho, fun e he hb => ?_⟩
        have := Array.all_eq_true'.1 hdep e he
        simp only [hb, Bool.not_true, Bool.false_or, Bool.or_eq_true, decide_eq_true_eq] at this
        rcases this with this | this
        · refine mark_in _ _ _ ?_ (.inr this)
          rcases Nat.lt_or_ge e.on L.size with h' | h'
          · exact h'
          · simp [Array.getElem?_eq_none h'] at this
        · exact mark_in _ _ _ (hin _ this) (.inl this)
      have hmk : (mark done L).setIfInBounds h true = mark (done ++ [h]) L := by simp [mark]
      simp only [List.length_cons]
      refine wpG_first ho hsel rest.length (mark done L) a (by simpa using hh) hr ?_ hy ?_
      · intro j hj oj hoj hjh hju
        have hjr : j ∈ rest := by
          rcases hcov j hj with hd | hd
          · exfalso
            have h1 := mark_in done L j (hin j hd) (.inl hd)
            have h2 : j < (mark done L).size := by rw [mark_size]; exact hin j hd
            simp [h2] at h1 hju
            rw [h1] at hju; cases hju
          · simpa [hjh] using hd
        have := List.all_eq_true.1 hfree j hjr
        simpa [hoj] using this
      · rw [hmk]
        refine ih (done ++ [h]) _ ?_ ?_ hB2 ?_ ?_
        · intro j hj
          rcases hcov j hj with hd | hd
          · left; simp [hd]
          · rcases List.mem_cons.1 hd with rfl | hd
            · left; simp
            · right; exact hd
        · intro j hj
          rcases List.mem_append.1 hj with hj | hj
          · exact hin j hj
          · simp at hj; subst hj; exact hhs
        · rw [← hmk]; exact hh.2.2.2 h hr
        · simpa using hK

/-- How many of the group are not listed. -/
def left (hs : List Nat) (M : Array Bool) : Nat := (hs.filter fun h => !M.getD h true).length

theorem left_set {M : Array Bool} {i : Nat} : ∀ {hs : List Nat}, hs.Nodup → i ∈ hs → M.getD i true = false → left hs (M.setIfInBounds i true) + 1 = left hs M
  | [], _, hi, _ => by cases hi
  | x :: l, hn, hi, hu => by
    rw [List.nodup_cons] at hn
    have same : ∀ (l : List Nat), i ∉ l → left l (M.setIfInBounds i true) = left l M := by
      intro l hl
      unfold left
      congr 1
      refine List.filter_congr fun j hj => ?_
      rw [getD_set_ne true (by rintro rfl; exact hl hj)]
    by_cases hx : x = i
    · subst hx
      have h1 := same l hn.1
      unfold left at h1 ⊢
      have h2 : x < M.size := by
        rcases Nat.lt_or_ge x M.size with h' | h'
        · exact h'
        · simp [Array.getElem?_eq_none h'] at hu
      have h3 : (M.setIfInBounds x true).getD x true = true := by simp
      simp only [List.filter_cons, hu, h3, Bool.not_true, Bool.not_false, Bool.false_eq_true, if_false, if_true, List.length_cons, h1]
    · have hil : i ∈ l := by simpa [Ne.symm hx] using hi
      have ihl := left_set hn.2 hil hu
      unfold left at ihl ⊢
      simp only [List.filter_cons, getD_set_ne true (Ne.symm hx)]
      split
      · simp only [List.length_cons]; omega
      · omega

theorem left_pos {M : Array Bool} {hs : List Nat} (h : 0 < left hs M) : ∃ i ∈ hs, M.getD i true = false := by
  unfold left at h
  obtain ⟨i, hi⟩ := List.exists_mem_of_length_pos h
  rw [List.mem_filter] at hi
  exact ⟨i, hi.1, by simpa using hi.2⟩

theorem left_one {M : Array Bool} {hs : List Nat} (h : left hs M = 1) {i j : Nat} (hi : i ∈ hs) (hj : j ∈ hs) (hiu : M.getD i true = false) (hju : M.getD j true = false) : i = j := by
  unfold left at h
  obtain ⟨x, hx⟩ := List.length_eq_one_iff.1 h
  have h1 : i ∈ hs.filter fun h => !M.getD h true := List.mem_filter.2 ⟨hi, by simp [hiu]⟩
  have h2 : j ∈ hs.filter fun h => !M.getD h true := List.mem_filter.2 ⟨hj, by simp [hju]⟩
  rw [hx] at h1 h2
  simp at h1 h2
  rw [h1, h2]

theorem orderB_spec {L : Array Bool} : ∀ {rest done : List Nat}, orderB md ops L done rest = true → rest.Nodup ∧ (∀ h ∈ rest, h ∉ done ∧ L.getD h true = false ∧ ∃ o, ops[h]? = some o) ∧
    ∀ pre h post, rest = pre ++ h :: post → ∀ o, ops[h]? = some o → ∀ e ∈ o.after, Region.binds md e = true → L.getD e.on false = true ∨ e.on ∈ done ∨ e.on ∈ pre
  | [], done, _ => ⟨List.nodup_nil, by simp, by intro pre h post hp; simp at hp⟩
  | h :: rest, done, hB => by
    simp only [orderB, Bool.and_eq_true] at hB
    obtain ⟨hB1, hB2⟩ := hB
    cases ho : ops[h]? with
    | none => simp [ho] at hB1
    | some o =>
      simp only [ho, Bool.and_eq_true, Bool.not_eq_true', List.contains_eq_mem, decide_eq_false_iff_not] at hB1
      obtain ⟨⟨⟨⟨hL, hnd⟩, hnr⟩, hdep⟩, hfree⟩ := hB1
      obtain ⟨i1, i2, i3⟩ := orderB_spec hB2
      refine ⟨List.nodup_cons.2 ⟨hnr, i1⟩, fun k hk => ?_, fun pre k post hp o' ho' e he hb => ?_⟩
      · rcases List.mem_cons.1 hk with rfl | hk
        · exact ⟨hnd, hL, o, ho⟩
        · have := i2 k hk
          exact ⟨fun hkd => this.1 (by simp [hkd]), this.2⟩
      · cases pre with
        | nil =>
          simp at hp
          obtain ⟨rfl, rfl⟩ := hp
          obtain rfl : o = o' := Option.some.inj (ho.symm.trans ho')
          have := Array.all_eq_true'.1 hdep e he
          simp only [hb, Bool.not_true, Bool.false_or, Bool.or_eq_true, decide_eq_true_eq] at this
          rcases this with this | this
          · exact .inl this
          · exact .inr (.inl this)
        | cons y pre =>
          simp at hp
          obtain ⟨rfl, hp⟩ := hp
          rcases i3 pre k post hp o' ho' e he hb with h1 | h1 | h1
          · exact .inl h1
          · rcases List.mem_append.1 h1 with h1 | h1
            · exact .inr (.inl h1)
            · simp at h1; subst h1; exact .inr (.inr (by simp))
          · exact .inr (.inr (by simp [h1]))

/-- What is listed is closed under waiting. -/
def Shut (md : Region.Mode) (ops : Array Oper) (M : Array Bool) : Prop := ∀ j o, ops[j]? = some o → M.getD j false = true → ∀ e ∈ o.after, Region.binds md e = true → M.getD e.on false = true

theorem Shut.set {M : Array Bool} (h : Shut md ops M) {i : Nat} (hi : i ∈ Region.ready md ops M) : Shut md ops (M.setIfInBounds i true) := by
  intro j o ho hj e he hb
  by_cases hij : i = j
  · subst hij
    obtain ⟨_, o', ho', hd⟩ := mem_ready.1 hi
    obtain rfl : o = o' := Option.some.inj (ho.symm.trans ho')
    exact getD_set_true (hd e he hb)
  · rw [getD_set_ne false hij] at hj
    exact getD_set_true (h j o ho hj e he hb)

theorem Shut.reach {M : Array Bool} (h : Shut md ops M) {hd : Nat} : ∀ (f t : Nat), (∀ o, ops[t]? = some o → ∀ e ∈ o.after, Region.binds md e = true → M.getD e.on false = true) →
    Pb.reach md ops f t hd = true → M.getD hd false = true
  | 0, _, _, hr => by simp [Pb.reach] at hr
  | f + 1, t, ht, hr => by
    unfold Pb.reach at hr
    cases ho : ops[t]? with
    | none => simp [ho] at hr
    | some o =>
      simp only [ho] at hr
      obtain ⟨e, he, hb⟩ := Array.any_eq_true'.1 hr
      simp only [Bool.and_eq_true, Bool.or_eq_true, beq_iff_eq] at hb
      have h1 := ht o ho e he hb.1
      rcases hb.2 with h2 | h2
      · rw [← h2]; exact h1
      · exact h.reach f e.on (fun o' ho' e' he' hb' => h _ o' ho' h1 e' he' hb') h2

theorem hered_of {L : Array Bool} (hB : groupB md ops L hs = true) : ∀ (f : Nat) (M : Array Bool), left hs M = f → Shut md ops M → M.size = ops.size →
    (∀ j, M.getD j false = true → L.getD j false = true ∨ j ∈ hs) → (∀ j, L.getD j false = true → M.getD j false = true) → Hered md ops hs f M := by
  simp only [groupB, Bool.and_eq_true, decide_eq_true_eq] at hB
  obtain ⟨⟨⟨⟨hsz, hsel⟩, hcl⟩, hout⟩, hord⟩ := hB
  obtain ⟨hnd, hmem, hpre⟩ := orderB_spec hord
  intro f
  induction f with
  | zero => intros; trivial
  | succ f ih =>
    intro M hl hsh hms hML hLM
    have only : ∀ i ∈ Region.ready md ops M, i ∈ hs := by
      intro i hi
      obtain ⟨hu, o, ho, hd⟩ := mem_ready.1 hi
      have hio : i < ops.size := by
        rcases Nat.lt_or_ge i ops.size with h' | h'
        · exact h'
        · simp [Array.getElem?_eq_none h'] at ho
      have h1 := List.all_eq_true.1 hout i (List.mem_range.2 hio)
      simp only [Bool.or_eq_true, ho, List.contains_eq_mem, decide_eq_true_eq] at h1
      have hboth : M.getD i false = false := by simp [hms, hio] at hu ⊢; exact hu
      rcases h1 with (h1 | h1) | h1 | h1
      · exfalso
        have : L.getD i false = true := by simp [hsz, hio] at h1 ⊢; exact h1
        rw [hLM i this] at hboth; cases hboth
      · exact h1
      · exfalso
        obtain ⟨e, he, hb⟩ := Array.any_eq_true'.1 h1
        simp only [Bool.and_eq_true, Bool.not_eq_true', decide_eq_false_iff_not] at hb
        rcases hML _ (hd e he hb.1.1) with h2 | h2
        · rw [h2] at hb; simp at hb
        · exact hb.2 h2
      · exfalso
        obtain ⟨k, hk, hku⟩ := left_pos (hs := hs) (M := M) (by omega)
        have h2 := hsh.reach ops.size i (fun o' ho' => by
          obtain rfl : o = o' := Option.some.inj (ho.symm.trans ho')
          exact hd) (List.all_eq_true.1 h1 k hk)
        have hks : k < M.size := by
          rcases Nat.lt_or_ge k M.size with h' | h'
          · exact h'
          · simp [Array.getElem?_eq_none h'] at h2
        simp [hks] at h2 hku
        rw [h2] at hku; cases hku
    refine ⟨?_, only, fun hf0 i hi j hj => left_one (by omega) (only i hi) (only j hj) (mem_ready.1 hi).1 (mem_ready.1 hj).1, fun i hi => ?_⟩
    · -- the first one that is not listed is ready
      have key : ∀ (rest pre : List Nat), hs = pre ++ rest → (∀ j ∈ pre, M.getD j false = true) → (∃ k ∈ rest, M.getD k true = false) → ∃ i, i ∈ Region.ready md ops M := by
        intro rest
        induction rest with
        | nil => intro pre _ _ hk; obtain ⟨k, hk, _⟩ := hk; cases hk
        | cons h rest ihr =>
          intro pre hp hall hk
          have hmh : h ∈ hs := by rw [hp]; simp
          obtain ⟨_, _, o, ho⟩ := hmem h hmh
          have hho : h < M.size := by
            rw [hms]
            rcases Nat.lt_or_ge h ops.size with h' | h'
            · exact h'
            · simp [Array.getElem?_eq_none h'] at ho
          cases hu : M.getD h true with
          | false =>
            refine ⟨h, mem_ready.2 ⟨hu, o, ho, fun e he hb => ?_⟩⟩
            rcases hpre pre h rest hp o ho e he hb with h1 | h1 | h1
            · exact hLM _ h1
            · cases h1
            · exact hall _ h1
          | true =>
            refine ihr (pre ++ [h]) (by simp [hp]) ?_ ?_
            · intro j hj
              rcases List.mem_append.1 hj with hj | hj
              · exact hall j hj
              · simp at hj; subst hj; simp [hho] at hu ⊢; exact hu
            · obtain ⟨k, hk, hku⟩ := hk
              rcases List.mem_cons.1 hk with rfl | hk
              · rw [hu] at hku; cases hku
              · exact ⟨k, hk, hku⟩
      obtain ⟨i, hi⟩ := key hs [] rfl (by simp) (left_pos (by omega))
      intro h0
      rw [h0] at hi; cases hi
    · have hiu := (mem_ready.1 hi).1
      have hih := only i hi
      refine ih (M.setIfInBounds i true) ?_ (hsh.set hi) (by simpa using hms) ?_ ?_
      · have := left_set hnd hih hiu; omega
      · intro j hj
        by_cases hij : i = j
        · subst hij; exact .inr hih
        · rw [getD_set_ne false hij] at hj; exact hML j hj
      · intro j hj; exact getD_set_true (hLM j hj)

theorem wpAny_of_wpG {Q : Exit → Act → World → Prop} {g : Nat} {Fin : Array Bool → Act → Prop} (hF : ∀ M a, Fin M a → ∀ w, C w → wpAny P md ops Q g M a w) :
    ∀ (f : Nat) (M : Array Bool) (a : Act) (w : World), Hered md ops hs f M → wpG P md ops C Fin f M a → C w → wpAny P md ops Q (f + g) M a w
  | 0, M, a, w, _, h, hw => by rw [Nat.zero_add]; exact hF M a h w hw
  | f + 1, M, a, w, hh, h, hw => by
    rw [show f + 1 + g = (f + g) + 1 by omega]
    exact ⟨fun h0 => absurd h0 hh.1, fun i hi => wpOp_of_qOp hw (fun a' w' hw' h' => wpAny_of_wpG hF f _ a' w' (hh.2.2.2 i hi) h' hw') (h i hi)⟩

/-- A GROUP OF QUIET OPERATIONS, AHEAD OF WHATEVER ELSE THE REGION HOLDS: walked once, in the given order. -/
theorem wpAny_group {Q : Exit → Act → World → Prop} {L : Array Bool} {a : Act} {w : World} (hs : List Nat) (g : Nat) (hB : groupB md ops L hs = true) (hC : C w)
    (h : wpQuiet P ops C (fun a' => ∀ w', C w' → wpAny P md ops Q g (mark hs L) a' w') (named ops hs) a) : wpAny P md ops Q (hs.length + g) L a w := by
  have hB' := hB
  simp only [groupB, Bool.and_eq_true, decide_eq_true_eq] at hB'
  obtain ⟨⟨⟨⟨hsz, hsel⟩, hcl⟩, hout⟩, hord⟩ := hB'
  obtain ⟨hnd, hmem, hpre⟩ := orderB_spec hord
  have hleft : left hs L = hs.length := by
    unfold left
    rw [List.filter_eq_self.2 (fun j hj => by rw [(hmem j hj).2.1]; rfl)]
  have hsh : Shut md ops L := by
    intro j o ho hj e he hb
    have hjo : j < ops.size := by
      rcases Nat.lt_or_ge j ops.size with h' | h'
      · exact h'
      · simp [Array.getElem?_eq_none h'] at ho
    have h1 := List.all_eq_true.1 hcl j (List.mem_range.2 hjo)
    simp only [hj, ho, Bool.not_true, Bool.false_or] at h1
    simpa [hb] using Array.all_eq_true'.1 h1 e he
  have hh := hered_of hB hs.length L hleft hsh hsz (fun j hj => .inl hj) (fun j hj => hj)
  refine wpAny_of_wpG (hs := hs) (Fin := fun M a' => ∀ w', C w' → wpAny P md ops Q g M a' w') (fun M a h w hw => h w hw) hs.length L a w hh ?_ hC
  have := wpG_lex (P := P) (C := C) (hs := hs) (Fin := fun M a' => ∀ w', C w' → wpAny P md ops Q g M a' w') hsel hsz hs [] a (fun j hj => .inr hj) (by simp) hord (by simpa [mark] using hh) (by simpa using h)
  simpa [mark] using this
end

theorem hid {p : Prop} (h : p) : Hid p := h
theorem ret_int {k : IntKind} {a b : Int} (h : a = b) : Ending.returned (.int k a) = .returned (.int k b) := by rw [h]
theorem ret_bool {a b : Bool} (h : a = b) : Ending.returned (.bool a) = .returned (.bool b) := by rw [h]

/-- The worlds in which below w's blocks all is as in w. -/
structure BW (w : World) where
  w' : World
  below : Below w.heap.size w w'

instance BW.inst (w : World) : Nonempty (BW w) := ⟨⟨w, Below.refl _ _⟩⟩

theorem lt_of_isSome {w : World} {a : Addr} (h : (w.cell? a).isSome = true) : a.block < w.heap.size := by
  obtain ⟨v, hv⟩ := Option.isSome_iff_exists.1 h
  exact World.block_lt_of_cell? w a hv

theorem BW.cell {w : World} (x : BW w) (b o : Nat) (h : (w.cell? ⟨b, o, none⟩).isSome = true) : x.w'.cell? ⟨b, o, none⟩ = w.cell? ⟨b, o, none⟩ := x.below.cell (lt_of_isSome h)
theorem BW.frozen {w : World} (x : BW w) (b o : Nat) (h : (w.cell? ⟨b, o, none⟩).isSome = true) : x.w'.frozen? ⟨b, o, none⟩ = w.frozen? ⟨b, o, none⟩ := x.below.frozen (lt_of_isSome h)

@[go_sem] theorem cell_alloc_kept (w : World) (o : Obj) (b i : Nat) (h : (w.cell? ⟨b, i, none⟩).isSome = true) : (w.alloc o).cell? ⟨b, i, none⟩ = w.cell? ⟨b, i, none⟩ :=
  World.cell?_alloc_lt w o _ (lt_of_isSome h)
@[go_sem] theorem frozen_alloc_kept (w : World) (o : Obj) (b i : Nat) (h : (w.cell? ⟨b, i, none⟩).isSome = true) : (w.alloc o).frozen? ⟨b, i, none⟩ = w.frozen? ⟨b, i, none⟩ :=
  World.frozen?_alloc_old w o _ (Nat.ne_of_lt (lt_of_isSome h))

/-- What a later world keeps: every cell that was there. -/
theorem bcell {W w1 : World} (hb : Below W.heap.size W w1) : (∀ b o, (W.cell? ⟨b, o, none⟩).isSome = true → w1.cell? ⟨b, o, none⟩ = W.cell? ⟨b, o, none⟩) ∧
    (∀ b o, (W.cell? ⟨b, o, none⟩).isSome = true → w1.frozen? ⟨b, o, none⟩ = W.frozen? ⟨b, o, none⟩) :=
  ⟨fun _ _ h => hb.cell (lt_of_isSome h), fun _ _ h => hb.frozen (lt_of_isSome h)⟩

theorem bkeep {W w1 : World} (hb : Below W.heap.size W w1) {a : Addr} {v : Value} (h : W.cell? a = some v) : w1.cell? a = some v :=
  (hb.cell (World.block_lt_of_cell? W a h)).trans h
theorem bfree {W w1 : World} (hb : Below W.heap.size W w1) {a : Addr} {v : Value} (h : W.cell? a = some v) (hf : W.frozen? a = false) : w1.frozen? a = false :=
  (hb.frozen (World.block_lt_of_cell? W a h)).trans hf

theorem bnext {w W w1 : World} (h0 : Below w.heap.size w W) (hb : Below W.heap.size W w1) : Below w.heap.size w w1 := h0.trans (hb.mono h0.size)

/-- A post: it returns v, and below W's blocks nothing has turned. -/
def Ret (W : World) (v : Value) (e : Ending) (w' : World) : Prop := e = .returned v ∧ Below W.heap.size W w'

theorem BW.call {P : Program} {f : FuncId} {args : Array Value} {w : World} {v : Value} (x : BW w) (h : Calls P f args x.w' (Ret x.w' v)) :
    Calls P f args x.w' fun e w'' => e = .returned v ∧ ∃ y : BW w, w'' = y.w' :=
  h.mono fun _ w'' ⟨he, hb⟩ => ⟨he, ⟨w'', x.below.trans (hb.mono x.below.size)⟩, rfl⟩

theorem Ret.of_same {P : Program} {f : FuncId} {args : Array Value} {w : World} {v : Value} (h : Calls P f args w fun e w' => e = .returned v ∧ w = w') : Calls P f args w (Ret w v) :=
  h.mono fun _ _ ⟨he, hw⟩ => ⟨he, hw ▸ Below.refl _ _⟩

/-- A region that draws, all of whose operations are quiet. -/
theorem wp_region_qb {P : Program} {id : Nat} {Q : Exit → Act → World → Prop} {a : Act} {w : World} {l : List Oper} (hm : P.follows .mixedOrders = true) (hB : Region.lexB .any l.toArray = true)
    (h : (∀ (x : BW w) b o, (w.cell? ⟨b, o, none⟩).isSome = true → x.w'.cell? ⟨b, o, none⟩ = w.cell? ⟨b, o, none⟩) →
      wpQuiet P l.toArray (fun w' => ∃ x : BW w, w' = x.w') (fun a' => ∀ w', Below w.heap.size w w' → Q .normal a' w') l a) : (Code.region id l.toArray true).wp P Q a w := by
  replace h := h fun x => x.cell
  refine wp_region_quiet (C := fun w' => ∃ x : BW w, w' = x.w') hm hB ⟨⟨_, (Below.refl _ w).drew⟩, rfl⟩ ?_
  have : (fun a' => ∀ w', Below w.heap.size w w' → Q .normal a' w') = (fun a' => ∀ w', (∃ x : BW w, w' = x.w') → Q .normal a' w') := by
    funext a'; simp only [eq_iff_iff]
    exact ⟨fun h w' ⟨x, hx⟩ => hx ▸ h _ x.below, fun h w' hb => h w' ⟨⟨w', hb⟩, rfl⟩⟩
  rw [← this]; simpa using h

/-- A region that draws: a group of quiet operations first (by number), then the others. -/
theorem wp_region_gb {P : Program} {id : Nat} {Q : Exit → Act → World → Prop} {a : Act} {w : World} {l : List Oper} (hs : List Nat) (g : Nat) (hm : P.follows .mixedOrders = true)
    (hn : hs.length + g = l.length) (hB : groupB .any l.toArray (Array.replicate l.length false) hs = true)
    (h : (∀ (x : BW w) b o, (w.cell? ⟨b, o, none⟩).isSome = true → x.w'.cell? ⟨b, o, none⟩ = w.cell? ⟨b, o, none⟩) →
      wpQuiet P l.toArray (fun w' => ∃ x : BW w, w' = x.w') (fun a' => ∀ w', Below w.heap.size w w' → wpAny P .any l.toArray Q g (mark hs (Array.replicate l.length false)) a' w') (named l.toArray hs) a) :
    (Code.region id l.toArray true).wp P Q a w := by
  replace h := h fun x => x.cell
  refine wp_region_any hm ?_
  have := wpAny_group (P := P) (Q := Q) (C := fun w' => ∃ x : BW w, w' = x.w') (w := w.drew) (a := a) hs g hB ⟨⟨_, (Below.refl _ w).drew⟩, rfl⟩ (by
    have e : (fun a' => ∀ w', (∃ x : BW w, w' = x.w') → wpAny P .any l.toArray Q g (mark hs (Array.replicate l.length false)) a' w') = (fun a' => ∀ w', Below w.heap.size w w' → wpAny P .any l.toArray Q g (mark hs (Array.replicate l.length false)) a' w') := by
      funext a'; simp only [eq_iff_iff]
      exact ⟨fun h w' hb => h w' ⟨⟨w', hb⟩, rfl⟩, fun h w' ⟨x, hx⟩ => hx ▸ h _ x.below⟩
    rw [e]; exact h)
  rw [hn] at this
  simpa using this
theorem wpList_of_quiet {P : Program} {ops : Array Oper} {C : World → Prop} {Q : Exit → Act → World → Prop} : ∀ (l : List Oper) (a : Act) (w : World), C w →
    wpQuiet P ops C (fun a' => ∀ w', C w' → Q .normal a' w') l a → wpList P ops Q l a w
  | [], _, w, hw, h => h w hw
  | o :: rest, a, w, hw, h => by
    unfold wpQuiet at h
    unfold wpList
    split
    · rename_i hwant
      rw [if_pos hwant] at h
      exact .inl (Oper.wp_of_quiet hw (fun a' w' hw' h' => wpList_of_quiet rest a' w' hw' h') h)
    · rename_i hwant
      rw [if_neg hwant] at h
      exact wpList_of_quiet rest _ w hw h

/-- A region that does not draw, all of whose operations are quiet. -/
theorem wp_region_qf {P : Program} {id : Nat} {Q : Exit → Act → World → Prop} {a : Act} {w : World} {l : List Oper}
    (h : (∀ (x : BW w) b o, (w.cell? ⟨b, o, none⟩).isSome = true → x.w'.cell? ⟨b, o, none⟩ = w.cell? ⟨b, o, none⟩) →
      wpQuiet P l.toArray (fun w' => ∃ x : BW w, w' = x.w') (fun a' => ∀ w', Below w.heap.size w w' → Q .normal a' w') l a) : (Code.region id l.toArray false).wp P Q a w := by
  replace h := h fun x => x.cell
  have e : (fun a' => ∀ w', Below w.heap.size w w' → Q .normal a' w') = (fun a' => ∀ w', (∃ x : BW w, w' = x.w') → Q .normal a' w') := by
    funext a'; simp only [eq_iff_iff]
    exact ⟨fun h w' ⟨x, hx⟩ => hx ▸ h _ x.below, fun h w' hb => h w' ⟨⟨w', hb⟩, rfl⟩⟩
  rw [e] at h
  exact wp_region_lit (wpList_of_quiet (C := fun w' => ∃ x : BW w, w' = x.w') l a w ⟨⟨w, Below.refl _ _⟩, rfl⟩ h)
end Go.Pb
