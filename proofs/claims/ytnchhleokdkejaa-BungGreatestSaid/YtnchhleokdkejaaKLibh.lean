/- Part of a claim. -/
import Derived.WalkKit
import Derived.WalkSpells
import Derived.Handy
import Derived.BigQuiet
import Derived.Deep.QuietTactic
import Derived.Deep.DeepCutAuto
import Derived.ProofKit
import Derived.OpenShut
import Derived.ChangeSlices
import Derived.SizedLaws
import Derived.Deep.Slices
import Derived.RangeFuncNested
import Derived.RangeFuncBound
import Derived.RangeFuncCalls
import Derived.RangeFuncLeaves
import Derived.Shelf.Abstract
import Derived.Shelf.RegionOpen
import Derived.OwnWalkIn
import Derived.TacticsInMore
import Derived.LoopNIn
import Derived.LoopIn
namespace Go.Pb
open Go.RowKit

/-- An operation waits for operation number i. -/
def waits (md : Region.Mode) (o : Oper) (i : Nat) : Bool := o.after.any fun e => Region.binds md e && e.on == i

/-- A road of waiting leads from t to h, at most so long. -/
def reach (md : Region.Mode) (ops : Array Oper) : Nat → Nat → Nat → Bool
  | 0, _, _ => false
  | f + 1, t, h => match ops[t]? with
    | none => false
    | some o => o.after.any fun e => Region.binds md e && (e.on == h || reach md ops f e.on h)

/-- The group's operations in this order: each may come up behind those ahead of it, none is written twice, later ones wait for it or are apart. -/
def orderB (md : Region.Mode) (ops : Array Oper) (L : Array Bool) : List Nat → List Nat → Bool
  | _, [] => true
  | done, h :: rest =>
    (match ops[h]? with
      | none => false
      | some o => !L.getD h true && !done.contains h && !rest.contains h &&
        (o.after.all fun e => !Region.binds md e || L.getD e.on false || done.contains e.on) &&
        (rest.all fun j => match ops[j]? with
          | none => false
          | some oj => waits md oj h || o.apart ops oj)) &&
    orderB md ops L (done ++ [h]) rest

/-- What is not of the group, and not listed, waits: for something that is neither, or for the whole group. -/
def outB (md : Region.Mode) (ops : Array Oper) (L : Array Bool) (hs : List Nat) : Bool :=
  (List.range ops.size).all fun t => L.getD t true || hs.contains t || match ops[t]? with
    | none => true
    | some o => (o.after.any fun e => Region.binds md e && !L.getD e.on false && !hs.contains e.on) || hs.all fun h => reach md ops ops.size t h

def closedB (md : Region.Mode) (ops : Array Oper) (L : Array Bool) : Bool :=
  (List.range ops.size).all fun t => !L.getD t false || match ops[t]? with
    | none => true
    | some o => o.after.all fun e => !Region.binds md e || L.getD e.on false

def groupB (md : Region.Mode) (ops : Array Oper) (L : Array Bool) (hs : List Nat) : Bool :=
  decide (L.size = ops.size) && Region.noSelect ops && closedB md ops L && outB md ops L hs && orderB md ops L [] hs

section
variable {P : Program} {md : Region.Mode} {ops : Array Oper} {C : World → Prop} {hs : List Nat}

/-- Whatever order the group's operations take: while f of them are left, one may come up, and no other operation may. -/
def Hered (md : Region.Mode) (ops : Array Oper) (hs : List Nat) : Nat → Array Bool → Prop
  | 0, _ => True
  | f + 1, M => Region.ready md ops M ≠ [] ∧ (∀ i ∈ Region.ready md ops M, i ∈ hs) ∧ (f = 0 → ∀ i ∈ Region.ready md ops M, ∀ j ∈ Region.ready md ops M, i = j) ∧
    ∀ i ∈ Region.ready md ops M, Hered md ops hs f (M.setIfInBounds i true)

abbrev mark (l : List Nat) (M : Array Bool) : Array Bool := l.foldl (fun M h => M.setIfInBounds h true) M

/-- How many of the group are not listed. -/
def left (hs : List Nat) (M : Array Bool) : Nat := (hs.filter fun h => !M.getD h true).length

theorem left_set {M : Array Bool} {i : Nat} : ∀ {hs : List Nat}, hs.Nodup → i ∈ hs → M.getD i true = false → left hs (M.setIfInBounds i true) + 1 = left hs M
  | [], _, hi, _ => by cases hi
  | x :: l, hn, hi, hu => by
    rw [List.nodup_cons] at hn
    have same : ∀ (l : List Nat), i ∉ l → left l (M.setIfInBounds i true) = left l M := by
      intro l hl
      unfold left
      congr 1
      refine List.filter_congr fun j hj => ?_
      rw [getD_set_ne true (by rintro rfl; exact hl hj)]
    by_cases hx : x = i
    · subst hx
      have h1 := same l hn.1
      unfold left at h1 ⊢
      have h2 : x < M.size := by
        rcases Nat.lt_or_ge x M.size with h' | h'
        · exact h'
        · simp [Array.getElem?_eq_none h'] at hu
      have h3 : (M.setIfInBounds x true).getD x true = true := by simp
      simp only [List.filter_cons, hu, h3, Bool.not_true, Bool.not_false, Bool.false_eq_true, if_false, if_true, List.length_cons, h1]
    · have hil : i ∈ l := by simpa [Ne.symm hx] using hi
      have ihl := left_set hn.2 hil hu
      unfold left at ihl ⊢
      simp only [List.filter_cons, getD_set_ne true (Ne.symm hx)]
      split
      · simp only [List.length_cons]; omega
      · omega

theorem left_pos {M : Array Bool} {hs : List Nat} (h : 0 < left hs M) : ∃ i ∈ hs, M.getD i true = false := by
  unfold left at h
  obtain ⟨i, hi⟩ := List.exists_mem_of_length_pos h
  rw [List.mem_filter] at hi
  exact ⟨i, hi.1, by simpa using hi.2⟩

theorem left_one {M : Array Bool} {hs : List Nat} (h : left hs M = 1) {i j : Nat} (hi : i ∈ hs) (hj : j ∈ hs) (hiu : M.getD i true = false) (hju : M.getD j true = false) : i = j := by
  unfold left at h
  obtain ⟨x, hx⟩ := List.length_eq_one_iff.1 h
  have h1 : i ∈ hs.filter fun h => !M.getD h true := List.mem_filter.2 ⟨hi, by simp [hiu]⟩
  have h2 : j ∈ hs.filter fun h => !M.getD h true := List.mem_filter.2 ⟨hj, by simp [hju]⟩
  rw [hx] at h1 h2
  simp at h1 h2
  rw [h1, h2]

theorem orderB_spec {L : Array Bool} : ∀ {rest done : List Nat}, orderB md ops L done rest = true → rest.Nodup ∧ (∀ h ∈ rest, h ∉ done ∧ L.getD h true = false ∧ ∃ o, ops[h]? = some o) ∧
    ∀ pre h post, rest = pre ++ h :: post → ∀ o, ops[h]? = some o → ∀ e ∈ o.after, Region.binds md e = true → L.getD e.on false = true ∨ e.on ∈ done ∨ e.on ∈ pre
  | [], done, _ => ⟨List.nodup_nil, by simp, by intro pre h post hp; simp at hp⟩
  | h :: rest, done, hB => by
    simp only [orderB, Bool.and_eq_true] at hB
    obtain ⟨hB1, hB2⟩ := hB
    cases ho : ops[h]? with
    | none => simp [ho] at hB1
    | some o =>
      simp only [ho, Bool.and_eq_true, Bool.not_eq_true', List.contains_eq_mem, decide_eq_false_iff_not] at hB1
      obtain ⟨⟨⟨⟨hL, hnd⟩, hnr⟩, hdep⟩, hfree⟩ := hB1
      obtain ⟨i1, i2, i3⟩ := orderB_spec hB2
      refine ⟨List.nodup_cons.2 ⟨hnr, i1⟩, fun k hk => ?_, fun pre k post hp o' ho' e he hb => ?_⟩
      · rcases List.mem_cons.1 hk with rfl | hk
        · exact ⟨hnd, hL, o, ho⟩
        · have := i2 k hk
          exact ⟨fun hkd => this.1 (by simp [hkd]), this.2⟩
      · cases pre with
        | nil =>
          simp at hp
          obtain ⟨rfl, rfl⟩ := hp
          obtain rfl : o = o' := Option.some.inj (ho.symm.trans ho')
          have := Array.all_eq_true'.1 hdep e he
          simp only [hb, Bool.not_true, Bool.false_or, Bool.or_eq_true, decide_eq_true_eq] at this
          rcases this with this | this
          · exact .inl this
          · exact .inr (.inl this)
        | cons y pre =>
          simp at hp
          obtain ⟨rfl, hp⟩ := hp
          rcases i3 pre k post hp o' ho' e he hb with h1 | h1 | h1
          · exact .inl h1
          · rcases List.mem_append.1 h1 with h1 | h1
            · exact .inr (.inl h1)
            · simp at h1; subst h1; exact .inr (.inr (by simp))
          · exact .inr (.inr (by simp [h1]))

/-- What is listed is closed under waiting. -/
def Shut (md : Region.Mode) (ops : Array Oper) (M : Array Bool) : Prop := ∀ j o, ops[j]? = some o → M.getD j false = true → ∀ e ∈ o.after, Region.binds md e = true → M.getD e.on false = true

theorem Shut.set {M : Array Bool} (h : Shut md ops M) {i : Nat} (hi : i ∈ Region.ready md ops M) : Shut md ops (M.setIfInBounds i true) := by
  intro j o ho hj e he hb
  by_cases hij : i = j
  · subst hij
    obtain ⟨_, o', ho', hd⟩ := mem_ready.1 hi
    obtain rfl : o = o' := Option.some.inj (ho.symm.trans ho')
    exact getD_set_true (hd e he hb)
  · rw [getD_set_ne false hij] at hj
    exact getD_set_true (h j o ho hj e he hb)

theorem Shut.reach {M : Array Bool} (h : Shut md ops M) {hd : Nat} : ∀ (f t : Nat), (∀ o, ops[t]? = some o → ∀ e ∈ o.after, Region.binds md e = true → M.getD e.on false = true) →
    Pb.reach md ops f t hd = true → M.getD hd false = true
  | 0, _, _, hr => by simp [Pb.reach] at hr
  | f + 1, t, ht, hr => by
    unfold Pb.reach at hr
    cases ho : ops[t]? with
    | none => simp [ho] at hr
    | some o =>
      simp only [ho] at hr
      obtain ⟨e, he, hb⟩ := Array.any_eq_true'.1 hr
      simp only [Bool.and_eq_true, Bool.or_eq_true, beq_iff_eq] at hb
      have h1 := ht o ho e he hb.1
      rcases hb.2 with h2 | h2
      · rw [← h2]; exact h1
      · exact h.reach f e.on (fun o' ho' e' he' hb' => h _ o' ho' h1 e' he' hb') h2

theorem hered_of {L : Array Bool} (hB : groupB md ops L hs = true) : ∀ (f : Nat) (M : Array Bool), left hs M = f → Shut md ops M → M.size = ops.size →
    (∀ j, M.getD j false = true → L.getD j false = true ∨ j ∈ hs) → (∀ j, L.getD j false = true → M.getD j false = true) → Hered md ops hs f M := by
  simp only [groupB, Bool.and_eq_true, decide_eq_true_eq] at hB
  obtain ⟨⟨⟨⟨hsz, hsel⟩, hcl⟩, hout⟩, hord⟩ := hB
  obtain ⟨hnd, hmem, hpre⟩ := orderB_spec hord
  intro f
  induction f with
  | zero => intros; trivial
  | succ f ih =>
    intro M hl hsh hms hML hLM
    have only : ∀ i ∈ Region.ready md ops M, i ∈ hs := by
      intro i hi
      obtain ⟨hu, o, ho, hd⟩ := mem_ready.1 hi
      have hio : i < ops.size := by
        rcases Nat.lt_or_ge i ops.size with h' | h'
        · exact h'
        · simp [Array.getElem?_eq_none h'] at ho
      have h1 := List.all_eq_true.1 hout i (List.mem_range.2 hio)
      simp only [Bool.or_eq_true, ho, List.contains_eq_mem, decide_eq_true_eq] at h1
      have hboth : M.getD i false = false := by simp [hms, hio] at hu ⊢; exact hu
      rcases h1 with (h1 | h1) | h1 | h1
      · exfalso
        have : L.getD i false = true := by simp [hsz, hio] at h1 ⊢; exact h1
        rw [hLM i this] at hboth; cases hboth
      · exact h1
      · exfalso
        obtain ⟨e, he, hb⟩ := Array.any_eq_true'.1 h1
        simp only [Bool.and_eq_true, Bool.not_eq_true', decide_eq_false_iff_not] at hb
        rcases hML _ (hd e he hb.1.1) with h2 | h2
        · rw [h2] at hb; simp at hb
        · exact hb.2 h2
      · exfalso
        obtain ⟨k, hk, hku⟩ := left_pos (hs := hs) (M := M) (by omega)
        have h2 := hsh.reach ops.size i (fun o' ho' => by
          obtain rfl : o = o' := Option.some.inj (ho.symm.trans ho')
          exact hd) (List.all_eq_true.1 h1 k hk)
        have hks : k < M.size := by
          rcases Nat.lt_or_ge k M.size with h' | h'
          · exact h'
          · simp [Array.getElem?_eq_none h'] at h2
        simp [hks] at h2 hku
        rw [h2] at hku; cases hku
    refine ⟨?_, only, fun hf0 i hi j hj => left_one (by omega) (only i hi) (only j hj) (mem_ready.1 hi).1 (mem_ready.1 hj).1, fun i hi => ?_⟩
    · -- the first one that is not listed is ready
      have key : ∀ (rest pre : List Nat), hs = pre ++ rest → (∀ j ∈ pre, M.getD j false = true) → (∃ k ∈ rest, M.getD k true = false) → ∃ i, i ∈ Region.ready md ops M := by
        intro rest
        induction rest with
        | nil => intro pre _ _ hk; obtain ⟨k, hk, _⟩ := hk; cases hk
        | cons h rest ihr =>
          intro pre hp hall hk
          have hmh : h ∈ hs := by rw [hp]; simp
          obtain ⟨_, _, o, ho⟩ := hmem h hmh
          have hho : h < M.size := by
            rw [hms]
            rcases Nat.lt_or_ge h ops.size with h' | h'
            · exact h'
            · simp [Array.getElem?_eq_none h'] at ho
          cases hu : M.getD h true with
          | false =>
            refine ⟨h, mem_ready.2 ⟨hu, o, ho, fun e he hb => ?_⟩⟩
            rcases hpre pre h rest hp o ho e he hb with h1 | h1 | h1
            · exact hLM _ h1
            · cases h1
            · exact hall _ h1
          | true =>
            refine ihr (pre ++ [h]) (by simp [hp]) ?_ ?_
            · intro j hj
              rcases List.mem_append.1 hj with hj | hj
              · exact hall j hj
              · simp at hj; subst hj; simp [hho] at hu ⊢; exact hu
            · obtain ⟨k, hk, hku⟩ := hk
              rcases List.mem_cons.1 hk with rfl | hk
              · rw [hu] at hku; cases hku
              · exact ⟨k, hk, hku⟩
      obtain ⟨i, hi⟩ := key hs [] rfl (by simp) (left_pos (by omega))
      intro h0
      rw [h0] at hi; cases hi
    · have hiu := (mem_ready.1 hi).1
      have hih := only i hi
      refine ih (M.setIfInBounds i true) ?_ (hsh.set hi) (by simpa using hms) ?_ ?_
      · have := left_set hnd hih hiu; omega
      · intro j hj
        by_cases hij : i = j
        · subst hij; exact .inr hih
        · rw [getD_set_ne false hij] at hj; exact hML j hj
      · intro j hj; exact getD_set_true (hLM j hj)

end

theorem hid {p : Prop} (h : p) : Hid p := h
theorem ret_int {k : IntKind} {a b : Int} (h : a = b) : Ending.returned (.int k a) = .returned (.int k b) := by rw [h]
theorem ret_bool {a b : Bool} (h : a = b) : Ending.returned (.bool a) = .returned (.bool b) := by rw [h]

/-- The worlds in which below w's blocks all is as in w. -/
structure BW (w : World) where
  w' : World
  below : Below w.heap.size w w'

instance BW.inst (w : World) : Nonempty (BW w) := ⟨⟨w, Below.refl _ _⟩⟩

theorem lt_of_isSome {w : World} {a : Addr} (h : (w.cell? a).isSome = true) : a.block < w.heap.size := by
  obtain ⟨v, hv⟩ := Option.isSome_iff_exists.1 h
  exact World.block_lt_of_cell? w a hv

theorem BW.cell {w : World} (x : BW w) (b o : Nat) (h : (w.cell? ⟨b, o, none⟩).isSome = true) : x.w'.cell? ⟨b, o, none⟩ = w.cell? ⟨b, o, none⟩ := x.below.cell (lt_of_isSome h)
theorem BW.frozen {w : World} (x : BW w) (b o : Nat) (h : (w.cell? ⟨b, o, none⟩).isSome = true) : x.w'.frozen? ⟨b, o, none⟩ = w.frozen? ⟨b, o, none⟩ := x.below.frozen (lt_of_isSome h)

@[go_sem] theorem cell_alloc_kept (w : World) (o : Obj) (b i : Nat) (h : (w.cell? ⟨b, i, none⟩).isSome = true) : (w.alloc o).cell? ⟨b, i, none⟩ = w.cell? ⟨b, i, none⟩ :=
  World.cell?_alloc_lt w o _ (lt_of_isSome h)
@[go_sem] theorem frozen_alloc_kept (w : World) (o : Obj) (b i : Nat) (h : (w.cell? ⟨b, i, none⟩).isSome = true) : (w.alloc o).frozen? ⟨b, i, none⟩ = w.frozen? ⟨b, i, none⟩ :=
  World.frozen?_alloc_old w o _ (Nat.ne_of_lt (lt_of_isSome h))

/-- What a later world keeps: every cell that was there. -/
theorem bcell {W w1 : World} (hb : Below W.heap.size W w1) : (∀ b o, (W.cell? ⟨b, o, none⟩).isSome = true → w1.cell? ⟨b, o, none⟩ = W.cell? ⟨b, o, none⟩) ∧
    (∀ b o, (W.cell? ⟨b, o, none⟩).isSome = true → w1.frozen? ⟨b, o, none⟩ = W.frozen? ⟨b, o, none⟩) :=
  ⟨fun _ _ h => hb.cell (lt_of_isSome h), fun _ _ h => hb.frozen (lt_of_isSome h)⟩

theorem bkeep {W w1 : World} (hb : Below W.heap.size W w1) {a : Addr} {v : Value} (h : W.cell? a = some v) : w1.cell? a = some v :=
  (hb.cell (World.block_lt_of_cell? W a h)).trans h
theorem bfree {W w1 : World} (hb : Below W.heap.size W w1) {a : Addr} {v : Value} (h : W.cell? a = some v) (hf : W.frozen? a = false) : w1.frozen? a = false :=
  (hb.frozen (World.block_lt_of_cell? W a h)).trans hf

theorem bnext {w W w1 : World} (h0 : Below w.heap.size w W) (hb : Below W.heap.size W w1) : Below w.heap.size w w1 := h0.trans (hb.mono h0.size)

/-- A post: it returns v, and below W's blocks nothing has turned. -/
def Ret (W : World) (v : Value) (e : Ending) (w' : World) : Prop := e = .returned v ∧ Below W.heap.size W w'

theorem BW.call {P : Program} {f : FuncId} {args : Array Value} {w : World} {v : Value} (x : BW w) (h : Calls P f args x.w' (Ret x.w' v)) :
    Calls P f args x.w' fun e w'' => e = .returned v ∧ ∃ y : BW w, w'' = y.w' :=
  h.mono fun _ w'' ⟨he, hb⟩ => ⟨he, ⟨w'', x.below.trans (hb.mono x.below.size)⟩, rfl⟩

/-- A region that draws, all of whose operations are quiet. -/
theorem wp_region_qb {P : Program} {id : Nat} {Q : Exit → Act → World → Prop} {a : Act} {w : World} {l : List Oper} (hm : P.follows .mixedOrders = true) (hB : Region.lexB .any l.toArray = true)
    (h : (∀ (x : BW w) b o, (w.cell? ⟨b, o, none⟩).isSome = true → x.w'.cell? ⟨b, o, none⟩ = w.cell? ⟨b, o, none⟩) →
      wpQuiet P l.toArray (fun w' => ∃ x : BW w, w' = x.w') (fun a' => ∀ w', Below w.heap.size w w' → Q .normal a' w') l a) : (Code.region id l.toArray true).wp P Q a w := by
  replace h := h fun x => x.cell
  refine wp_region_quiet (C := fun w' => ∃ x : BW w, w' = x.w') hm hB ⟨⟨_, (Below.refl _ w).drew⟩, rfl⟩ ?_
  have : (fun a' => ∀ w', Below w.heap.size w w' → Q .normal a' w') = (fun a' => ∀ w', (∃ x : BW w, w' = x.w') → Q .normal a' w') := by
    funext a'; simp only [eq_iff_iff]
    exact ⟨fun h w' ⟨x, hx⟩ => hx ▸ h _ x.below, fun h w' hb => h w' ⟨⟨w', hb⟩, rfl⟩⟩
  rw [← this]; simpa using h

end Go.Pb

/- From a walk to a law's row: arguments that are all int64 cells are opened; a law that leaves what was there as it was meets its row. -/
namespace Go.Pb
open Go.RowKit Go.ChangeShapes Go.WideShapes Go.ChangeAt

/-- A type all of whose cells are int64s. -/
def flatI (P : Program) : Nat → TypeId → Bool
  | 0, _ => false
  | n + 1, t => match P.underlying t with
    | some (.int .i64) => P.cellsOf t == 1
    | some (.struct fs) => (List.range (P.cellsOf t)).all fun i => (List.range fs.size).any fun j => match fs[j]? with
      | some f => decide (f.offset ≤ i) && decide (i < f.offset + P.cellsOf f.type) && flatI P n f.type
      | none => false
    | some (.array m e) => flatI P n e && (List.range (P.cellsOf t)).all fun i => (List.range m).any fun j => decide (j * P.cellsOf e ≤ i) && decide (i < j * P.cellsOf e + P.cellsOf e)
    | _ => false

def IsInt (c : Value) : Prop := ∃ k : Int, c = .int .i64 k ∧ (Lit.int .i64 k).wf = true

section
variable {H : Type} {enc : TypeId × Value → H} {P : Program} {w : World} {base : Nat} {spare : Nat → Bool} {held : Bool}

theorem flat_cells : ∀ (n : Nat) {t : TypeId} {fuel : Nat} {cs : List Value} {x : DataW H × List MemPlace}, flatI P n t = true → DataW.trod enc P w base spare held fuel t cs = some x →
    cs.length = P.cellsOf t ∧ ∀ (i : Nat) (c : Value), cs[i]? = some c → IsInt c
  | 0, _, _, _, _, h, _ => by simp [flatI] at h
  | n + 1, t, fuel, cs, x, h, ht => by
    unfold flatI at h
    cases hu : P.underlying t with
    | none => simp [hu] at h
    | some u =>
      simp only [hu] at h
      split at h
      · rename_i heq
        cases heq
        obtain ⟨k, rfl, _, hw⟩ := DataW.trod_int hu ht
        refine ⟨by have := beq_iff_eq.1 h; simp [this], fun i c hc => ?_⟩
        cases i with
        | zero => simp at hc; exact ⟨k, hc.symm, hw⟩
        | succ i => simp at hc
      · rename_i fs heq
        cases heq
        obtain ⟨xs, m, _, _, hlen, hxl, hf⟩ := DataW.trod_struct hu ht
        refine ⟨hlen, fun i c hc => ?_⟩
        have hi : i < P.cellsOf t := by
          rw [← hlen]
          rcases Nat.lt_or_ge i cs.length with h' | h'
          · exact h'
          · simp [List.getElem?_eq_none h'] at hc
        obtain ⟨j, hj, hb⟩ := List.any_eq_true.1 (List.all_eq_true.1 h i (List.mem_range.2 hi))
        have hjs := List.mem_range.1 hj
        have hfj : fs[j]? = some fs[j] := Array.getElem?_eq_getElem hjs
        rw [hfj] at hb
        simp only [Bool.and_eq_true, decide_eq_true_eq] at hb
        obtain ⟨⟨h1, h2⟩, h3⟩ := hb
        have h4 := hf j fs[j] hfj
        have h5 : xs[j]? = some (xs[j]'(by omega)) := List.getElem?_eq_getElem (by omega)
        rw [h5] at h4
        obtain ⟨_, h6⟩ := flat_cells n h3 h4
        refine h6 (i - fs[j].offset) c ?_
        rw [List.getElem?_take, if_pos (by omega), List.getElem?_drop, show fs[j].offset + (i - fs[j].offset) = i by omega]
        exact hc
      · rename_i m e heq
        cases heq
        simp only [Bool.and_eq_true] at h
        obtain ⟨xs, m', _, _, hlen, hxl, hf⟩ := DataW.trod_array hu ht
        refine ⟨hlen, fun i c hc => ?_⟩
        have hi : i < P.cellsOf t := by
          rw [← hlen]
          rcases Nat.lt_or_ge i cs.length with h' | h'
          · exact h'
          · simp [List.getElem?_eq_none h'] at hc
        obtain ⟨j, hj, hb⟩ := List.any_eq_true.1 (List.all_eq_true.1 h.2 i (List.mem_range.2 hi))
        have hjs := List.mem_range.1 hj
        simp only [Bool.and_eq_true, decide_eq_true_eq] at hb
        have h4 := hf j hjs
        have h5 : xs[j]? = some (xs[j]'(by omega)) := List.getElem?_eq_getElem (by omega)
        rw [h5] at h4
        obtain ⟨_, h6⟩ := flat_cells n h.1 h4
        refine h6 (i - j * P.cellsOf e) c ?_
        rw [List.getElem?_take, if_pos (by omega), List.getElem?_drop, show j * P.cellsOf e + (i - j * P.cellsOf e) = i by omega]
        exact hc
      · cases h

theorem ints_of : ∀ (cs : List Value), (∀ (i : Nat) (c : Value), cs[i]? = some c → IsInt c) → ∃ zs : List Int, cs = zs.map (Value.int .i64) ∧ ∀ z ∈ zs, (Lit.int .i64 z).wf = true
  | [], _ => ⟨[], rfl, by simp⟩
  | c :: cs, h => by
    obtain ⟨k, hk, hw⟩ := h 0 c rfl
    obtain ⟨zs, hz, hzw⟩ := ints_of cs fun i c hc => h (i + 1) c (by simpa using hc)
    exact ⟨k :: zs, by simp [hk, hz], by simpa using ⟨hw, hzw⟩⟩

theorem trodAll_below (hl : laidOutB P = true) {W W' : World} (hb : Below W.heap.size W W') : ∀ {ts : List TypeId} {vs : List Value} {ds : List (DataW H)} {ps : List MemPlace},
    (ts.all fun t => P.readableRec t && decide (t < P.types.size)) = true → DataW.TrodAll enc P W 0 (fun _ => true) true ts vs ds ps → (∀ x ∈ ps, x.block < W.heap.size) →
    DataW.TrodAll enc P W' 0 (fun b => decide (b < W.heap.size)) true ts vs ds ps
  | [], [], [], _, _, h, _ => h
  | t :: ts, v :: vs, d :: ds, ps, hr, h, hlt => by
    obtain ⟨p, q, h1, h2, rfl⟩ := h
    simp only [List.all_cons, Bool.and_eq_true, decide_eq_true_eq] at hr
    exact ⟨p, q, Below.trod hl hr.1.1 hr.1.2 h1 hb (fun x hx => hlt x (by simp [hx])), trodAll_below hl hb hr.2 h2 (fun x hx => hlt x (by simp [hx])), rfl⟩
  | [], [], _ :: _, _, _, h, _ => h.elim
  | [], _ :: _, _, _, _, h, _ => by cases h
  | _ :: _, [], _, _, _, h, _ => by cases h
  | _ :: _, _ :: _, [], _, _, h, _ => by cases h

/-- A LAW's POST: true; what was there is as it was. -/
theorem law_post {f : Func} {s : ChangeSpec} {W W' : World} {args : Array Value} {ds gs : List (DataW H)} {before : List MemPlace} {tb : TypeId}
    (hl : laidOutB P = true) (hr : (f.params.toList.all fun t => P.readableRec t && decide (t < P.types.size)) = true) (hvars : s.vars = [])
    (hfn : ∀ ds : List (DataW H), ds.length = f.params.size → s.fn H ds = { results := [.lit (.bool true)], args := ds })
    (hres : f.resultTypes = #[tb]) (htb : P.underlying tb = some .bool)
    (hW : DataW.Whole enc P f.params.toList s.vars false W args.toList ds gs before) (hb : Below W.heap.size W W') :
    s.post enc P f false true false false W args (.bool true) W' := by
  have hW' := hW
  obtain ⟨p, q, hA, hV, rfl, hfz, hnd⟩ := hW
  rw [hvars] at hV
  obtain ⟨rfl, rfl⟩ := trodVars_none hV
  have hlen : ∀ {ts : List TypeId} {vs : List Value} {ds : List (DataW H)} {ps : List MemPlace}, DataW.TrodAll enc P W 0 (fun _ => true) true ts vs ds ps → ds.length = ts.length := by
    intro ts
    induction ts with
    | nil => intro vs ds ps h; cases vs <;> cases ds <;> first | rfl | exact h.elim
    | cons t ts ih =>
      intro vs ds ps h
      cases vs with
      | nil => cases ds <;> exact h.elim
      | cons v vs => cases ds with
        | nil => exact h.elim
        | cons d ds => obtain ⟨_, _, _, h2, _⟩ := h; simp [ih h2]
  have hfn' := hfn ds (by rw [hlen hA]; simp)
  have hlt : ∀ x ∈ p, x.block < W.heap.size := fun x hx => by simpa using hW'.lt x (by simpa using hx)
  refine ⟨ds, [], p ++ [], [], p, [], hW', ?_, ?_, ?_, hb.frame _, fun h => by cases h⟩
  · simp only [List.append_nil, hfn', hres]
    exact trodAll_mk1 (shut_bool htb _)
  · simp only [List.append_nil, hfn']
    exact trodAll_below hl hb hr hA hlt
  · simp only [List.append_nil, hfn', hvars]; rfl
end
end Go.Pb

/- A region that draws its order: a group of quiet operations, allocations and calls that hand back new memory, taken first and walked once; what the new memory is known for is told by predicates. -/
namespace Go.Pb
set_option linter.unusedVariables false
open Go.RowKit

/-- No call: what it yields is a value. -/
def plainOp : Op → Bool
  | .nilCheck _ | .move _ | .assign _ | .load _ _ | .fieldAddr _ _ _ | .binOp _ _ _ _ _ | .unOp _ _ _ | .build _ _ | .field _ _ _ | .extract _ _ | .index _ _ _ | .indexAddr _ _ _ | .slice _ _ _ _ _ | .pick _ _ _ => true
  | .call c => match c.callee with
    | .builtin .len | .builtin .cap | .builtin .max | .builtin .min => true
    | _ => false
  | _ => false

theorem run_value_ne {P : Program} {w : World} {s : Sem Value} {f : FuncId} {args : Array Value} {w' : World} :
    (do pure (Next.value (← s)) : Sem Next).run P w ≠ .ok (.enter f args) w' := by
  intro h
  simp only [Sem.run_bind] at h
  cases hs : s.run P w with
  | ok x w1 => simp [hs, Result.andThen] at h
  | halt x w1 => simp [hs, Result.andThen] at h
theorem bind_ne {α : Type} {P : Program} {s : Sem α} {k : α → Sem Next} (hk : ∀ x (w : World) f args w', (k x).run P w ≠ .ok (.enter f args) w') {w : World} {f : FuncId} {args : Array Value} {w' : World} : (s >>= k).run P w ≠ .ok (.enter f args) w' := by
  intro h
  simp only [Sem.run_bind] at h
  cases hs : s.run P w with
  | ok x w1 => rw [hs] at h; exact hk x w1 f args w' h
  | halt x w1 => simp [hs, Result.andThen] at h
theorem pure_ne {P : Program} {v : Value} (w : World) (f : FuncId) (args : Array Value) (w' : World) : (pure (Next.value v) : Sem Next).run P w ≠ .ok (.enter f args) w' := by simp
theorem plain_ne {P : Program} {w : World} {o : Oper} (ho : plainOp o.op = true) (ρ : Operand → Value) {f : FuncId} {args : Array Value} {w' : World} :
    (execOp ρ o).run P w ≠ .ok (.enter f args) w' := by
  obtain ⟨dst, op, type, pos, after, guard⟩ := o
  cases op
  case call c =>
    obtain ⟨callee, args', tys⟩ := c
    simp only [plainOp] at ho
    simp only [execOp, resolve]
    split at ho
    all_goals first | cases ho | skip
    all_goals (simp only [pure_bind, invoke, builtin]; exact run_value_ne)
  case nilCheck x =>
    simp only [execOp]
    split
    · intro h; simp [runtimePanic] at h
    · intro h; simp [runtimePanic] at h
    · intro h; simp [runtimePanic] at h
    · split
      · intro h; simp [runtimePanic] at h
      · refine bind_ne fun p w1 f1 a1 w2 => bind_ne fun b w3 f3 a3 w4 => ?_
        split
        · exact bind_ne (fun _ w f args w' => pure_ne w f args w')
        · exact pure_ne _ _ _ _
      · exact pure_ne _ _ _ _
    · exact pure_ne _ _ _ _
  case pick c x y =>
    simp only [execOp]
    intro h
    simp only [Sem.run_bind] at h
    cases hs : (asBool (ρ c)).run P w with
    | ok x w1 => simp [hs, Result.andThen] at h
    | halt x w1 => simp [hs, Result.andThen] at h
  all_goals simp only [plainOp] at ho <;> (try cases ho) <;> simp only [execOp] <;> first | exact run_value_ne | (intro h; simp at h)

section
variable {P : Program} {md : Region.Mode} {ops : Array Oper} {w0 : World} {fr : Nat → Bool} {p : Nat → Value → World → Prop}

abbrev Known := Nat → Option Value
def upd (Γ : Known) (h : Nat) (v : Value) : Known := fun g => if g = h then some v else Γ g

/-- The worlds of the walk in which what an operation waits for is known. -/
structure BQ (w0 : World) (q : World → Prop) where
  w' : World
  below : Below w0.heap.size w0 w'
  has : q w'

def Facts (md : Region.Mode) (p : Nat → Value → World → Prop) (Γ : Known) (o : Oper) (w' : World) : Prop := ∀ g v, Γ g = some v → waits md o g = true → p g v w'
def Cl (w0 : World) (md : Region.Mode) (p : Nat → Value → World → Prop) (Γ : Known) (o : Oper) (w' : World) : Prop := ∃ x : BQ w0 (Facts md p Γ o), w' = x.w'

theorem Cl.iff {Γ : Known} {o : Oper} {w' : World} : Cl w0 md p Γ o w' ↔ Below w0.heap.size w0 w' ∧ Facts md p Γ o w' :=
  ⟨fun ⟨x, hx⟩ => hx ▸ ⟨x.below, x.has⟩, fun ⟨h1, h2⟩ => ⟨⟨w', h1, h2⟩, rfl⟩⟩

/-- All that is known, in one world. -/
def All (w0 : World) (p : Nat → Value → World → Prop) (Γ : Known) (W : World) : Prop := Below w0.heap.size w0 W ∧ ∀ g v, Γ g = some v → p g v W
theorem All.cl {Γ : Known} {W : World} (h : All w0 p Γ W) (o : Oper) : Cl w0 md p Γ o W := Cl.iff.2 ⟨h.1, fun g v hg _ => h.2 g v hg⟩

/-- An operation that makes memory: in the world w' it yields a value of which p is known; what was there stays. -/
def freshAt (P : Program) (o : Oper) (a : Act) (p : Value → World → Prop) (w' : World) : Prop :=
  match (execOp a.eval o).run P w' with
  | .ok (.value u) w'' => Below w'.heap.size w' w'' ∧ p u w''
  | .ok (.enter f args) w'' => w'' = w' ∧ Calls P f args w' (fun e w'' => ∃ u, e = .returned u ∧ Below w'.heap.size w' w'' ∧ p u w'')
  | _ => False

/-- One operation of the group. -/
def oneR (P : Program) (md : Region.Mode) (ops : Array Oper) (w0 : World) (fr : Nat → Bool) (p : Nat → Value → World → Prop) (Γ : Known) (h : Nat) (K : Known → Act → Prop) (a : Act) : Prop :=
  match ops[h]? with
  | none => K Γ a
  | some o =>
    if Region.wanted o (yielded ops a.tmps) = true then
      if fr h = true then (∀ w', Cl w0 md p Γ o w' → freshAt P o a (p h) w') ∧ ∀ v, (∃ W, All w0 p (upd Γ h v) W) → K (upd Γ h v) (a.put o.dst v)
      else (∃ W, Cl w0 md p Γ o W) → ∃ v, (∀ w', Cl w0 md p Γ o w' → o.quietAt P a (Cl w0 md p Γ o) w' v) ∧ K Γ (a.put o.dst v)
    else K Γ (a.put o.dst undef)

def wpR (P : Program) (md : Region.Mode) (ops : Array Oper) (w0 : World) (fr : Nat → Bool) (p : Nat → Value → World → Prop) (Fin : Known → Act → Prop) : List Nat → Known → Act → Prop
  | [], Γ, a => Fin Γ a
  | h :: rest, Γ, a => oneR P md ops w0 fr p Γ h (wpR P md ops w0 fr p Fin rest) a

theorem facts_upd {Γ : Known} {j : Nat} {v : Value} {o : Oper} {w' : World} (hw : waits md o j = false) : Facts md p (upd Γ j v) o w' ↔ Facts md p Γ o w' := by
  unfold Facts upd
  constructor
  · intro h g u hg hwt
    refine h g u ?_ hwt
    rw [if_neg (by rintro rfl; rw [hw] at hwt; cases hwt)]; exact hg
  · intro h g u hg hwt
    refine h g u ?_ hwt
    rwa [if_neg (by rintro rfl; rw [hw] at hwt; cases hwt)] at hg
theorem cl_upd {Γ : Known} {j : Nat} {v : Value} {o : Oper} (hw : waits md o j = false) : Cl w0 md p (upd Γ j v) o = Cl w0 md p Γ o := by
  funext w'; rw [eq_iff_iff, Cl.iff, Cl.iff, facts_upd hw]
theorem upd_comm {Γ : Known} {i j : Nat} {v u : Value} (h : i ≠ j) : upd (upd Γ i v) j u = upd (upd Γ j u) i v := by
  funext g; unfold upd
  by_cases h1 : g = j
  · subst h1; simp [Ne.symm h]
  · by_cases h2 : g = i
    · subst h2; simp [h1]
    · simp [h1, h2]
theorem All.less {Γ : Known} {j : Nat} {v : Value} {W : World} (hj : Γ j = none) (h : All w0 p (upd Γ j v) W) : All w0 p Γ W :=
  ⟨h.1, fun g u hg => h.2 g u (by unfold upd; rw [if_neg (by rintro rfl; rw [hj] at hg; cases hg)]; exact hg)⟩
theorem fresh_inh {o : Oper} {a : Act} {q : Value → World → Prop} {W : World} (h : freshAt P o a q W) : ∃ u W', Below W.heap.size W W' ∧ q u W' := by
  unfold freshAt at h
  split at h
  · exact ⟨_, _, h⟩
  · obtain ⟨e, w', fr', ⟨u, _, hb, hq⟩, _⟩ := h.2 []
    exact ⟨u, w', hb, hq⟩
  · exact h.elim

theorem quietAt_det {o : Oper} (ho : plainOp o.op = true) {a : Act} {C C' : World → Prop} {w' : World} {v u : Value} (h1 : o.quietAt P a C w' v) (h2 : o.quietAt P a C' w' u) : v = u := by
  unfold Oper.quietAt at h1 h2
  generalize hr : (execOp a.eval o).run P w' = r at h1 h2
  cases r with
  | halt x w'' => simp only [Oper.quietUpon] at h1
  | ok n w'' =>
    cases n <;> simp only [Oper.quietUpon] at h1 h2
    case value x => rw [← h1.2, ← h2.2]
    case skip => rw [h1.2, h2.2]
    case enter f args => exact absurd hr (plain_ne ho _)

/-- Two neighbours that do not wait for each other, and are apart, may change places. -/
theorem oneR_swap {Γ : Known} {i j : Nat} {oi oj : Oper} {K : Known → Act → Prop} {a : Act} (hne : i ≠ j) (hi : ops[i]? = some oi) (hj : ops[j]? = some oj)
    (hsel : Region.noSelect ops = true) (hap : oj.apart ops oi = true) (hij : waits md oi j = false) (hji : waits md oj i = false)
    (hpl : fr j = true → fr i = false → plainOp oi.op = true) {W : World} (hW : All w0 p Γ W) (hΓi : Γ i = none) (hΓj : Γ j = none)
    (hkeep : ∀ i v w1 w2, p i v w1 → Below w1.heap.size w1 w2 → p i v w2)
    (H : oneR P md ops w0 fr p Γ j (fun Γ' a' => oneR P md ops w0 fr p Γ' i K a') a) : oneR P md ops w0 fr p Γ i (fun Γ' a' => oneR P md ops w0 fr p Γ' j K a') a := by
  obtain ⟨a1, a2, a3⟩ := Oper.apart_spec hap
  have si := fun cs b => Region.noSelect_spec hsel i oi cs b hi
  have sj := fun cs b => Region.noSelect_spec hsel j oj cs b hj
  have e1 : ∀ v, Region.wanted oi (yielded ops (a.put oj.dst v).tmps) = Region.wanted oi (yielded ops a.tmps) := fun v => wanted_put oi a oj.dst v a1
  have e2 : ∀ v, Region.wanted oj (yielded ops (a.put oi.dst v).tmps) = Region.wanted oj (yielded ops a.tmps) := fun v => wanted_put oj a oi.dst v a3
  have q1 : ∀ v C w' u, oi.quietAt P (a.put oj.dst v) C w' u ↔ oi.quietAt P a C w' u := fun v C w' u => by unfold Oper.quietAt; rw [execOp_put oi si a oj.dst v a1]
  have q2 : ∀ v C w' u, oj.quietAt P (a.put oi.dst v) C w' u ↔ oj.quietAt P a C w' u := fun v C w' u => by unfold Oper.quietAt; rw [execOp_put oj sj a oi.dst v a3]
  have f1 : ∀ v q w', freshAt P oi (a.put oj.dst v) q w' ↔ freshAt P oi a q w' := fun v q w' => by unfold freshAt; rw [execOp_put oi si a oj.dst v a1]
  have f2 : ∀ v q w', freshAt P oj (a.put oi.dst v) q w' ↔ freshAt P oj a q w' := fun v q w' => by unfold freshAt; rw [execOp_put oj sj a oi.dst v a3]
  have pc : ∀ v u, (a.put oj.dst v).put oi.dst u = (a.put oi.dst u).put oj.dst v := fun v u => Act.put_comm a v u a2
  have inh : ∀ h o, Γ h = none → (∀ w', Cl w0 md p Γ o w' → freshAt P o a (p h) w') → ∃ v, ∃ W, All w0 p (upd Γ h v) W := by
    intro h o hh hf
    obtain ⟨u, W', hb, hq⟩ := fresh_inh (hf W (hW.cl o))
    refine ⟨u, W', hW.1.trans (hb.mono hW.1.size), fun g v hg => ?_⟩
    unfold upd at hg
    by_cases hgh : g = h
    · subst hgh; rw [if_pos rfl] at hg; cases hg; exact hq
    · rw [if_neg hgh] at hg; exact hkeep _ _ _ _ (hW.2 g v hg) hb
  unfold oneR at *
  simp only [hi, hj, e1, e2, q1, q2, f1, f2, pc] at *
  by_cases wj : Region.wanted oj (yielded ops a.tmps) = true
  · by_cases wi : Region.wanted oi (yielded ops a.tmps) = true
    · simp only [wj, wi, if_true] at *
      by_cases fj : fr j = true
      · by_cases fi : fr i = true
        · simp only [fj, fi, if_true, cl_upd hij, cl_upd hji] at *
          obtain ⟨h1, h2⟩ := H
          obtain ⟨v0, hv0⟩ := inh j oj hΓj h1
          refine ⟨(h2 v0 hv0).1, fun v _ => ⟨h1, fun u hu => ?_⟩⟩
          rw [upd_comm hne] at hu ⊢
          have hΓ : upd Γ j u i = none := by unfold upd; rw [if_neg hne]; exact hΓi
          obtain ⟨W', hW'⟩ := hu
          exact (h2 u ⟨W', hW'.less hΓ⟩).2 v ⟨W', hW'⟩
        · have fi' : fr i = false := by simpa using fi
          simp only [fj, fi', if_true, Bool.false_eq_true, if_false, cl_upd hij, cl_upd hji] at *
          obtain ⟨h1, h2⟩ := H
          obtain ⟨v0, hv0⟩ := inh j oj hΓj h1
          obtain ⟨vi, hvi, _⟩ := h2 v0 hv0 ⟨W, hW.cl _⟩
          refine fun _ => ⟨vi, hvi, h1, fun u hu => ?_⟩
          obtain ⟨vi', hvi', hK⟩ := h2 u hu ⟨W, hW.cl _⟩
          obtain rfl : vi = vi' := quietAt_det (hpl trivial trivial) (hvi W (hW.cl _)) (hvi' W (hW.cl _))
          exact hK
      · have fj' : fr j = false := by simpa using fj
        by_cases fi : fr i = true
        · simp only [fj', fi, if_true, Bool.false_eq_true, if_false, cl_upd hij, cl_upd hji] at *
          obtain ⟨vj, h1, h2, h3⟩ := H ⟨W, hW.cl _⟩
          exact ⟨h2, fun v hv => fun _ => ⟨vj, h1, h3 v hv⟩⟩
        · have fi' : fr i = false := by simpa using fi
          simp only [fj', fi', Bool.false_eq_true, if_false, cl_upd hij, cl_upd hji] at *
          obtain ⟨vj, h1, h4⟩ := H ⟨W, hW.cl _⟩
          obtain ⟨vi, h2, h3⟩ := h4 ⟨W, hW.cl _⟩
          exact fun _ => ⟨vi, h2, fun _ => ⟨vj, h1, h3⟩⟩
    · simp only [wj, wi, if_true] at *
      by_cases fj : fr j = true
      · simp only [fj, if_true] at *
        exact H
      · simp only [fj] at *
        exact H
  · by_cases wi : Region.wanted oi (yielded ops a.tmps) = true
    · simp only [wj, wi, if_true] at *
      by_cases fi : fr i = true
      · simp only [fi, if_true] at *
        exact H
      · simp only [fi] at *
        exact H
    · simp only [wj, wi] at *
      exact H

/-- What two operations of the group, the one ahead of the other, must be to each other. -/
def Pair (md : Region.Mode) (ops : Array Oper) (fr : Nat → Bool) (h j : Nat) : Prop :=
  ∃ oh oj, ops[h]? = some oh ∧ ops[j]? = some oj ∧ (waits md oj h = true ∨ oh.apart ops oj = true) ∧ waits md oh j = false ∧ (fr h = true → fr j = false → waits md oj h = true ∨ plainOp oj.op = true)
def pairsB (md : Region.Mode) (ops : Array Oper) (fr : Nat → Bool) : List Nat → Bool
  | [] => true
  | h :: rest => (rest.all fun j => match ops[h]?, ops[j]? with
      | some oh, some oj => (waits md oj h || oh.apart ops oj) && !waits md oh j && (!fr h || fr j || waits md oj h || plainOp oj.op)
      | _, _ => false) && pairsB md ops fr rest
theorem pairs_of : ∀ {l : List Nat}, pairsB md ops fr l = true → l.Pairwise (Pair md ops fr)
  | [], _ => List.Pairwise.nil
  | h :: rest, hB => by
    simp only [pairsB, Bool.and_eq_true] at hB
    refine List.pairwise_cons.2 ⟨fun j hj => ?_, pairs_of hB.2⟩
    have := List.all_eq_true.1 hB.1 j hj
    cases hh : ops[h]? with
    | none => simp [hh] at this
    | some oh =>
      cases hj' : ops[j]? with
      | none => simp [hh, hj'] at this
      | some oj =>
        simp only [hh, hj', Bool.and_eq_true, Bool.or_eq_true, Bool.not_eq_true'] at this
        refine ⟨oh, oj, hh, hj', this.1.1, this.1.2, fun h1 h2 => ?_⟩
        rcases this.2 with ((h3 | h3) | h3) | h3
        · rw [h1] at h3; cases h3
        · rw [h2] at h3; cases h3
        · exact .inl h3
        · exact .inr h3

theorem wpR_pull {Fin : Known → Act → Prop} (hsel : Region.noSelect ops = true) (hkeep : ∀ i v w1 w2, p i v w1 → Below w1.heap.size w1 w2 → p i v w2) {i : Nat} {oi : Oper} (hi : ops[i]? = some oi) :
    ∀ (l : List Nat) (Γ : Known) (a : Act), i ∈ l → l.Nodup → l.Pairwise (Pair md ops fr) → (∀ j ∈ l, waits md oi j = false) →
      (∀ h ∈ l, Γ h = none) → (∃ W, All w0 p Γ W) →
      wpR P md ops w0 fr p Fin l Γ a → wpR P md ops w0 fr p Fin (i :: l.erase i) Γ a := by
  intro l
  induction l with
  | nil => intro Γ a h; cases h
  | cons h rest ih =>
    intro Γ a hil hnd hpw hw hΓ hall H
    by_cases hhi : h = i
    · subst hhi; simpa using H
    have hir : i ∈ rest := by simpa [Ne.symm hhi] using hil
    rw [List.nodup_cons] at hnd
    rw [List.pairwise_cons] at hpw
    obtain ⟨oh, oi', hoh, hi', hap, hback, hpl⟩ := hpw.1 i hir
    obtain rfl : oi = oi' := Option.some.inj (hi.symm.trans hi')
    have he : (h :: rest).erase i = h :: rest.erase i := by rw [List.erase_cons_tail (by simpa using hhi)]
    rw [he]
    have step : ∀ Γ' a', (∀ g ∈ rest, Γ' g = none) → (∃ W, All w0 p Γ' W) → wpR P md ops w0 fr p Fin rest Γ' a' → wpR P md ops w0 fr p Fin (i :: rest.erase i) Γ' a' := fun Γ' a' hΓ' hall' H' =>
      ih Γ' a' hir hnd.2 hpw.2 (fun j hj => hw j (by simp [hj])) hΓ' hall' H'
    have hij : waits md oi h = false := hw h (by simp)
    obtain ⟨W, hW⟩ := hall
    have H1 : oneR P md ops w0 fr p Γ h (fun Γ' a' => oneR P md ops w0 fr p Γ' i (wpR P md ops w0 fr p Fin (rest.erase i)) a') a := by
      unfold wpR at H
      unfold oneR at H ⊢
      simp only [hoh] at H ⊢
      split
      · rename_i hwant
        rw [if_pos hwant] at H
        split
        · rename_i hf
          rw [if_pos hf] at H
          refine ⟨H.1, fun v hv => ?_⟩
          exact step (upd Γ h v) _ (fun g hg => by
            unfold upd; rw [if_neg (by rintro rfl; exact hnd.1 hg)]; exact hΓ g (by simp [hg])) hv (H.2 v hv)
        · rename_i hf
          rw [if_neg hf] at H
          intro hc
          obtain ⟨v, h1, h2⟩ := H hc
          exact ⟨v, h1, step Γ _ (fun g hg => hΓ g (by simp [hg])) ⟨W, hW⟩ h2⟩
      · rename_i hwant
        rw [if_neg hwant] at H
        exact step Γ _ (fun g hg => hΓ g (by simp [hg])) ⟨W, hW⟩ H
    rw [hij] at hap hpl
    exact oneR_swap (Ne.symm hhi) hi hoh hsel (by simpa using hap) hij hback (fun h1 h2 => by simpa using hpl h1 h2) hW (hΓ i (by simp [hir])) (hΓ h (by simp)) hkeep H1

theorem waits_dep {o : Oper} {M : Array Bool} {i : Nat} (hd : ∀ e ∈ o.after, Region.binds md e = true → M.getD e.on false = true) (hM : M.getD i true = false) : waits md o i = false := by
  cases hw : waits md o i with
  | false => rfl
  | true =>
    obtain ⟨e, he, hb⟩ := Array.any_eq_true'.1 hw
    simp only [Bool.and_eq_true, beq_iff_eq] at hb
    have h1 := hd e he hb.1
    rw [hb.2] at h1
    rcases Nat.lt_or_ge i M.size with h' | h'
    · simp [h'] at h1 hM; rw [h1] at hM; cases hM
    · simp [Array.getElem?_eq_none h'] at h1

theorem wpAny_of_wpR {Q : Exit → Act → World → Prop} {g : Nat} {hs : List Nat} {L : Array Bool} (hsel : Region.noSelect ops = true) (hplain : ∀ h o, h ∈ hs → fr h = false → ops[h]? = some o → plainOp o.op = true)
    (hkeep : ∀ i v w1 w2, p i v w1 → Below w1.heap.size w1 w2 → p i v w2) (hL : L.size = ops.size) :
    ∀ (f : Nat) (M : Array Bool) (l : List Nat) (Γ : Known) (a : Act) (w : World), l.length = f → l.Nodup → l.Pairwise (Pair md ops fr) → (∀ j ∈ l, M.getD j true = false) →
      (∀ j ∈ hs, j ∈ l ∨ M.getD j true = true) → (∀ h ∈ l, Γ h = none) → Hered md ops hs f M → All w0 p Γ w → mark l M = mark hs L →
      wpR P md ops w0 fr p (fun Γ' a' => ∀ w', All w0 p Γ' w' → wpAny P md ops Q g (mark hs L) a' w') l Γ a → wpAny P md ops Q (f + g) M a w := by
  intro f
  induction f with
  | zero =>
    intro M l Γ a w hlen _ _ _ _ _ _ hall hmk H
    obtain rfl := List.length_eq_zero_iff.1 hlen
    rw [Nat.zero_add, show M = mark hs L from hmk]
    exact H w hall
  | succ f ih =>
    intro M l Γ a w hlen hnd hpw hun hcov hΓ hh hall hmk H
    rw [show f + 1 + g = (f + g) + 1 by omega]
    refine ⟨fun h0 => absurd h0 hh.1, fun i hi => ?_⟩
    obtain ⟨hiu, oi, hoi, hdeps⟩ := mem_ready.1 hi
    have hil : i ∈ l := by
      rcases hcov i (hh.2.1 i hi) with h1 | h1
      · exact h1
      · rw [h1] at hiu; cases hiu
    have hiM : i < M.size := by
      rcases Nat.lt_or_ge i M.size with h' | h'
      · exact h'
      · simp [Array.getElem?_eq_none h'] at hiu
    have H1 := wpR_pull hsel hkeep hoi l Γ a hil hnd hpw (fun j hj => waits_dep hdeps (hun j hj)) hΓ ⟨w, hall⟩ H
    have hle : (l.erase i).length = f := by rw [List.length_erase_of_mem hil]; omega
    have next : ∀ Γ' a' w', (∀ h ∈ l.erase i, Γ' h = none) → All w0 p Γ' w' → wpR P md ops w0 fr p (fun Γ' a' => ∀ w', All w0 p Γ' w' → wpAny P md ops Q g (mark hs L) a' w') (l.erase i) Γ' a' →
        wpAny P md ops Q (f + g) (M.setIfInBounds i true) a' w' := fun Γ' a' w' hΓ' hall' H' =>
      ih (M.setIfInBounds i true) (l.erase i) Γ' a' w' hle (hnd.erase i) (hpw.sublist List.erase_sublist) (fun j hj => by
          have hne : j ≠ i := by rintro rfl; exact (List.Nodup.not_mem_erase hnd) hj
          rw [getD_set_ne true (Ne.symm hne)]; exact hun j (List.mem_of_mem_erase hj))
        (fun j hj => by
          by_cases hji : j = i
          · subst hji; right; simp
          · rcases hcov j hj with h1 | h1
            · left; exact (List.mem_erase_of_ne hji).2 h1
            · right; rw [getD_set_ne true (Ne.symm hji)]; exact h1)
        hΓ' (hh.2.2.2 i hi) hall' (by
          rw [← hmk]
          have key : ∀ (l : List Nat) (M : Array Bool), i ∈ l → mark l M = mark (l.erase i) (M.setIfInBounds i true) := by
            intro l
            induction l with
            | nil => intro M h; cases h
            | cons x l ihl =>
              intro M h
              by_cases hx : x = i
              · subst hx; simp [mark]
              · rw [List.erase_cons_tail (by simpa using hx)]
                simp only [mark, List.foldl_cons]
                have h2 := ihl (M.setIfInBounds x true) (by simpa [Ne.symm hx] using h)
                simp only [mark] at h2
                rw [h2, Array.setIfInBounds_comm _ _ hx]
          exact (key l M hil).symm) H'
    have hΓe : ∀ h ∈ l.erase i, Γ h = none := fun h hh' => hΓ h (List.mem_of_mem_erase hh')
    unfold wpR oneR at H1
    simp only [hoi] at H1
    unfold wpOp
    simp only [hoi]
    split
    · rename_i hwant
      rw [if_pos hwant] at H1
      left
      split at H1
      · rename_i hf
        obtain ⟨h1, h2⟩ := H1
        have h3 := h1 w (hall.cl oi)
        have go : ∀ u w'', Below w.heap.size w w'' → p i u w'' → wpAny P md ops Q (f + g) (M.setIfInBounds i true) (a.put oi.dst u) w'' := by
          intro u w'' hb hq
          have hall' : All w0 p (upd Γ i u) w'' := ⟨hall.1.trans (hb.mono hall.1.size), fun k v hk => by
            unfold upd at hk
            by_cases hki : k = i
            · subst hki; rw [if_pos rfl] at hk; cases hk; exact hq
            · rw [if_neg hki] at hk; exact hkeep _ _ _ _ (hall.2 k v hk) hb⟩
          refine next _ _ _ (fun k hk => ?_) hall' (h2 u ⟨w'', hall'⟩)
          unfold upd
          rw [if_neg (by rintro rfl; exact (List.Nodup.not_mem_erase hnd) hk)]
          exact hΓe k hk
        unfold freshAt at h3
        unfold Oper.wp
        generalize (execOp a.eval oi).run P w = r at h3 ⊢
        cases r with
        | halt x w' => exact h3.elim
        | ok n w' =>
          cases n <;> simp only at h3
          case value u => exact go u w' h3.1 h3.2
          case enter fn args =>
            obtain ⟨rfl, hc⟩ := h3
            exact hc.mono fun e w'' ⟨u, he, hb, hq⟩ => by subst he; exact go u w'' hb hq
      · rename_i hf
        obtain ⟨v, h1, h2⟩ := H1 ⟨w, hall.cl oi⟩
        have h3 := h1 w (hall.cl oi)
        unfold Oper.quietAt at h3
        unfold Oper.wp
        generalize hr : (execOp a.eval oi).run P w = r at h3 ⊢
        cases r with
        | halt x w' => simp only [Oper.quietUpon] at h3
        | ok n w' =>
          cases n <;> simp only [Oper.quietUpon] at h3
          case value u =>
            obtain ⟨rfl, rfl⟩ := h3
            exact next _ _ _ hΓe hall h2
          case skip =>
            obtain ⟨rfl, rfl⟩ := h3
            exact next _ _ _ hΓe hall h2
          case enter fn args => exact absurd hr (plain_ne (hplain i oi (hh.2.1 i hi) (by simpa using hf) hoi) _)
    · rename_i hwant
      rw [if_neg hwant] at H1
      exact next _ _ _ hΓe hall H1

def plainsB (ops : Array Oper) (fr : Nat → Bool) (hs : List Nat) : Bool := hs.all fun h => fr h || match ops[h]? with
  | none => false
  | some o => plainOp o.op

theorem wpAny_R {Q : Exit → Act → World → Prop} {L : Array Bool} {a : Act} {w : World} (fs : List Nat) (hs : List Nat) (g : Nat)
    (hkeep : ∀ i v w1 w2, p i v w1 → Below w1.heap.size w1 w2 → p i v w2)
    (hB : (groupB md ops L hs && pairsB md ops (fs.contains ·) hs && plainsB ops (fs.contains ·) hs) = true) (hw : Below w0.heap.size w0 w)
    (h : wpR P md ops w0 (fs.contains ·) p (fun Γ' a' => ∀ w', All w0 p Γ' w' → wpAny P md ops Q g (mark hs L) a' w') hs (fun _ => none) a) : wpAny P md ops Q (hs.length + g) L a w := by
  simp only [Bool.and_eq_true] at hB
  obtain ⟨⟨hG, hP⟩, hPl⟩ := hB
  have hG' := hG
  simp only [groupB, Bool.and_eq_true, decide_eq_true_eq] at hG'
  obtain ⟨⟨⟨⟨hsz, hsel⟩, hcl⟩, hout⟩, hord⟩ := hG'
  obtain ⟨hnd, hmem, hpre⟩ := orderB_spec hord
  have hleft : left hs L = hs.length := by
    unfold left
    rw [List.filter_eq_self.2 (fun j hj => by rw [(hmem j hj).2.1]; rfl)]
  have hsh : Shut md ops L := by
    intro j o ho hj e he hb
    have hjo : j < ops.size := by
      rcases Nat.lt_or_ge j ops.size with h' | h'
      · exact h'
      · simp [Array.getElem?_eq_none h'] at ho
    have h1 := List.all_eq_true.1 hcl j (List.mem_range.2 hjo)
    simp only [hj, ho, Bool.not_true, Bool.false_or] at h1
    simpa [hb] using Array.all_eq_true'.1 h1 e he
  have hh := hered_of hG hs.length L hleft hsh hsz (fun j hj => .inl hj) (fun j hj => hj)
  refine wpAny_of_wpR (hs := hs) (L := L) hsel (fun k o hk hf ho => ?_) hkeep hsz hs.length L hs (fun _ => none) a w rfl hnd (pairs_of hP) (fun j hj => (hmem j hj).2.1)
    (fun j hj => .inl hj) (fun _ _ => rfl) hh ⟨hw, fun _ _ hg => by cases hg⟩ rfl h
  have := List.all_eq_true.1 hPl k hk
  simp only [show (fs.contains k) = false from hf, ho, Bool.false_or] at this
  exact this

/-- A REGION THAT DRAWS: a group first: quiet operations, and (fs) operations that make memory, of whose yields p tells; then the others. -/
theorem wp_region_R {id : Nat} {Q : Exit → Act → World → Prop} {a : Act} {w : World} {l : List Oper} (fs hs : List Nat) (g : Nat) (p : Nat → Value → World → Prop) (hm : P.follows .mixedOrders = true)
    (hn : hs.length + g = l.length) (hkeep : ∀ i v w1 w2, p i v w1 → Below w1.heap.size w1 w2 → p i v w2)
    (hB : (groupB .any l.toArray (Array.replicate l.length false) hs && pairsB .any l.toArray (fs.contains ·) hs && plainsB l.toArray (fs.contains ·) hs) = true)
    (h : wpR P .any l.toArray w (fs.contains ·) p (fun Γ' a' => ∀ w', All w p Γ' w' → wpAny P .any l.toArray Q g (mark hs (Array.replicate l.length false)) a' w') hs (fun _ => none) a) :
    (Code.region id l.toArray true).wp P Q a w := by
  refine wp_region_any hm ?_
  have := wpAny_R (P := P) (Q := Q) (w0 := w) (w := w.drew) (a := a) fs hs g hkeep hB (Below.refl _ w).drew h
  rw [hn] at this
  simpa using this

/-! The steps of the walk through a group, its operations written out. -/
def numbered (ops : Array Oper) (hs : List Nat) : List (Nat × Oper) := hs.filterMap fun h => (ops[h]?).map (h, ·)
def wpS (P : Program) (md : Region.Mode) (ops : Array Oper) (w0 : World) (fr : Nat → Bool) (p : Nat → Value → World → Prop) (Fin : Known → Act → Prop) (l : List (Nat × Oper)) (Γ : Known) (a : Act) : Prop :=
  (∀ x ∈ l, ops[x.1]? = some x.2) → wpR P md ops w0 fr p Fin (l.map (·.1)) Γ a
theorem wpS_skip {Fin : Known → Act → Prop} {h : Nat} {rest : List (Nat × Oper)} {Γ : Known} {a : Act} {o : Oper} (hw : Region.wanted o (yielded ops a.tmps) = false)
    (H : wpS P md ops w0 fr p Fin rest Γ (a.put o.dst undef)) : wpS P md ops w0 fr p Fin ((h, o) :: rest) Γ a := by
  intro hl
  have ho : ops[h]? = some o := hl (h, o) (by simp)
  simp only [List.map_cons]
  unfold wpR oneR; simp only [ho, hw]; exact H fun x hx => hl x (by simp [hx])
theorem wpS_quiet {Fin : Known → Act → Prop} {h : Nat} {rest : List (Nat × Oper)} {Γ : Known} {a : Act} {o : Oper} (hw : Region.wanted o (yielded ops a.tmps) = true) (hf : fr h = false)
    (H : ∀ K : Act → Prop, (∀ a, wpS P md ops w0 fr p Fin rest Γ a → K a) → Nonempty (BQ w0 (Facts md p Γ o)) → (∀ (x : BQ w0 (Facts md p Γ o)) b i, (w0.cell? ⟨b, i, none⟩).isSome = true → x.w'.cell? ⟨b, i, none⟩ = w0.cell? ⟨b, i, none⟩) →
      o.quiet P a (fun w' => ∃ x : BQ w0 (Facts md p Γ o), w' = x.w') K) : wpS P md ops w0 fr p Fin ((h, o) :: rest) Γ a := by
  intro hl
  have ho : ops[h]? = some o := hl (h, o) (by simp)
  simp only [List.map_cons]
  unfold wpR oneR; simp only [ho, hw, hf, if_true, Bool.false_eq_true, if_false]
  exact fun ⟨_, x, _⟩ => H _ (fun _ h => h fun x hx => hl x (by simp [hx])) ⟨x⟩ (fun x b i hv => (bcell x.below).1 b i hv)
theorem wpS_fresh {Fin : Known → Act → Prop} {h : Nat} {rest : List (Nat × Oper)} {Γ : Known} {a : Act} {o : Oper} (hw : Region.wanted o (yielded ops a.tmps) = true) (hf : fr h = true)
    (H1 : ∀ w', Below w0.heap.size w0 w' → Facts md p Γ o w' → freshAt P o a (p h) w') (H2 : ∀ v W, p h v W → wpS P md ops w0 fr p Fin rest (upd Γ h v) (a.put o.dst v)) : wpS P md ops w0 fr p Fin ((h, o) :: rest) Γ a := by
  intro hl
  have ho : ops[h]? = some o := hl (h, o) (by simp)
  simp only [List.map_cons]
  unfold wpR oneR; simp only [ho, hw, hf, if_true]
  exact ⟨fun w' hc => H1 w' (Cl.iff.1 hc).1 (Cl.iff.1 hc).2, fun v ⟨W, hW⟩ => H2 v W (hW.2 h v (by simp [upd])) fun x hx => hl x (by simp [hx])⟩
theorem wpS_nil {Fin : Known → Act → Prop} {Γ : Known} {a : Act} (H : Fin Γ a) : wpS P md ops w0 fr p Fin [] Γ a := fun _ => H
theorem wpR_of_wpS {Fin : Known → Act → Prop} {hs : List Nat} {Γ : Known} {a : Act} (ho : ∀ h ∈ hs, ∃ o, ops[h]? = some o) (H : wpS P md ops w0 fr p Fin (numbered ops hs) Γ a) : wpR P md ops w0 fr p Fin hs Γ a := by
  have h1 : ∀ x ∈ numbered ops hs, ops[x.1]? = some x.2 := by
    intro x hx
    unfold numbered at hx
    obtain ⟨h, _, hx⟩ := List.mem_filterMap.1 hx
    cases hh : ops[h]? with
    | none => simp [hh] at hx
    | some o => simp [hh] at hx; subst hx; exact hh
  have h2 : (numbered ops hs).map (·.1) = hs := by
    clear H h1
    induction hs with
    | nil => rfl
    | cons h hs ih =>
      obtain ⟨o, hho⟩ := ho h (by simp)
      unfold numbered at ih ⊢
      simp only [List.filterMap_cons, hho, Option.map_some, List.map_cons]
      rw [ih fun k hk => ho k (by simp [hk])]
  have := H h1
  rwa [h2] at this
end

/-- What predicates, by number, say. -/
def pOf (ps : List (Nat × (Value → World → Prop))) (i : Nat) (v : Value) (W : World) : Prop := match ps.lookup i with
  | some q => q v W
  | none => False
def Keeps (q : Value → World → Prop) : Prop := ∀ v w1 w2, q v w1 → Below w1.heap.size w1 w2 → q v w2
theorem pOf_keeps {ps : List (Nat × (Value → World → Prop))} (h : ∀ x ∈ ps, Keeps x.2) : ∀ i v w1 w2, pOf ps i v w1 → Below w1.heap.size w1 w2 → pOf ps i v w2 := by
  induction ps with
  | nil => intro i v w1 w2 hp; exact hp.elim
  | cons x ps ih =>
    intro i v w1 w2 hp hb
    unfold pOf at *
    rw [List.lookup_cons] at *
    cases he : i == x.1 with
    | true => rw [he] at hp; exact h x (by simp) v w1 w2 hp hb
    | false => rw [he] at hp; exact ih (fun y hy => h y (by simp [hy])) i v w1 w2 hp hb

/-- A pointer to a block of the call's own that holds these cells. -/
def NewCells (B0 : Nat) (cs : List Value) (v : Value) (W : World) : Prop :=
  ∃ B, B0 ≤ B ∧ v = .pointer (some ⟨B, 0, none⟩) ∧ ∀ o c, cs[o]? = some c → W.cell? ⟨B, o, none⟩ = some c ∧ W.frozen? ⟨B, o, none⟩ = false
theorem keeps_new {B0 : Nat} {cs : List Value} : Keeps (NewCells B0 cs) := fun _ _ _ ⟨B, h1, h2, h3⟩ hb =>
  ⟨B, h1, h2, fun o c hc => ⟨bkeep hb (h3 o c hc).1, bfree hb (h3 o c hc).1 (h3 o c hc).2⟩⟩
theorem keeps_eq {u : Value} : Keeps (fun v _ => v = u) := fun _ _ _ h _ => h
theorem new_of {w w' : World} {cs : List Value} {t : TypeId} (hb : Below w.heap.size w w') :
    Below w'.heap.size w' (w'.alloc (.cells cs.toArray t)) ∧ NewCells w.heap.size cs (.pointer (some ⟨w'.heap.size, 0, none⟩)) (w'.alloc (.cells cs.toArray t)) :=
  ⟨(Below.refl _ _).alloc (Nat.le_refl _) _, w'.heap.size, hb.size, rfl, fun o c hc => by
    refine ⟨?_, World.frozen?_alloc_new w' cs.toArray t o⟩
    rw [World.cell?_alloc_new]; simpa using hc⟩

theorem wp_region_Rs {P : Program} {id : Nat} {Q : Exit → Act → World → Prop} {a : Act} {w : World} {l : List Oper} (ps : List (Nat × (Value → World → Prop))) (hs : List Nat) (g : Nat) (hm : P.follows .mixedOrders = true)
    (hn : hs.length + g = l.length) (hkeep : ∀ x ∈ ps, Keeps x.2)
    (hB : (groupB .any l.toArray (Array.replicate l.length false) hs && pairsB .any l.toArray ((ps.map (·.1)).contains ·) hs && plainsB l.toArray ((ps.map (·.1)).contains ·) hs) = true)
    (h : wpS P .any l.toArray w ((ps.map (·.1)).contains ·) (pOf ps) (fun Γ' a' => ∀ w', All w (pOf ps) Γ' w' → wpAny P .any l.toArray Q g (mark hs (Array.replicate l.length false)) a' w') (numbered l.toArray hs) (fun _ => none) a) :
    (Code.region id l.toArray true).wp P Q a w := by
  refine wp_region_R (ps.map (·.1)) hs g (pOf ps) hm hn (pOf_keeps hkeep) hB (wpR_of_wpS (fun k hk => ?_) h)
  simp only [groupB, Bool.and_eq_true] at hB
  obtain ⟨_, hmem, _⟩ := orderB_spec hB.1.1.2
  exact (hmem k hk).2.2
end Go.Pb

/- Cells that a new block leaves as they are. -/
namespace Go.Pb
theorem akeep {W : World} {a : Addr} {v : Value} {o : Obj} (h : W.cell? a = some v) : (W.alloc o).cell? a = some v := by
  rw [World.cell?_alloc_lt W o a (World.block_lt_of_cell? W a h)]; exact h
theorem afree {W : World} {a : Addr} {v : Value} {o : Obj} (h : W.cell? a = some v) (hf : W.frozen? a = false) : (W.alloc o).frozen? a = false := by
  rw [World.frozen?_alloc_old W o a (Nat.ne_of_lt (World.block_lt_of_cell? W a h))]; exact hf
end Go.Pb

/- A slice of int64s, read in a world; numbers modulo. -/
namespace Go.Pb
open Go.RowKit Go.ChangeShapes Go.WideShapes

/-- An int64. -/
def I64 (k : Int) : Prop := (Lit.int .i64 k).wf = true
theorem I64.mk {k : Int} (h0 : -9223372036854775808 ≤ k) (h1 : k ≤ 9223372036854775807) : I64 k := by
  simp [I64, Lit.wf, IntKind.min, IntKind.max, IntKind.signed, IntKind.bits]; omega

/-- In the world w the slice v reads as the numbers zs. -/
def IntsAt (w : World) (v : Value) (zs : List Int) : Prop :=
  (v = .slice none 0 0 ∧ zs = []) ∨ ∃ (a : Addr) (cap : Nat), v = .slice (some a) zs.length cap ∧ zs.length ≤ cap ∧ cap ≤ 140737488355328 ∧
    ∀ k z, zs[k]? = some z → w.cell? (a.add k) = some (.int .i64 z) ∧ I64 z
theorem IntsAt.below {w w' : World} {v : Value} {zs : List Int} (h : IntsAt w v zs) (hb : Below w.heap.size w w') : IntsAt w' v zs := by
  rcases h with h | ⟨a, cap, h1, h2, h3, h4⟩
  · exact .inl h
  · exact .inr ⟨a, cap, h1, h2, h3, fun k z hz => ⟨bkeep hb (h4 k z hz).1, (h4 k z hz).2⟩⟩
theorem IntsAt.i64 {w : World} {v : Value} {zs : List Int} (h : IntsAt w v zs) : ∀ z ∈ zs, I64 z := by
  rcases h with ⟨_, rfl⟩ | ⟨a, cap, h1, h2, h3, h4⟩
  · simp
  · intro z hz
    obtain ⟨k, hk⟩ := List.getElem?_of_mem hz
    exact (h4 k z hk).2

theorem mod_eq (n m : Int) (hm : 0 < m) : (n.tmod m + m).tmod m = n % m ∧ -m < n.tmod m ∧ n.tmod m < m := by
  have h1 : n.tmod m < m := Int.tmod_lt_of_pos n hm
  have h2 : -m < n.tmod m := by
    have := Int.tmod_lt_of_pos (-n) hm
    rw [Int.neg_tmod] at this; omega
  refine ⟨?_, h2, h1⟩
  rw [Int.tmod_eq_emod_of_nonneg (by omega)]
  have h3 := Int.mul_tdiv_add_tmod n m
  have h4 : n.tmod m + m = n + m * (1 - n.tdiv m) := by rw [Int.mul_sub]; omega
  rw [h4, Int.add_mul_emod_self_left]

end Go.Pb

/- An argument that is a slice of int64s. -/
namespace Go.Pb
open Go.RowKit Go.ChangeShapes Go.WideShapes Go.ChangeAt
section
variable {H : Type} {enc : TypeId × Value → H} {P : Program} {w : World} {base : Nat} {spare : Nat → Bool} {held : Bool}
theorem open_slice {r : Reach} {b0 : Nat} {t e : TypeId} {v : Value} {d : DataW H} {p : List MemPlace} (ht : P.underlying t = some (.slice e)) (he : P.underlying e = some (.int .i64)) (hc : P.cellsOf e = 1)
    (hv : Value.okWide P w r b0 t v) (h : DataW.Trod enc P w base spare held t v d p)
    (hs : ∀ el sp, d = .slice el sp → el.length + sp.length ≤ 140737488355328) (hsp : spare = fun _ => true) : ∃ zs : List Int, IntsAt w v zs := by
  obtain ⟨a0, l0, c0, rfl⟩ := okWide_slice ht hv
  obtain ⟨fuel, hf⟩ := h
  rcases open_ints ht he hc hf with ⟨h1, _⟩ | ⟨a, len, cap, zs, h1, _, h2, h3, h4, h5, h6, h7⟩
  · exact ⟨[], .inl ⟨by simpa [Value.cells] using h1, rfl⟩⟩
  · have hcap : cap ≤ 140737488355328 := by
      have := hs _ _ (congrArg Prod.fst h5)
      subst hsp
      simp [lits] at this h4
      omega
    have hl : len ≤ zs.length := by rw [h4]; split <;> omega
    refine ⟨zs.take len, .inr ⟨a, cap, ?_, ?_, hcap, fun k z hz => ?_⟩⟩
    · rw [List.length_take, Nat.min_eq_left hl]; simpa [Value.cells] using h1
    · rw [List.length_take, Nat.min_eq_left hl]; exact h2
    · have hk : k < len := by
        have := (List.getElem?_eq_some_iff.1 hz).1
        rw [List.length_take] at this; omega
      rw [List.getElem?_take, if_pos hk] at hz
      have hg : zs.getD k 0 = z := by simp [hz]
      refine ⟨by rw [h6 k (by omega), hg], h7 z (List.mem_of_getElem? hz)⟩
end
end Go.Pb

/- Slices of structs all of whose cells are int64s, read in a world; such an argument opened. -/
namespace Go.Pb
open Go.RowKit Go.ChangeShapes Go.WideShapes Go.ChangeAt Go.Deep

/-- In the world w the slice v reads as rows of n int64s each. -/
def RowsAt (n : Nat) (w : World) (v : Value) (rows : List (List Int)) : Prop :=
  (v = .slice none 0 0 ∧ rows = []) ∨ ∃ (a : Addr) (cap : Nat), v = .slice (some a) rows.length cap ∧ rows.length ≤ cap ∧ cap ≤ 9223372036854775807 ∧
    ∀ k r, rows[k]? = some r → r.length = n ∧ ∀ j z, r[j]? = some z → w.cell? (a.add (k * n + j)) = some (.int .i64 z) ∧ I64 z
theorem RowsAt.below {n : Nat} {w w' : World} {v : Value} {rows : List (List Int)} (h : RowsAt n w v rows) (hb : Below w.heap.size w w') : RowsAt n w' v rows := by
  rcases h with h | ⟨a, cap, h1, h2, h3, h4⟩
  · exact .inl h
  · exact .inr ⟨a, cap, h1, h2, h3, fun k r hr => ⟨(h4 k r hr).1, fun j z hz => ⟨bkeep hb ((h4 k r hr).2 j z hz).1, ((h4 k r hr).2 j z hz).2⟩⟩⟩
theorem RowsAt.i64 {n : Nat} {w : World} {v : Value} {rows : List (List Int)} (h : RowsAt n w v rows) : ∀ r ∈ rows, r.length = n ∧ ∀ z ∈ r, I64 z := by
  rcases h with ⟨_, rfl⟩ | ⟨a, cap, h1, h2, h3, h4⟩
  · simp
  · intro r hr
    obtain ⟨k, hk⟩ := List.getElem?_of_mem hr
    refine ⟨(h4 k r hk).1, fun z hz => ?_⟩
    obtain ⟨j, hj⟩ := List.getElem?_of_mem hz
    exact ((h4 k r hk).2 j z hj).2
/-- A slice of rows shown: its length is theirs. -/
theorem RowsAt.shape {n : Nat} {w : World} {v : Value} {rows : List (List Int)} (h : RowsAt n w v rows) : ∃ (a : Option Addr) (cap : Nat), v = .slice a rows.length cap ∧ rows.length ≤ 9223372036854775807 := by
  rcases h with ⟨h, rfl⟩ | ⟨a, cap, h1, h2, h3, h4⟩
  · exact ⟨none, 0, h, by simp⟩
  · exact ⟨some a, cap, h1, by omega⟩

section
variable {H : Type} {enc : TypeId × Value → H} {P : Program} {w : World} {base : Nat} {spare : Nat → Bool} {held : Bool}
theorem open_rows {m n : Nat} {t e : TypeId} {fuel : Nat} {cs : List Value} {x : DataW H × List MemPlace} (ht : P.underlying t = some (.slice e)) (hfl : flatI P m e = true) (hn : P.cellsOf e = n)
    (h : DataW.trod enc P w base spare held fuel t cs = some x) : ∃ v rows, cs = [v] ∧ RowsAt n w v rows := by
  subst hn
  rcases Go.Deep.open_slice ht h with ⟨h1, _⟩ | ⟨a, len, cap, k, f, D, Pl, rfl, hb, hl, hm, hk, rfl, hx⟩
  · exact ⟨_, [], h1, .inl ⟨rfl, rfl⟩⟩
  · have hlk : len ≤ k := by rw [hk]; split <;> omega
    have each : ∀ i, i < len → ∃ r : List Int, r.length = P.cellsOf e ∧ ∀ j z, r[j]? = some z → w.cell? (a.add (i * P.cellsOf e + j)) = some (.int .i64 z) ∧ I64 z := by
      intro i hi
      obtain ⟨cs', h1, h2⟩ := hx i (by omega)
      obtain ⟨hlen, hc⟩ := flat_cells m hfl h2
      obtain ⟨zs, rfl, hw⟩ := ints_of cs' hc
      obtain ⟨_, _, hat⟩ := World.cells?_some h1
      refine ⟨zs, by simpa using hlen, fun j z hz => ?_⟩
      have hj : j < zs.length := (List.getElem?_eq_some_iff.1 hz).1
      have h3 := hat j (by simp at hlen; omega)
      rw [Go.Deep.add_add] at h3
      rw [h3, List.getElem?_map, hz]
      exact ⟨rfl, hw z (List.mem_of_getElem? hz)⟩
    obtain ⟨R, hR⟩ := choose_lt each
    refine ⟨_, (List.range len).map R, rfl, .inr ⟨a, cap, by simp, by simpa using hl, by unfold maxLen at hm; omega, fun i r hr => ?_⟩⟩
    have hi : i < len := by
      have := (List.getElem?_eq_some_iff.1 hr).1
      simpa using this
    rw [List.getElem?_map, List.getElem?_range hi] at hr
    simp at hr
    subst hr
    exact hR i hi
end
end Go.Pb

/- An argument that is a slice of structs or arrays, all of whose cells are int64s. -/
namespace Go.Pb
open Go.RowKit Go.ChangeShapes Go.WideShapes Go.ChangeAt Go.Deep
section
variable {H : Type} {enc : TypeId × Value → H} {P : Program} {w : World} {base : Nat} {spare : Nat → Bool} {held : Bool}
theorem open_rowsT {r : Reach} {b0 m n : Nat} {t e : TypeId} {v : Value} {d : DataW H} {p : List MemPlace} (ht : P.underlying t = some (.slice e)) (hfl : flatI P m e = true) (hn : P.cellsOf e = n)
    (hv : Value.okWide P w r b0 t v) (h : DataW.Trod enc P w base spare held t v d p) : ∃ rows, RowsAt n w v rows := by
  obtain ⟨a0, l0, c0, rfl⟩ := okWide_slice ht hv
  obtain ⟨fuel, hf⟩ := h
  obtain ⟨u, rows, he, hr⟩ := open_rows ht hfl hn hf
  simp [Value.cells] at he
  subst he
  exact ⟨rows, hr⟩
end
end Go.Pb

/- The plain mathematics of layer 1 (ware): what shapes and bodies become, piles, trials. Lists and integers alone. -/
namespace Go.Pb.Ware

structure Rg where
  lo : Int
  hi : Int
structure Sh where
  id : Int
  wide : Rg
  deep : Rg
  high : Rg
  nest : Int
  weight : Rg
  bears : Int
structure Tr where
  source : Int
  wet : Rg
  dry : Rg

def btw (n lo hi : Int) : Bool := decide (lo ≤ n) && decide (n ≤ hi)
def rgOk (r : Rg) (lo hi : Int) : Bool := decide (lo ≤ r.lo) && decide (r.lo ≤ r.hi) && decide (r.hi ≤ hi)
def shOk (s : Sh) : Bool :=
  btw s.id 1 999 && rgOk s.wide 0 2000 && rgOk s.deep 0 2000 && rgOk s.high 0 2000 && btw s.nest 0 s.high.lo && rgOk s.weight 0 100000 && btw s.bears 0 1000000
def trOk (t : Tr) : Bool := btw t.source 1 99999 && rgOk t.wet 1 2000 && rgOk t.dry 0 2000

theorem btw_iff {n lo hi : Int} : btw n lo hi = true ↔ lo ≤ n ∧ n ≤ hi := by simp [btw]
theorem rgOk_iff {r : Rg} {lo hi : Int} : rgOk r lo hi = true ↔ lo ≤ r.lo ∧ r.lo ≤ r.hi ∧ r.hi ≤ hi := by simp [rgOk, and_assoc]
theorem shOk_iff {s : Sh} : shOk s = true ↔ (1 ≤ s.id ∧ s.id ≤ 999) ∧ (0 ≤ s.wide.lo ∧ s.wide.lo ≤ s.wide.hi ∧ s.wide.hi ≤ 2000) ∧ (0 ≤ s.deep.lo ∧ s.deep.lo ≤ s.deep.hi ∧ s.deep.hi ≤ 2000) ∧
    (0 ≤ s.high.lo ∧ s.high.lo ≤ s.high.hi ∧ s.high.hi ≤ 2000) ∧ (0 ≤ s.nest ∧ s.nest ≤ s.high.lo) ∧ (0 ≤ s.weight.lo ∧ s.weight.lo ≤ s.weight.hi ∧ s.weight.hi ≤ 100000) ∧ (0 ≤ s.bears ∧ s.bears ≤ 1000000) := by
  simp only [shOk, Bool.and_eq_true, btw_iff, rgOk_iff]; omega
def zRg : Rg := ⟨0, 0⟩
/-- Piles. -/
def ckP (s : Sh) (many : Int) : Int := if shOk s = true then if btw many 1 40 = true then 0 else 14 else 10
def heightOf (s : Sh) (many : Int) : Rg := ⟨s.high.lo + (many - 1) * (s.high.lo - s.nest), s.high.hi + (many - 1) * (s.high.hi - s.nest)⟩
def standsB (s : Sh) (many : Int) : Bool := decide ((many - 1) * s.weight.hi ≤ s.bears)
def load (s : Sh) (many at' : Int) : Rg × Int :=
  if ckP s many = 0 then if btw at' 0 (many - 1) = true then (⟨(many - 1 - at') * s.weight.lo, (many - 1 - at') * s.weight.hi⟩, 0) else (zRg, 1) else (zRg, ckP s many)
def fitsB (s : Sh) (high many : Int) : Bool := standsB s many && decide ((heightOf s many).hi ≤ high)
def mostTo (s : Sh) (high : Int) : Nat → Nat
  | 0 => 0
  | k + 1 => if fitsB s high ((k + 1 : Nat) : Int) = true then k + 1 else mostTo s high k
def most (s : Sh) (high : Int) : Int × Int :=
  if shOk s = true then if mostTo s high 40 = 0 then (0, 3) else ((mostTo s high 40 : Nat), 0) else (0, 10)

end Go.Pb.Ware

/- Plain words on lists of rows: shapes and bodies by their numbers, lists that are kept, what is found. -/
namespace Go.Pb.Ware
open Go.Pb
def shR (r : List Int) : Sh := ⟨r.getD 0 0, ⟨r.getD 1 0, r.getD 2 0⟩, ⟨r.getD 3 0, r.getD 4 0⟩, ⟨r.getD 5 0, r.getD 6 0⟩, r.getD 7 0, ⟨r.getD 8 0, r.getD 9 0⟩, r.getD 10 0⟩
def okS (r : List Int) : Bool := shOk (shR r)
def kept (ok : List Int → Bool) : Int → List (List Int) → Bool
  | _, [] => true
  | last, r :: rs => ok r && decide (last < r.getD 0 0) && kept ok (r.getD 0 0) rs
theorem len11 {r : List Int} (h : r.length = 11) : ∃ a0 a1 a2 a3 a4 a5 a6 a7 a8 a9 a10, r = [a0, a1, a2, a3, a4, a5, a6, a7, a8, a9, a10] := by
  match r, h with
  | [a0, a1, a2, a3, a4, a5, a6, a7, a8, a9, a10], _ => exact ⟨_, _, _, _, _, _, _, _, _, _, _, rfl⟩
theorem len7 {r : List Int} (h : r.length = 7) : ∃ a0 a1 a2 a3 a4 a5 a6, r = [a0, a1, a2, a3, a4, a5, a6] := by
  match r, h with
  | [a0, a1, a2, a3, a4, a5, a6], _ => exact ⟨_, _, _, _, _, _, _, rfl⟩
end Go.Pb.Ware
namespace Go.Pb
theorem RowsAt.row {n : Nat} {w : World} {a : Option Addr} {cap : Nat} {rows : List (List Int)} (h : RowsAt n w (.slice a rows.length cap) rows) {k : Nat} (hk : k < rows.length) :
    ∃ a', a = some a' ∧ rows[k].length = n ∧ (∀ z, rows[k][0]? = some z → w.cell? (a'.add (k * n)) = some (.int .i64 z)) ∧
      ∀ j z, j ≠ 0 → rows[k][j]? = some z → w.cell? ⟨(a'.add (k * n)).block, (a'.add (k * n)).off + j, none⟩ = some (.int .i64 z) := by
  rcases h with ⟨h1, h2⟩ | ⟨a', cap', h1, h2, h3, h4⟩
  · subst h2; simp at hk
  · injection h1 with h1 _ _
    have h5 := (h4 k _ (List.getElem?_eq_getElem hk)).2
    refine ⟨a', h1, (h4 k _ (List.getElem?_eq_getElem hk)).1, fun z hz => (h5 0 z hz).1, fun j z hj hz => ?_⟩
    have := (h5 j z hz).1
    rw [← Go.Deep.add_add] at this
    rw [← this]
    generalize a'.add (k * n) = p
    unfold Addr.add
    rw [if_neg hj]
end Go.Pb

/- The plain mathematics of layer 2 (saggar), part 1: boxes, items, what an item needs. -/
namespace Go.Pb.Sag
open Go.Pb Go.Pb.Ware
set_option linter.unusedVariables false
structure Bx where
  id : Int
  wide : Int
  deep : Int
  cell : Int
  high : Int
  bears : Int
structure It where
  shape : Int
  many : Int
  clear : Int
structure Ft where
  wide : Int
  deep : Int
  high : Int
  weight : Int
def zFt : Ft := ⟨0, 0, 0, 0⟩
end Go.Pb.Sag

/- For ranges over functions: blocks of cells that a round leaves as they are. -/
namespace Go.Pb
set_option linter.unusedVariables false
open Go.RowKit

/-- Block B holds these cells, and may be written. -/
def CellsAt (W : World) (B : Nat) (vs : List Value) : Prop := ∀ (o : Nat) (v : Value), vs[o]? = some v → W.cell? ⟨B, o, none⟩ = some v ∧ W.frozen? ⟨B, o, none⟩ = false
theorem CellsAt.kept {W W' : World} {row : Option Nat} {B : Nat} {vs : List Value} (h : CellsAt W B vs) (hg : W.grownBy W' row) (hrow : ∀ r, row = some r → ∃ o : Obj, W.heap[r]? = some o ∧ o.isCells = false) : CellsAt W' B vs :=
  fun o v hv => ⟨cell_kept (h o v hv).1 hg hrow, (frozen_kept (h o v hv).1 hg hrow).trans (h o v hv).2⟩
theorem CellsAt.below {W W' : World} {B : Nat} {vs : List Value} (h : CellsAt W B vs) (hb : Below W.heap.size W W') : CellsAt W' B vs :=
  fun o v hv => ⟨bkeep hb (h o v hv).1, bfree hb (h o v hv).1 (h o v hv).2⟩
theorem CellsAt.alloc {W : World} {B : Nat} {vs : List Value} (h : CellsAt W B vs) (o : Obj) : CellsAt (W.alloc o) B vs := h.below ((Below.refl _ _).alloc (Nat.le_refl _) _)
theorem CellsAt.new (W : World) (vs : List Value) (t : TypeId) : CellsAt (W.alloc (.cells vs.toArray t)) W.heap.size vs := fun o v hv => by
  refine ⟨?_, World.frozen?_alloc_new W vs.toArray t o⟩
  rw [World.cell?_alloc_new]; simpa using hv
theorem keeps_of_below {W W' : World} (h : Below W.heap.size W W') : KeepsOthers W W' :=
  ⟨h.size, fun k o hk _ => by rw [h.block k (Array.getElem?_eq_some_iff.1 hk).1]; exact hk⟩
theorem CellsAt.other {W : World} {B B' o' : Nat} {vs : List Value} (h : CellsAt W B vs) (hne : B ≠ B') (u : Value) : CellsAt (W.setCell ⟨B', o', none⟩ u) B vs :=
  fun o v hv => ⟨by have := (h o v hv).1; rw [World.cell?_setCell_other _ _ _ _ (by intro e; cases e; exact hne rfl)]; exact this, by have := (h o v hv).2; simp [this]⟩
end Go.Pb

namespace Go.Pb.Ware
open Go.Pb
/-- Valid trials. -/
abbrev TT := { t : Tr // trOk t = true }
end Go.Pb.Ware

/- Plain words on trials: what lists of them tell, what is left of a body; bars that are true of one shrinkage. -/
namespace Go.Pb.Ware
set_option linter.unusedVariables false
open Go.Pb
end Go.Pb.Ware
namespace Go.Pb
/-- Rows that the call has appended read as rows. -/
theorem rowsAt_of_owns {w : World} {base n : Nat} {e : TypeId} {v : Value} {rows : List (List Int)} (hr : ∀ r ∈ rows, r.length = n) (h : w.ownsRow base e n v rows.length (rows.flatten.map (Value.int .i64))) (hi : ∀ r ∈ rows, ∀ z ∈ r, I64 z) : RowsAt n w v rows := by
  obtain ⟨hl, h⟩ := h
  rcases h with ⟨h1, h2⟩ | ⟨g, cap, cur, h1, h2, h3, h4, h5, h6, h7⟩
  · exact .inl ⟨h1, List.length_eq_zero_iff.1 h2⟩
  · refine .inr ⟨_, cap, h1, h4, by unfold maxLen at h5; omega, fun k r hk => ?_⟩
    have hm := List.mem_of_getElem? hk
    refine ⟨hr r hm, fun j z hz => ⟨?_, hi r hm z (List.mem_of_getElem? hz)⟩⟩
    have hkl : k < rows.length := (List.getElem?_eq_some_iff.1 hk).1
    have hjl : j < n := by rw [← hr r hm]; exact (List.getElem?_eq_some_iff.1 hz).1
    have key : ∀ (rows : List (List Int)) (k : Nat), (∀ r ∈ rows, r.length = n) → rows[k]? = some r → rows.flatten[k * n + j]? = some z := by
      intro rows
      induction rows with
      | nil => intro k _ hk; simp at hk
      | cons x xs ih =>
        intro k hx hk
        have hxl := hx x (by simp)
        rw [List.flatten_cons]
        cases k with
        | zero =>
          simp at hk; subst hk
          rw [List.getElem?_append_left (by omega), Nat.zero_mul, Nat.zero_add]; exact hz
        | succ k =>
          simp at hk
          rw [List.getElem?_append_right (by rw [hxl, Nat.succ_mul]; omega), hxl, show (k + 1) * n + j - n = k * n + j by rw [Nat.succ_mul]; omega]
          exact ih k (fun y hy => hx y (by simp [hy])) hk
    have h8 := key rows k hr hk
    have hlt : k * n + j < rows.length * n := by
      have : (k + 1) * n ≤ rows.length * n := Nat.mul_le_mul_right n hkl
      rw [Nat.succ_mul] at this; omega
    have h9 : (cur.toList.take (rows.length * n))[k * n + j]? = some (.int .i64 z) := by rw [h7, List.getElem?_map, h8]; rfl
    rw [List.getElem?_take, if_pos hlt] at h9
    show w.cell? ((⟨g, 0, none⟩ : Addr).add (k * n + j)) = _
    rw [Go.WideShapes.add_plain]
    simp only [World.cell?, h3, Nat.zero_add]
    simpa using h9
end Go.Pb
namespace Go.Pb
open Go.RowKit
theorem owns_below {w w' : World} {base size n : Nat} {e : TypeId} {v : Value} {xs : List Value} (h : w.ownsRow base e size v n xs) (hb : Below w.heap.size w w') : w'.ownsRow base e size v n xs := by
  refine ⟨h.1, ?_⟩
  rcases h.2 with hn | ⟨g, cap, cur, h1, h2, h3, h4⟩
  · exact .inl hn
  · exact .inr ⟨g, cap, cur, h1, h2, (hb.block g (Array.getElem?_eq_some_iff.1 h3).1).trans h3, h4⟩
/-- A slice of the call's own, shown. -/
theorem owns_shape {w : World} {base size n : Nat} {e : TypeId} {v : Value} {xs : List Value} (h : w.ownsRow base e size v n xs) : ∃ (a : Option Addr) (cap : Nat), v = .slice a n cap ∧ n ≤ 9223372036854775807 := by
  rcases h.2 with ⟨h1, h2⟩ | ⟨g, cap, cur, h1, h2, h3, h4, h5, _⟩
  · subst h2; exact ⟨none, 0, h1, by omega⟩
  · exact ⟨_, cap, h1, by unfold maxLen at h5; omega⟩
theorem grown_kept {w w' : World} {row : Option Nat} (hg : w.grownBy w' row) {B o : Nat} {u : Value} (h : w.cell? ⟨B, o, none⟩ = some u) (hne : some B ≠ row) : w'.cell? ⟨B, o, none⟩ = some u := hg.cell (a := ⟨B, o, none⟩) h hne
theorem grown_free {w w' : World} {row : Option Nat} (hg : w.grownBy w' row) {B o : Nat} {u : Value} (h : w.cell? ⟨B, o, none⟩ = some u) (hf : w.frozen? ⟨B, o, none⟩ = false) (hne : some B ≠ row) : w'.frozen? ⟨B, o, none⟩ = false :=
  (World.frozen?_of_block (a := ⟨B, o, none⟩) (hg.block B (World.block_lt_of_cell? w _ h) hne)).trans hf
theorem below_grown {B : Nat} {a w w' : World} {base size n : Nat} {e : TypeId} {v : Value} {xs : List Value} (h : Below B a w) (hg : w.grownBy w' v.ownBlock) (ho : w.ownsRow base e size v n xs) (hB : B ≤ w.heap.size) (hb : B ≤ base) : Below B a w' := by
  refine h.grown hg hB fun k hk => ?_
  rcases ho.2 with ⟨h1, _⟩ | ⟨g, cap, cur, h1, h2, _⟩
  · subst h1; simp [Value.ownBlock] at hk
  · subst h1; simp [Value.ownBlock] at hk; omega
end Go.Pb
namespace Go.Pb.Ware
end Go.Pb.Ware
namespace Go.Pb.Ware
open Go.Pb Go.RowKit
end Go.Pb.Ware
namespace Go.Pb.Ware
open Go.Pb Go.RowKit
end Go.Pb.Ware

/- Slices of int64s by their elements; lists of sources. -/
namespace Go.Pb
set_option linter.unusedVariables false
open Go.RowKit
/-- In the world w the slice v reads as the numbers zs. -/
def NumsAt (w : World) (v : Value) (zs : List Int) : Prop :=
  (v = .slice none 0 0 ∧ zs = []) ∨ ∃ (a : Addr) (cap : Nat), v = .slice (some a) zs.length cap ∧ zs.length ≤ cap ∧ cap ≤ 9223372036854775807 ∧
    ∀ k z, zs[k]? = some z → w.cell? (a.add k) = some (.int .i64 z) ∧ I64 z
theorem NumsAt.below {w w' : World} {v : Value} {zs : List Int} (h : NumsAt w v zs) (hb : Below w.heap.size w w') : NumsAt w' v zs := by
  rcases h with h | ⟨a, cap, h1, h2, h3, h4⟩
  · exact .inl h
  · exact .inr ⟨a, cap, h1, h2, h3, fun k z hz => ⟨bkeep hb (h4 k z hz).1, (h4 k z hz).2⟩⟩
theorem NumsAt.i64 {w : World} {v : Value} {zs : List Int} (h : NumsAt w v zs) : ∀ z ∈ zs, I64 z := by
  rcases h with ⟨_, rfl⟩ | ⟨a, cap, h1, h2, h3, h4⟩
  · simp
  · intro z hz
    obtain ⟨k, hk⟩ := List.getElem?_of_mem hz
    exact (h4 k z hk).2
theorem IntsAt.nums {w : World} {v : Value} {zs : List Int} (h : IntsAt w v zs) : NumsAt w v zs := by
  rcases h with h | ⟨a, cap, h1, h2, h3, h4⟩
  · exact .inl h
  · exact .inr ⟨a, cap, h1, h2, by omega, h4⟩
/-- A part of a slice, from its head on. -/
theorem NumsAt.head {w : World} {a : Option Addr} {cap : Nat} {zs : List Int} (h : NumsAt w (.slice a zs.length cap) zs) {k : Nat} (hk : k ≤ zs.length) : NumsAt w (.slice a k cap) (zs.take k) := by
  have hl : (zs.take k).length = k := by simp [hk]
  rcases h with ⟨h1, h2⟩ | ⟨a', cap', h1, h2, h3, h4⟩
  · subst h2; injection h1 with e1 _ e3; subst e1; subst e3
    simp at hk; subst hk; exact .inl ⟨rfl, rfl⟩
  · injection h1 with e1 _ e3; subst e1; subst e3
    refine .inr ⟨a', cap, by rw [hl], by omega, h3, fun j z hz => ?_⟩
    rw [List.getElem?_take] at hz
    split at hz
    · exact h4 j z hz
    · cases hz
/-- .. behind a place. -/
theorem NumsAt.tail {w : World} {a' : Addr} {cap : Nat} {zs : List Int} (h : NumsAt w (.slice (some a') zs.length cap) zs) {k : Nat} (hk : k ≤ zs.length) (q : Addr) (hq : k < zs.length → q = a'.add k) : NumsAt w (.slice (some q) (zs.length - k) (cap - k)) (zs.drop k) := by
  rcases h with ⟨h1, h2⟩ | ⟨a2, cap', h1, h2, h3, h4⟩
  · cases h1
  · injection h1 with e1 _ e3; injection e1 with e1; subst e1; subst e3
    refine .inr ⟨q, cap - k, by rw [List.length_drop], by rw [List.length_drop]; omega, by omega, fun j z hz => ?_⟩
    rw [List.getElem?_drop] at hz
    have hlt : k + j < zs.length := (List.getElem?_eq_some_iff.1 hz).1
    rw [hq (by omega), Go.Deep.add_add]
    exact h4 (k + j) z hz
theorem NumsAt.shape {w : World} {v : Value} {zs : List Int} (h : NumsAt w v zs) : ∃ (a : Option Addr) (cap : Nat), v = .slice a zs.length cap ∧ zs.length ≤ cap ∧ cap ≤ 9223372036854775807 := by
  rcases h with ⟨h, rfl⟩ | ⟨a, cap, h1, h2, h3, h4⟩
  · exact ⟨none, 0, h, by simp, by omega⟩
  · exact ⟨some a, cap, h1, h2, h3⟩
theorem NumsAt.elem {w : World} {a : Option Addr} {cap : Nat} {zs : List Int} (h : NumsAt w (.slice a zs.length cap) zs) {k : Nat} (hk : k < zs.length) : ∃ a', a = some a' ∧ w.cell? (a'.add k) = some (.int .i64 zs[k]) := by
  rcases h with ⟨h1, h2⟩ | ⟨a', cap', h1, h2, h3, h4⟩
  · subst h2; simp at hk
  · injection h1 with h1 _ _
    exact ⟨a', h1, (h4 k _ (List.getElem?_eq_getElem hk)).1⟩
/-- A slice of the call's own of int64s reads so. -/
theorem numsAt_of_owns {w : World} {base : Nat} {e : TypeId} {v : Value} {zs : List Int} (hi : ∀ z ∈ zs, I64 z) (h : w.ownsRow base e 1 v zs.length (zs.map (Value.int .i64))) : NumsAt w v zs := by
  obtain ⟨hl, h⟩ := h
  rcases h with ⟨h1, h2⟩ | ⟨g, cap, cur, h1, h2, h3, h4, h5, h6, h7⟩
  · exact .inl ⟨h1, List.length_eq_zero_iff.1 h2⟩
  · refine .inr ⟨_, cap, h1, h4, by unfold maxLen at h5; omega, fun k z hz => ⟨?_, hi z (List.mem_of_getElem? hz)⟩⟩
    have hk : k < zs.length := (List.getElem?_eq_some_iff.1 hz).1
    rw [Go.WideShapes.add_plain]
    have h9 : (cur.toList.take (zs.length * 1))[k]? = some (.int .i64 z) := by rw [h7, List.getElem?_map, hz]; rfl
    rw [List.getElem?_take, if_pos (by omega)] at h9
    simp only [World.cell?, h3, Nat.zero_add]
    simpa using h9
theorem grown_of_below {w w' : World} (hb : Below w.heap.size w w') : w.grownBy w' none := ⟨hb.os, hb.tape, hb.output, hb.size, fun k hk _ => hb.block k hk⟩
end Go.Pb
namespace Go.Pb.Ware
open Go.Pb
def src (t : TT) : Int := t.1.source
/-- The trials of some sources. -/
def only (by' : List Int) (ts : List TT) : List TT := ts.filter fun t => by'.contains (src t)
end Go.Pb.Ware

/- The plain mathematics of layer 2 (saggar), part 2: lists of items and of feet. -/
namespace Go.Pb.Sag
open Go Go.Pb Go.Pb.Ware Go.RowKit
set_option linter.unusedVariables false
def rowX (x : It) : List Int := [x.shape, x.many, x.clear]
def cellsF (f : Ft) : List Value := [.int .i64 f.wide, .int .i64 f.deep, .int .i64 f.high, .int .i64 f.weight]
/-- A foot of a size that items have. -/
def FtOk (f : Ft) : Prop := (1 ≤ f.wide ∧ f.wide ≤ 2100) ∧ (1 ≤ f.deep ∧ f.deep ≤ 2100) ∧ (0 ≤ f.high ∧ f.high ≤ 80000) ∧ (0 ≤ f.weight ∧ f.weight ≤ 4000000)
end Go.Pb.Sag
namespace Go.Pb
open Go Go.RowKit
theorem owns_base {w : World} {b b2 size n : Nat} {e : TypeId} {v : Value} {xs : List Value} (hb : b2 ≤ b) (h : w.ownsRow b e size v n xs) : w.ownsRow b2 e size v n xs := by
  refine ⟨h.1, ?_⟩
  rcases h.2 with hn | ⟨g, cap, cur, h1, h2, h3⟩
  · exact .inl hn
  · exact .inr ⟨g, cap, cur, h1, Nat.le_trans hb h2, h3⟩
end Go.Pb
