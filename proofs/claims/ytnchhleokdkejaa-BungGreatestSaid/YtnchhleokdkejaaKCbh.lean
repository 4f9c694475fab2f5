/- Valid lists of saggars that others make: exchanged, without one, with one narrower; chosen weights. -/
import Derived.Test.YtnchhleokdkejaaKInRoundh
import Derived.Test.YtnchhleokdkejaaKSch
import Derived.Test.YtnchhleokdkejaaRows
import Derived.Test.YtnchhleokdkejaaKLibh
import Derived.Deep.LoopGhost
import Derived.Laws.AppendOwn
import Derived.OwnWalk
import Derived.Sort.Grow
import Derived.Deep.Draws
import Derived.Shelf.Small.Bits
import Derived.Shelf.SlSortCmp.Whole1
import Derived.Ground.SlsfProg
import Derived.Test.YtnchhleokdkejaaProg
import Derived.Sort.CutIn
import Derived.RangeFuncNested
import Derived.RangeFuncBound
import Derived.RangeFuncCalls
import Derived.RangeFuncLeaves
import Derived.Shelf.RegionOpen
import Derived.OwnWalkIn
import Derived.TacticsInMore
import Derived.LoopNIn
import Derived.LoopIn
import Derived.WalkMore
namespace Go.Pb.Bung
open Go Go.Pb Go.Pb.Ware Go.RowKit
set_option linter.unusedVariables false
set_option linter.unusedSimpArgs false
theorem idxOk_of {zs : List Int} {n : Nat} (hz : ∀ z ∈ zs, 0 ≤ z ∧ z < (n : Int)) (hd : zs.Pairwise (· ≠ ·)) : idxOk zs n = true := by
  have key : ∀ k, k ≤ zs.length → idxUp zs n k = true := by
    intro k
    induction k with
    | zero => intro _; rfl
    | succ k ih =>
      intro hk
      have hk2 : k < zs.length := hk
      refine idxUp_next (ih (by omega)) (List.getElem?_eq_getElem hk2) (btw_iff.2 ?_) ?_
      · have := hz _ (List.getElem_mem hk2); omega
      · intro hm
        obtain ⟨j, hj, hj2⟩ := List.mem_take_iff_getElem.1 hm
        exact List.pairwise_iff_getElem.1 hd j k (by omega) hk2 (by omega) hj2
  exact key _ (Nat.le_refl _)
/-- What a valid saggar's numbers are. -/
theorem sg_facts {s : Sg} (h : sgOk s = true) : ((0 ≤ s.wl ∧ s.wl ≤ s.wh) ∧ s.wh ≤ 10000000) ∧ ((0 ≤ s.bl ∧ s.bl ≤ s.bh) ∧ s.bh ≤ 10000000) ∧ ((1 ≤ s.hl ∧ s.hl ≤ s.hh) ∧ s.hh ≤ 10000) ∧ (0 ≤ s.ti ∧ s.ti ≤ 200) ∧ 1 ≤ s.id ∧ s.id ≤ 999 := by
  unfold sgOk at h
  simp only [Bool.and_eq_true, btw_iff, rgOk_iff] at h
  omega
theorem listOk_wt {l : List Sg} (h : listOk l = true) : Wt l := fun s hs => by
  have := sg_facts ((listOk_iff.1 h).2.1 s hs)
  omega
theorem bungOk_mk {lo hi : Int} {l : List Sg} (h1 : wadOk lo hi = true) (h2 : l.length ≠ 0) (h3 : listOk l = true) : bungOk lo hi l = true := by
  unfold bungOk
  rw [h1, h3, decide_eq_true (show l ≠ [] by rintro rfl; exact h2 rfl)]; rfl
/-! Weights that numbers choose. -/
/-- Of the saggars above a course the k lower ones weigh ws. -/
def ChoseW (l : List Sg) (ws : List Int) : Prop := ws.length ≤ l.length ∧ ∀ (j : Nat) (z : Int) (s : Sg), ws[j]? = some z → l[j]? = some s → s.wl ≤ z ∧ z ≤ s.wh
theorem ChoseW.nil (l : List Sg) : ChoseW l [] := ⟨Nat.zero_le _, fun j z s h => by simp at h⟩
theorem ChoseW.snoc {l : List Sg} {ws : List Int} {z : Int} {s : Sg} (h : ChoseW l ws) (hs : l[ws.length]? = some s) (h1 : s.wl ≤ z) (h2 : z ≤ s.wh) : ChoseW l (ws ++ [z]) := by
  refine ⟨by have := (List.getElem?_eq_some_iff.1 hs).1; simp; omega, fun j y t hy ht => ?_⟩
  rcases Nat.lt_or_ge j ws.length with hj | hj
  · rw [List.getElem?_append_left hj] at hy; exact h.2 j y t hy ht
  · rw [List.getElem?_append_right hj] at hy
    obtain rfl : j = ws.length := by
      rcases Nat.lt_or_ge ws.length j with h3 | h3
      · rw [List.getElem?_eq_none (by simp; omega)] at hy; cases hy
      · omega
    simp at hy
    subst hy
    rw [hs] at ht
    obtain rfl := Option.some.inj ht
    exact ⟨h1, h2⟩
end Go.Pb.Bung

/- Choices of so many of n indices in order, and the best of them, by plain maths. -/
namespace Go.Pb.Bung
open Go Go.Pb
set_option linter.unusedVariables false
set_option linter.unusedSimpArgs false
/-- All lists of `d` rising indices below `n` from `f` on, behind what is there. -/
def combs (n : Nat) : Nat → Nat → List Nat → List (List Nat)
  | 0, f, p => [p]
  | d + 1, f, p => (List.range' f (n - f)).flatMap (fun i => combs n d (i + 1) (p ++ [i]))
/-- Those of them whose first new index is below `i`. -/
def combsTo (n d : Nat) (p : List Nat) (f i : Nat) : List (List Nat) := (List.range' f (i - f)).flatMap (fun j => combs n d (j + 1) (p ++ [j]))
theorem combs_zero (n f : Nat) (p : List Nat) : combs n 0 f p = [p] := rfl
theorem combs_succ (n d f : Nat) (p : List Nat) : combs n (d + 1) f p = combsTo n d p f n := rfl
theorem combsTo_start (n d f : Nat) (p : List Nat) : combsTo n d p f f = [] := by unfold combsTo; rw [Nat.sub_self]; rfl
theorem combsTo_next (n d : Nat) (p : List Nat) {f i : Nat} (h : f ≤ i) : combsTo n d p f (i + 1) = combsTo n d p f i ++ combs n d (i + 1) (p ++ [i]) := by
  unfold combsTo
  rw [show i + 1 - f = (i - f) + 1 from by omega, List.range'_concat, List.flatMap_append, show f + 1 * (i - f) = i from by omega]
  simp
theorem combsTo_le (n d : Nat) (p : List Nat) {f i : Nat} (h : f ≤ i) : ∀ k : Nat, ∃ t, combsTo n d p f (i + k) = combsTo n d p f i ++ t
  | 0 => ⟨[], by simp⟩
  | k + 1 => by
    obtain ⟨t, ht⟩ := combsTo_le n d p h k
    exact ⟨t ++ combs n d (i + k + 1) (p ++ [i + k]), by rw [← Nat.add_assoc, combsTo_next n d p (by omega), ht, List.append_assoc]⟩
theorem combsTo_split (n d : Nat) (p : List Nat) {f i : Nat} (h : f ≤ i) (hi : i < n) : ∃ t, combs n (d + 1) f p = combsTo n d p f i ++ combs n d (i + 1) (p ++ [i]) ++ t := by
  obtain ⟨t, ht⟩ := combsTo_le n d p (show f ≤ i + 1 by omega) (n - (i + 1))
  rw [show i + 1 + (n - (i + 1)) = n from by omega, combsTo_next n d p h] at ht
  exact ⟨t, by rw [combs_succ, ht]⟩
/-- Rising indices from `f` on, below `n`. -/
def RiseF (n : Nat) : Nat → List Nat → Prop
  | f, [] => True
  | f, a :: s => (f ≤ a ∧ a < n) ∧ RiseF n (a + 1) s
theorem RiseF.low {n : Nat} : ∀ {f g : Nat} {s : List Nat}, RiseF n f s → g ≤ f → RiseF n g s
  | f, g, [], h, hg => trivial
  | f, g, a :: s, h, hg => ⟨⟨Nat.le_trans hg h.1.1, h.1.2⟩, h.2⟩
theorem RiseF.mem {n : Nat} : ∀ {f : Nat} {s : List Nat}, RiseF n f s → ∀ k ∈ s, f ≤ k ∧ k < n
  | f, [], h, k, hk => by cases hk
  | f, a :: s, h, k, hk => by
    rcases List.mem_cons.1 hk with rfl | hk
    · exact h.1
    · have := h.2.mem k hk
      have := h.1
      omega
theorem mem_combs {n : Nat} : ∀ {d f : Nat} {p x : List Nat}, x ∈ combs n d f p ↔ ∃ s, x = p ++ s ∧ s.length = d ∧ RiseF n f s
  | 0, f, p, x => by
    rw [combs_zero, List.mem_singleton]
    constructor
    · rintro rfl; exact ⟨[], by simp, rfl, trivial⟩
    · rintro ⟨s, rfl, h, -⟩
      rw [List.length_eq_zero_iff.1 h, List.append_nil]
  | d + 1, f, p, x => by
    rw [combs, List.mem_flatMap]
    constructor
    · rintro ⟨i, hi, hx⟩
      obtain ⟨s, rfl, hl, hr⟩ := mem_combs.1 hx
      rw [List.mem_range'_1] at hi
      exact ⟨i :: s, by simp, by simp [hl], ⟨⟨hi.1, by omega⟩, hr⟩⟩
    · rintro ⟨s, rfl, hl, hr⟩
      match s, hl, hr with
      | i :: s, hl, hr =>
        refine ⟨i, ?_, mem_combs.2 ⟨s, by simp, by simpa using hl, hr.2⟩⟩
        rw [List.mem_range'_1]
        have := hr.1
        omega
/-- Whether a list of numbers is ahead of another one. -/
def aheadF : List Nat → List Nat → Bool
  | [], [] => false
  | [], _ :: _ => true
  | _ :: _, [] => false
  | a :: x, b :: y => if a = b then aheadF x y else decide (a < b)
theorem ahead_app : ∀ (p : List Nat) (x y : List Nat), aheadF (p ++ x) (p ++ y) = aheadF x y
  | [], x, y => rfl
  | a :: p, x, y => by
    show (if a = a then aheadF (p ++ x) (p ++ y) else decide (a < a)) = _
    rw [if_pos rfl, ahead_app p x y]
theorem ahead_irr : ∀ x : List Nat, aheadF x x = false
  | [] => rfl
  | a :: x => by
    show (if a = a then aheadF x x else decide (a < a)) = false
    rw [if_pos rfl, ahead_irr x]
theorem ahead_trans : ∀ {x y z : List Nat}, aheadF x y = true → aheadF y z = true → aheadF x z = true
  | [], [], z, h, h' => by cases h
  | [], _ :: _, [], h, h' => by cases h'
  | [], _ :: _, _ :: _, h, h' => rfl
  | _ :: _, [], z, h, h' => by cases h
  | a :: x, b :: y, [], h, h' => by cases h'
  | a :: x, b :: y, c :: z, h, h' => by
    simp only [aheadF] at h h' ⊢
    by_cases e1 : a = b
    · subst e1
      rw [if_pos rfl] at h
      by_cases e2 : a = c
      · subst e2
        rw [if_pos rfl] at h' ⊢
        exact ahead_trans h h'
      · rw [if_neg e2] at h' ⊢
        exact h'
    · rw [if_neg e1, decide_eq_true_eq] at h
      by_cases e2 : b = c
      · subst e2
        rw [if_neg e1]
        exact decide_eq_true h
      · rw [if_neg e2, decide_eq_true_eq] at h'
        rw [if_neg (by omega)]
        exact decide_eq_true (by omega)
theorem combs_sorted {n : Nat} : ∀ (d f : Nat) (p : List Nat), (combs n d f p).Pairwise (fun x y => aheadF x y = true)
  | 0, f, p => by rw [combs_zero]; exact List.pairwise_singleton _ _
  | d + 1, f, p => by
    rw [combs, List.pairwise_flatMap]
    refine ⟨fun i _ => combs_sorted d (i + 1) (p ++ [i]), ?_⟩
    refine (List.pairwise_lt_range').imp_of_mem ?_
    intro i j hi hj hij x hx y hy
    obtain ⟨s, rfl, -, -⟩ := mem_combs.1 hx
    obtain ⟨t, rfl, -, -⟩ := mem_combs.1 hy
    rw [List.append_assoc, List.append_assoc, ahead_app]
    show (if i = j then _ else decide (i < j)) = true
    rw [if_neg (by omega)]
    exact decide_eq_true hij
/-- Whether a list is longer than another one, or ahead of one as long. -/
def betF (x y : List Nat) : Bool := decide (y.length < x.length) || (decide (x.length = y.length) && aheadF x y)
theorem bet_iff {x y : List Nat} : betF x y = true ↔ y.length < x.length ∨ (x.length = y.length ∧ aheadF x y = true) := by
  unfold betF; rw [Bool.or_eq_true, Bool.and_eq_true, decide_eq_true_eq, decide_eq_true_eq]
/-- The best of the lists that stand; the empty one if none is better. -/
structure IsBest (St : List Nat → Bool) (n : Nat) (r : List Nat) : Prop where
  one : r = [] ∨ (RiseF n 0 r ∧ St r = true)
  best : ∀ x, RiseF n 0 x → St x = true → betF x r = false
/-- The first list that stands, of the longest ones first. -/
def mostP (St : List Nat → Bool) (n : Nat) : Nat → List Nat
  | 0 => []
  | m + 1 => match (combs n (m + 1) 0 []).find? St with | some x => x | none => mostP St n m
theorem mostP_some {St : List Nat → Bool} {n m : Nat} {x : List Nat} (h : (combs n (m + 1) 0 []).find? St = some x) : mostP St n (m + 1) = x := by rw [mostP, h]
theorem mostP_none {St : List Nat → Bool} {n m : Nat} (h : (combs n (m + 1) 0 []).find? St = none) : mostP St n (m + 1) = mostP St n m := by rw [mostP, h]
theorem rise_len {n : Nat} : ∀ {f : Nat} {s : List Nat}, RiseF n f s → s.length ≤ n - f
  | f, [], h => Nat.zero_le _
  | f, a :: s, h => by
    have := rise_len h.2
    have := h.1
    rw [List.length_cons]
    omega
theorem mostP_best {St : List Nat → Bool} {n : Nat} : ∀ (m : Nat), (∀ x, RiseF n 0 x → m < x.length → St x = false) → IsBest St n (mostP St n m)
  | 0, h => ⟨.inl rfl, fun x hx hs => by
      cases hb : betF x (mostP St n 0) with
      | false => rfl
      | true =>
        rw [bet_iff] at hb
        rcases hb with hb | ⟨h1, h2⟩
        · rw [h x hx hb] at hs; cases hs
        · have : x = [] := List.length_eq_zero_iff.1 h1
          subst this; cases h2⟩
  | m + 1, h => by
    cases hf : (combs n (m + 1) 0 []).find? St with
    | none =>
      rw [mostP_none hf]
      refine mostP_best m fun x hx hl => ?_
      by_cases e : x.length = m + 1
      · rw [List.find?_eq_none] at hf
        have := hf x (mem_combs.2 ⟨x, by simp, e, hx⟩)
        simpa using this
      · exact h x hx (by omega)
    | some r =>
      rw [mostP_some hf]
      obtain ⟨hs, l1, l2, hab, hno⟩ := List.find?_eq_some_iff_append.1 hf
      have hmem : r ∈ combs n (m + 1) 0 [] := by rw [hab]; simp
      obtain ⟨s, e, hl, hr⟩ := mem_combs.1 hmem
      rw [List.nil_append] at e
      subst e
      refine ⟨.inr ⟨hr, hs⟩, fun x hx hsx => ?_⟩
      cases hb : betF x r with
      | false => rfl
      | true =>
        exfalso
        rw [bet_iff] at hb
        rcases hb with hb | ⟨h1, h2⟩
        · rw [h x hx (by omega)] at hsx; cases hsx
        · have hxm : x ∈ combs n (m + 1) 0 [] := mem_combs.2 ⟨x, by simp, by omega, hx⟩
          have hp := combs_sorted (n := n) (m + 1) 0 []
          rw [hab] at hxm hp
          rcases List.mem_append.1 hxm with h3 | h3
          · have := hno x h3
            rw [hsx] at this
            simp at this
          · rcases List.mem_cons.1 h3 with rfl | h3
            · rw [ahead_irr] at h2; cases h2
            · have h4 := (List.pairwise_cons.1 (List.pairwise_append.1 hp).2.1).1 x h3
              have h5 := ahead_trans h4 h2
              rw [ahead_irr] at h5; cases h5
theorem mostA_best (St : List Nat → Bool) (n : Nat) : IsBest St n (mostP St n n) := mostP_best n fun x hx hl => by
  have := rise_len hx
  omega
theorem rise_filter {n : Nat} (q : Nat → Bool) : ∀ (m f : Nat), f + m ≤ n → RiseF n f ((List.range' f m).filter q)
  | 0, f, h => trivial
  | m + 1, f, h => by
    rw [List.range'_succ, List.filter_cons]
    split
    · exact ⟨⟨Nat.le_refl _, by omega⟩, rise_filter q m (f + 1) (by omega)⟩
    · exact (rise_filter q m (f + 1) (by omega)).low (Nat.le_succ f)
end Go.Pb.Bung

/- A range over an iterator that writes its own memory between the rounds: as Xn's, but what holds where a round says 'no more' may speak of what was laid since. -/
namespace Go.Pb
open Go Go.RowKit
set_option linter.unusedVariables false
variable {F : Fence} {n : Nat} {P : Program}
/-- As SeqN (Xn), but Jx need not be low: J and Jx abide the turn of whatever is no cells and was laid since the iterator's call; and each round keeps what was laid since then. -/
def SeqC {α : Type} (F : Fence) (n : Nat) (P : Program) (g : Nat) (lb : Array Value) (encs : α → Array Value) (Kp : World → World → Prop) (M : α → World → Prop) (Nx : List α → α → Prop) (S Sp : List α → Prop) (w : World) : Prop :=
  ∀ (l : Nat) (J Jx : List α → World → Prop) (W : World), Below w.heap.size w W → OwnFrom W.heap.size J → OwnFrom W.heap.size Jx → Low W.heap.size J →
    (∀ pre x V, J pre V → M x V → Nx pre x → W.heap.size ≤ V.heap.size → YieldAt F (n - 1) P l (encs x) V fun e V' => (e = .returned (.bool true) ∧ J (pre ++ [x]) V' ∧ Kp V V' ∧ KeepsAll W.heap.size V V') ∨ (e = .returned (.bool false) ∧ Jx (pre ++ [x]) V' ∧ KeepsAll W.heap.size V V')) →
    J [] W → CallsIn F n P g (#[.func (.yield l) #[] #[]] ++ lb) W fun e V => (∃ v, e = .returned v) ∧ ((∃ xs, S xs ∧ J xs V) ∨ (∃ pre, Sp pre ∧ Jx pre V))
theorem wpIn_rangeFunc_c {α : Type} {g : Operand} {ps : Array Tmp} {assign body : Code} {Q : Exit → Act → World → Prop} {a : Act} {w : World} (hro : F.round = none) (h1 : 1 ≤ n)
    {gf : Nat} {lb : Array Value} (hg : a.eval g = .func (.func gf) #[] lb) (hFg : F.fn gf) (eg : ∀ args w, (callFunc gf args).run P w = .ok (.enter gf args) w)
    {encs : α → Array Value} {Kp : World → World → Prop} {M : α → World → Prop} {Nx : List α → α → Prop} {S Sp : List α → Prop} {w0 : World} (hseq : SeqC F (n - 1) P gf lb encs Kp M Nx S Sp w0)
    (hKt : ∀ {A B C : World}, Kp A B → Kp B C → Kp A C) (hKb : ∀ (W : World) (l : Nat) (o o' : Obj), w.heap.size ≤ l → W.heap[l]? = some o → o.isCells = false → o.isWalk = false → Kp W (W.putObj l o'))
    (hb0 : Below w0.heap.size w0 w) (hps : ∀ x, (encs x).size = ps.size) (I : List α → World → Prop) (Ix : Code → List α → World → Prop) (hI : OwnFrom w.heap.size I) (hIx : ∀ c, OwnFrom w.heap.size (Ix c)) (hIl : Low w.heap.size I) (hM : OwnFrom w.heap.size M) (h0 : I [] w) (Ax : α → Act → World → Prop) (hAx : ∀ x a', OwnFrom w.heap.size (fun (_ : Unit) W => Ax x a' W))
    (hassign : ∀ (l : Nat) (pre : List α) (x : α) (W : World) (K : Act → World → Prop), I pre W → M x W → (∀ a' W', KeepsAll w.heap.size W W' → Kp W W' → I pre W' → M x W' → Ax x a' W' → K a' W') →
      assign.wpIn (F.inRound l) (n - 1 - 1) P (Exit.then K (fun _ _ _ => False)) { tmps := (ps.zip (encs x)).foldl (fun t (p, v) => t.setIfInBounds p v) a.tmps, defers := [] } W)
    (hbody : ∀ (l : Nat) (pre : List α) (x : α) (a' : Act) (W : World), w.heap.size ≤ l → l < W.heap.size → I pre W → M x W → Ax x a' W → Nx pre x → body.wpIn (F.inRound l) (n - 1 - 1) P (ownPostA w.heap.size Kp I Ix (pre ++ [x]) W) a' W)
    (hdone : ∀ (D : Nat) (xs : List α) (W : World), w.heap.size ≤ D → S xs → I xs W → W.heap[D]? = some (.deferred (some [])) → Q .normal { a with defers := { target := .collected D, args := #[] } :: a.defers } W)
    (hstop : ∀ (D : Nat) (c : Code) (pre : List α) (W : World), w.heap.size ≤ D → Sp pre → Ix c pre W → W.heap[D]? = some (.deferred (some [])) → c.wpIn F n P Q { a with defers := { target := .collected D, args := #[] } :: a.defers } W) :
    (Code.rangeFunc g ps assign body).wpIn F n P Q a w := by
  refine wpIn_rangeFunc fun fn hfn => ?_
  rw [hro]
  obtain ⟨D, hD⟩ : ∃ D, w.heap.size = D := ⟨_, rfl⟩
  obtain ⟨rc, hrc⟩ : ∃ f : LoopState → Option Code → Loop, f = fun st pe => { state := st, pending := pe, fn, tmps := a.tmps, params := ps, assign, body, defers := w.heap.size } := ⟨_, rfl⟩
  have start : BookN D (rc .ready none) ((w.alloc (.deferred (some []))).alloc (.loop (rc .ready none))) := by
    subst hD
    refine ⟨?_, (Below.heap_alloc _ _ _ (by simp)).trans (World.alloc_heap_new w _)⟩
    have h := World.alloc_heap_new (w.alloc (.deferred (some []))) (.loop (rc .ready none))
    rwa [World.size_alloc] at h
  obtain ⟨V0, hV0⟩ : ∃ V, (w.alloc (.deferred (some []))).alloc (.loop (rc .ready none)) = V := ⟨_, rfl⟩
  have hB0 : Below w0.heap.size w0 V0 := by rw [← hV0]; exact hb0.trans ((((Below.refl _ w).alloc (Nat.le_refl _) _).alloc (by simp) _).mono hb0.size)
  have hI0 : I [] V0 := by rw [← hV0]; exact hI.alloc _ (hI.alloc _ h0)
  have hsz : D ≤ V0.heap.size := by rw [← hV0]; simp; omega
  refine ⟨D + 1, [{ target := .collected D, args := #[] }], V0, { target := .fn (.func gf) lb, args := #[.func (.yield (D + 1)) #[] #[]] }, V0, gf, #[.func (.yield (D + 1)) #[] #[]] ++ lb, V0, ?_, ?_, ?_, ?_, fun _ => h1, ?_⟩
  · subst hD; rw [← hV0, hrc]; exact run_enterLoop_outer _ _ _ _ _
  · simp only [resolve, hg]; simp [go_sem]
  · intro f' hf'; simp [Target.leads] at hf'; subst hf'; exact hFg
  · simp [invoke, go_sem, eg]
  rw [hV0] at start
  have hsz2 : D + 1 < V0.heap.size := start.lt
  refine (hseq (D + 1) (fun pre W => I pre W ∧ BookN D (rc .ready none) W) (fun pre W => ∃ c, Ix c pre W ∧ BookN D (rc .done (some c)) W) V0 hB0
    (fun s A B row hs hg' hr => ⟨hI s A B row hs.1 hg' (fun r e => ⟨by have := (hr r e).1; omega, (hr r e).2⟩), hs.2.far hg' fun k e => by have := (hr k e).1; omega⟩)
    (fun s A B row hs hg' hr => hs.imp fun c hc => ⟨hIx c s A B row hc.1 hg' (fun r e => ⟨by have := (hr r e).1; omega, (hr r e).2⟩), hc.2.far hg' fun k e => by have := (hr k e).1; omega⟩) 
    (fun s A B hs hb => ⟨hIl s A B hs.1 (hb.mono (by omega)), hs.2.low hb hsz2⟩) ?_ ⟨hI0, start⟩).mono ?_
  · rintro pre x Va ⟨hi0, hk0⟩ hm0 hx hVs
    have hy := run_yield (P := P) (args := encs x) hk0.1 (by rw [hrc]; exact hps x)
    rw [hrc] at hy
    refine ⟨fn, _, assign, body, hy, roundIn_of_wpIn hfn (hassign _ pre x Va _ hi0 hm0 fun a' V hka hkq hi hm hax => ?_)⟩
    clear hy
    have hk : BookN D (rc .ready none) V := hk0.keep (hD ▸ hka.from)
    refine ⟨_, run_beginRound hk.1 (by rw [hrc]), ?_⟩
    have hkb := hk.turn { rc .ready none with state := .busy }
    have turn : ∀ {W : World} {r r' : Loop} {Z : List α → World → Prop} {ys : List α}, OwnFrom w.heap.size Z → Z ys W → BookN D r W → Z ys (W.putObj (D + 1) (.loop r')) := fun hZ hz hb => hZ.putObj _ hz (by omega) hb.1 rfl
    have hkp : Kp V (V.putObj (D + 1) (.loop { rc .ready none with state := .busy })) := hKb _ _ _ _ (by omega) hk.1 rfl rfl
    refine wpIn_mono (hbody _ pre x a' _ (by omega) (by rw [World.putObj_size]; exact hk.lt) (turn hI hi hk) (hM.putObj _ hm (by omega) hk.1 rfl) ((hAx x a').putObj (s := ()) _ hax (by omega) hk.1 rfl) hx) ?_
    have ends : ∀ (j : Option Code) (W : World), BookN D { rc .ready none with state := .busy } W → (Instr.endRound (D + 1) j).run P W = .ok (.bool j.isNone) (W.putObj (D + 1) (.loop (rc (if j.isNone then .ready else .done) j))) := fun j W hb => by
      have h := run_endRound (P := P) j hb.1
      rw [hrc] at h ⊢
      exact h
    have keepN : ∀ (W : World) (r' : Loop), KeepsAll w.heap.size (V.putObj (D + 1) (.loop { rc .ready none with state := .busy })) W → KeepsAll V0.heap.size Va (W.putObj (D + 1) (.loop r')) := fun W r' hkf => (hka.mono (by omega)).trans
      ⟨by have h1 := hkf.size; simp only [World.putObj_size] at h1 ⊢; exact h1, fun k hk2 hk3 => by
        rw [World.putObj_heap_other (by omega), hkf.same k (by omega) (by rw [World.putObj_size]; exact hk3)]
        exact World.putObj_heap_other (by omega)⟩
    have leave : ∀ (c : Code) (W : World), KeepsAll w.heap.size (V.putObj (D + 1) (.loop { rc .ready none with state := .busy })) W → Ix c (pre ++ [x]) W →
        ∃ v W', (Instr.endRound (D + 1) (some c)).run P W = .ok v W' ∧ ((Ending.returned v = .returned (.bool true) ∧ (I (pre ++ [x]) W' ∧ BookN D (rc .ready none) W') ∧ Kp Va W' ∧ KeepsAll V0.heap.size Va W') ∨ (Ending.returned v = .returned (.bool false) ∧ (∃ c, Ix c (pre ++ [x]) W' ∧ BookN D (rc .done (some c)) W') ∧ KeepsAll V0.heap.size Va W')) := fun c W hkf hc => by
      have hb := hkb.keep (hD ▸ hkf.from)
      exact ⟨_, _, ends (some c) W hb, .inr ⟨rfl, ⟨c, turn (hIx c) hc hb, hb.turn _⟩, keepN W _ hkf⟩⟩
    rintro e a3 W hp
    cases e with
    | normal =>
      obtain ⟨hkf, hkp3, hi3⟩ := hp
      have hb := hkb.keep (hD ▸ hkf.from)
      exact ⟨_, _, ends none W hb, .inl ⟨rfl, ⟨turn hI hi3 hb, hb.turn _⟩, hKt hkq (hKt hkp (hKt hkp3 (hKb _ _ _ _ (by omega) hb.1 rfl rfl))), keepN W _ hkf⟩⟩
    | ret => exact leave _ W hp.1 hp.2
    | exit id => exact leave _ W hp.1 hp.2
    | goto t => exact leave _ W hp.1 hp.2
    | panic ch => exact hp.elim
    | outgrown => exact hp.elim
  · have over : ∀ {W : World} {r : Loop}, BookN D r W → r.state ≠ .busy → (Instr.endLoop (D + 1)).run P W = .ok r.pending (W.putObj (D + 1) (.loop { r with state := .exhausted })) := fun hb hs => run_endLoop hb.1 hs
    rintro e W ⟨⟨v, rfl⟩, ⟨xs, hS, hi, hb⟩ | ⟨pre, hSp, c, hi, hb⟩⟩
    · have h := over hb (by rw [hrc]; simp)
      rw [show (rc .ready none).pending = none by rw [hrc]] at h
      exact ⟨none, _, h, hdone _ xs _ (by omega) hS (hI.putObj _ hi (by omega) hb.1 rfl) (hb.turn _).2⟩
    · have h := over hb (by rw [hrc]; simp)
      rw [show (rc .done (some c)).pending = some c by rw [hrc]] at h
      exact ⟨some c, _, h, hstop _ c pre _ (by omega) hSp ((hIx c).putObj _ hi (by omega) hb.1 rfl) (hb.turn _).2⟩
end Go.Pb

/- Contracts of layer 1's checks and firings: what each Go function returns, in plain words; below the blocks that were there nothing turns. -/
namespace Go.Proofs.Ytnchhleokdkejaa
open Go.RowKit Go.Pb Go.Pb.Ware
set_option linter.unusedVariables false
set_option linter.unusedSimpArgs false

theorem isBetween {n lo hi : Int}  {w : World} :
    Calls Try.prog 76 #[.int .i64 n, .int .i64 lo, .int .i64 hi] w (Ret w (.bool (btw n lo hi))) := by
  unfold Ret
  unfold btw
  go_enter Try.func76, Try.ntmps76
  go_wp2
  all_goals (go_ret; exact ⟨ret_bool (by rw [Bool.eq_iff_iff]; simp; omega), by go_grown⟩)

theorem isWithin {a b lo hi : Int}  {w : World} :
    Calls Try.prog 77 #[.agg #[.int .i64 a, .int .i64 b], .int .i64 lo, .int .i64 hi] w (Ret w (.bool (rgOk ⟨a, b⟩ lo hi))) := by
  unfold Ret
  unfold rgOk
  go_enter Try.func77, Try.ntmps77
  go_wp2
  all_goals (go_ret; exact ⟨ret_bool (by rw [Bool.eq_iff_iff]; simp; omega), by go_grown⟩)

end Go.Proofs.Ytnchhleokdkejaa

/- Which saggars, lists, bungs and spots are valid. -/
namespace Go.Proofs.Ytnchhleokdkejaa
open Go.RowKit Go.Pb Go.Pb.Ware Go.Pb.Sag
set_option linter.unusedVariables false
set_option linter.unusedSimpArgs false

open Go.Pb.Bung
theorem bB {w : World} {n lo hi : Int} {b : Bool} (h : btw n lo hi = b) :
    Calls Try.prog 76 #[.int .i64 n, .int .i64 lo, .int .i64 hi] w (Ret w (.bool b)) := by subst h; exact isBetween

theorem bR {w : World} {a c lo hi : Int} {b : Bool} (h : rgOk ⟨a, c⟩ lo hi = b) :
    Calls Try.prog 77 #[.agg #[.int .i64 a, .int .i64 c], .int .i64 lo, .int .i64 hi] w (Ret w (.bool b)) := by subst h; exact isWithin

set_option maxRecDepth 100000 in
set_option maxHeartbeats 1000000 in
theorem ckSg_any {w : World} {sid swl swh sbl sbh shl shh sti r : Int} (hx : ckSg ⟨sid, swl, swh, sbl, sbh, shl, shh, sti⟩ = r) :
    Calls Try.prog 20 #[.agg #[.int .i64 sid, .int .i64 swl, .int .i64 swh, .int .i64 sbl, .int .i64 sbh, .int .i64 shl, .int .i64 shh, .int .i64 sti]] w (Ret w (.int .i64 r)) := by
  unfold Ret
  obtain ⟨b0, hb0⟩ : ∃ b, btw sid 1 999 = b := ⟨_, rfl⟩
  have H0 := hid hb0
  obtain ⟨b1, hb1⟩ : ∃ b, rgOk ⟨swl, swh⟩ 0 10000000 = b := ⟨_, rfl⟩
  have H1 := hid hb1
  obtain ⟨b2, hb2⟩ : ∃ b, rgOk ⟨sbl, sbh⟩ 0 10000000 = b := ⟨_, rfl⟩
  have H2 := hid hb2
  obtain ⟨b3, hb3⟩ : ∃ b, rgOk ⟨shl, shh⟩ 1 10000 = b := ⟨_, rfl⟩
  have H3 := hid hb3
  obtain ⟨b4, hb4⟩ : ∃ b, btw sti 0 200 = b := ⟨_, rfl⟩
  have H4 := hid hb4
  have hr : r = if (b0 && b1 && b2 && b3 && b4) = true then 0 else 30 := by rw [← hx]; unfold ckSg sgOk; dsimp only; simp [hb0, hb1, hb2, hb3, hb4]
  clear hx hb0 hb1 hb2 hb3 hb4
  cases b0
  · simp at hr
    subst hr
    go_enter Try.func20, Try.ntmps20
    go_wp2_with fail
    refine (bB H0.out).mono ?_
    rintro e w1 ⟨rfl, hb⟩
    replace hb0 := bnext (w := w) (by go_grown) hb; have hz := hb.size; (try simp only [World.size_alloc, World.size_setCell] at hz); replace q0 : w1.cell? ⟨w.heap.size, 0, none⟩ = some (.int .i64 sid) := bkeep hb (by first | (with_reducible exact q0) | (with_reducible exact akeep q0) | simp [*, go_sem]); replace q1 : w1.cell? ⟨w.heap.size, 1, none⟩ = some (.int .i64 swl) := bkeep hb (by first | (with_reducible exact q1) | (with_reducible exact akeep q1) | simp [*, go_sem]); replace q2 : w1.cell? ⟨w.heap.size, 2, none⟩ = some (.int .i64 swh) := bkeep hb (by first | (with_reducible exact q2) | (with_reducible exact akeep q2) | simp [*, go_sem]); replace q3 : w1.cell? ⟨w.heap.size, 3, none⟩ = some (.int .i64 sbl) := bkeep hb (by first | (with_reducible exact q3) | (with_reducible exact akeep q3) | simp [*, go_sem]); replace q4 : w1.cell? ⟨w.heap.size, 4, none⟩ = some (.int .i64 sbh) := bkeep hb (by first | (with_reducible exact q4) | (with_reducible exact akeep q4) | simp [*, go_sem]); replace q5 : w1.cell? ⟨w.heap.size, 5, none⟩ = some (.int .i64 shl) := bkeep hb (by first | (with_reducible exact q5) | (with_reducible exact akeep q5) | simp [*, go_sem]); replace q6 : w1.cell? ⟨w.heap.size, 6, none⟩ = some (.int .i64 shh) := bkeep hb (by first | (with_reducible exact q6) | (with_reducible exact akeep q6) | simp [*, go_sem]); replace q7 : w1.cell? ⟨w.heap.size, 7, none⟩ = some (.int .i64 sti) := bkeep hb (by first | (with_reducible exact q7) | (with_reducible exact akeep q7) | simp [*, go_sem]); skip
    clear hb
    go_wp2_with fail
    go_ret
    exact ⟨rfl, by first | exact hb0 | go_grown⟩
  · cases b1
    · simp at hr
      subst hr
      go_enter Try.func20, Try.ntmps20
      go_wp2_with fail
      refine (bB H0.out).mono ?_
      rintro e w1 ⟨rfl, hb⟩
      replace hb0 := bnext (w := w) (by go_grown) hb; have hz := hb.size; (try simp only [World.size_alloc, World.size_setCell] at hz); replace q0 : w1.cell? ⟨w.heap.size, 0, none⟩ = some (.int .i64 sid) := bkeep hb (by first | (with_reducible exact q0) | (with_reducible exact akeep q0) | simp [*, go_sem]); replace q1 : w1.cell? ⟨w.heap.size, 1, none⟩ = some (.int .i64 swl) := bkeep hb (by first | (with_reducible exact q1) | (with_reducible exact akeep q1) | simp [*, go_sem]); replace q2 : w1.cell? ⟨w.heap.size, 2, none⟩ = some (.int .i64 swh) := bkeep hb (by first | (with_reducible exact q2) | (with_reducible exact akeep q2) | simp [*, go_sem]); replace q3 : w1.cell? ⟨w.heap.size, 3, none⟩ = some (.int .i64 sbl) := bkeep hb (by first | (with_reducible exact q3) | (with_reducible exact akeep q3) | simp [*, go_sem]); replace q4 : w1.cell? ⟨w.heap.size, 4, none⟩ = some (.int .i64 sbh) := bkeep hb (by first | (with_reducible exact q4) | (with_reducible exact akeep q4) | simp [*, go_sem]); replace q5 : w1.cell? ⟨w.heap.size, 5, none⟩ = some (.int .i64 shl) := bkeep hb (by first | (with_reducible exact q5) | (with_reducible exact akeep q5) | simp [*, go_sem]); replace q6 : w1.cell? ⟨w.heap.size, 6, none⟩ = some (.int .i64 shh) := bkeep hb (by first | (with_reducible exact q6) | (with_reducible exact akeep q6) | simp [*, go_sem]); replace q7 : w1.cell? ⟨w.heap.size, 7, none⟩ = some (.int .i64 sti) := bkeep hb (by first | (with_reducible exact q7) | (with_reducible exact akeep q7) | simp [*, go_sem]); skip
      clear hb
      go_wp2_with fail
      refine (bR H1.out).mono ?_
      rintro e w1 ⟨rfl, hb⟩
      replace hb0 := bnext (w := w) (by go_grown) hb; have hz := hb.size; (try simp only [World.size_alloc, World.size_setCell] at hz); replace q0 : w1.cell? ⟨w.heap.size, 0, none⟩ = some (.int .i64 sid) := bkeep hb (by first | (with_reducible exact q0) | (with_reducible exact akeep q0) | simp [*, go_sem]); replace q1 : w1.cell? ⟨w.heap.size, 1, none⟩ = some (.int .i64 swl) := bkeep hb (by first | (with_reducible exact q1) | (with_reducible exact akeep q1) | simp [*, go_sem]); replace q2 : w1.cell? ⟨w.heap.size, 2, none⟩ = some (.int .i64 swh) := bkeep hb (by first | (with_reducible exact q2) | (with_reducible exact akeep q2) | simp [*, go_sem]); replace q3 : w1.cell? ⟨w.heap.size, 3, none⟩ = some (.int .i64 sbl) := bkeep hb (by first | (with_reducible exact q3) | (with_reducible exact akeep q3) | simp [*, go_sem]); replace q4 : w1.cell? ⟨w.heap.size, 4, none⟩ = some (.int .i64 sbh) := bkeep hb (by first | (with_reducible exact q4) | (with_reducible exact akeep q4) | simp [*, go_sem]); replace q5 : w1.cell? ⟨w.heap.size, 5, none⟩ = some (.int .i64 shl) := bkeep hb (by first | (with_reducible exact q5) | (with_reducible exact akeep q5) | simp [*, go_sem]); replace q6 : w1.cell? ⟨w.heap.size, 6, none⟩ = some (.int .i64 shh) := bkeep hb (by first | (with_reducible exact q6) | (with_reducible exact akeep q6) | simp [*, go_sem]); replace q7 : w1.cell? ⟨w.heap.size, 7, none⟩ = some (.int .i64 sti) := bkeep hb (by first | (with_reducible exact q7) | (with_reducible exact akeep q7) | simp [*, go_sem]); skip
      clear hb
      go_wp2_with fail
      go_ret
      exact ⟨rfl, by first | exact hb0 | go_grown⟩
    · cases b2
      · simp at hr
        subst hr
        go_enter Try.func20, Try.ntmps20
        go_wp2_with fail
        refine (bB H0.out).mono ?_
        rintro e w1 ⟨rfl, hb⟩
        replace hb0 := bnext (w := w) (by go_grown) hb; have hz := hb.size; (try simp only [World.size_alloc, World.size_setCell] at hz); replace q0 : w1.cell? ⟨w.heap.size, 0, none⟩ = some (.int .i64 sid) := bkeep hb (by first | (with_reducible exact q0) | (with_reducible exact akeep q0) | simp [*, go_sem]); replace q1 : w1.cell? ⟨w.heap.size, 1, none⟩ = some (.int .i64 swl) := bkeep hb (by first | (with_reducible exact q1) | (with_reducible exact akeep q1) | simp [*, go_sem]); replace q2 : w1.cell? ⟨w.heap.size, 2, none⟩ = some (.int .i64 swh) := bkeep hb (by first | (with_reducible exact q2) | (with_reducible exact akeep q2) | simp [*, go_sem]); replace q3 : w1.cell? ⟨w.heap.size, 3, none⟩ = some (.int .i64 sbl) := bkeep hb (by first | (with_reducible exact q3) | (with_reducible exact akeep q3) | simp [*, go_sem]); replace q4 : w1.cell? ⟨w.heap.size, 4, none⟩ = some (.int .i64 sbh) := bkeep hb (by first | (with_reducible exact q4) | (with_reducible exact akeep q4) | simp [*, go_sem]); replace q5 : w1.cell? ⟨w.heap.size, 5, none⟩ = some (.int .i64 shl) := bkeep hb (by first | (with_reducible exact q5) | (with_reducible exact akeep q5) | simp [*, go_sem]); replace q6 : w1.cell? ⟨w.heap.size, 6, none⟩ = some (.int .i64 shh) := bkeep hb (by first | (with_reducible exact q6) | (with_reducible exact akeep q6) | simp [*, go_sem]); replace q7 : w1.cell? ⟨w.heap.size, 7, none⟩ = some (.int .i64 sti) := bkeep hb (by first | (with_reducible exact q7) | (with_reducible exact akeep q7) | simp [*, go_sem]); skip
        clear hb
        go_wp2_with fail
        refine (bR H1.out).mono ?_
        rintro e w1 ⟨rfl, hb⟩
        replace hb0 := bnext (w := w) (by go_grown) hb; have hz := hb.size; (try simp only [World.size_alloc, World.size_setCell] at hz); replace q0 : w1.cell? ⟨w.heap.size, 0, none⟩ = some (.int .i64 sid) := bkeep hb (by first | (with_reducible exact q0) | (with_reducible exact akeep q0) | simp [*, go_sem]); replace q1 : w1.cell? ⟨w.heap.size, 1, none⟩ = some (.int .i64 swl) := bkeep hb (by first | (with_reducible exact q1) | (with_reducible exact akeep q1) | simp [*, go_sem]); replace q2 : w1.cell? ⟨w.heap.size, 2, none⟩ = some (.int .i64 swh) := bkeep hb (by first | (with_reducible exact q2) | (with_reducible exact akeep q2) | simp [*, go_sem]); replace q3 : w1.cell? ⟨w.heap.size, 3, none⟩ = some (.int .i64 sbl) := bkeep hb (by first | (with_reducible exact q3) | (with_reducible exact akeep q3) | simp [*, go_sem]); replace q4 : w1.cell? ⟨w.heap.size, 4, none⟩ = some (.int .i64 sbh) := bkeep hb (by first | (with_reducible exact q4) | (with_reducible exact akeep q4) | simp [*, go_sem]); replace q5 : w1.cell? ⟨w.heap.size, 5, none⟩ = some (.int .i64 shl) := bkeep hb (by first | (with_reducible exact q5) | (with_reducible exact akeep q5) | simp [*, go_sem]); replace q6 : w1.cell? ⟨w.heap.size, 6, none⟩ = some (.int .i64 shh) := bkeep hb (by first | (with_reducible exact q6) | (with_reducible exact akeep q6) | simp [*, go_sem]); replace q7 : w1.cell? ⟨w.heap.size, 7, none⟩ = some (.int .i64 sti) := bkeep hb (by first | (with_reducible exact q7) | (with_reducible exact akeep q7) | simp [*, go_sem]); skip
        clear hb
        go_wp2_with fail
        refine (bR H2.out).mono ?_
        rintro e w1 ⟨rfl, hb⟩
        replace hb0 := bnext (w := w) (by go_grown) hb; have hz := hb.size; (try simp only [World.size_alloc, World.size_setCell] at hz); replace q0 : w1.cell? ⟨w.heap.size, 0, none⟩ = some (.int .i64 sid) := bkeep hb (by first | (with_reducible exact q0) | (with_reducible exact akeep q0) | simp [*, go_sem]); replace q1 : w1.cell? ⟨w.heap.size, 1, none⟩ = some (.int .i64 swl) := bkeep hb (by first | (with_reducible exact q1) | (with_reducible exact akeep q1) | simp [*, go_sem]); replace q2 : w1.cell? ⟨w.heap.size, 2, none⟩ = some (.int .i64 swh) := bkeep hb (by first | (with_reducible exact q2) | (with_reducible exact akeep q2) | simp [*, go_sem]); replace q3 : w1.cell? ⟨w.heap.size, 3, none⟩ = some (.int .i64 sbl) := bkeep hb (by first | (with_reducible exact q3) | (with_reducible exact akeep q3) | simp [*, go_sem]); replace q4 : w1.cell? ⟨w.heap.size, 4, none⟩ = some (.int .i64 sbh) := bkeep hb (by first | (with_reducible exact q4) | (with_reducible exact akeep q4) | simp [*, go_sem]); replace q5 : w1.cell? ⟨w.heap.size, 5, none⟩ = some (.int .i64 shl) := bkeep hb (by first | (with_reducible exact q5) | (with_reducible exact akeep q5) | simp [*, go_sem]); replace q6 : w1.cell? ⟨w.heap.size, 6, none⟩ = some (.int .i64 shh) := bkeep hb (by first | (with_reducible exact q6) | (with_reducible exact akeep q6) | simp [*, go_sem]); replace q7 : w1.cell? ⟨w.heap.size, 7, none⟩ = some (.int .i64 sti) := bkeep hb (by first | (with_reducible exact q7) | (with_reducible exact akeep q7) | simp [*, go_sem]); skip
        clear hb
        go_wp2_with fail
        go_ret
        exact ⟨rfl, by first | exact hb0 | go_grown⟩
      · cases b3
        · simp at hr
          subst hr
          go_enter Try.func20, Try.ntmps20
          go_wp2_with fail
          refine (bB H0.out).mono ?_
          rintro e w1 ⟨rfl, hb⟩
          replace hb0 := bnext (w := w) (by go_grown) hb; have hz := hb.size; (try simp only [World.size_alloc, World.size_setCell] at hz); replace q0 : w1.cell? ⟨w.heap.size, 0, none⟩ = some (.int .i64 sid) := bkeep hb (by first | (with_reducible exact q0) | (with_reducible exact akeep q0) | simp [*, go_sem]); replace q1 : w1.cell? ⟨w.heap.size, 1, none⟩ = some (.int .i64 swl) := bkeep hb (by first | (with_reducible exact q1) | (with_reducible exact akeep q1) | simp [*, go_sem]); replace q2 : w1.cell? ⟨w.heap.size, 2, none⟩ = some (.int .i64 swh) := bkeep hb (by first | (with_reducible exact q2) | (with_reducible exact akeep q2) | simp [*, go_sem]); replace q3 : w1.cell? ⟨w.heap.size, 3, none⟩ = some (.int .i64 sbl) := bkeep hb (by first | (with_reducible exact q3) | (with_reducible exact akeep q3) | simp [*, go_sem]); replace q4 : w1.cell? ⟨w.heap.size, 4, none⟩ = some (.int .i64 sbh) := bkeep hb (by first | (with_reducible exact q4) | (with_reducible exact akeep q4) | simp [*, go_sem]); replace q5 : w1.cell? ⟨w.heap.size, 5, none⟩ = some (.int .i64 shl) := bkeep hb (by first | (with_reducible exact q5) | (with_reducible exact akeep q5) | simp [*, go_sem]); replace q6 : w1.cell? ⟨w.heap.size, 6, none⟩ = some (.int .i64 shh) := bkeep hb (by first | (with_reducible exact q6) | (with_reducible exact akeep q6) | simp [*, go_sem]); replace q7 : w1.cell? ⟨w.heap.size, 7, none⟩ = some (.int .i64 sti) := bkeep hb (by first | (with_reducible exact q7) | (with_reducible exact akeep q7) | simp [*, go_sem]); skip
          clear hb
          go_wp2_with fail
          refine (bR H1.out).mono ?_
          rintro e w1 ⟨rfl, hb⟩
          replace hb0 := bnext (w := w) (by go_grown) hb; have hz := hb.size; (try simp only [World.size_alloc, World.size_setCell] at hz); replace q0 : w1.cell? ⟨w.heap.size, 0, none⟩ = some (.int .i64 sid) := bkeep hb (by first | (with_reducible exact q0) | (with_reducible exact akeep q0) | simp [*, go_sem]); replace q1 : w1.cell? ⟨w.heap.size, 1, none⟩ = some (.int .i64 swl) := bkeep hb (by first | (with_reducible exact q1) | (with_reducible exact akeep q1) | simp [*, go_sem]); replace q2 : w1.cell? ⟨w.heap.size, 2, none⟩ = some (.int .i64 swh) := bkeep hb (by first | (with_reducible exact q2) | (with_reducible exact akeep q2) | simp [*, go_sem]); replace q3 : w1.cell? ⟨w.heap.size, 3, none⟩ = some (.int .i64 sbl) := bkeep hb (by first | (with_reducible exact q3) | (with_reducible exact akeep q3) | simp [*, go_sem]); replace q4 : w1.cell? ⟨w.heap.size, 4, none⟩ = some (.int .i64 sbh) := bkeep hb (by first | (with_reducible exact q4) | (with_reducible exact akeep q4) | simp [*, go_sem]); replace q5 : w1.cell? ⟨w.heap.size, 5, none⟩ = some (.int .i64 shl) := bkeep hb (by first | (with_reducible exact q5) | (with_reducible exact akeep q5) | simp [*, go_sem]); replace q6 : w1.cell? ⟨w.heap.size, 6, none⟩ = some (.int .i64 shh) := bkeep hb (by first | (with_reducible exact q6) | (with_reducible exact akeep q6) | simp [*, go_sem]); replace q7 : w1.cell? ⟨w.heap.size, 7, none⟩ = some (.int .i64 sti) := bkeep hb (by first | (with_reducible exact q7) | (with_reducible exact akeep q7) | simp [*, go_sem]); skip
          clear hb
          go_wp2_with fail
          refine (bR H2.out).mono ?_
          rintro e w1 ⟨rfl, hb⟩
          replace hb0 := bnext (w := w) (by go_grown) hb; have hz := hb.size; (try simp only [World.size_alloc, World.size_setCell] at hz); replace q0 : w1.cell? ⟨w.heap.size, 0, none⟩ = some (.int .i64 sid) := bkeep hb (by first | (with_reducible exact q0) | (with_reducible exact akeep q0) | simp [*, go_sem]); replace q1 : w1.cell? ⟨w.heap.size, 1, none⟩ = some (.int .i64 swl) := bkeep hb (by first | (with_reducible exact q1) | (with_reducible exact akeep q1) | simp [*, go_sem]); replace q2 : w1.cell? ⟨w.heap.size, 2, none⟩ = some (.int .i64 swh) := bkeep hb (by first | (with_reducible exact q2) | (with_reducible exact akeep q2) | simp [*, go_sem]); replace q3 : w1.cell? ⟨w.heap.size, 3, none⟩ = some (.int .i64 sbl) := bkeep hb (by first | (with_reducible exact q3) | (with_reducible exact akeep q3) | simp [*, go_sem]); replace q4 : w1.cell? ⟨w.heap.size, 4, none⟩ = some (.int .i64 sbh) := bkeep hb (by first | (with_reducible exact q4) | (with_reducible exact akeep q4) | simp [*, go_sem]); replace q5 : w1.cell? ⟨w.heap.size, 5, none⟩ = some (.int .i64 shl) := bkeep hb (by first | (with_reducible exact q5) | (with_reducible exact akeep q5) | simp [*, go_sem]); replace q6 : w1.cell? ⟨w.heap.size, 6, none⟩ = some (.int .i64 shh) := bkeep hb (by first | (with_reducible exact q6) | (with_reducible exact akeep q6) | simp [*, go_sem]); replace q7 : w1.cell? ⟨w.heap.size, 7, none⟩ = some (.int .i64 sti) := bkeep hb (by first | (with_reducible exact q7) | (with_reducible exact akeep q7) | simp [*, go_sem]); skip
          clear hb
          go_wp2_with fail
          refine (bR H3.out).mono ?_
          rintro e w1 ⟨rfl, hb⟩
          replace hb0 := bnext (w := w) (by go_grown) hb; have hz := hb.size; (try simp only [World.size_alloc, World.size_setCell] at hz); replace q0 : w1.cell? ⟨w.heap.size, 0, none⟩ = some (.int .i64 sid) := bkeep hb (by first | (with_reducible exact q0) | (with_reducible exact akeep q0) | simp [*, go_sem]); replace q1 : w1.cell? ⟨w.heap.size, 1, none⟩ = some (.int .i64 swl) := bkeep hb (by first | (with_reducible exact q1) | (with_reducible exact akeep q1) | simp [*, go_sem]); replace q2 : w1.cell? ⟨w.heap.size, 2, none⟩ = some (.int .i64 swh) := bkeep hb (by first | (with_reducible exact q2) | (with_reducible exact akeep q2) | simp [*, go_sem]); replace q3 : w1.cell? ⟨w.heap.size, 3, none⟩ = some (.int .i64 sbl) := bkeep hb (by first | (with_reducible exact q3) | (with_reducible exact akeep q3) | simp [*, go_sem]); replace q4 : w1.cell? ⟨w.heap.size, 4, none⟩ = some (.int .i64 sbh) := bkeep hb (by first | (with_reducible exact q4) | (with_reducible exact akeep q4) | simp [*, go_sem]); replace q5 : w1.cell? ⟨w.heap.size, 5, none⟩ = some (.int .i64 shl) := bkeep hb (by first | (with_reducible exact q5) | (with_reducible exact akeep q5) | simp [*, go_sem]); replace q6 : w1.cell? ⟨w.heap.size, 6, none⟩ = some (.int .i64 shh) := bkeep hb (by first | (with_reducible exact q6) | (with_reducible exact akeep q6) | simp [*, go_sem]); replace q7 : w1.cell? ⟨w.heap.size, 7, none⟩ = some (.int .i64 sti) := bkeep hb (by first | (with_reducible exact q7) | (with_reducible exact akeep q7) | simp [*, go_sem]); skip
          clear hb
          go_wp2_with fail
          go_ret
          exact ⟨rfl, by first | exact hb0 | go_grown⟩
        · cases b4
          · simp at hr
            subst hr
            go_enter Try.func20, Try.ntmps20
            go_wp2_with fail
            refine (bB H0.out).mono ?_
            rintro e w1 ⟨rfl, hb⟩
            replace hb0 := bnext (w := w) (by go_grown) hb; have hz := hb.size; (try simp only [World.size_alloc, World.size_setCell] at hz); replace q0 : w1.cell? ⟨w.heap.size, 0, none⟩ = some (.int .i64 sid) := bkeep hb (by first | (with_reducible exact q0) | (with_reducible exact akeep q0) | simp [*, go_sem]); replace q1 : w1.cell? ⟨w.heap.size, 1, none⟩ = some (.int .i64 swl) := bkeep hb (by first | (with_reducible exact q1) | (with_reducible exact akeep q1) | simp [*, go_sem]); replace q2 : w1.cell? ⟨w.heap.size, 2, none⟩ = some (.int .i64 swh) := bkeep hb (by first | (with_reducible exact q2) | (with_reducible exact akeep q2) | simp [*, go_sem]); replace q3 : w1.cell? ⟨w.heap.size, 3, none⟩ = some (.int .i64 sbl) := bkeep hb (by first | (with_reducible exact q3) | (with_reducible exact akeep q3) | simp [*, go_sem]); replace q4 : w1.cell? ⟨w.heap.size, 4, none⟩ = some (.int .i64 sbh) := bkeep hb (by first | (with_reducible exact q4) | (with_reducible exact akeep q4) | simp [*, go_sem]); replace q5 : w1.cell? ⟨w.heap.size, 5, none⟩ = some (.int .i64 shl) := bkeep hb (by first | (with_reducible exact q5) | (with_reducible exact akeep q5) | simp [*, go_sem]); replace q6 : w1.cell? ⟨w.heap.size, 6, none⟩ = some (.int .i64 shh) := bkeep hb (by first | (with_reducible exact q6) | (with_reducible exact akeep q6) | simp [*, go_sem]); replace q7 : w1.cell? ⟨w.heap.size, 7, none⟩ = some (.int .i64 sti) := bkeep hb (by first | (with_reducible exact q7) | (with_reducible exact akeep q7) | simp [*, go_sem]); skip
            clear hb
            go_wp2_with fail
            refine (bR H1.out).mono ?_
            rintro e w1 ⟨rfl, hb⟩
            replace hb0 := bnext (w := w) (by go_grown) hb; have hz := hb.size; (try simp only [World.size_alloc, World.size_setCell] at hz); replace q0 : w1.cell? ⟨w.heap.size, 0, none⟩ = some (.int .i64 sid) := bkeep hb (by first | (with_reducible exact q0) | (with_reducible exact akeep q0) | simp [*, go_sem]); replace q1 : w1.cell? ⟨w.heap.size, 1, none⟩ = some (.int .i64 swl) := bkeep hb (by first | (with_reducible exact q1) | (with_reducible exact akeep q1) | simp [*, go_sem]); replace q2 : w1.cell? ⟨w.heap.size, 2, none⟩ = some (.int .i64 swh) := bkeep hb (by first | (with_reducible exact q2) | (with_reducible exact akeep q2) | simp [*, go_sem]); replace q3 : w1.cell? ⟨w.heap.size, 3, none⟩ = some (.int .i64 sbl) := bkeep hb (by first | (with_reducible exact q3) | (with_reducible exact akeep q3) | simp [*, go_sem]); replace q4 : w1.cell? ⟨w.heap.size, 4, none⟩ = some (.int .i64 sbh) := bkeep hb (by first | (with_reducible exact q4) | (with_reducible exact akeep q4) | simp [*, go_sem]); replace q5 : w1.cell? ⟨w.heap.size, 5, none⟩ = some (.int .i64 shl) := bkeep hb (by first | (with_reducible exact q5) | (with_reducible exact akeep q5) | simp [*, go_sem]); replace q6 : w1.cell? ⟨w.heap.size, 6, none⟩ = some (.int .i64 shh) := bkeep hb (by first | (with_reducible exact q6) | (with_reducible exact akeep q6) | simp [*, go_sem]); replace q7 : w1.cell? ⟨w.heap.size, 7, none⟩ = some (.int .i64 sti) := bkeep hb (by first | (with_reducible exact q7) | (with_reducible exact akeep q7) | simp [*, go_sem]); skip
            clear hb
            go_wp2_with fail
            refine (bR H2.out).mono ?_
            rintro e w1 ⟨rfl, hb⟩
            replace hb0 := bnext (w := w) (by go_grown) hb; have hz := hb.size; (try simp only [World.size_alloc, World.size_setCell] at hz); replace q0 : w1.cell? ⟨w.heap.size, 0, none⟩ = some (.int .i64 sid) := bkeep hb (by first | (with_reducible exact q0) | (with_reducible exact akeep q0) | simp [*, go_sem]); replace q1 : w1.cell? ⟨w.heap.size, 1, none⟩ = some (.int .i64 swl) := bkeep hb (by first | (with_reducible exact q1) | (with_reducible exact akeep q1) | simp [*, go_sem]); replace q2 : w1.cell? ⟨w.heap.size, 2, none⟩ = some (.int .i64 swh) := bkeep hb (by first | (with_reducible exact q2) | (with_reducible exact akeep q2) | simp [*, go_sem]); replace q3 : w1.cell? ⟨w.heap.size, 3, none⟩ = some (.int .i64 sbl) := bkeep hb (by first | (with_reducible exact q3) | (with_reducible exact akeep q3) | simp [*, go_sem]); replace q4 : w1.cell? ⟨w.heap.size, 4, none⟩ = some (.int .i64 sbh) := bkeep hb (by first | (with_reducible exact q4) | (with_reducible exact akeep q4) | simp [*, go_sem]); replace q5 : w1.cell? ⟨w.heap.size, 5, none⟩ = some (.int .i64 shl) := bkeep hb (by first | (with_reducible exact q5) | (with_reducible exact akeep q5) | simp [*, go_sem]); replace q6 : w1.cell? ⟨w.heap.size, 6, none⟩ = some (.int .i64 shh) := bkeep hb (by first | (with_reducible exact q6) | (with_reducible exact akeep q6) | simp [*, go_sem]); replace q7 : w1.cell? ⟨w.heap.size, 7, none⟩ = some (.int .i64 sti) := bkeep hb (by first | (with_reducible exact q7) | (with_reducible exact akeep q7) | simp [*, go_sem]); skip
            clear hb
            go_wp2_with fail
            refine (bR H3.out).mono ?_
            rintro e w1 ⟨rfl, hb⟩
            replace hb0 := bnext (w := w) (by go_grown) hb; have hz := hb.size; (try simp only [World.size_alloc, World.size_setCell] at hz); replace q0 : w1.cell? ⟨w.heap.size, 0, none⟩ = some (.int .i64 sid) := bkeep hb (by first | (with_reducible exact q0) | (with_reducible exact akeep q0) | simp [*, go_sem]); replace q1 : w1.cell? ⟨w.heap.size, 1, none⟩ = some (.int .i64 swl) := bkeep hb (by first | (with_reducible exact q1) | (with_reducible exact akeep q1) | simp [*, go_sem]); replace q2 : w1.cell? ⟨w.heap.size, 2, none⟩ = some (.int .i64 swh) := bkeep hb (by first | (with_reducible exact q2) | (with_reducible exact akeep q2) | simp [*, go_sem]); replace q3 : w1.cell? ⟨w.heap.size, 3, none⟩ = some (.int .i64 sbl) := bkeep hb (by first | (with_reducible exact q3) | (with_reducible exact akeep q3) | simp [*, go_sem]); replace q4 : w1.cell? ⟨w.heap.size, 4, none⟩ = some (.int .i64 sbh) := bkeep hb (by first | (with_reducible exact q4) | (with_reducible exact akeep q4) | simp [*, go_sem]); replace q5 : w1.cell? ⟨w.heap.size, 5, none⟩ = some (.int .i64 shl) := bkeep hb (by first | (with_reducible exact q5) | (with_reducible exact akeep q5) | simp [*, go_sem]); replace q6 : w1.cell? ⟨w.heap.size, 6, none⟩ = some (.int .i64 shh) := bkeep hb (by first | (with_reducible exact q6) | (with_reducible exact akeep q6) | simp [*, go_sem]); replace q7 : w1.cell? ⟨w.heap.size, 7, none⟩ = some (.int .i64 sti) := bkeep hb (by first | (with_reducible exact q7) | (with_reducible exact akeep q7) | simp [*, go_sem]); skip
            clear hb
            go_wp2_with fail
            refine (bB H4.out).mono ?_
            rintro e w1 ⟨rfl, hb⟩
            replace hb0 := bnext (w := w) (by go_grown) hb; have hz := hb.size; (try simp only [World.size_alloc, World.size_setCell] at hz); replace q0 : w1.cell? ⟨w.heap.size, 0, none⟩ = some (.int .i64 sid) := bkeep hb (by first | (with_reducible exact q0) | (with_reducible exact akeep q0) | simp [*, go_sem]); replace q1 : w1.cell? ⟨w.heap.size, 1, none⟩ = some (.int .i64 swl) := bkeep hb (by first | (with_reducible exact q1) | (with_reducible exact akeep q1) | simp [*, go_sem]); replace q2 : w1.cell? ⟨w.heap.size, 2, none⟩ = some (.int .i64 swh) := bkeep hb (by first | (with_reducible exact q2) | (with_reducible exact akeep q2) | simp [*, go_sem]); replace q3 : w1.cell? ⟨w.heap.size, 3, none⟩ = some (.int .i64 sbl) := bkeep hb (by first | (with_reducible exact q3) | (with_reducible exact akeep q3) | simp [*, go_sem]); replace q4 : w1.cell? ⟨w.heap.size, 4, none⟩ = some (.int .i64 sbh) := bkeep hb (by first | (with_reducible exact q4) | (with_reducible exact akeep q4) | simp [*, go_sem]); replace q5 : w1.cell? ⟨w.heap.size, 5, none⟩ = some (.int .i64 shl) := bkeep hb (by first | (with_reducible exact q5) | (with_reducible exact akeep q5) | simp [*, go_sem]); replace q6 : w1.cell? ⟨w.heap.size, 6, none⟩ = some (.int .i64 shh) := bkeep hb (by first | (with_reducible exact q6) | (with_reducible exact akeep q6) | simp [*, go_sem]); replace q7 : w1.cell? ⟨w.heap.size, 7, none⟩ = some (.int .i64 sti) := bkeep hb (by first | (with_reducible exact q7) | (with_reducible exact akeep q7) | simp [*, go_sem]); skip
            clear hb
            go_wp2_with fail
            go_ret
            exact ⟨rfl, by first | exact hb0 | go_grown⟩
          · simp at hr
            subst hr
            go_enter Try.func20, Try.ntmps20
            go_wp2_with fail
            refine (bB H0.out).mono ?_
            rintro e w1 ⟨rfl, hb⟩
            replace hb0 := bnext (w := w) (by go_grown) hb; have hz := hb.size; (try simp only [World.size_alloc, World.size_setCell] at hz); replace q0 : w1.cell? ⟨w.heap.size, 0, none⟩ = some (.int .i64 sid) := bkeep hb (by first | (with_reducible exact q0) | (with_reducible exact akeep q0) | simp [*, go_sem]); replace q1 : w1.cell? ⟨w.heap.size, 1, none⟩ = some (.int .i64 swl) := bkeep hb (by first | (with_reducible exact q1) | (with_reducible exact akeep q1) | simp [*, go_sem]); replace q2 : w1.cell? ⟨w.heap.size, 2, none⟩ = some (.int .i64 swh) := bkeep hb (by first | (with_reducible exact q2) | (with_reducible exact akeep q2) | simp [*, go_sem]); replace q3 : w1.cell? ⟨w.heap.size, 3, none⟩ = some (.int .i64 sbl) := bkeep hb (by first | (with_reducible exact q3) | (with_reducible exact akeep q3) | simp [*, go_sem]); replace q4 : w1.cell? ⟨w.heap.size, 4, none⟩ = some (.int .i64 sbh) := bkeep hb (by first | (with_reducible exact q4) | (with_reducible exact akeep q4) | simp [*, go_sem]); replace q5 : w1.cell? ⟨w.heap.size, 5, none⟩ = some (.int .i64 shl) := bkeep hb (by first | (with_reducible exact q5) | (with_reducible exact akeep q5) | simp [*, go_sem]); replace q6 : w1.cell? ⟨w.heap.size, 6, none⟩ = some (.int .i64 shh) := bkeep hb (by first | (with_reducible exact q6) | (with_reducible exact akeep q6) | simp [*, go_sem]); replace q7 : w1.cell? ⟨w.heap.size, 7, none⟩ = some (.int .i64 sti) := bkeep hb (by first | (with_reducible exact q7) | (with_reducible exact akeep q7) | simp [*, go_sem]); skip
            clear hb
            go_wp2_with fail
            refine (bR H1.out).mono ?_
            rintro e w1 ⟨rfl, hb⟩
            replace hb0 := bnext (w := w) (by go_grown) hb; have hz := hb.size; (try simp only [World.size_alloc, World.size_setCell] at hz); replace q0 : w1.cell? ⟨w.heap.size, 0, none⟩ = some (.int .i64 sid) := bkeep hb (by first | (with_reducible exact q0) | (with_reducible exact akeep q0) | simp [*, go_sem]); replace q1 : w1.cell? ⟨w.heap.size, 1, none⟩ = some (.int .i64 swl) := bkeep hb (by first | (with_reducible exact q1) | (with_reducible exact akeep q1) | simp [*, go_sem]); replace q2 : w1.cell? ⟨w.heap.size, 2, none⟩ = some (.int .i64 swh) := bkeep hb (by first | (with_reducible exact q2) | (with_reducible exact akeep q2) | simp [*, go_sem]); replace q3 : w1.cell? ⟨w.heap.size, 3, none⟩ = some (.int .i64 sbl) := bkeep hb (by first | (with_reducible exact q3) | (with_reducible exact akeep q3) | simp [*, go_sem]); replace q4 : w1.cell? ⟨w.heap.size, 4, none⟩ = some (.int .i64 sbh) := bkeep hb (by first | (with_reducible exact q4) | (with_reducible exact akeep q4) | simp [*, go_sem]); replace q5 : w1.cell? ⟨w.heap.size, 5, none⟩ = some (.int .i64 shl) := bkeep hb (by first | (with_reducible exact q5) | (with_reducible exact akeep q5) | simp [*, go_sem]); replace q6 : w1.cell? ⟨w.heap.size, 6, none⟩ = some (.int .i64 shh) := bkeep hb (by first | (with_reducible exact q6) | (with_reducible exact akeep q6) | simp [*, go_sem]); replace q7 : w1.cell? ⟨w.heap.size, 7, none⟩ = some (.int .i64 sti) := bkeep hb (by first | (with_reducible exact q7) | (with_reducible exact akeep q7) | simp [*, go_sem]); skip
            clear hb
            go_wp2_with fail
            refine (bR H2.out).mono ?_
            rintro e w1 ⟨rfl, hb⟩
            replace hb0 := bnext (w := w) (by go_grown) hb; have hz := hb.size; (try simp only [World.size_alloc, World.size_setCell] at hz); replace q0 : w1.cell? ⟨w.heap.size, 0, none⟩ = some (.int .i64 sid) := bkeep hb (by first | (with_reducible exact q0) | (with_reducible exact akeep q0) | simp [*, go_sem]); replace q1 : w1.cell? ⟨w.heap.size, 1, none⟩ = some (.int .i64 swl) := bkeep hb (by first | (with_reducible exact q1) | (with_reducible exact akeep q1) | simp [*, go_sem]); replace q2 : w1.cell? ⟨w.heap.size, 2, none⟩ = some (.int .i64 swh) := bkeep hb (by first | (with_reducible exact q2) | (with_reducible exact akeep q2) | simp [*, go_sem]); replace q3 : w1.cell? ⟨w.heap.size, 3, none⟩ = some (.int .i64 sbl) := bkeep hb (by first | (with_reducible exact q3) | (with_reducible exact akeep q3) | simp [*, go_sem]); replace q4 : w1.cell? ⟨w.heap.size, 4, none⟩ = some (.int .i64 sbh) := bkeep hb (by first | (with_reducible exact q4) | (with_reducible exact akeep q4) | simp [*, go_sem]); replace q5 : w1.cell? ⟨w.heap.size, 5, none⟩ = some (.int .i64 shl) := bkeep hb (by first | (with_reducible exact q5) | (with_reducible exact akeep q5) | simp [*, go_sem]); replace q6 : w1.cell? ⟨w.heap.size, 6, none⟩ = some (.int .i64 shh) := bkeep hb (by first | (with_reducible exact q6) | (with_reducible exact akeep q6) | simp [*, go_sem]); replace q7 : w1.cell? ⟨w.heap.size, 7, none⟩ = some (.int .i64 sti) := bkeep hb (by first | (with_reducible exact q7) | (with_reducible exact akeep q7) | simp [*, go_sem]); skip
            clear hb
            go_wp2_with fail
            refine (bR H3.out).mono ?_
            rintro e w1 ⟨rfl, hb⟩
            replace hb0 := bnext (w := w) (by go_grown) hb; have hz := hb.size; (try simp only [World.size_alloc, World.size_setCell] at hz); replace q0 : w1.cell? ⟨w.heap.size, 0, none⟩ = some (.int .i64 sid) := bkeep hb (by first | (with_reducible exact q0) | (with_reducible exact akeep q0) | simp [*, go_sem]); replace q1 : w1.cell? ⟨w.heap.size, 1, none⟩ = some (.int .i64 swl) := bkeep hb (by first | (with_reducible exact q1) | (with_reducible exact akeep q1) | simp [*, go_sem]); replace q2 : w1.cell? ⟨w.heap.size, 2, none⟩ = some (.int .i64 swh) := bkeep hb (by first | (with_reducible exact q2) | (with_reducible exact akeep q2) | simp [*, go_sem]); replace q3 : w1.cell? ⟨w.heap.size, 3, none⟩ = some (.int .i64 sbl) := bkeep hb (by first | (with_reducible exact q3) | (with_reducible exact akeep q3) | simp [*, go_sem]); replace q4 : w1.cell? ⟨w.heap.size, 4, none⟩ = some (.int .i64 sbh) := bkeep hb (by first | (with_reducible exact q4) | (with_reducible exact akeep q4) | simp [*, go_sem]); replace q5 : w1.cell? ⟨w.heap.size, 5, none⟩ = some (.int .i64 shl) := bkeep hb (by first | (with_reducible exact q5) | (with_reducible exact akeep q5) | simp [*, go_sem]); replace q6 : w1.cell? ⟨w.heap.size, 6, none⟩ = some (.int .i64 shh) := bkeep hb (by first | (with_reducible exact q6) | (with_reducible exact akeep q6) | simp [*, go_sem]); replace q7 : w1.cell? ⟨w.heap.size, 7, none⟩ = some (.int .i64 sti) := bkeep hb (by first | (with_reducible exact q7) | (with_reducible exact akeep q7) | simp [*, go_sem]); skip
            clear hb
            go_wp2_with fail
            refine (bB H4.out).mono ?_
            rintro e w1 ⟨rfl, hb⟩
            replace hb0 := bnext (w := w) (by go_grown) hb; have hz := hb.size; (try simp only [World.size_alloc, World.size_setCell] at hz); replace q0 : w1.cell? ⟨w.heap.size, 0, none⟩ = some (.int .i64 sid) := bkeep hb (by first | (with_reducible exact q0) | (with_reducible exact akeep q0) | simp [*, go_sem]); replace q1 : w1.cell? ⟨w.heap.size, 1, none⟩ = some (.int .i64 swl) := bkeep hb (by first | (with_reducible exact q1) | (with_reducible exact akeep q1) | simp [*, go_sem]); replace q2 : w1.cell? ⟨w.heap.size, 2, none⟩ = some (.int .i64 swh) := bkeep hb (by first | (with_reducible exact q2) | (with_reducible exact akeep q2) | simp [*, go_sem]); replace q3 : w1.cell? ⟨w.heap.size, 3, none⟩ = some (.int .i64 sbl) := bkeep hb (by first | (with_reducible exact q3) | (with_reducible exact akeep q3) | simp [*, go_sem]); replace q4 : w1.cell? ⟨w.heap.size, 4, none⟩ = some (.int .i64 sbh) := bkeep hb (by first | (with_reducible exact q4) | (with_reducible exact akeep q4) | simp [*, go_sem]); replace q5 : w1.cell? ⟨w.heap.size, 5, none⟩ = some (.int .i64 shl) := bkeep hb (by first | (with_reducible exact q5) | (with_reducible exact akeep q5) | simp [*, go_sem]); replace q6 : w1.cell? ⟨w.heap.size, 6, none⟩ = some (.int .i64 shh) := bkeep hb (by first | (with_reducible exact q6) | (with_reducible exact akeep q6) | simp [*, go_sem]); replace q7 : w1.cell? ⟨w.heap.size, 7, none⟩ = some (.int .i64 sti) := bkeep hb (by first | (with_reducible exact q7) | (with_reducible exact akeep q7) | simp [*, go_sem]); skip
            clear hb
            go_wp2_with fail
            go_ret
            exact ⟨rfl, by first | exact hb0 | go_grown⟩

set_option maxRecDepth 100000 in
set_option maxHeartbeats 400000 in
theorem ckSp_any {w : World} {cr le r : Int} (hx : ckSp cr le = r) :
    Calls Try.prog 26 #[.agg #[.int .i64 cr, .int .i64 le]] w (Ret w (.int .i64 r)) := by
  unfold Ret
  obtain ⟨b0, hb0⟩ : ∃ b, btw cr 0 400000 = b := ⟨_, rfl⟩
  have H0 := hid hb0
  obtain ⟨b1, hb1⟩ : ∃ b, btw le 0 100000 = b := ⟨_, rfl⟩
  have H1 := hid hb1
  have hr : r = if (b0 && b1) = true then 0 else 33 := by rw [← hx]; unfold ckSp; simp [hb0, hb1]
  clear hx hb0 hb1
  cases b0
  · simp at hr
    subst hr
    go_enter Try.func26, Try.ntmps26
    go_wp2_with fail
    refine (bB H0.out).mono ?_
    rintro e w1 ⟨rfl, hb⟩
    replace hb0 := bnext (w := w) (by go_grown) hb; have hz := hb.size; (try simp only [World.size_alloc, World.size_setCell] at hz); replace q0 : w1.cell? ⟨w.heap.size, 0, none⟩ = some (.int .i64 cr) := bkeep hb (by first | (with_reducible exact q0) | (with_reducible exact akeep q0) | simp [*, go_sem]); replace q1 : w1.cell? ⟨w.heap.size, 1, none⟩ = some (.int .i64 le) := bkeep hb (by first | (with_reducible exact q1) | (with_reducible exact akeep q1) | simp [*, go_sem]); skip
    clear hb
    go_wp2_with fail
    go_ret
    exact ⟨rfl, by first | exact hb0 | go_grown⟩
  · cases b1
    · simp at hr
      subst hr
      go_enter Try.func26, Try.ntmps26
      go_wp2_with fail
      refine (bB H0.out).mono ?_
      rintro e w1 ⟨rfl, hb⟩
      replace hb0 := bnext (w := w) (by go_grown) hb; have hz := hb.size; (try simp only [World.size_alloc, World.size_setCell] at hz); replace q0 : w1.cell? ⟨w.heap.size, 0, none⟩ = some (.int .i64 cr) := bkeep hb (by first | (with_reducible exact q0) | (with_reducible exact akeep q0) | simp [*, go_sem]); replace q1 : w1.cell? ⟨w.heap.size, 1, none⟩ = some (.int .i64 le) := bkeep hb (by first | (with_reducible exact q1) | (with_reducible exact akeep q1) | simp [*, go_sem]); skip
      clear hb
      go_wp2_with fail
      refine (bB H1.out).mono ?_
      rintro e w1 ⟨rfl, hb⟩
      replace hb0 := bnext (w := w) (by go_grown) hb; have hz := hb.size; (try simp only [World.size_alloc, World.size_setCell] at hz); replace q0 : w1.cell? ⟨w.heap.size, 0, none⟩ = some (.int .i64 cr) := bkeep hb (by first | (with_reducible exact q0) | (with_reducible exact akeep q0) | simp [*, go_sem]); replace q1 : w1.cell? ⟨w.heap.size, 1, none⟩ = some (.int .i64 le) := bkeep hb (by first | (with_reducible exact q1) | (with_reducible exact akeep q1) | simp [*, go_sem]); skip
      clear hb
      go_wp2_with fail
      go_ret
      exact ⟨rfl, by first | exact hb0 | go_grown⟩
    · simp at hr
      subst hr
      go_enter Try.func26, Try.ntmps26
      go_wp2_with fail
      refine (bB H0.out).mono ?_
      rintro e w1 ⟨rfl, hb⟩
      replace hb0 := bnext (w := w) (by go_grown) hb; have hz := hb.size; (try simp only [World.size_alloc, World.size_setCell] at hz); replace q0 : w1.cell? ⟨w.heap.size, 0, none⟩ = some (.int .i64 cr) := bkeep hb (by first | (with_reducible exact q0) | (with_reducible exact akeep q0) | simp [*, go_sem]); replace q1 : w1.cell? ⟨w.heap.size, 1, none⟩ = some (.int .i64 le) := bkeep hb (by first | (with_reducible exact q1) | (with_reducible exact akeep q1) | simp [*, go_sem]); skip
      clear hb
      go_wp2_with fail
      refine (bB H1.out).mono ?_
      rintro e w1 ⟨rfl, hb⟩
      replace hb0 := bnext (w := w) (by go_grown) hb; have hz := hb.size; (try simp only [World.size_alloc, World.size_setCell] at hz); replace q0 : w1.cell? ⟨w.heap.size, 0, none⟩ = some (.int .i64 cr) := bkeep hb (by first | (with_reducible exact q0) | (with_reducible exact akeep q0) | simp [*, go_sem]); replace q1 : w1.cell? ⟨w.heap.size, 1, none⟩ = some (.int .i64 le) := bkeep hb (by first | (with_reducible exact q1) | (with_reducible exact akeep q1) | simp [*, go_sem]); skip
      clear hb
      go_wp2_with fail
      go_ret
      exact ⟨rfl, by first | exact hb0 | go_grown⟩

set_option maxRecDepth 100000 in
set_option maxHeartbeats 600000 in
theorem hasId_any {w : World} {v : Value} {l : List Sg} {id : Int} {b : Bool} (h : RowsAt 8 w v (l.map rowG)) (hb : hasL l id = b) :
    Calls Try.prog 82 #[v, .int .i64 id] w (Ret w (.bool b)) := by
  unfold Ret
  obtain ⟨a, cap, rfl, hll⟩ := h.shape
  rw [List.length_map] at h hll ⊢
  have HB := hid hb; clear hb
  obtain ⟨n, hn⟩ : ∃ n, l.length = n := ⟨_, rfl⟩
  have HN := hid hn
  rw [hn] at h hll ⊢
  clear hn
  go_enter Try.func82, Try.ntmps82
  go_wp2_with fail
  go_loopg [9] n (fun gk iv wr => ∃ k : Nat, k ≤ n ∧ gk = n - k ∧ iv = .int .i64 k ∧ Hid (hasL (l.take k) id = false) ∧ Below w.heap.size w wr)
  case atStart => exact ⟨0, Nat.zero_le _, rfl, rfl, hid rfl, Below.refl _ _⟩
  case round =>
    obtain ⟨k, hk, hgk, rfl, HA, hB⟩ := hrel
    have HGK := hid hgk; clear hgk
    by_cases hlt : k < n
    · have hki : (k : Int) < (n : Int) := by omega
      have hkl : k < l.length := by rw [HN.out]; exact hlt
      obtain ⟨s, hs⟩ : ∃ s, l[k]? = some s := ⟨_, List.getElem?_eq_getElem hkl⟩
      obtain ⟨a', ha, r0, hc, hi⟩ := sg_row (by rw [HN.out]; exact h.below hB) hs
      subst ha
      have HS := hid hs; clear hs hkl
      obtain ⟨sid, swl, swh, sbl, sbh, shl, shh, sti⟩ := s
      dsimp only at r0
      have r1 := hc 1 _ (by decide) rfl
      have r2 := hc 2 _ (by decide) rfl
      have r3 := hc 3 _ (by decide) rfl
      have r4 := hc 4 _ (by decide) rfl
      have r5 := hc 5 _ (by decide) rfl
      have r6 := hc 6 _ (by decide) rfl
      have r7 := hc 7 _ (by decide) rfl
      dsimp only at r1 r2 r3 r4 r5 r6 r7
      clear hc hi
      by_cases he : sid = id
      · have hbt : b = true := by rw [← HB.out]; exact hasL_yes HS.out he
        subst hbt
        have hei : (sid == id) = true := by simpa using he
        clear he
        go_wp2_with fail
        go_ret
        exact ⟨rfl, by first | exact hB | exact hB.alloc hB.size _⟩
      · have HA2 := hid (hasL_snoc HS.out HA.out he)
        have hei : (sid == id) = false := by simpa using he
        clear he HA
        go_wp2_with fail
        go_roundg (n - (k + 1))
        case measure => have h := HGK.out; omega
        case rel => exact ⟨k + 1, by omega, rfl, by go_num, HA2, by first | exact hB | exact hB.alloc hB.size _⟩
    · obtain rfl : k = n := by omega
      have hbf : b = false := by rw [← HB.out]; have h1 := HA.out; rwa [List.take_of_length_le (by rw [HN.out]; exact Nat.le_refl _)] at h1
      subst hbf
      go_wp2_with fail
      go_ret
      exact ⟨rfl, hB⟩

end Go.Proofs.Ytnchhleokdkejaa

/- Appending to an empty slice of the call's own; slices of the call's own, by predicates. -/
namespace Go.Pb
set_option linter.unusedVariables false
open Go Go.RowKit
/-- An empty slice of the call's own. -/
def NewEmpty (B0 : Nat) (e : TypeId) (v : Value) (W : World) : Prop := ∃ B, B0 ≤ B ∧ v = .slice (some ⟨B, 0, none⟩) 0 0 ∧ W.heap[B]? = some (.cells #[] e (0, 0))
theorem keeps_empty {B0 : Nat} {e : TypeId} : Keeps (NewEmpty B0 e) := fun _ _ _ ⟨B, h1, h2, h3⟩ hb => ⟨B, h1, h2, (hb.block B (Array.getElem?_eq_some_iff.1 h3).1).trans h3⟩
theorem empty_of {w w' : World} {e : TypeId} (hb : Below w.heap.size w w') :
    Below w'.heap.size w' (w'.alloc (.cells #[] e)) ∧ NewEmpty w.heap.size e (.slice (some ⟨w'.heap.size, 0, none⟩) 0 0) (w'.alloc (.cells #[] e)) :=
  ⟨(Below.refl _ _).alloc (Nat.le_refl _) _, w'.heap.size, hb.size, rfl, heap_alloc_new w' _⟩
/-- A slice of the call's own that was written out. -/
def NewList (B0 n : Nat) (cs : List Value) (v : Value) (W : World) : Prop :=
  ∃ B, B0 ≤ B ∧ v = .slice (some ⟨B, 0, none⟩) n n ∧ ∀ o c, cs[o]? = some c → W.cell? ⟨B, o, none⟩ = some c ∧ W.frozen? ⟨B, o, none⟩ = false
theorem keeps_list {B0 n : Nat} {cs : List Value} : Keeps (NewList B0 n cs) := fun _ _ _ ⟨B, h1, h2, h3⟩ hb =>
  ⟨B, h1, h2, fun o c hc => ⟨bkeep hb (h3 o c hc).1, bfree hb (h3 o c hc).1 (h3 o c hc).2⟩⟩
theorem list_of {w w' : World} {n : Nat} {cs : List Value} {t : TypeId} (hb : Below w.heap.size w w') :
    Below w'.heap.size w' (w'.alloc (.cells cs.toArray t)) ∧ NewList w.heap.size n cs (.slice (some ⟨w'.heap.size, 0, none⟩) n n) (w'.alloc (.cells cs.toArray t)) :=
  ⟨(Below.refl _ _).alloc (Nat.le_refl _) _, w'.heap.size, hb.size, rfl, fun o c hc => by
    refine ⟨?_, World.frozen?_alloc_new w' cs.toArray t o⟩
    rw [World.cell?_alloc_new]; simpa using hc⟩
theorem keeps_owns {base size n : Nat} {e : TypeId} {xs : List Value} : Keeps (fun v w => w.ownsRow base e size v n xs) := fun _ _ _ h hb => owns_below h hb
theorem append_fresh {P : Program} (w : World) (base : Nat) (t ty e : TypeId) (i : TypeInfo) (z : Value) (size bytes : Nat) (ht : P.underlying t = some (.slice e)) (hi : P.info? e = some i) (hz : i.zero = some z)
    (hsize : i.size = size) (hby : i.bytes = bytes) (hzs : z.cells.size = size) (hsz : 0 < size) {B : Nat} (hB : base ≤ B) (hg : w.heap[B]? = some (.cells #[] e (0, 0)))
    (a : Addr) (m c : Nat) (news : List Value) (hl : news.length = m * size) (hnews : ∀ j u, news[j]? = some u → w.cell? (a.add j) = some u) (h1 : ∀ u ∈ news, u.oneCell' = true)
    (h63 : m ≤ maxLen) (hbytes : m * bytes ≤ 140737488355328) (hbase : base ≤ w.heap.size) :
    ∃ v' w', (Builtin.append_ #[t, t] ty #[.slice (some ⟨B, 0, none⟩) 0 0, .slice (some a) m c]).run P w = .ok v' w' ∧ Below w.heap.size w w' ∧ w'.ownsRow base e size v' m news := by
  have hown : w.ownsRow base e size (.slice (some ⟨B, 0, none⟩) 0 0) 0 [] := ⟨by simp, .inr ⟨B, 0, #[], rfl, hB, hg, Nat.le_refl _, by simp [maxLen], by simp, by simp⟩⟩
  obtain ⟨v', w', hr, h2, h3, -⟩ := run_append_own (P := P) w base t ty e i z size bytes ht hi hz hsize hby hzs hsz _ 0 [] hown a m c news hl hnews h1 (by omega) (by simpa using hbytes) hbase
  refine ⟨v', w', hr, ?_, by simpa using h2⟩
  subst hsize; subst hby
  by_cases hm : m = 0
  · subst hm
    have hn : news = [] := List.eq_nil_of_length_eq_zero (by simpa using hl)
    subst hn
    have hr2 := run_append_room (P := P) w t ty e i ht hi B 0 0 #[] hg a 0 c [] (by simp) (by simp) (by simp) (by omega) (by simp)
    rw [hr2] at hr
    injection hr with _ hw
    subst hw
    refine ⟨rfl, rfl, rfl, by simp [World.setRow], fun k hk => ?_⟩
    by_cases hkB : k = B
    · subst hkB
      rw [setRow_heap w k #[] _ e _ hg, hg]; simp
    · exact setRow_other w B k _ hkB
  · have hcap : Builtin.nextslicecap (0 + m) 0 * i.bytes ≤ 281474976710656 := growslice_fits (by omega) (by simpa using hbytes)
    have hr2 := run_append_grow (P := P) w t ty e i z ht hi hz ⟨B, 0, none⟩ 0 0 [] (by simp) (by simp) a m c news hl hnews (by omega) (by simp only [maxLen] at h63; omega) hcap
    rw [hr2] at hr
    injection hr with _ hw
    subst hw
    exact (Below.refl _ _).drew.alloc (Nat.le_refl _) _
theorem fresh_append {P : Program} {o : Oper} {a : Act} {w : World} (s x : Operand) (t : TypeId) (ho : o.op = .call { callee := .builtin .append, args := #[s, x], argTypes := #[t, t] })
    (base : Nat) (e : TypeId) (i : TypeInfo) (z : Value) (size bytes : Nat) (ht : P.underlying t = some (.slice e)) (hi : P.info? e = some i) (hz : i.zero = some z)
    (hsize : i.size = size) (hby : i.bytes = bytes) (hzs : z.cells.size = size) (hsz : 0 < size) (v : Value) (hs : a.eval s = v) (hv : NewEmpty base e v w)
    (ad : Addr) (m c : Nat) (news : List Value) (hx : a.eval x = .slice (some ad) m c) (hl : news.length = m * size) (hnews : ∀ j u, news[j]? = some u → w.cell? (ad.add j) = some u) (h1 : ∀ u ∈ news, u.oneCell' = true)
    (h63 : m ≤ maxLen) (hbytes : m * bytes ≤ 140737488355328) (hbase : base ≤ w.heap.size) :
    freshAt P o a (fun v w => w.ownsRow base e size v m news) w := by
  obtain ⟨B, hB, rfl, hg⟩ := hv
  obtain ⟨v', w', hr, h2, h3⟩ := append_fresh (P := P) w base t o.type e i z size bytes ht hi hz hsize hby hzs hsz hB hg ad m c news hl hnews h1 h63 hbytes hbase
  unfold freshAt execOp
  simp only [ho, resolve, invoke, builtin, Sem.run_bind, Sem.run_pure, Result.andThen_ok, List.map_toArray, List.map_cons, List.map_nil, hs, hx, hr]
  exact ⟨h2, h3⟩
end Go.Pb
namespace Go.Pb.Ware
open Go Go.Pb Go.RowKit
end Go.Pb.Ware
namespace Go.Pb
theorem RowsAt.caps {n : Nat} {w : World} {a : Option Addr} {m cap : Nat} {rows : List (List Int)} (h : RowsAt n w (.slice a m cap) rows) : rows.length ≤ cap ∧ cap ≤ 9223372036854775807 := by
  rcases h with ⟨h1, h2⟩ | ⟨a', cap', h1, h2, h3, _⟩
  · injection h1 with _ _ h4; subst h2; subst h4; simp
  · injection h1 with _ _ h4; subst h4; exact ⟨h2, h3⟩
end Go.Pb
namespace Go.Pb.Ware
open Go Go.Pb Go.RowKit
end Go.Pb.Ware

/- Which lists of saggars, wads and bungs are valid. -/
namespace Go.Proofs.Ytnchhleokdkejaa
open Go.RowKit Go.Pb Go.Pb.Ware Go.Pb.Sag
set_option linter.unusedVariables false
set_option linter.unusedSimpArgs false

open Go.Pb.Bung
theorem take_rows {w : World} {b : Addr} {cap k : Nat} {l : List Sg} (h : RowsAt 8 w (.slice (some b) l.length cap) (l.map rowG)) (hk : k ≤ l.length) : RowsAt 8 w (.slice (some b) k cap) ((l.take k).map rowG) := by
  rw [List.map_take]
  exact RowsAt.take' (by rw [List.length_map]; exact h) (by rw [List.length_map]; exact hk)

set_option maxRecDepth 100000 in
set_option maxHeartbeats 1000000 in
theorem ckLs_any {w : World} {v : Value} {l : List Sg} {r : Int} (h : RowsAt 8 w v (l.map rowG)) (hr : ckLs l = r) :
    Calls Try.prog 24 #[v] w (Ret w (.int .i64 r)) := by
  unfold Ret
  obtain ⟨a, cap, rfl, hll⟩ := h.shape
  rw [List.length_map] at h hll ⊢
  obtain ⟨n, hn⟩ : ∃ n, l.length = n := ⟨_, rfl⟩
  have HN := hid hn
  obtain ⟨hcap, hcap2⟩ := RowsAt.caps h
  rw [List.length_map] at hcap
  rw [hn] at h hll hcap ⊢
  clear hn
  by_cases h30 : n ≤ 30
  · have h30i : ¬ (30 : Int) < (n : Int) := by omega
    have HR := hid hr; clear hr
    go_enter Try.func24, Try.ntmps24
    go_wp2_with fail
    go_loopg [10] n (fun gk iv wr => ∃ k : Nat, k ≤ n ∧ gk = n - k ∧ iv = .int .i64 k ∧ Hid (okUp l k = true) ∧ Below w.heap.size w wr)
    case atStart => exact ⟨0, Nat.zero_le _, rfl, rfl, hid rfl, Below.refl _ _⟩
    case round =>
      obtain ⟨k, hk, hgk, rfl, HA, hB⟩ := hrel
      have HGK := hid hgk; clear hgk
      by_cases hlt : k < n
      · have hki : (k : Int) < (n : Int) := by omega
        have hki2 : (k : Int) ≤ (cap : Int) := by omega
        have hkl : k < l.length := by rw [HN.out]; exact hlt
        obtain ⟨s, hs⟩ : ∃ s, l[k]? = some s := ⟨_, List.getElem?_eq_getElem hkl⟩
        obtain ⟨a', ha, r0, hc, hi⟩ := sg_row (by rw [HN.out]; exact h.below hB) hs
        subst ha
        have HS := hid hs; clear hs
        obtain ⟨sid, swl, swh, sbl, sbh, shl, shh, sti⟩ := s
        dsimp only at r0
        have r1 := hc 1 _ (by decide) rfl
        have r2 := hc 2 _ (by decide) rfl
        have r3 := hc 3 _ (by decide) rfl
        have r4 := hc 4 _ (by decide) rfl
        have r5 := hc 5 _ (by decide) rfl
        have r6 := hc 6 _ (by decide) rfl
        have r7 := hc 7 _ (by decide) rfl
        dsimp only at r1 r2 r3 r4 r5 r6 r7
        clear hc hi
        obtain ⟨v3, hv3⟩ : ∃ v, v = wr := ⟨_, rfl⟩
        subst hv3
        have T1 := take_rows (k := k) (show RowsAt 8 v3 (.slice (some a') l.length cap) (l.map rowG) by rw [HN.out]; exact h.below hB) (by omega)
        obtain ⟨b, hb⟩ : ∃ b, sgOk ⟨sid, swl, swh, sbl, sbh, shl, shh, sti⟩ = b := ⟨_, rfl⟩
        obtain ⟨e, he⟩ : ∃ e, hasL (l.take k) sid = e := ⟨_, rfl⟩
        have hck : ckSg ⟨sid, swl, swh, sbl, sbh, shl, shh, sti⟩ = if b = true then 0 else 30 := by unfold ckSg; rw [hb]
        have HB := hid hb; have HE := hid he; clear hb he hkl
        go_upto_region 6 with fail
        generalize hW : World.alloc v3 _ = v5
        have q0 : v5.cell? ⟨v3.heap.size, 0, none⟩ = some (.int .i64 sid) := by rw [← hW]; simp [go_sem]
        have q1 : v5.cell? ⟨v3.heap.size, 1, none⟩ = some (.int .i64 swl) := by rw [← hW]; simp [go_sem]
        have q2 : v5.cell? ⟨v3.heap.size, 2, none⟩ = some (.int .i64 swh) := by rw [← hW]; simp [go_sem]
        have q3 : v5.cell? ⟨v3.heap.size, 3, none⟩ = some (.int .i64 sbl) := by rw [← hW]; simp [go_sem]
        have q4 : v5.cell? ⟨v3.heap.size, 4, none⟩ = some (.int .i64 sbh) := by rw [← hW]; simp [go_sem]
        have q5 : v5.cell? ⟨v3.heap.size, 5, none⟩ = some (.int .i64 shl) := by rw [← hW]; simp [go_sem]
        have q6 : v5.cell? ⟨v3.heap.size, 6, none⟩ = some (.int .i64 shh) := by rw [← hW]; simp [go_sem]
        have q7 : v5.cell? ⟨v3.heap.size, 7, none⟩ = some (.int .i64 sti) := by rw [← hW]; simp [go_sem]
        have hb5 : Below v3.heap.size v3 v5 := by rw [← hW]; exact (Below.refl _ _).alloc (Nat.le_refl _) _
        replace hB := hB.trans (hb5.mono hB.size)
        replace T1 := T1.below hb5
        clear hW hb5 r0 r1 r2 r3 r4 r5 r6 r7
        have x0 := fun x : BW v5 => bkeep x.below q0
        have x1 := fun x : BW v5 => bkeep x.below q1
        have x2 := fun x : BW v5 => bkeep x.below q2
        have x3 := fun x : BW v5 => bkeep x.below q3
        have x4 := fun x : BW v5 => bkeep x.below q4
        have x5 := fun x : BW v5 => bkeep x.below q5
        have x6 := fun x : BW v5 => bkeep x.below q6
        have x7 := fun x : BW v5 => bkeep x.below q7
        cases b
        · rw [if_neg (by simp)] at hck
          have HCK := hid hck; clear hck
          refine wp_region_qb (by kernel_rfl) (by kernel_rfl) fun hc => ?_
          repeat (go_big_quiet_step ((first | (go_at_call 20; exact BW.call _ (ckSg_any HCK.out)) | (go_at_call 82; exact BW.call _ (hasId_any (T1.below (BW.below _)) HE.out)))))
          refine wpQuiet_nil ?_
          intro w9 hb
          replace hB := hB.trans (hb.mono hB.size)
          go_wp2_with fail
          obtain rfl : r = 30 := by rw [← HR.out]; unfold ckLs; rw [listOk_no HS.out (by dsimp only; rw [HB.out, Bool.false_and])]; rfl
          go_ret
          exact ⟨rfl, hB⟩
        · rw [if_pos rfl] at hck
          have HCK := hid hck; clear hck
          cases e
          · refine wp_region_qb (by kernel_rfl) (by kernel_rfl) fun hc => ?_
            repeat (go_big_quiet_step ((first | (go_at_call 20; exact BW.call _ (ckSg_any HCK.out)) | (go_at_call 82; exact BW.call _ (hasId_any (T1.below (BW.below _)) HE.out)))))
            refine wpQuiet_nil ?_
            intro w9 hb
            replace hB := hB.trans (hb.mono hB.size)
            go_wp2_with fail
            go_roundg (n - (k + 1))
            case measure => have h := HGK.out; omega
            case rel => exact ⟨k + 1, by omega, rfl, by go_num, hid (okUp_next HA.out HS.out HB.out HE.out), hB⟩
          · refine wp_region_qb (by kernel_rfl) (by kernel_rfl) fun hc => ?_
            repeat (go_big_quiet_step ((first | (go_at_call 20; exact BW.call _ (ckSg_any HCK.out)) | (go_at_call 82; exact BW.call _ (hasId_any (T1.below (BW.below _)) HE.out)))))
            refine wpQuiet_nil ?_
            intro w9 hb
            replace hB := hB.trans (hb.mono hB.size)
            go_wp2_with fail
            obtain rfl : r = 30 := by rw [← HR.out]; unfold ckLs; rw [listOk_no HS.out (by dsimp only; rw [HB.out, HE.out]; rfl)]; rfl
            go_ret
            exact ⟨rfl, hB⟩
      · obtain rfl : k = n := by omega
        obtain rfl : r = 0 := by rw [← HR.out]; unfold ckLs; rw [listOk_yes (by rw [HN.out]; exact h30) (by rw [HN.out]; exact HA.out)]; rfl
        go_wp2_with fail
        go_ret
        exact ⟨rfl, hB⟩
  · obtain rfl : r = 30 := by rw [← hr]; unfold ckLs; rw [listOk_long (by rw [HN.out]; exact h30)]; rfl
    have h30i : (30 : Int) < (n : Int) := by omega
    go_enter Try.func24, Try.ntmps24
    go_wp2_with fail
    go_ret
    exact ⟨rfl, Below.refl _ _⟩

set_option maxRecDepth 100000 in
set_option maxHeartbeats 400000 in
theorem ckWd_any {w : World} {lo hi r : Int} (hr : ckWd lo hi = r) :
    Calls Try.prog 80 #[.agg #[.int .i64 lo, .int .i64 hi]] w (Ret w (.int .i64 r)) := by
  unfold Ret
  obtain ⟨b, hb⟩ : ∃ b, rgOk ⟨lo, hi⟩ 0 200 = b := ⟨_, rfl⟩
  have hr2 : r = if b = true then 0 else 32 := by rw [← hr]; unfold ckWd wadOk; rw [hb]
  clear hr
  have HB := hid hb; clear hb
  cases b
  · simp at hr2
    subst hr2
    go_enter Try.func80, Try.ntmps80
    go_wp2_with fail
    refine (bR HB.out).mono ?_
    rintro e w1 ⟨rfl, hb⟩
    replace hb0 := bnext (w := w) (by go_grown) hb; have hz := hb.size; (try simp only [World.size_alloc, World.size_setCell] at hz); obtain ⟨hc, hf⟩ := bcell hb; skip
    clear hb
    go_wp2_with fail
    go_ret
    exact ⟨rfl, by first | exact hb0 | go_grown⟩
  · simp at hr2
    subst hr2
    go_enter Try.func80, Try.ntmps80
    go_wp2_with fail
    refine (bR HB.out).mono ?_
    rintro e w1 ⟨rfl, hb⟩
    replace hb0 := bnext (w := w) (by go_grown) hb; have hz := hb.size; (try simp only [World.size_alloc, World.size_setCell] at hz); obtain ⟨hc, hf⟩ := bcell hb; skip
    clear hb
    go_wp2_with fail
    go_ret
    exact ⟨rfl, by first | exact hb0 | go_grown⟩

set_option maxRecDepth 100000 in
set_option maxHeartbeats 1000000 in
theorem ckBg_any {w : World} {v : Value} {l : List Sg} {lo hi r : Int} (h : RowsAt 8 w v (l.map rowG)) (hr : ckBg lo hi l = r) :
    Calls Try.prog 22 #[.agg #[.int .i64 lo, .int .i64 hi, v]] w (Ret w (.int .i64 r)) := by
  unfold Ret
  obtain ⟨a, cap, rfl, hll⟩ := h.shape
  rw [List.length_map] at hll ⊢
  obtain ⟨n, hn⟩ : ∃ n, l.length = n := ⟨_, rfl⟩
  have HN := hid hn
  rw [List.length_map] at h
  rw [hn] at h hll ⊢
  obtain ⟨b1, h1⟩ : ∃ b, wadOk lo hi = b := ⟨_, rfl⟩
  obtain ⟨b3, h3⟩ : ∃ b, listOk l = b := ⟨_, rfl⟩
  have hw : ckWd lo hi = if b1 = true then 0 else 32 := by unfold ckWd; rw [h1]
  have hl : ckLs l = if b3 = true then 0 else 30 := by unfold ckLs; rw [h3]
  have hr2 : r = if (b1 && decide (n ≠ 0) && b3) = true then 0 else 31 := by rw [← hr]; unfold ckBg bungOk; rw [h1, h3]; congr 3; congr 1; congr 1; rw [← hn]; exact propext ⟨fun h e => h (List.eq_nil_of_length_eq_zero e), fun h e => h (by rw [e]; rfl)⟩
  clear hr hn h3
  cases b1
  · simp at hr2
    subst hr2
    have HW := hid (hw.trans (if_neg (by simp)))
    clear hw h1
    go_enter Try.func22, Try.ntmps22
    go_wp2_with fail
    refine (ckWd_any HW.out).mono ?_
    rintro e w1 ⟨rfl, hb⟩
    replace hb0 := bnext (w := w) (by go_grown) hb; have hz := hb.size; (try simp only [World.size_alloc, World.size_setCell] at hz); replace q0 : w1.cell? ⟨w.heap.size, 0, none⟩ = some (.int .i64 lo) := bkeep hb (by first | (with_reducible exact q0) | (with_reducible exact akeep q0) | simp [*, go_sem]); replace q1 : w1.cell? ⟨w.heap.size, 1, none⟩ = some (.int .i64 hi) := bkeep hb (by first | (with_reducible exact q1) | (with_reducible exact akeep q1) | simp [*, go_sem]); replace q2 : w1.cell? ⟨w.heap.size, 2, none⟩ = some (.slice a n cap) := bkeep hb (by first | (with_reducible exact q2) | (with_reducible exact akeep q2) | simp [*, go_sem]); skip
    clear hb
    go_wp2_with fail
    go_ret
    exact ⟨rfl, by first | exact hb0 | go_grown⟩
  · have HW := hid (hw.trans (if_pos rfl))
    clear hw h1
    by_cases h0 : n = 0
    · subst h0
      simp at hr2
      subst hr2
      go_enter Try.func22, Try.ntmps22
      go_wp2_with fail
      refine (ckWd_any HW.out).mono ?_
      rintro e w1 ⟨rfl, hb⟩
      replace hb0 := bnext (w := w) (by go_grown) hb; have hz := hb.size; (try simp only [World.size_alloc, World.size_setCell] at hz); replace q0 : w1.cell? ⟨w.heap.size, 0, none⟩ = some (.int .i64 lo) := bkeep hb (by first | (with_reducible exact q0) | (with_reducible exact akeep q0) | simp [*, go_sem]); replace q1 : w1.cell? ⟨w.heap.size, 1, none⟩ = some (.int .i64 hi) := bkeep hb (by first | (with_reducible exact q1) | (with_reducible exact akeep q1) | simp [*, go_sem]); replace q2 : w1.cell? ⟨w.heap.size, 2, none⟩ = some (.slice a 0 cap) := bkeep hb (by first | (with_reducible exact q2) | (with_reducible exact akeep q2) | simp [*, go_sem]); skip
      clear hb
      go_wp2_with fail
      go_ret
      exact ⟨rfl, by first | exact hb0 | go_grown⟩
    · have h0i : (0 : Int) < (n : Int) := by omega
      have h0b : ((n : Int) == 0) = false := beq_eq_false_iff_ne.mpr (by omega)
      rw [decide_eq_true h0] at hr2
      cases b3
      · simp at hr2
        subst hr2
        have HL := hid (hl.trans (if_neg (by simp)))
        clear hl
        go_enter Try.func22, Try.ntmps22
        go_wp2_with fail
        refine (ckWd_any HW.out).mono ?_
        rintro e w1 ⟨rfl, hb⟩
        replace hb0 := bnext (w := w) (by go_grown) hb; have hz := hb.size; (try simp only [World.size_alloc, World.size_setCell] at hz); replace q0 : w1.cell? ⟨w.heap.size, 0, none⟩ = some (.int .i64 lo) := bkeep hb (by first | (with_reducible exact q0) | (with_reducible exact akeep q0) | simp [*, go_sem]); replace q1 : w1.cell? ⟨w.heap.size, 1, none⟩ = some (.int .i64 hi) := bkeep hb (by first | (with_reducible exact q1) | (with_reducible exact akeep q1) | simp [*, go_sem]); replace q2 : w1.cell? ⟨w.heap.size, 2, none⟩ = some (.slice a n cap) := bkeep hb (by first | (with_reducible exact q2) | (with_reducible exact akeep q2) | simp [*, go_sem]); skip
        clear hb
        go_wp2_with fail
        refine (ckLs_any (h.below (by go_grown)) HL.out).mono ?_
        rintro e w1 ⟨rfl, hb⟩
        replace hb0 := bnext (w := w) (by go_grown) hb; have hz := hb.size; (try simp only [World.size_alloc, World.size_setCell] at hz); replace q0 : w1.cell? ⟨w.heap.size, 0, none⟩ = some (.int .i64 lo) := bkeep hb (by first | (with_reducible exact q0) | (with_reducible exact akeep q0) | simp [*, go_sem]); replace q1 : w1.cell? ⟨w.heap.size, 1, none⟩ = some (.int .i64 hi) := bkeep hb (by first | (with_reducible exact q1) | (with_reducible exact akeep q1) | simp [*, go_sem]); replace q2 : w1.cell? ⟨w.heap.size, 2, none⟩ = some (.slice a n cap) := bkeep hb (by first | (with_reducible exact q2) | (with_reducible exact akeep q2) | simp [*, go_sem]); skip
        clear hb
        go_wp2_with fail
        go_ret
        exact ⟨rfl, by first | exact hb0 | go_grown⟩
      · simp at hr2
        subst hr2
        have HL := hid (hl.trans (if_pos rfl))
        clear hl
        go_enter Try.func22, Try.ntmps22
        go_wp2_with fail
        refine (ckWd_any HW.out).mono ?_
        rintro e w1 ⟨rfl, hb⟩
        replace hb0 := bnext (w := w) (by go_grown) hb; have hz := hb.size; (try simp only [World.size_alloc, World.size_setCell] at hz); replace q0 : w1.cell? ⟨w.heap.size, 0, none⟩ = some (.int .i64 lo) := bkeep hb (by first | (with_reducible exact q0) | (with_reducible exact akeep q0) | simp [*, go_sem]); replace q1 : w1.cell? ⟨w.heap.size, 1, none⟩ = some (.int .i64 hi) := bkeep hb (by first | (with_reducible exact q1) | (with_reducible exact akeep q1) | simp [*, go_sem]); replace q2 : w1.cell? ⟨w.heap.size, 2, none⟩ = some (.slice a n cap) := bkeep hb (by first | (with_reducible exact q2) | (with_reducible exact akeep q2) | simp [*, go_sem]); skip
        clear hb
        go_wp2_with fail
        refine (ckLs_any (h.below (by go_grown)) HL.out).mono ?_
        rintro e w1 ⟨rfl, hb⟩
        replace hb0 := bnext (w := w) (by go_grown) hb; have hz := hb.size; (try simp only [World.size_alloc, World.size_setCell] at hz); replace q0 : w1.cell? ⟨w.heap.size, 0, none⟩ = some (.int .i64 lo) := bkeep hb (by first | (with_reducible exact q0) | (with_reducible exact akeep q0) | simp [*, go_sem]); replace q1 : w1.cell? ⟨w.heap.size, 1, none⟩ = some (.int .i64 hi) := bkeep hb (by first | (with_reducible exact q1) | (with_reducible exact akeep q1) | simp [*, go_sem]); replace q2 : w1.cell? ⟨w.heap.size, 2, none⟩ = some (.slice a n cap) := bkeep hb (by first | (with_reducible exact q2) | (with_reducible exact akeep q2) | simp [*, go_sem]); skip
        clear hb
        go_wp2_with fail
        go_ret
        exact ⟨rfl, by first | exact hb0 | go_grown⟩

end Go.Proofs.Ytnchhleokdkejaa

/- Indices of saggars, and the saggars that have them. -/
namespace Go.Proofs.Ytnchhleokdkejaa
open Go.RowKit Go.Pb Go.Pb.Ware Go.Pb.Sag
set_option linter.unusedVariables false
set_option linter.unusedSimpArgs false

open Go.Pb.Bung
theorem Try.infoG : (Try.prog.info? 33).map (fun i => (i.zero, i.size, i.bytes)) = some (some (.agg #[.int .i64 0, .int .i64 0, .int .i64 0, .int .i64 0, .int .i64 0, .int .i64 0, .int .i64 0, .int .i64 0]), 8, 64) := by kernel_rfl
theorem Try.infoBo : (Try.prog.info? 4).map (fun i => (i.zero, i.size, i.bytes)) = some (some (.bool false), 1, 1) := by kernel_rfl
set_option maxRecDepth 100000 in
set_option maxHeartbeats 1000000 in
theorem idx_any {w : World} {v : Value} {zs : List Int} {n : Nat} {b : Bool} (hi : NumsAt w v zs) (hn : n ≤ 1000) (hb : idxOk zs n = b) :
    Calls Try.prog 103 #[v, .int .i64 (n : Int)] w (Ret w (.bool b)) := by
  unfold Ret
  obtain ⟨a, cap, rfl, hl1, hl2⟩ := hi.shape
  obtain ⟨i0, hi0, hz0, hz1, hz2⟩ := info_parts Try.infoBo
  have HB := hid hb; clear hb
  go_enter Try.func103, Try.ntmps103
  go_wp2_with (at_make; refine wpList_make_full _ rfl _ _ 154 rfl w.heap.size 4 i0 (.bool false) 1 Try.underlying154 hi0 hz0 hz1 .i64 .i64 _ _ n rfl rfl rfl rfl (by rw [hz2]; omega) (by unfold maxLen; omega) (Nat.le_refl _) ?_; intro w5 ho5 hg5)
  have hm5 := made_at (B := w.heap.size) rfl ho5
  have hB5 : Below w.heap.size w w5 := (Below.refl _ _).grown hg5 (Nat.le_refl _) (fun k h => by cases h)
  have hlt5 : w.heap.size < w5.heap.size := by have := (World.ownsRow.lt ho5 w.heap.size (by simp [Value.ownBlock])).2; exact this
  have hS5 := SeenAt.start hm5
  clear ho5 hg5 hm5
  go_wp2_with fail
  go_loopg [12] zs.length (fun gk iv wr => ∃ k : Nat, k ≤ zs.length ∧ gk = zs.length - k ∧ iv = .int .i64 k ∧ Hid (idxUp zs n k = true) ∧ SeenAt w.heap.size n (zs.take k) wr ∧ Below w.heap.size w wr ∧ w.heap.size < wr.heap.size)
  case atStart => exact ⟨0, Nat.zero_le _, rfl, rfl, hid rfl, by simpa using hS5, hB5, hlt5⟩
  case round =>
    clear hS5 hB5 hlt5
    obtain ⟨k, hk, hgk, rfl, HA, hS, hB, hz⟩ := hrel
    have HGK := hid hgk; clear hgk
    by_cases hlt : k < zs.length
    · have hki : (k : Int) < (zs.length : Int) := by omega
      obtain ⟨a', ha, r0⟩ := (hi.below hB).elem hlt
      subst ha
      obtain ⟨z, hz0⟩ : ∃ z, zs[k] = z := ⟨_, rfl⟩
      have hzi := hi.i64 zs[k] (List.getElem_mem hlt)
      rw [hz0] at r0 hzi
      have hks : zs[k]? = some z := by rw [List.getElem?_eq_getElem hlt, hz0]
      have HZ := hid hz0; have HK := hid hks; clear hz0 hks
      obtain ⟨b1, hb1⟩ : ∃ b, btw z 0 ((n : Int) - 1) = b := ⟨_, rfl⟩
      have HB1 := hid hb1
      cases b1
      · clear hb1 hzi
        go_wp2_with (go_at_call 76; refine (bB HB1.out).mono ?_; rintro e w9 ⟨rfl, hb⟩; replace hS := hS.below hb; replace hB := hB.trans (hb.mono hB.size); replace hz := Nat.lt_of_lt_of_le hz hb.size)
        obtain rfl : b = false := by rw [← HB.out]; exact idxOk_no HK.out (by rw [HB1.out, Bool.false_and])
        go_ret
        exact ⟨rfl, hB⟩
      · rw [btw_iff] at hb1
        obtain ⟨m, rfl⟩ : ∃ m : Nat, z = (m : Int) := ⟨z.toNat, by omega⟩
        have hmn : m < n := by omega
        have hmi : (m : Int) < (n : Int) := by omega
        clear hb1 hzi
        by_cases hse : (m : Int) ∈ zs.take k
        · have HM := hid (show decide ((m : Int) ∈ zs.take k) = true by exact decide_eq_true hse)
          have HSE := hid hse; clear hse
          go_wp2_with (go_at_call 76; refine (bB HB1.out).mono ?_; rintro e w9 ⟨rfl, hb⟩; replace hS := hS.below hb; replace hB := hB.trans (hb.mono hB.size); replace hz := Nat.lt_of_lt_of_le hz hb.size; obtain ⟨q0, f0⟩ := hS m hmn; rw [HM.out] at q0)
          obtain rfl : b = false := by rw [← HB.out]; exact idxOk_no HK.out (by rw [HB1.out, HM.out]; rfl)
          go_ret
          exact ⟨rfl, hB⟩
        · have HM := hid (show decide ((m : Int) ∈ zs.take k) = false by exact decide_eq_false hse)
          have HSE := hid hse; clear hse
          go_wp2_with (go_at_call 76; refine (bB HB1.out).mono ?_; rintro e w9 ⟨rfl, hb⟩; replace hS := hS.below hb; replace hB := hB.trans (hb.mono hB.size); replace hz := Nat.lt_of_lt_of_le hz hb.size; obtain ⟨q0, f0⟩ := hS m hmn; rw [HM.out] at q0)
          have hS2 := hS.put hmn
          go_roundg (zs.length - (k + 1))
          case measure => have h := HGK.out; omega
          case rel => exact ⟨k + 1, by omega, rfl, by go_num, hid (idxUp_next HA.out HK.out HB1.out HSE.out), by rw [List.take_succ_eq_append_getElem hlt, HZ.out]; exact hS2, hB.setCell (p := ⟨w.heap.size, m, none⟩) (Nat.le_refl _) _, by simpa using hz⟩
    · obtain rfl : k = zs.length := by omega
      obtain rfl : b = true := by rw [← HB.out]; exact HA.out
      go_wp2_with fail
      go_ret
      exact ⟨rfl, hB⟩

def NewSgs (T : TypeId) (l : List Sg) (W : World) (e : Ending) (w' : World) : Prop := ∃ v, e = .returned v ∧ Below W.heap.size W w' ∧ w'.ownsRow W.heap.size T 8 v l.length (l.flatMap cellsG)

set_option maxRecDepth 100000 in
set_option maxHeartbeats 1000000 in
theorem chosenG_any {w : World} {lv v : Value} {l : List Sg} {zs : List Int} (hl : RowsAt 8 w lv (l.map rowG)) (hn : l.length ≤ 1000) (hi : NumsAt w v zs) (hzn : zs.length ≤ 1000) (hz : ∀ z ∈ zs, 0 ≤ z ∧ z < (l.length : Int)) :
    Calls Try.prog 104 #[lv, v] w (NewSgs 33 (chosenG l zs) w) := by
  obtain ⟨i0, hi0, hz0, hz1, hz2⟩ := info_parts Try.infoG
  obtain ⟨a, cap, rfl, hl1, hl2⟩ := hi.shape
  obtain ⟨la, lc, rfl, hll⟩ := hl.shape
  rw [List.length_map] at hl hll ⊢
  unfold NewSgs
  go_enter Try.func104, Try.ntmps104
  go_wp2_with (at_make; refine wpList_make_own _ rfl _ _ 24 rfl w.heap.size 33 i0 (.agg #[.int .i64 0, .int .i64 0, .int .i64 0, .int .i64 0, .int .i64 0, .int .i64 0, .int .i64 0, .int .i64 0]) 8 Try.underlying24 hi0 hz0 hz1 .i64 .i64 _ zs.length rfl rfl rfl (by rw [hz2]; omega) (by unfold maxLen; omega) (Nat.le_refl _) ?_; intro w2 ho hg; have hb0 : Below w.heap.size w w2 := (Below.refl _ w).grown hg (Nat.le_refl _) (fun k h => by cases h); have hz3 := hg.size; clear hg)
  go_wp2_with fail
  go_loopg [5, 13] zs.length (fun gk fv iv wr => ∃ k : Nat, k ≤ zs.length ∧ gk = zs.length - k ∧ iv = .int .i64 k ∧ wr.ownsRow w.heap.size 33 8 fv k ((chosenG l (zs.take k)).flatMap cellsG) ∧ Below w.heap.size w wr)
  case atStart => exact ⟨0, Nat.zero_le _, rfl, rfl, by simpa [chosenG] using ho, hb0⟩
  case round =>
    clear hb0 hz3 ho
    obtain ⟨k, hk, hgk, rfl, ho, hb0⟩ := hrel
    have HGK := hid hgk; clear hgk
    have hzr := hb0.size
    obtain ⟨ua, uc, rfl, hul⟩ := owns_shape ho
    by_cases hlt : k < zs.length
    · have hki : (k : Int) < (zs.length : Int) := by omega
      obtain ⟨a', ha, r0⟩ := (hi.below hb0).elem hlt
      subst ha
      obtain ⟨m, hm⟩ : ∃ m : Nat, zs[k] = (m : Int) := ⟨zs[k].toNat, by have := hz zs[k] (List.getElem_mem hlt); omega⟩
      have hmb : m < l.length := by have := hz zs[k] (List.getElem_mem hlt); omega
      rw [hm] at r0
      obtain ⟨s, hs⟩ : ∃ s, l[m]? = some s := ⟨_, List.getElem?_eq_getElem hmb⟩
      obtain ⟨b', hb', p0, hcc, hii⟩ := sg_row (hl.below hb0) hs
      subst hb'
      have HE := hid (chosenG_snoc hlt hm hs)
      clear hm hs
      obtain ⟨sid, swl, swh, sbl, sbh, shl, shh, sti⟩ := s
      dsimp only at p0
      have p1 := hcc 1 _ (by decide) rfl
      have p2 := hcc 2 _ (by decide) rfl
      have p3 := hcc 3 _ (by decide) rfl
      have p4 := hcc 4 _ (by decide) rfl
      have p5 := hcc 5 _ (by decide) rfl
      have p6 := hcc 6 _ (by decide) rfl
      have p7 := hcc 7 _ (by decide) rfl
      dsimp only at p1 p2 p3 p4 p5 p6 p7
      clear hcc hii
      have hmi : (m : Int) < (l.length : Int) := by omega
      have HCG := hid (new_cellsG wr (⟨sid, swl, swh, sbl, sbh, shl, shh, sti⟩ : Sg) 33 _ rfl)
      go_wp2_with (at_builtin; go_must (refine wpList_append_own _ rfl _ _ 24 rfl w.heap.size 33 i0 (.agg #[.int .i64 0, .int .i64 0, .int .i64 0, .int .i64 0, .int .i64 0, .int .i64 0, .int .i64 0, .int .i64 0]) 8 64 Try.underlying24 hi0 hz0 hz1 hz2 rfl (by decide) _ _ _ rfl (ho.alloc _) ⟨wr.heap.size, 0, none⟩ 1 1 (cellsG (⟨sid, swl, swh, sbl, sbh, shl, shh, sti⟩ : Sg)) rfl rfl HCG.out (one_cellsG _) (by unfold maxLen; omega) (by omega) (by simp; omega) ?_; intro v' w4 ho4 hg4 hnil; replace hb0 := Pb.below_grown (hb0.alloc (by omega) _) hg4 (ho.alloc _) (by simp; omega) (by omega); clear hg4 hnil ho))
      go_roundg (zs.length - (k + 1))
      case measure => have h := HGK.out; omega
      case rel => exact ⟨k + 1, by omega, rfl, by go_num, by rw [← HE.out, List.flatMap_append]; simpa using ho4, hb0⟩
    · obtain rfl : k = zs.length := by omega
      rw [List.take_length] at ho
      go_wp2_with fail
      go_ret
      exact ⟨_, rfl, hb0, by rw [show (chosenG l zs).length = zs.length from List.length_map ..]; exact ho⟩

end Go.Proofs.Ytnchhleokdkejaa

/- A region that draws its order, as in Lib2, with one word more: the number of draws does not fall. So a call's world can be told as the one ahead of it, with draws and with new blocks. -/
namespace Go.Pb
set_option linter.unusedVariables false
open Go.RowKit Go.Sort
structure Gr (w w' : World) : Prop where
  b : Below w.heap.size w w'
  d : w.drawn ≤ w'.drawn
theorem Gr.refl (w : World) : Gr w w := ⟨Below.refl _ _, Nat.le_refl _⟩
theorem Gr.size {w w' : World} (h : Gr w w') : w.heap.size ≤ w'.heap.size := h.b.size
theorem Gr.trans {a b c : World} (h : Gr a b) (k : Gr b c) : Gr a c := ⟨h.b.trans (k.b.mono h.b.size), Nat.le_trans h.d k.d⟩
theorem Gr.drew {a b : World} (h : Gr a b) : Gr a b.drew := ⟨h.b.drew, Nat.le_trans h.d (Nat.le_succ _)⟩
theorem Gr.alloc {a b : World} (h : Gr a b) (o : Obj) : Gr a (b.alloc o) := ⟨h.b.alloc h.b.size _, h.d⟩
theorem Gr.setCell {a b : World} (h : Gr a b) {p : Addr} (hp : a.heap.size ≤ p.block) (v : Value) : Gr a (b.setCell p v) := ⟨h.b.setCell hp v, h.d⟩
/-- The world behind is the one ahead, with draws and with new blocks. -/
theorem Gr.grow {w w' : World} (h : Gr w w') : ∃ q os, w' = Go.Sort.grow (w.drewN q) os := by
  obtain ⟨⟨h1, h2, h3, h4, h5⟩, h6⟩ := h
  refine ⟨w'.drawn - w.drawn, w'.heap.extract w.heap.size w'.heap.size, ?_⟩
  obtain ⟨hp, tp, dr, os, out⟩ := w'
  obtain ⟨hp0, tp0, dr0, os0, out0⟩ := w
  simp only at h1 h2 h3 h4 h5 h6
  subst h1; subst h2; subst h3
  unfold Go.Sort.grow World.drewN
  simp only [World.mk.injEq, true_and, and_true]
  refine ⟨?_, by omega⟩
  apply Array.ext_getElem?
  intro i
  rcases Nat.lt_or_ge i hp0.size with hi | hi
  · rw [Array.getElem?_append_left hi]; exact h5 i hi
  · rw [Array.getElem?_append_right hi, Array.getElem?_extract]
    split
    · congr 1; omega
    · rw [Array.getElem?_eq_none (by omega)]
section
variable {P : Program} {md : Region.Mode} {ops : Array Oper} {w0 : World} {fr : Nat → Bool} {p : Nat → Value → World → Prop}

/-- The worlds of the walk in which what an operation waits for is known. -/
structure BQD (w0 : World) (q : World → Prop) where
  w' : World
  below : Gr w0 w'
  has : q w'

def ClD (w0 : World) (md : Region.Mode) (p : Nat → Value → World → Prop) (Γ : Known) (o : Oper) (w' : World) : Prop := ∃ x : BQD w0 (Facts md p Γ o), w' = x.w'

theorem ClD.iff {Γ : Known} {o : Oper} {w' : World} : ClD w0 md p Γ o w' ↔ Gr w0 w' ∧ Facts md p Γ o w' :=
  ⟨fun ⟨x, hx⟩ => hx ▸ ⟨x.below, x.has⟩, fun ⟨h1, h2⟩ => ⟨⟨w', h1, h2⟩, rfl⟩⟩

/-- AllD that is known, in one world. -/
def AllD (w0 : World) (p : Nat → Value → World → Prop) (Γ : Known) (W : World) : Prop := Gr w0 W ∧ ∀ g v, Γ g = some v → p g v W
theorem AllD.cl {Γ : Known} {W : World} (h : AllD w0 p Γ W) (o : Oper) : ClD w0 md p Γ o W := ClD.iff.2 ⟨h.1, fun g v hg _ => h.2 g v hg⟩

/-- An operation that makes memory: in the world w' it yields a value of which p is known; what was there stays. -/
def freshAtD (P : Program) (o : Oper) (a : Act) (p : Value → World → Prop) (w' : World) : Prop :=
  match (execOp a.eval o).run P w' with
  | .ok (.value u) w'' => Gr w' w'' ∧ p u w''
  | .ok (.enter f args) w'' => w'' = w' ∧ Calls P f args w' (fun e w'' => ∃ u, e = .returned u ∧ Gr w' w'' ∧ p u w'')
  | _ => False

/-- One operation of the group. -/
def oneRD (P : Program) (md : Region.Mode) (ops : Array Oper) (w0 : World) (fr : Nat → Bool) (p : Nat → Value → World → Prop) (Γ : Known) (h : Nat) (K : Known → Act → Prop) (a : Act) : Prop :=
  match ops[h]? with
  | none => K Γ a
  | some o =>
    if Region.wanted o (yielded ops a.tmps) = true then
      if fr h = true then (∀ w', ClD w0 md p Γ o w' → freshAtD P o a (p h) w') ∧ ∀ v, (∃ W, AllD w0 p (upd Γ h v) W) → K (upd Γ h v) (a.put o.dst v)
      else (∃ W, ClD w0 md p Γ o W) → ∃ v, (∀ w', ClD w0 md p Γ o w' → o.quietAt P a (ClD w0 md p Γ o) w' v) ∧ K Γ (a.put o.dst v)
    else K Γ (a.put o.dst undef)

def wpRD (P : Program) (md : Region.Mode) (ops : Array Oper) (w0 : World) (fr : Nat → Bool) (p : Nat → Value → World → Prop) (Fin : Known → Act → Prop) : List Nat → Known → Act → Prop
  | [], Γ, a => Fin Γ a
  | h :: rest, Γ, a => oneRD P md ops w0 fr p Γ h (wpRD P md ops w0 fr p Fin rest) a

theorem cl_updD {Γ : Known} {j : Nat} {v : Value} {o : Oper} (hw : waits md o j = false) : ClD w0 md p (upd Γ j v) o = ClD w0 md p Γ o := by
  funext w'; rw [eq_iff_iff, ClD.iff, ClD.iff, facts_upd hw]
theorem AllD.less {Γ : Known} {j : Nat} {v : Value} {W : World} (hj : Γ j = none) (h : AllD w0 p (upd Γ j v) W) : AllD w0 p Γ W :=
  ⟨h.1, fun g u hg => h.2 g u (by unfold upd; rw [if_neg (by rintro rfl; rw [hj] at hg; cases hg)]; exact hg)⟩
theorem fresh_inhD {o : Oper} {a : Act} {q : Value → World → Prop} {W : World} (h : freshAtD P o a q W) : ∃ u W', Gr W W' ∧ q u W' := by
  unfold freshAtD at h
  split at h
  · exact ⟨_, _, h⟩
  · obtain ⟨e, w', fr', ⟨u, _, hb, hq⟩, _⟩ := h.2 []
    exact ⟨u, w', hb, hq⟩
  · exact h.elim

/-- Two neighbours that do not wait for each other, and are apart, may change places. -/
theorem oneR_swapD {Γ : Known} {i j : Nat} {oi oj : Oper} {K : Known → Act → Prop} {a : Act} (hne : i ≠ j) (hi : ops[i]? = some oi) (hj : ops[j]? = some oj)
    (hsel : Region.noSelect ops = true) (hap : oj.apart ops oi = true) (hij : waits md oi j = false) (hji : waits md oj i = false)
    (hpl : fr j = true → fr i = false → plainOp oi.op = true) {W : World} (hW : AllD w0 p Γ W) (hΓi : Γ i = none) (hΓj : Γ j = none)
    (hkeep : ∀ i v w1 w2, p i v w1 → Below w1.heap.size w1 w2 → p i v w2)
    (H : oneRD P md ops w0 fr p Γ j (fun Γ' a' => oneRD P md ops w0 fr p Γ' i K a') a) : oneRD P md ops w0 fr p Γ i (fun Γ' a' => oneRD P md ops w0 fr p Γ' j K a') a := by
  obtain ⟨a1, a2, a3⟩ := Oper.apart_spec hap
  have si := fun cs b => Region.noSelect_spec hsel i oi cs b hi
  have sj := fun cs b => Region.noSelect_spec hsel j oj cs b hj
  have e1 : ∀ v, Region.wanted oi (yielded ops (a.put oj.dst v).tmps) = Region.wanted oi (yielded ops a.tmps) := fun v => wanted_put oi a oj.dst v a1
  have e2 : ∀ v, Region.wanted oj (yielded ops (a.put oi.dst v).tmps) = Region.wanted oj (yielded ops a.tmps) := fun v => wanted_put oj a oi.dst v a3
  have q1 : ∀ v C w' u, oi.quietAt P (a.put oj.dst v) C w' u ↔ oi.quietAt P a C w' u := fun v C w' u => by unfold Oper.quietAt; rw [execOp_put oi si a oj.dst v a1]
  have q2 : ∀ v C w' u, oj.quietAt P (a.put oi.dst v) C w' u ↔ oj.quietAt P a C w' u := fun v C w' u => by unfold Oper.quietAt; rw [execOp_put oj sj a oi.dst v a3]
  have f1 : ∀ v q w', freshAtD P oi (a.put oj.dst v) q w' ↔ freshAtD P oi a q w' := fun v q w' => by unfold freshAtD; rw [execOp_put oi si a oj.dst v a1]
  have f2 : ∀ v q w', freshAtD P oj (a.put oi.dst v) q w' ↔ freshAtD P oj a q w' := fun v q w' => by unfold freshAtD; rw [execOp_put oj sj a oi.dst v a3]
  have pc : ∀ v u, (a.put oj.dst v).put oi.dst u = (a.put oi.dst u).put oj.dst v := fun v u => Act.put_comm a v u a2
  have inh : ∀ h o, Γ h = none → (∀ w', ClD w0 md p Γ o w' → freshAtD P o a (p h) w') → ∃ v, ∃ W, AllD w0 p (upd Γ h v) W := by
    intro h o hh hf
    obtain ⟨u, W', hb, hq⟩ := fresh_inhD (hf W (hW.cl o))
    refine ⟨u, W', hW.1.trans hb, fun g v hg => ?_⟩
    unfold upd at hg
    by_cases hgh : g = h
    · subst hgh; rw [if_pos rfl] at hg; cases hg; exact hq
    · rw [if_neg hgh] at hg; exact hkeep _ _ _ _ (hW.2 g v hg) hb.b
  unfold oneRD at *
  simp only [hi, hj, e1, e2, q1, q2, f1, f2, pc] at *
  by_cases wj : Region.wanted oj (yielded ops a.tmps) = true
  · by_cases wi : Region.wanted oi (yielded ops a.tmps) = true
    · simp only [wj, wi, if_true] at *
      by_cases fj : fr j = true
      · by_cases fi : fr i = true
        · simp only [fj, fi, if_true, cl_updD hij, cl_updD hji] at *
          obtain ⟨h1, h2⟩ := H
          obtain ⟨v0, hv0⟩ := inh j oj hΓj h1
          refine ⟨(h2 v0 hv0).1, fun v _ => ⟨h1, fun u hu => ?_⟩⟩
          rw [upd_comm hne] at hu ⊢
          have hΓ : upd Γ j u i = none := by unfold upd; rw [if_neg hne]; exact hΓi
          obtain ⟨W', hW'⟩ := hu
          exact (h2 u ⟨W', hW'.less hΓ⟩).2 v ⟨W', hW'⟩
        · have fi' : fr i = false := by simpa using fi
          simp only [fj, fi', if_true, Bool.false_eq_true, if_false, cl_updD hij, cl_updD hji] at *
          obtain ⟨h1, h2⟩ := H
          obtain ⟨v0, hv0⟩ := inh j oj hΓj h1
          obtain ⟨vi, hvi, _⟩ := h2 v0 hv0 ⟨W, hW.cl _⟩
          refine fun _ => ⟨vi, hvi, h1, fun u hu => ?_⟩
          obtain ⟨vi', hvi', hK⟩ := h2 u hu ⟨W, hW.cl _⟩
          obtain rfl : vi = vi' := quietAt_det (hpl trivial trivial) (hvi W (hW.cl _)) (hvi' W (hW.cl _))
          exact hK
      · have fj' : fr j = false := by simpa using fj
        by_cases fi : fr i = true
        · simp only [fj', fi, if_true, Bool.false_eq_true, if_false, cl_updD hij, cl_updD hji] at *
          obtain ⟨vj, h1, h2, h3⟩ := H ⟨W, hW.cl _⟩
          exact ⟨h2, fun v hv => fun _ => ⟨vj, h1, h3 v hv⟩⟩
        · have fi' : fr i = false := by simpa using fi
          simp only [fj', fi', Bool.false_eq_true, if_false, cl_updD hij, cl_updD hji] at *
          obtain ⟨vj, h1, h4⟩ := H ⟨W, hW.cl _⟩
          obtain ⟨vi, h2, h3⟩ := h4 ⟨W, hW.cl _⟩
          exact fun _ => ⟨vi, h2, fun _ => ⟨vj, h1, h3⟩⟩
    · simp only [wj, wi, if_true] at *
      by_cases fj : fr j = true
      · simp only [fj, if_true] at *
        exact H
      · simp only [fj] at *
        exact H
  · by_cases wi : Region.wanted oi (yielded ops a.tmps) = true
    · simp only [wj, wi, if_true] at *
      by_cases fi : fr i = true
      · simp only [fi, if_true] at *
        exact H
      · simp only [fi] at *
        exact H
    · simp only [wj, wi] at *
      exact H

theorem wpR_pullD {Fin : Known → Act → Prop} (hsel : Region.noSelect ops = true) (hkeep : ∀ i v w1 w2, p i v w1 → Below w1.heap.size w1 w2 → p i v w2) {i : Nat} {oi : Oper} (hi : ops[i]? = some oi) :
    ∀ (l : List Nat) (Γ : Known) (a : Act), i ∈ l → l.Nodup → l.Pairwise (Pair md ops fr) → (∀ j ∈ l, waits md oi j = false) →
      (∀ h ∈ l, Γ h = none) → (∃ W, AllD w0 p Γ W) →
      wpRD P md ops w0 fr p Fin l Γ a → wpRD P md ops w0 fr p Fin (i :: l.erase i) Γ a := by
  intro l
  induction l with
  | nil => intro Γ a h; cases h
  | cons h rest ih =>
    intro Γ a hil hnd hpw hw hΓ hall H
    by_cases hhi : h = i
    · subst hhi; simpa using H
    have hir : i ∈ rest := by simpa [Ne.symm hhi] using hil
    rw [List.nodup_cons] at hnd
    rw [List.pairwise_cons] at hpw
    obtain ⟨oh, oi', hoh, hi', hap, hback, hpl⟩ := hpw.1 i hir
    obtain rfl : oi = oi' := Option.some.inj (hi.symm.trans hi')
    have he : (h :: rest).erase i = h :: rest.erase i := by rw [List.erase_cons_tail (by simpa using hhi)]
    rw [he]
    have step : ∀ Γ' a', (∀ g ∈ rest, Γ' g = none) → (∃ W, AllD w0 p Γ' W) → wpRD P md ops w0 fr p Fin rest Γ' a' → wpRD P md ops w0 fr p Fin (i :: rest.erase i) Γ' a' := fun Γ' a' hΓ' hall' H' =>
      ih Γ' a' hir hnd.2 hpw.2 (fun j hj => hw j (by simp [hj])) hΓ' hall' H'
    have hij : waits md oi h = false := hw h (by simp)
    obtain ⟨W, hW⟩ := hall
    have H1 : oneRD P md ops w0 fr p Γ h (fun Γ' a' => oneRD P md ops w0 fr p Γ' i (wpRD P md ops w0 fr p Fin (rest.erase i)) a') a := by
      unfold wpRD at H
      unfold oneRD at H ⊢
      simp only [hoh] at H ⊢
      split
      · rename_i hwant
        rw [if_pos hwant] at H
        split
        · rename_i hf
          rw [if_pos hf] at H
          refine ⟨H.1, fun v hv => ?_⟩
          exact step (upd Γ h v) _ (fun g hg => by
            unfold upd; rw [if_neg (by rintro rfl; exact hnd.1 hg)]; exact hΓ g (by simp [hg])) hv (H.2 v hv)
        · rename_i hf
          rw [if_neg hf] at H
          intro hc
          obtain ⟨v, h1, h2⟩ := H hc
          exact ⟨v, h1, step Γ _ (fun g hg => hΓ g (by simp [hg])) ⟨W, hW⟩ h2⟩
      · rename_i hwant
        rw [if_neg hwant] at H
        exact step Γ _ (fun g hg => hΓ g (by simp [hg])) ⟨W, hW⟩ H
    rw [hij] at hap hpl
    exact oneR_swapD (Ne.symm hhi) hi hoh hsel (by simpa using hap) hij hback (fun h1 h2 => by simpa using hpl h1 h2) hW (hΓ i (by simp [hir])) (hΓ h (by simp)) hkeep H1

theorem wpAny_of_wpRD {Q : Exit → Act → World → Prop} {g : Nat} {hs : List Nat} {L : Array Bool} (hsel : Region.noSelect ops = true) (hplain : ∀ h o, h ∈ hs → fr h = false → ops[h]? = some o → plainOp o.op = true)
    (hkeep : ∀ i v w1 w2, p i v w1 → Below w1.heap.size w1 w2 → p i v w2) (hL : L.size = ops.size) :
    ∀ (f : Nat) (M : Array Bool) (l : List Nat) (Γ : Known) (a : Act) (w : World), l.length = f → l.Nodup → l.Pairwise (Pair md ops fr) → (∀ j ∈ l, M.getD j true = false) →
      (∀ j ∈ hs, j ∈ l ∨ M.getD j true = true) → (∀ h ∈ l, Γ h = none) → Hered md ops hs f M → AllD w0 p Γ w → mark l M = mark hs L →
      wpRD P md ops w0 fr p (fun Γ' a' => ∀ w', AllD w0 p Γ' w' → wpAny P md ops Q g (mark hs L) a' w') l Γ a → wpAny P md ops Q (f + g) M a w := by
  intro f
  induction f with
  | zero =>
    intro M l Γ a w hlen _ _ _ _ _ _ hall hmk H
    obtain rfl := List.length_eq_zero_iff.1 hlen
    rw [Nat.zero_add, show M = mark hs L from hmk]
    exact H w hall
  | succ f ih =>
    intro M l Γ a w hlen hnd hpw hun hcov hΓ hh hall hmk H
    rw [show f + 1 + g = (f + g) + 1 by omega]
    refine ⟨fun h0 => absurd h0 hh.1, fun i hi => ?_⟩
    obtain ⟨hiu, oi, hoi, hdeps⟩ := mem_ready.1 hi
    have hil : i ∈ l := by
      rcases hcov i (hh.2.1 i hi) with h1 | h1
      · exact h1
      · rw [h1] at hiu; cases hiu
    have hiM : i < M.size := by
      rcases Nat.lt_or_ge i M.size with h' | h'
      · exact h'
      · simp [Array.getElem?_eq_none h'] at hiu
    have H1 := wpR_pullD hsel hkeep hoi l Γ a hil hnd hpw (fun j hj => waits_dep hdeps (hun j hj)) hΓ ⟨w, hall⟩ H
    have hle : (l.erase i).length = f := by rw [List.length_erase_of_mem hil]; omega
    have next : ∀ Γ' a' w', (∀ h ∈ l.erase i, Γ' h = none) → AllD w0 p Γ' w' → wpRD P md ops w0 fr p (fun Γ' a' => ∀ w', AllD w0 p Γ' w' → wpAny P md ops Q g (mark hs L) a' w') (l.erase i) Γ' a' →
        wpAny P md ops Q (f + g) (M.setIfInBounds i true) a' w' := fun Γ' a' w' hΓ' hall' H' =>
      ih (M.setIfInBounds i true) (l.erase i) Γ' a' w' hle (hnd.erase i) (hpw.sublist List.erase_sublist) (fun j hj => by
          have hne : j ≠ i := by rintro rfl; exact (List.Nodup.not_mem_erase hnd) hj
          rw [getD_set_ne true (Ne.symm hne)]; exact hun j (List.mem_of_mem_erase hj))
        (fun j hj => by
          by_cases hji : j = i
          · subst hji; right; simp
          · rcases hcov j hj with h1 | h1
            · left; exact (List.mem_erase_of_ne hji).2 h1
            · right; rw [getD_set_ne true (Ne.symm hji)]; exact h1)
        hΓ' (hh.2.2.2 i hi) hall' (by
          rw [← hmk]
          have key : ∀ (l : List Nat) (M : Array Bool), i ∈ l → mark l M = mark (l.erase i) (M.setIfInBounds i true) := by
            intro l
            induction l with
            | nil => intro M h; cases h
            | cons x l ihl =>
              intro M h
              by_cases hx : x = i
              · subst hx; simp [mark]
              · rw [List.erase_cons_tail (by simpa using hx)]
                simp only [mark, List.foldl_cons]
                have h2 := ihl (M.setIfInBounds x true) (by simpa [Ne.symm hx] using h)
                simp only [mark] at h2
                rw [h2, Array.setIfInBounds_comm _ _ hx]
          exact (key l M hil).symm) H'
    have hΓe : ∀ h ∈ l.erase i, Γ h = none := fun h hh' => hΓ h (List.mem_of_mem_erase hh')
    unfold wpRD oneRD at H1
    simp only [hoi] at H1
    unfold wpOp
    simp only [hoi]
    split
    · rename_i hwant
      rw [if_pos hwant] at H1
      left
      split at H1
      · rename_i hf
        obtain ⟨h1, h2⟩ := H1
        have h3 := h1 w (hall.cl oi)
        have go : ∀ u w'', Gr w w'' → p i u w'' → wpAny P md ops Q (f + g) (M.setIfInBounds i true) (a.put oi.dst u) w'' := by
          intro u w'' hb hq
          have hall' : AllD w0 p (upd Γ i u) w'' := ⟨hall.1.trans hb, fun k v hk => by
            unfold upd at hk
            by_cases hki : k = i
            · subst hki; rw [if_pos rfl] at hk; cases hk; exact hq
            · rw [if_neg hki] at hk; exact hkeep _ _ _ _ (hall.2 k v hk) hb.b⟩
          refine next _ _ _ (fun k hk => ?_) hall' (h2 u ⟨w'', hall'⟩)
          unfold upd
          rw [if_neg (by rintro rfl; exact (List.Nodup.not_mem_erase hnd) hk)]
          exact hΓe k hk
        unfold freshAtD at h3
        unfold Oper.wp
        generalize (execOp a.eval oi).run P w = r at h3 ⊢
        cases r with
        | halt x w' => exact h3.elim
        | ok n w' =>
          cases n <;> simp only at h3
          case value u => exact go u w' h3.1 h3.2
          case enter fn args =>
            obtain ⟨rfl, hc⟩ := h3
            exact hc.mono fun e w'' ⟨u, he, hb, hq⟩ => by subst he; exact go u w'' hb hq
      · rename_i hf
        obtain ⟨v, h1, h2⟩ := H1 ⟨w, hall.cl oi⟩
        have h3 := h1 w (hall.cl oi)
        unfold Oper.quietAt at h3
        unfold Oper.wp
        generalize hr : (execOp a.eval oi).run P w = r at h3 ⊢
        cases r with
        | halt x w' => simp only [Oper.quietUpon] at h3
        | ok n w' =>
          cases n <;> simp only [Oper.quietUpon] at h3
          case value u =>
            obtain ⟨rfl, rfl⟩ := h3
            exact next _ _ _ hΓe hall h2
          case skip =>
            obtain ⟨rfl, rfl⟩ := h3
            exact next _ _ _ hΓe hall h2
          case enter fn args => exact absurd hr (plain_ne (hplain i oi (hh.2.1 i hi) (by simpa using hf) hoi) _)
    · rename_i hwant
      rw [if_neg hwant] at H1
      exact next _ _ _ hΓe hall H1

theorem wpAny_RD {Q : Exit → Act → World → Prop} {L : Array Bool} {a : Act} {w : World} (fs : List Nat) (hs : List Nat) (g : Nat)
    (hkeep : ∀ i v w1 w2, p i v w1 → Below w1.heap.size w1 w2 → p i v w2)
    (hB : (groupB md ops L hs && pairsB md ops (fs.contains ·) hs && plainsB ops (fs.contains ·) hs) = true) (hw : Gr w0 w)
    (h : wpRD P md ops w0 (fs.contains ·) p (fun Γ' a' => ∀ w', AllD w0 p Γ' w' → wpAny P md ops Q g (mark hs L) a' w') hs (fun _ => none) a) : wpAny P md ops Q (hs.length + g) L a w := by
  simp only [Bool.and_eq_true] at hB
  obtain ⟨⟨hG, hP⟩, hPl⟩ := hB
  have hG' := hG
  simp only [groupB, Bool.and_eq_true, decide_eq_true_eq] at hG'
  obtain ⟨⟨⟨⟨hsz, hsel⟩, hcl⟩, hout⟩, hord⟩ := hG'
  obtain ⟨hnd, hmem, hpre⟩ := orderB_spec hord
  have hleft : left hs L = hs.length := by
    unfold left
    rw [List.filter_eq_self.2 (fun j hj => by rw [(hmem j hj).2.1]; rfl)]
  have hsh : Shut md ops L := by
    intro j o ho hj e he hb
    have hjo : j < ops.size := by
      rcases Nat.lt_or_ge j ops.size with h' | h'
      · exact h'
      · simp [Array.getElem?_eq_none h'] at ho
    have h1 := List.all_eq_true.1 hcl j (List.mem_range.2 hjo)
    simp only [hj, ho, Bool.not_true, Bool.false_or] at h1
    simpa [hb] using Array.all_eq_true'.1 h1 e he
  have hh := hered_of hG hs.length L hleft hsh hsz (fun j hj => .inl hj) (fun j hj => hj)
  refine wpAny_of_wpRD (hs := hs) (L := L) hsel (fun k o hk hf ho => ?_) hkeep hsz hs.length L hs (fun _ => none) a w rfl hnd (pairs_of hP) (fun j hj => (hmem j hj).2.1)
    (fun j hj => .inl hj) (fun _ _ => rfl) hh ⟨hw, fun _ _ hg => by cases hg⟩ rfl h
  have := List.all_eq_true.1 hPl k hk
  simp only [show (fs.contains k) = false from hf, ho, Bool.false_or] at this
  exact this

/-- A REGION THAT DRAWS: a group first: quiet operations, and (fs) operations that make memory, of whose yields p tells; then the others. -/
theorem wp_region_RD {id : Nat} {Q : Exit → Act → World → Prop} {a : Act} {w : World} {l : List Oper} (fs hs : List Nat) (g : Nat) (p : Nat → Value → World → Prop) (hm : P.follows .mixedOrders = true)
    (hn : hs.length + g = l.length) (hkeep : ∀ i v w1 w2, p i v w1 → Below w1.heap.size w1 w2 → p i v w2)
    (hB : (groupB .any l.toArray (Array.replicate l.length false) hs && pairsB .any l.toArray (fs.contains ·) hs && plainsB l.toArray (fs.contains ·) hs) = true)
    (h : wpRD P .any l.toArray w (fs.contains ·) p (fun Γ' a' => ∀ w', AllD w p Γ' w' → wpAny P .any l.toArray Q g (mark hs (Array.replicate l.length false)) a' w') hs (fun _ => none) a) :
    (Code.region id l.toArray true).wp P Q a w := by
  refine wp_region_any hm ?_
  have := wpAny_RD (P := P) (Q := Q) (w0 := w) (w := w.drew) (a := a) fs hs g hkeep hB (Gr.refl w).drew h
  rw [hn] at this
  simpa using this

/-! The steps of the walk through a group, its operations written out. -/
def wpSD (P : Program) (md : Region.Mode) (ops : Array Oper) (w0 : World) (fr : Nat → Bool) (p : Nat → Value → World → Prop) (Fin : Known → Act → Prop) (l : List (Nat × Oper)) (Γ : Known) (a : Act) : Prop :=
  (∀ x ∈ l, ops[x.1]? = some x.2) → wpRD P md ops w0 fr p Fin (l.map (·.1)) Γ a
theorem wpS_quietD {Fin : Known → Act → Prop} {h : Nat} {rest : List (Nat × Oper)} {Γ : Known} {a : Act} {o : Oper} (hw : Region.wanted o (yielded ops a.tmps) = true) (hf : fr h = false)
    (H : ∀ K : Act → Prop, (∀ a, wpSD P md ops w0 fr p Fin rest Γ a → K a) → Nonempty (BQD w0 (Facts md p Γ o)) → (∀ (x : BQD w0 (Facts md p Γ o)) b i, (w0.cell? ⟨b, i, none⟩).isSome = true → x.w'.cell? ⟨b, i, none⟩ = w0.cell? ⟨b, i, none⟩) →
      o.quiet P a (fun w' => ∃ x : BQD w0 (Facts md p Γ o), w' = x.w') K) : wpSD P md ops w0 fr p Fin ((h, o) :: rest) Γ a := by
  intro hl
  have ho : ops[h]? = some o := hl (h, o) (by simp)
  simp only [List.map_cons]
  unfold wpRD oneRD; simp only [ho, hw, hf, if_true, Bool.false_eq_true, if_false]
  exact fun ⟨_, x, _⟩ => H _ (fun _ h => h fun x hx => hl x (by simp [hx])) ⟨x⟩ (fun x b i hv => (bcell x.below.b).1 b i hv)
theorem wpS_freshD {Fin : Known → Act → Prop} {h : Nat} {rest : List (Nat × Oper)} {Γ : Known} {a : Act} {o : Oper} (hw : Region.wanted o (yielded ops a.tmps) = true) (hf : fr h = true)
    (H1 : ∀ w', Gr w0 w' → Facts md p Γ o w' → freshAtD P o a (p h) w') (H2 : ∀ v W, p h v W → wpSD P md ops w0 fr p Fin rest (upd Γ h v) (a.put o.dst v)) : wpSD P md ops w0 fr p Fin ((h, o) :: rest) Γ a := by
  intro hl
  have ho : ops[h]? = some o := hl (h, o) (by simp)
  simp only [List.map_cons]
  unfold wpRD oneRD; simp only [ho, hw, hf, if_true]
  exact ⟨fun w' hc => H1 w' (ClD.iff.1 hc).1 (ClD.iff.1 hc).2, fun v ⟨W, hW⟩ => H2 v W (hW.2 h v (by simp [upd])) fun x hx => hl x (by simp [hx])⟩
theorem wpS_nilD {Fin : Known → Act → Prop} {Γ : Known} {a : Act} (H : Fin Γ a) : wpSD P md ops w0 fr p Fin [] Γ a := fun _ => H
theorem wpR_of_wpSD {Fin : Known → Act → Prop} {hs : List Nat} {Γ : Known} {a : Act} (ho : ∀ h ∈ hs, ∃ o, ops[h]? = some o) (H : wpSD P md ops w0 fr p Fin (numbered ops hs) Γ a) : wpRD P md ops w0 fr p Fin hs Γ a := by
  have h1 : ∀ x ∈ numbered ops hs, ops[x.1]? = some x.2 := by
    intro x hx
    unfold numbered at hx
    obtain ⟨h, _, hx⟩ := List.mem_filterMap.1 hx
    cases hh : ops[h]? with
    | none => simp [hh] at hx
    | some o => simp [hh] at hx; subst hx; exact hh
  have h2 : (numbered ops hs).map (·.1) = hs := by
    clear H h1
    induction hs with
    | nil => rfl
    | cons h hs ih =>
      obtain ⟨o, hho⟩ := ho h (by simp)
      unfold numbered at ih ⊢
      simp only [List.filterMap_cons, hho, Option.map_some, List.map_cons]
      rw [ih fun k hk => ho k (by simp [hk])]
  have := H h1
  rwa [h2] at this
end
theorem wp_region_RsD {P : Program} {id : Nat} {Q : Exit → Act → World → Prop} {a : Act} {w : World} {l : List Oper} (ps : List (Nat × (Value → World → Prop))) (hs : List Nat) (g : Nat) (hm : P.follows .mixedOrders = true)
    (hn : hs.length + g = l.length) (hkeep : ∀ x ∈ ps, Keeps x.2)
    (hB : (groupB .any l.toArray (Array.replicate l.length false) hs && pairsB .any l.toArray ((ps.map (·.1)).contains ·) hs && plainsB l.toArray ((ps.map (·.1)).contains ·) hs) = true)
    (h : wpSD P .any l.toArray w ((ps.map (·.1)).contains ·) (pOf ps) (fun Γ' a' => ∀ w', AllD w (pOf ps) Γ' w' → wpAny P .any l.toArray Q g (mark hs (Array.replicate l.length false)) a' w') (numbered l.toArray hs) (fun _ => none) a) :
    (Code.region id l.toArray true).wp P Q a w := by
  refine wp_region_RD (ps.map (·.1)) hs g (pOf ps) hm hn (pOf_keeps hkeep) hB (wpR_of_wpSD (fun k hk => ?_) h)
  simp only [groupB, Bool.and_eq_true] at hB
  obtain ⟨_, hmem, _⟩ := orderB_spec hB.1.1.2
  exact (hmem k hk).2.2
end Go.Pb

/- A region that draws: loads of what stays as it is, whatever the other operations do, are run first; then a group; then the rest. -/
namespace Go.Pb
set_option linter.unusedVariables false
open Go Go.RowKit
section
variable {P : Program} {md : Region.Mode} {ops : Array Oper} {Q : Exit → Act → World → Prop} {C : World → Prop}
/-- As wpAny; C holds wherever an operation is about to be run. -/
def wpAnyC (P : Program) (md : Region.Mode) (ops : Array Oper) (Q : Exit → Act → World → Prop) (C : World → Prop) : Nat → Array Bool → Act → World → Prop
  | 0, L, a, w => C w ∧ Region.ready md ops L = [] ∧ Q .normal a w
  | n + 1, L, a, w => C w ∧ (Region.ready md ops L = [] → Q .normal a w) ∧ ∀ i ∈ Region.ready md ops L, wpOp P ops Q i (wpAnyC P md ops Q C n (L.setIfInBounds i true)) a w
theorem wpAnyC_any : ∀ {n : Nat} {L : Array Bool} {a : Act} {w : World}, wpAnyC P md ops Q C n L a w → wpAny P md ops Q n L a w
  | 0, _, _, _, h => h.2
  | n + 1, _, _, _, h => ⟨h.2.1, fun i hi => wpOp_mono (fun _ _ h => wpAnyC_any h) (h.2.2 i hi)⟩
theorem wpAnyC_ready {n r : Nat} {L : Array Bool} {a : Act} {w : World} (hC : C w) (hr : Region.ready md ops L = [r]) (h : wpOp P ops Q r (wpAnyC P md ops Q C n (L.setIfInBounds r true)) a w) : wpAnyC P md ops Q C (n + 1) L a w :=
  ⟨hC, fun h0 => (by rw [hr] at h0; cases h0), fun i hi => by rw [hr, List.mem_singleton] at hi; subst hi; exact h⟩
theorem wpAnyC_op {n r : Nat} {o : Oper} {L : Array Bool} {a : Act} {w : World} (hC : C w) (hr : Region.ready md ops L = [r]) (ho : ops[r]? = some o) (hw : Region.wanted o (yielded ops a.tmps) = true)
    (h : ∀ K : Act → World → Prop, (∀ a' w', wpAnyC P md ops Q C n (L.setIfInBounds r true) a' w' → K a' w') → o.wp P a w K Q) : wpAnyC P md ops Q C (n + 1) L a w := by
  refine wpAnyC_ready hC hr ?_
  unfold wpOp
  simp only [ho, hw, if_true]
  exact .inl (h _ fun _ _ h => h)
theorem wpAnyC_end {L : Array Bool} {a : Act} {w : World} (hC : C w) (hr : Region.ready md ops L = []) (h : Q .normal a w) : wpAnyC P md ops Q C 0 L a w := ⟨hC, hr, h⟩
theorem wpAnyC_at {n : Nat} {L : Array Bool} {a : Act} {w : World} (h : wpAnyC P md ops Q C n L a w) : C w := by cases n <;> exact h.1
/-- Where C holds, the operation yields v and leaves the world as it is. -/
def LoadsC (P : Program) (ops : Array Oper) (C : World → Prop) (o : Oper) (v : Value) (a : Act) : Prop := Region.wanted o (yielded ops a.tmps) = true ∧ ∀ w, C w → (execOp a.eval o).run P w = .ok (.value v) w
theorem wpOp_keep {R : Act → Prop} {j : Nat} {oj : Oper} (hj : ops[j]? = some oj) {K : Act → World → Prop} {a : Act} {w : World} (hk : ∀ u, R (a.put oj.dst u)) (hkD : ∀ d u, R (({ a with defers := d :: a.defers } : Act).put oj.dst u))
    (h : wpOp P ops Q j K a w) : wpOp P ops Q j (fun a' w' => R a' ∧ K a' w') a w := by
  unfold wpOp at *
  simp only [hj] at *
  split
  · rename_i hw
    simp only [hw, if_true] at h
    rcases h with h | h
    · left
      unfold Oper.wp at *
      generalize (execOp a.eval oj).run P w = r at *
      cases r with
      | ok n w' =>
        cases n <;> simp only [Oper.upon] at h ⊢
        case value u => exact ⟨hk u, h⟩
        case skip => exact ⟨hk _, h⟩
        case defer d => exact ⟨hkD d _, h⟩
        case enter f args =>
          refine Calls.mono h fun e w'' he => ?_
          cases e with
          | returned u => exact ⟨hk u, he⟩
          | panicked c => exact he
          | outgrown => exact he
        case row row args => exact Rows.mono h fun u w'' he => ⟨hk u, he⟩
      | halt x w' => cases x <;> exact h
    · exact .inr h
  · rename_i hw
    simp only [hw] at h
    exact ⟨hk _, h⟩
theorem wpOp_putC {j : Nat} {oi oj : Oper} {v : Value} (hj : ops[j]? = some oj) (hap : oi.apart ops oj = true) (hsi : ∀ cs b, oi.op ≠ .select cs b) (hsj : ∀ cs b, oj.op ≠ .select cs b) {K : Act → World → Prop} {a : Act} {w : World}
    (hy : LoadsC P ops C oi v a) (h : wpOp P ops (Only Q) j K (a.put oi.dst v) w) : wpOp P ops (Only Q) j (fun a' w' => LoadsC P ops C oi v a' ∧ K (a'.put oi.dst v) w') a w := by
  obtain ⟨h1, h2, h3⟩ := Oper.apart_spec hap
  refine wpOp_keep hj (fun u => ?_) (fun d u => ?_) ?_
  · exact ⟨by rw [wanted_put oi a oj.dst u h3]; exact hy.1, fun w hC => by rw [execOp_put oi hsi a oj.dst u h3]; exact hy.2 w hC⟩
  · exact ⟨by rw [wanted_put oi _ oj.dst u h3]; exact hy.1, fun w hC => by rw [execOp_put oi hsi _ oj.dst u h3]; exact hy.2 w hC⟩
  · unfold wpOp at *
    simp only [hj] at *
    rw [wanted_put oj a oi.dst v h1] at h
    split
    · rename_i hw
      simp only [hw, if_true] at h
      rcases h with h | ⟨_, hl⟩
      · left
        unfold Oper.wp at *
        rw [execOp_put oj hsj a oi.dst v h1] at h
        generalize (execOp a.eval oj).run P w = r at *
        cases r with
        | ok n w' =>
          cases n <;> simp only [Oper.upon] at h ⊢
          case value u => rw [← Act.put_comm a v u h2]; exact h
          case skip => rw [← Act.put_comm a v undef h2]; exact h
          case defer d => rw [← Act.put_comm _ v undef h2, ← Act.put_defers]; exact h
          case enter f args =>
            refine Calls.mono h fun e w'' he => ?_
            cases e with
            | returned u => show K _ _; rw [← Act.put_comm a v u h2]; exact he
            | panicked c => exact absurd he.1 (by simp)
            | outgrown => exact absurd he only_lets
          case row row args => exact Rows.mono h fun u w'' he => by rw [← Act.put_comm a v u h2]; exact he
        | halt x w' =>
          cases x <;> simp only [Oper.upon] at h ⊢
          case panic u => exact absurd h.1 (by simp)
      · exact absurd hl only_lets
    · rename_i hw
      simp only [hw] at h
      rw [← Act.put_comm a v undef h2]; exact h
theorem LoadsC.op {i : Nat} {o : Oper} {v : Value} {a : Act} (hi : ops[i]? = some o) (hy : LoadsC P ops C o v a) {K : Act → World → Prop} {w : World} (hC : C w) (h : K (a.put o.dst v) w) : wpOp P ops Q i K a w := by
  unfold wpOp
  simp only [hi, hy.1, if_true]
  left
  unfold Oper.wp
  rw [hy.2 w hC]
  exact h
/-- Such a load may be run first. -/
theorem wpAnyC_first {i : Nat} {oi : Oper} {v : Value} (hi : ops[i]? = some oi) (hsel : ∀ (j : Nat) (o : Oper) cs b, ops[j]? = some o → o.op ≠ .select cs b) :
    ∀ (n : Nat) (L : Array Bool) (a : Act) (w : World),
      (∀ j oj, ops[j]? = some oj → j ≠ i → L.getD j true = false → (∀ e ∈ oj.after, Region.binds md e = true → e.on ≠ i) → oi.apart ops oj = true) →
      i ∈ Region.ready md ops L → LoadsC P ops C oi v a → C w →
      wpAnyC P md ops (Only Q) C n (L.setIfInBounds i true) (a.put oi.dst v) w → wpAnyC P md ops (Only Q) C (n + 1) L a w := by
  intro n
  induction n with
  | zero =>
    intro L a w _ hr hy hC H
    refine ⟨hC, fun h => (by rw [h] at hr; cases hr), fun j hj => ?_⟩
    by_cases hji : j = i
    · subst hji; exact hy.op hi hC H
    · have := ready_mono hj hji
      rw [H.2.1] at this
      cases this
  | succ n ih =>
    intro L a w hfree hr hy hC H
    refine ⟨hC, fun h => (by rw [h] at hr; cases hr), fun j hj => ?_⟩
    by_cases hji : j = i
    · subst hji; exact hy.op hi hC H
    · have h1 := H.2.2 j (ready_mono hj hji)
      obtain ⟨hjun, oj, hoj, hall⟩ := mem_ready.1 hj
      have hnot : ∀ e ∈ oj.after, Region.binds md e = true → e.on ≠ i := fun e he hb heq => by
        have h2 := hall e he hb
        have h0 := (mem_ready.1 hr).1
        rw [heq] at h2
        rcases Nat.lt_or_ge i L.size with h' | h'
        · simp [h'] at h0 h2; rw [h0] at h2; cases h2
        · simp [Array.getElem?_eq_none h'] at h2
      have h2 := wpOp_putC hoj (hfree j oj hoj hji hjun hnot) (fun cs b => hsel i oi cs b hi) (fun cs b => hsel j oj cs b hoj) hy h1
      have hfree' : ∀ k ok, ops[k]? = some ok → k ≠ i → (L.setIfInBounds j true).getD k true = false → (∀ e ∈ ok.after, Region.binds md e = true → e.on ≠ i) → oi.apart ops ok = true := fun k ok hk hki hun hno => by
        refine hfree k ok hk hki ?_ hno
        by_cases hjk : j = k
        · subst hjk; exact hjun
        · rw [getD_set_ne true hjk] at hun; exact hun
      have key : ∀ a' w', LoadsC P ops C oi v a' → wpAnyC P md ops (Only Q) C n ((L.setIfInBounds i true).setIfInBounds j true) (a'.put oi.dst v) w' → wpAnyC P md ops (Only Q) C (n + 1) (L.setIfInBounds j true) a' w' := by
        intro a' w' hy' H'
        rw [Array.setIfInBounds_comm _ _ (Ne.symm hji)] at H'
        have hr' := ready_mono hr (Ne.symm hji)
        exact ih (L.setIfInBounds j true) a' w' hfree' hr' hy' (wpAnyC_at H') H'
      exact wpOp_mono (fun a' w' h3 => key a' w' h3.1 h3.2) h2
end
section
variable {P : Program} {md : Region.Mode} {ops : Array Oper} {w0 : World} {fr : Nat → Bool} {p : Nat → Value → World → Prop} {C : World → Prop}
theorem wpAnyC_of_wpR {Q : Exit → Act → World → Prop} (hC : ∀ w, Below w0.heap.size w0 w → C w) {g : Nat} {hs : List Nat} {L : Array Bool} (hsel : Region.noSelect ops = true) (hplain : ∀ h o, h ∈ hs → fr h = false → ops[h]? = some o → plainOp o.op = true)
    (hkeep : ∀ i v w1 w2, p i v w1 → Below w1.heap.size w1 w2 → p i v w2) (hL : L.size = ops.size) :
    ∀ (f : Nat) (M : Array Bool) (l : List Nat) (Γ : Known) (a : Act) (w : World), l.length = f → l.Nodup → l.Pairwise (Pair md ops fr) → (∀ j ∈ l, M.getD j true = false) →
      (∀ j ∈ hs, j ∈ l ∨ M.getD j true = true) → (∀ h ∈ l, Γ h = none) → Hered md ops hs f M → All w0 p Γ w → mark l M = mark hs L →
      wpR P md ops w0 fr p (fun Γ' a' => ∀ w', All w0 p Γ' w' → wpAnyC P md ops Q C g (mark hs L) a' w') l Γ a → wpAnyC P md ops Q C (f + g) M a w := by
  intro f
  induction f with
  | zero =>
    intro M l Γ a w hlen _ _ _ _ _ _ hall hmk H
    obtain rfl := List.length_eq_zero_iff.1 hlen
    rw [Nat.zero_add, show M = mark hs L from hmk]
    exact H w hall
  | succ f ih =>
    intro M l Γ a w hlen hnd hpw hun hcov hΓ hh hall hmk H
    rw [show f + 1 + g = (f + g) + 1 by omega]
    refine ⟨hC _ hall.1, fun h0 => absurd h0 hh.1, fun i hi => ?_⟩
    obtain ⟨hiu, oi, hoi, hdeps⟩ := mem_ready.1 hi
    have hil : i ∈ l := by
      rcases hcov i (hh.2.1 i hi) with h1 | h1
      · exact h1
      · rw [h1] at hiu; cases hiu
    have hiM : i < M.size := by
      rcases Nat.lt_or_ge i M.size with h' | h'
      · exact h'
      · simp [Array.getElem?_eq_none h'] at hiu
    have H1 := wpR_pull hsel hkeep hoi l Γ a hil hnd hpw (fun j hj => waits_dep hdeps (hun j hj)) hΓ ⟨w, hall⟩ H
    have hle : (l.erase i).length = f := by rw [List.length_erase_of_mem hil]; omega
    have next : ∀ Γ' a' w', (∀ h ∈ l.erase i, Γ' h = none) → All w0 p Γ' w' → wpR P md ops w0 fr p (fun Γ' a' => ∀ w', All w0 p Γ' w' → wpAnyC P md ops Q C g (mark hs L) a' w') (l.erase i) Γ' a' →
        wpAnyC P md ops Q C (f + g) (M.setIfInBounds i true) a' w' := fun Γ' a' w' hΓ' hall' H' =>
      ih (M.setIfInBounds i true) (l.erase i) Γ' a' w' hle (hnd.erase i) (hpw.sublist List.erase_sublist) (fun j hj => by
          have hne : j ≠ i := by rintro rfl; exact (List.Nodup.not_mem_erase hnd) hj
          rw [getD_set_ne true (Ne.symm hne)]; exact hun j (List.mem_of_mem_erase hj))
        (fun j hj => by
          by_cases hji : j = i
          · subst hji; right; simp
          · rcases hcov j hj with h1 | h1
            · left; exact (List.mem_erase_of_ne hji).2 h1
            · right; rw [getD_set_ne true (Ne.symm hji)]; exact h1)
        hΓ' (hh.2.2.2 i hi) hall' (by
          rw [← hmk]
          have key : ∀ (l : List Nat) (M : Array Bool), i ∈ l → mark l M = mark (l.erase i) (M.setIfInBounds i true) := by
            intro l
            induction l with
            | nil => intro M h; cases h
            | cons x l ihl =>
              intro M h
              by_cases hx : x = i
              · subst hx; simp [mark]
              · rw [List.erase_cons_tail (by simpa using hx)]
                simp only [mark, List.foldl_cons]
                have h2 := ihl (M.setIfInBounds x true) (by simpa [Ne.symm hx] using h)
                simp only [mark] at h2
                rw [h2, Array.setIfInBounds_comm _ _ hx]
          exact (key l M hil).symm) H'
    have hΓe : ∀ h ∈ l.erase i, Γ h = none := fun h hh' => hΓ h (List.mem_of_mem_erase hh')
    unfold wpR oneR at H1
    simp only [hoi] at H1
    unfold wpOp
    simp only [hoi]
    split
    · rename_i hwant
      rw [if_pos hwant] at H1
      left
      split at H1
      · rename_i hf
        obtain ⟨h1, h2⟩ := H1
        have h3 := h1 w (hall.cl oi)
        have go : ∀ u w'', Below w.heap.size w w'' → p i u w'' → wpAnyC P md ops Q C (f + g) (M.setIfInBounds i true) (a.put oi.dst u) w'' := by
          intro u w'' hb hq
          have hall' : All w0 p (upd Γ i u) w'' := ⟨hall.1.trans (hb.mono hall.1.size), fun k v hk => by
            unfold upd at hk
            by_cases hki : k = i
            · subst hki; rw [if_pos rfl] at hk; cases hk; exact hq
            · rw [if_neg hki] at hk; exact hkeep _ _ _ _ (hall.2 k v hk) hb⟩
          refine next _ _ _ (fun k hk => ?_) hall' (h2 u ⟨w'', hall'⟩)
          unfold upd
          rw [if_neg (by rintro rfl; exact (List.Nodup.not_mem_erase hnd) hk)]
          exact hΓe k hk
        unfold freshAt at h3
        unfold Oper.wp
        generalize (execOp a.eval oi).run P w = r at h3 ⊢
        cases r with
        | halt x w' => exact h3.elim
        | ok n w' =>
          cases n <;> simp only at h3
          case value u => exact go u w' h3.1 h3.2
          case enter fn args =>
            obtain ⟨rfl, hc⟩ := h3
            exact hc.mono fun e w'' ⟨u, he, hb, hq⟩ => by subst he; exact go u w'' hb hq
      · rename_i hf
        obtain ⟨v, h1, h2⟩ := H1 ⟨w, hall.cl oi⟩
        have h3 := h1 w (hall.cl oi)
        unfold Oper.quietAt at h3
        unfold Oper.wp
        generalize hr : (execOp a.eval oi).run P w = r at h3 ⊢
        cases r with
        | halt x w' => simp only [Oper.quietUpon] at h3
        | ok n w' =>
          cases n <;> simp only [Oper.quietUpon] at h3
          case value u =>
            obtain ⟨rfl, rfl⟩ := h3
            exact next _ _ _ hΓe hall h2
          case skip =>
            obtain ⟨rfl, rfl⟩ := h3
            exact next _ _ _ hΓe hall h2
          case enter fn args => exact absurd hr (plain_ne (hplain i oi (hh.2.1 i hi) (by simpa using hf) hoi) _)
    · rename_i hwant
      rw [if_neg hwant] at H1
      exact next _ _ _ hΓe hall H1

theorem wpAnyC_R {Q : Exit → Act → World → Prop} (hC : ∀ w, Below w0.heap.size w0 w → C w) {L : Array Bool} {a : Act} {w : World} (fs : List Nat) (hs : List Nat) (g : Nat)
    (hkeep : ∀ i v w1 w2, p i v w1 → Below w1.heap.size w1 w2 → p i v w2)
    (hB : (groupB md ops L hs && pairsB md ops (fs.contains ·) hs && plainsB ops (fs.contains ·) hs) = true) (hw : Below w0.heap.size w0 w)
    (h : wpR P md ops w0 (fs.contains ·) p (fun Γ' a' => ∀ w', All w0 p Γ' w' → wpAnyC P md ops Q C g (mark hs L) a' w') hs (fun _ => none) a) : wpAnyC P md ops Q C (hs.length + g) L a w := by
  simp only [Bool.and_eq_true] at hB
  obtain ⟨⟨hG, hP⟩, hPl⟩ := hB
  have hG' := hG
  simp only [groupB, Bool.and_eq_true, decide_eq_true_eq] at hG'
  obtain ⟨⟨⟨⟨hsz, hsel⟩, hcl⟩, hout⟩, hord⟩ := hG'
  obtain ⟨hnd, hmem, hpre⟩ := orderB_spec hord
  have hleft : left hs L = hs.length := by
    unfold left
    rw [List.filter_eq_self.2 (fun j hj => by rw [(hmem j hj).2.1]; rfl)]
  have hsh : Shut md ops L := by
    intro j o ho hj e he hb
    have hjo : j < ops.size := by
      rcases Nat.lt_or_ge j ops.size with h' | h'
      · exact h'
      · simp [Array.getElem?_eq_none h'] at ho
    have h1 := List.all_eq_true.1 hcl j (List.mem_range.2 hjo)
    simp only [hj, ho, Bool.not_true, Bool.false_or] at h1
    simpa [hb] using Array.all_eq_true'.1 h1 e he
  have hh := hered_of hG hs.length L hleft hsh hsz (fun j hj => .inl hj) (fun j hj => hj)
  refine wpAnyC_of_wpR hC (hs := hs) (L := L) hsel (fun k o hk hf ho => ?_) hkeep hsz hs.length L hs (fun _ => none) a w rfl hnd (pairs_of hP) (fun j hj => (hmem j hj).2.1)
    (fun j hj => .inl hj) (fun _ _ => rfl) hh ⟨hw, fun _ _ hg => by cases hg⟩ rfl h
  have := List.all_eq_true.1 hPl k hk
  simp only [show (fs.contains k) = false from hf, ho, Bool.false_or] at this
  exact this

end

section
variable {P : Program} {md : Region.Mode} {ops : Array Oper} {C : World → Prop}
/-- These loads, one behind the other. -/
def wpFirstC (P : Program) (ops : Array Oper) (C : World → Prop) : List Nat → (Act → Prop) → Act → Prop
  | [], H, a => H a
  | i :: is, H, a => ∃ o v, ops[i]? = some o ∧ LoadsC P ops C o v a ∧ wpFirstC P ops C is H (a.put o.dst v)
theorem wpFirstC_any {Q : Exit → Act → World → Prop} (hsel : Region.noSelect ops = true) {w : World} (hC : C w) {n : Nat} {H : Act → Prop} : ∀ (fs : List Nat) (L : Array Bool) (a : Act), firstB md ops fs L = true →
    (∀ a, H a → wpAnyC P md ops (Only Q) C n (mark fs L) a w) → wpFirstC P ops C fs H a → wpAnyC P md ops (Only Q) C (fs.length + n) L a w
  | [], L, a, _, hH, h => by simpa using hH a h
  | i :: is, L, a, hb, hH, h => by
    obtain ⟨o, v, ho, hy, h⟩ := h
    simp only [firstB, Bool.and_eq_true, ho] at hb
    obtain ⟨⟨hr, hf⟩, hb⟩ := hb
    have hr2 : i ∈ Region.ready md ops L := by simpa using hr
    have ih := wpFirstC_any hsel hC is (L.setIfInBounds i true) _ hb hH h
    rw [List.length_cons, show is.length + 1 + n = is.length + n + 1 by omega]
    exact wpAnyC_first ho (Region.noSelect_spec hsel) _ L a w (fun j oj hj hne hun hno => freeB_spec ho hf hr2 j oj hj hne hun hno) hr2 hy hC ih
end
theorem wpAny_G {P : Program} {Q : Exit → Act → World → Prop} {a : Act} {w : World} {l : List Oper} (C : World → Prop) (hC : ∀ w', Below w.heap.size w w' → C w') (fs : List Nat)
    (hF : (Region.noSelect l.toArray && firstB .any l.toArray fs (Array.replicate l.length false)) = true)
    (ps : List (Nat × (Value → World → Prop))) (hs : List Nat) (g : Nat)
    (hn : fs.length + (hs.length + g) = l.length) (hkeep : ∀ x ∈ ps, Keeps x.2)
    (hB : (groupB .any l.toArray (mark fs (Array.replicate l.length false)) hs && pairsB .any l.toArray ((ps.map (·.1)).contains ·) hs && plainsB l.toArray ((ps.map (·.1)).contains ·) hs) = true)
    (h : wpFirstC P l.toArray C fs (fun a => wpS P .any l.toArray w ((ps.map (·.1)).contains ·) (pOf ps) (fun Γ' a' => ∀ w', All w (pOf ps) Γ' w' → wpAnyC P .any l.toArray (Only Q) C g (mark hs (mark fs (Array.replicate l.length false))) a' w') (numbered l.toArray hs) (fun _ => none) a) a) :
    wpAny P .any l.toArray (Only Q) l.toArray.size (Array.replicate l.toArray.size false) a w.drew := by
  simp only [Bool.and_eq_true] at hF
  have h1 := wpFirstC_any (P := P) (Q := Q) (md := .any) (C := C) hF.1 (w := w.drew) (hC _ (Below.refl _ w).drew) (n := hs.length + g) fs (Array.replicate l.length false) a hF.2 (fun a h => ?_) h
  · rw [hn] at h1
    simpa using wpAnyC_any h1
  · have h2 := wpR_of_wpS (fun k hk => by
      simp only [groupB, Bool.and_eq_true] at hB
      obtain ⟨_, hmem, _⟩ := orderB_spec hB.1.1.2
      exact (hmem k hk).2.2) h
    exact wpAnyC_R (P := P) (Q := Only Q) (w0 := w) (w := w.drew) (a := a) hC (ps.map (·.1)) hs g (pOf_keeps hkeep) hB (Below.refl _ w).drew h2
theorem wp_region_G {P : Program} {id : Nat} {Q : Exit → Act → World → Prop} {a : Act} {w : World} {l : List Oper} (C : World → Prop) (hC : ∀ w', Below w.heap.size w w' → C w') (fs : List Nat)
    (hF : (Region.noSelect l.toArray && firstB .any l.toArray fs (Array.replicate l.length false)) = true)
    (ps : List (Nat × (Value → World → Prop))) (hs : List Nat) (g : Nat) (hm : P.follows .mixedOrders = true)
    (hn : fs.length + (hs.length + g) = l.length) (hkeep : ∀ x ∈ ps, Keeps x.2)
    (hB : (groupB .any l.toArray (mark fs (Array.replicate l.length false)) hs && pairsB .any l.toArray ((ps.map (·.1)).contains ·) hs && plainsB l.toArray ((ps.map (·.1)).contains ·) hs) = true)
    (h : wpFirstC P l.toArray C fs (fun a => wpS P .any l.toArray w ((ps.map (·.1)).contains ·) (pOf ps) (fun Γ' a' => ∀ w', All w (pOf ps) Γ' w' → wpAnyC P .any l.toArray (Only Q) C g (mark hs (mark fs (Array.replicate l.length false))) a' w') (numbered l.toArray hs) (fun _ => none) a) a) :
    (Code.region id l.toArray true).wp P Q a w := wp_region_any hm (wpAny_only (wpAny_G C hC fs hF ps hs g hn hkeep hB h))
end Go.Pb

/- A region that draws its order: loads that nothing disturbs are run first; then each order of the rest, in worlds told exactly. -/
namespace Go.Pb
set_option linter.unusedVariables false
open Go Go.RowKit
section
variable {P : Program} {md : Region.Mode} {ops : Array Oper} {Q : Exit → Act → World → Prop} {C : World → Prop}
theorem wpAnyC_pair {n r s : Nat} {o1 o2 : Oper} {L : Array Bool} {a : Act} {w : World} (hC : C w) (hr : Region.ready md ops L = [r, s]) (ho1 : ops[r]? = some o1) (hw1 : Region.wanted o1 (yielded ops a.tmps) = true) (ho2 : ops[s]? = some o2) (hw2 : Region.wanted o2 (yielded ops a.tmps) = true)
    (h1 : ∀ K : Act → World → Prop, (∀ a' w', wpAnyC P md ops Q C n (L.setIfInBounds r true) a' w' → K a' w') → o1.wp P a w K Q)
    (h2 : ∀ K : Act → World → Prop, (∀ a' w', wpAnyC P md ops Q C n (L.setIfInBounds s true) a' w' → K a' w') → o2.wp P a w K Q) : wpAnyC P md ops Q C (n + 1) L a w := by
  refine ⟨hC, fun h0 => (by rw [hr] at h0; cases h0), fun i hi => ?_⟩
  rw [hr] at hi
  simp only [List.mem_cons, List.not_mem_nil, or_false] at hi
  rcases hi with rfl | rfl
  · unfold wpOp; simp only [ho1, hw1, if_true]; exact .inl (h1 _ fun _ _ h => h)
  · unfold wpOp; simp only [ho2, hw2, if_true]; exact .inl (h2 _ fun _ _ h => h)
end
theorem wp_region_H {P : Program} {id : Nat} {Q : Exit → Act → World → Prop} {a : Act} {w : World} {l : List Oper} (C : World → Prop) (hC : C w.drew) (fs : List Nat) (g : Nat)
    (hF : (Region.noSelect l.toArray && firstB .any l.toArray fs (Array.replicate l.length false)) = true) (hm : P.follows .mixedOrders = true) (hn : fs.length + g = l.length)
    (h : wpFirstC P l.toArray C fs (fun a => wpAnyC P .any l.toArray (Only Q) C g (mark fs (Array.replicate l.length false)) a w.drew) a) :
    (Code.region id l.toArray true).wp P Q a w := by
  refine wp_region_any hm (wpAny_only ?_)
  simp only [Bool.and_eq_true] at hF
  have h1 := wpFirstC_any (P := P) (Q := Q) (md := .any) (C := C) hF.1 (w := w.drew) hC (n := g) fs (Array.replicate l.length false) a hF.2 (fun a h => h) h
  rw [hn] at h1
  simpa using wpAnyC_any h1
/-! A struct of eight cells that is stored. -/
abbrev put8 (v : World) (b : Nat) (x0 x1 x2 x3 x4 x5 x6 x7 : Value) : World := ((((((((v.setCell ⟨b, 0, none⟩ x0).setCell ⟨b, 1, none⟩ x1).setCell ⟨b, 2, none⟩ x2).setCell ⟨b, 3, none⟩ x3).setCell ⟨b, 4, none⟩ x4).setCell ⟨b, 5, none⟩ x5).setCell ⟨b, 6, none⟩ x6).setCell ⟨b, 7, none⟩ x7)
theorem put8_gr {b : Nat} {w v : World} {x0 x1 x2 x3 x4 x5 x6 x7 : Value} (h : Gr w v) (hb : w.heap.size ≤ b) : Gr w (put8 v b x0 x1 x2 x3 x4 x5 x6 x7) := ((((((((h.setCell (p := ⟨b, 0, none⟩) hb _).setCell (p := ⟨b, 1, none⟩) hb _).setCell (p := ⟨b, 2, none⟩) hb _).setCell (p := ⟨b, 3, none⟩) hb _).setCell (p := ⟨b, 4, none⟩) hb _).setCell (p := ⟨b, 5, none⟩) hb _).setCell (p := ⟨b, 6, none⟩) hb _).setCell (p := ⟨b, 7, none⟩) hb _)
theorem put8_cells {b : Nat} {v : World} {z0 z1 z2 z3 z4 z5 z6 z7 x0 x1 x2 x3 x4 x5 x6 x7 : Value} (h : CellsAt v b [z0, z1, z2, z3, z4, z5, z6, z7]) : CellsAt (put8 v b x0 x1 x2 x3 x4 x5 x6 x7) b [x0, x1, x2, x3, x4, x5, x6, x7] := (Sag.cells_store (o := 7) (u := x7) (Sag.cells_store (o := 6) (u := x6) (Sag.cells_store (o := 5) (u := x5) (Sag.cells_store (o := 4) (u := x4) (Sag.cells_store (o := 3) (u := x3) (Sag.cells_store (o := 2) (u := x2) (Sag.cells_store (o := 1) (u := x1) (Sag.cells_store (o := 0) (u := x0) h))))))))
theorem put8_other {b b' : Nat} {v : World} {x0 x1 x2 x3 x4 x5 x6 x7 : Value} {zs : List Value} (h : CellsAt v b' zs) (hne : b' ≠ b) : CellsAt (put8 v b x0 x1 x2 x3 x4 x5 x6 x7) b' zs := (CellsAt.other (CellsAt.other (CellsAt.other (CellsAt.other (CellsAt.other (CellsAt.other (CellsAt.other (CellsAt.other h hne _) hne _) hne _) hne _) hne _) hne _) hne _) hne _)
end Go.Pb

/- What the setter's rule says of two saggars. -/
namespace Go.Proofs.Ytnchhleokdkejaa
open Go.RowKit Go.Pb Go.Pb.Ware Go.Pb.Sag
set_option linter.unusedVariables false
set_option linter.unusedSimpArgs false

open Go.Pb.Bung
theorem isNaN_any {w : World} {x : Int} : Calls Try.prog 144 #[.int .i64 x] w (fun e w' => e = .returned (.bool false) ∧ w' = w) := by
  go_enter Try.func144, Try.ntmps144
  go_wp2
  go_ret
  exact ⟨ret_bool (by simp [bne, BEq.beq]), rfl⟩
set_option maxHeartbeats 400000 in
theorem compare_any {w : World} {x y : Int} : Calls Try.prog 132 #[.int .i64 x, .int .i64 y] w (fun e w' => e = .returned (.int .i64 (Lib.compareInt x y)) ∧ w' = w) := by
  by_cases h1 : x < y
  · have hr : Lib.compareInt x y = -1 := by unfold Lib.compareInt; rw [if_pos h1]
    rw [hr]
    go_enter Try.func132, Try.ntmps132
    go_wp2_with (go_at_call 144; refine isNaN_any.mono ?_; rintro e w1 ⟨rfl, rfl⟩)
    go_ret
    exact ⟨rfl, rfl⟩
  by_cases h2 : x > y
  · have h3 : y < x := h2
    have hr : Lib.compareInt x y = 1 := by unfold Lib.compareInt; rw [if_neg h1, if_pos h2]
    rw [hr]
    go_enter Try.func132, Try.ntmps132
    go_wp2_with (go_at_call 144; refine isNaN_any.mono ?_; rintro e w1 ⟨rfl, rfl⟩)
    go_ret
    exact ⟨rfl, rfl⟩
  · have h3 : ¬ y < x := h2
    have hr : Lib.compareInt x y = 0 := by unfold Lib.compareInt; rw [if_neg h1, if_neg h2]
    rw [hr]
    go_enter Try.func132, Try.ntmps132
    go_wp2_with (go_at_call 144; refine isNaN_any.mono ?_; rintro e w1 ⟨rfl, rfl⟩)
    go_ret
    exact ⟨rfl, rfl⟩
set_option maxHeartbeats 400000 in
theorem or_any {w : World} {x y r : Int} {g : Nat} (h0 : w.cell? ⟨g, 0, none⟩ = some (.int .i64 x)) (h1 : w.cell? ⟨g, 1, none⟩ = some (.int .i64 y)) (hr : (if x ≠ 0 then x else y) = r) : Calls Try.prog 131 #[.slice (some ⟨g, 0, none⟩) 2 2] w (fun e w' => e = .returned (.int .i64 r) ∧ w' = w) := by
  by_cases hx : x = 0
  · subst hx
    rw [if_neg (by simp)] at hr
    subst hr
    by_cases hy : y = 0
    · subst hy
      go_enter Try.func131, Try.ntmps131
      go_wp2_with fail
      refine wp_loop_rounds 3 ?_
      rw [rounds_succ]
      go_wp2_with fail
      rw [rounds_succ]
      go_wp2_with fail
      rw [rounds_succ]
      go_wp2_with fail
      go_ret
      exact ⟨rfl, rfl⟩
    · have hyb : (y != 0) = true := by simpa using hy
      go_enter Try.func131, Try.ntmps131
      go_wp2_with fail
      refine wp_loop_rounds 2 ?_
      rw [rounds_succ]
      go_wp2_with fail
      rw [rounds_succ]
      go_wp2_with fail
      go_ret
      exact ⟨rfl, rfl⟩
  · rw [if_pos hx] at hr
    subst hr
    have hxb : (x != 0) = true := by simpa using hx
    go_enter Try.func131, Try.ntmps131
    go_wp2_with fail
    refine wp_loop_rounds 1 ?_
    rw [rounds_succ]
    go_wp2_with fail
    go_ret
    exact ⟨rfl, rfl⟩

theorem listD {w w' : World} {n : Nat} {cs : List Value} {t : TypeId} (hb : Gr w w') : Gr w' (w'.alloc (.cells cs.toArray t)) ∧ NewList w.heap.size n cs (.slice (some ⟨w'.heap.size, 0, none⟩) n n) (w'.alloc (.cells cs.toArray t)) :=
  ⟨(Gr.refl _).alloc _, (list_of hb.b).2⟩

theorem sg_small {s : Sg} (h : sgOk s = true) : (0 ≤ s.wl ∧ s.wl ≤ 10000000) ∧ (0 ≤ s.wh ∧ s.wh ≤ 10000000) ∧ (0 ≤ s.bl ∧ s.bl ≤ 10000000) ∧ (0 ≤ s.bh ∧ s.bh ≤ 10000000) := by
  unfold sgOk at h
  simp only [Bool.and_eq_true, btw_iff, rgOk] at h
  simp only [decide_eq_true_eq, Bool.and_eq_true] at h
  omega
set_option maxRecDepth 100000 in
set_option maxHeartbeats 1000000 in
theorem ruleCmp_any {w : World} {X i j : Nat} {lv : Value} {l : List Sg} (hX : w.cell? ⟨X, 0, none⟩ = some lv) (h : RowsAt 8 w lv (l.map rowG)) (hok : ∀ s ∈ l, sgOk s = true) (hi : i < l.length) (hj : j < l.length) :
    Calls Try.prog 130 #[.int .i64 (i : Int), .int .i64 (j : Int), .pointer (some ⟨X, 0, none⟩)] w (fun e w' => e = .returned (.int .i64 (cmpR l i j)) ∧ Gr w w') := by
  obtain ⟨a, cap, rfl, hll⟩ := h.shape
  rw [List.length_map] at h hll hX
  obtain ⟨x, hx⟩ : ∃ s, l[i]? = some s := ⟨_, List.getElem?_eq_getElem hi⟩
  obtain ⟨y, hy⟩ : ∃ s, l[j]? = some s := ⟨_, List.getElem?_eq_getElem hj⟩
  have hcm : cmpR l i j = (if Lib.compareInt (keyG y) (keyG x) ≠ 0 then Lib.compareInt (keyG y) (keyG x) else Lib.compareInt x.id y.id) := by unfold cmpR atG; rw [List.getD_eq_getElem?_getD, List.getD_eq_getElem?_getD, hx, hy]; rfl
  have bx := sg_small (hok x (List.mem_of_getElem? hx)); have by_ := sg_small (hok y (List.mem_of_getElem? hy))
  obtain ⟨a', ha, u0, hcx, -⟩ := sg_row h hx
  subst ha
  obtain ⟨b', hb', v0, hcy, -⟩ := sg_row h hy
  obtain rfl : a' = b' := by injection hb'
  obtain ⟨n, hn⟩ : ∃ n, l.length = n := ⟨_, rfl⟩
  rw [hn] at h hll hX hi hj
  have hii : (i : Int) < (n : Int) := by omega
  have hjj : (j : Int) < (n : Int) := by omega
  clear h hn hx hy hok
  obtain ⟨xid, xwl, xwh, xbl, xbh, xhl, xhh, xti⟩ := x
  obtain ⟨yid, ywl, ywh, ybl, ybh, yhl, yhh, yti⟩ := y
  have u1 := hcx 1 _ (by decide) rfl; have v1 := hcy 1 _ (by decide) rfl
  have u2 := hcx 2 _ (by decide) rfl; have v2 := hcy 2 _ (by decide) rfl
  have u3 := hcx 3 _ (by decide) rfl; have v3 := hcy 3 _ (by decide) rfl
  have u4 := hcx 4 _ (by decide) rfl; have v4 := hcy 4 _ (by decide) rfl
  have u5 := hcx 5 _ (by decide) rfl; have v5 := hcy 5 _ (by decide) rfl
  have u6 := hcx 6 _ (by decide) rfl; have v6 := hcy 6 _ (by decide) rfl
  have u7 := hcx 7 _ (by decide) rfl; have v7 := hcy 7 _ (by decide) rfl
  dsimp only at u0 v0 u1 v1 u2 v2 u3 v3 u4 v4 u5 v5 u6 v6 u7 v7 bx by_
  unfold keyG at hcm
  dsimp only at hcm
  obtain ⟨c1, hc1⟩ : ∃ c, Lib.compareInt (ywh + ybl) (xwh + xbl) = c := ⟨_, rfl⟩
  obtain ⟨c2, hc2⟩ : ∃ c, Lib.compareInt xid yid = c := ⟨_, rfl⟩
  rw [hc1, hc2] at hcm
  rw [hcm]
  have HC1 := hid hc1; have HC2 := hid hc2
  obtain ⟨r, hr⟩ : ∃ r, (if c1 ≠ 0 then c1 else c2) = r := ⟨_, rfl⟩
  rw [hr]
  have HR := hid hr; clear hcm hc1 hc2 hr hcx hcy
  go_enter Try.func130, Try.ntmps130
  go_upto_region 1 with fail
  refine wp_region_H (fun V => Below w.heap.size w V) (Below.refl _ _).drew [0, 1, 2, 3, 4, 5, 6, 7] 4 (by kernel_rfl) (by kernel_rfl) rfl ?_
  refine ⟨_, .slice (some a') n cap, rfl, ⟨rfl, fun V hV => by (dsimp only at hV); have s0 := bkeep hV hX; go_simp⟩, ?_⟩
  simp only [Act.put, List.getElem_toArray, List.getElem_cons_succ, List.getElem_cons_zero, List.setIfInBounds_toArray, List.set_cons_succ, List.set_cons_zero]
  refine ⟨_, .int .i64 (i : Int), rfl, ⟨rfl, fun V hV => by (dsimp only at hV); skip; go_simp⟩, ?_⟩
  simp only [Act.put, List.getElem_toArray, List.getElem_cons_succ, List.getElem_cons_zero, List.setIfInBounds_toArray, List.set_cons_succ, List.set_cons_zero]
  refine ⟨_, .pointer (some (a'.add (i * 8))), rfl, ⟨rfl, fun V hV => by (dsimp only at hV); skip; go_simp⟩, ?_⟩
  simp only [Act.put, List.getElem_toArray, List.getElem_cons_succ, List.getElem_cons_zero, List.setIfInBounds_toArray, List.set_cons_succ, List.set_cons_zero]
  refine ⟨_, .agg #[.int .i64 xid, .int .i64 xwl, .int .i64 xwh, .int .i64 xbl, .int .i64 xbh, .int .i64 xhl, .int .i64 xhh, .int .i64 xti], rfl, ⟨rfl, fun V hV => by (dsimp only at hV); have s0 := bkeep hV u0; have s1 := bkeep hV u1; have s2 := bkeep hV u2; have s3 := bkeep hV u3; have s4 := bkeep hV u4; have s5 := bkeep hV u5; have s6 := bkeep hV u6; have s7 := bkeep hV u7; go_simp⟩, ?_⟩
  simp only [Act.put, List.getElem_toArray, List.getElem_cons_succ, List.getElem_cons_zero, List.setIfInBounds_toArray, List.set_cons_succ, List.set_cons_zero]
  refine ⟨_, .slice (some a') n cap, rfl, ⟨rfl, fun V hV => by (dsimp only at hV); have s0 := bkeep hV hX; go_simp⟩, ?_⟩
  simp only [Act.put, List.getElem_toArray, List.getElem_cons_succ, List.getElem_cons_zero, List.setIfInBounds_toArray, List.set_cons_succ, List.set_cons_zero]
  refine ⟨_, .int .i64 (j : Int), rfl, ⟨rfl, fun V hV => by (dsimp only at hV); skip; go_simp⟩, ?_⟩
  simp only [Act.put, List.getElem_toArray, List.getElem_cons_succ, List.getElem_cons_zero, List.setIfInBounds_toArray, List.set_cons_succ, List.set_cons_zero]
  refine ⟨_, .pointer (some (a'.add (j * 8))), rfl, ⟨rfl, fun V hV => by (dsimp only at hV); skip; go_simp⟩, ?_⟩
  simp only [Act.put, List.getElem_toArray, List.getElem_cons_succ, List.getElem_cons_zero, List.setIfInBounds_toArray, List.set_cons_succ, List.set_cons_zero]
  refine ⟨_, .agg #[.int .i64 yid, .int .i64 ywl, .int .i64 ywh, .int .i64 ybl, .int .i64 ybh, .int .i64 yhl, .int .i64 yhh, .int .i64 yti], rfl, ⟨rfl, fun V hV => by (dsimp only at hV); have s0 := bkeep hV v0; have s1 := bkeep hV v1; have s2 := bkeep hV v2; have s3 := bkeep hV v3; have s4 := bkeep hV v4; have s5 := bkeep hV v5; have s6 := bkeep hV v6; have s7 := bkeep hV v7; go_simp⟩, ?_⟩
  simp only [Act.put, List.getElem_toArray, List.getElem_cons_succ, List.getElem_cons_zero, List.setIfInBounds_toArray, List.set_cons_succ, List.set_cons_zero]
  have C0 : Below w.heap.size w w.drew := (Below.refl _ _).drew
  refine wpAnyC_pair (r := 8) (s := 9) C0 (by kernel_rfl) rfl rfl rfl rfl (fun K hK => ?_) (fun K hK => ?_)
  · go_simp
    refine hK _ _ ?_; clear hK K
    have C1 : Below w.heap.size w (w.drew.alloc (.cells #[.int .i64 0, .int .i64 0, .int .i64 0, .int .i64 0, .int .i64 0, .int .i64 0, .int .i64 0, .int .i64 0] 33)) := C0.alloc (Nat.le_refl _) _
    refine wpAnyC_op (r := 9) C1 (by kernel_rfl) rfl rfl (fun K hK => ?_)
    go_simp
    refine hK _ _ ?_; clear hK K
    have g2 : Gr w ((w.alloc (.cells #[.int .i64 0, .int .i64 0, .int .i64 0, .int .i64 0, .int .i64 0, .int .i64 0, .int .i64 0, .int .i64 0] 33)).alloc (.cells #[.int .i64 0, .int .i64 0, .int .i64 0, .int .i64 0, .int .i64 0, .int .i64 0, .int .i64 0, .int .i64 0] 33)).drew := (((Gr.refl w).alloc _).alloc _).drew
    have a0 : CellsAt ((w.alloc (.cells #[.int .i64 0, .int .i64 0, .int .i64 0, .int .i64 0, .int .i64 0, .int .i64 0, .int .i64 0, .int .i64 0] 33)).alloc (.cells #[.int .i64 0, .int .i64 0, .int .i64 0, .int .i64 0, .int .i64 0, .int .i64 0, .int .i64 0, .int .i64 0] 33)).drew w.heap.size [.int .i64 0, .int .i64 0, .int .i64 0, .int .i64 0, .int .i64 0, .int .i64 0, .int .i64 0, .int .i64 0] := (CellsAt.new w [.int .i64 0, .int .i64 0, .int .i64 0, .int .i64 0, .int .i64 0, .int .i64 0, .int .i64 0, .int .i64 0] 33).alloc _
    have a1 : CellsAt ((w.alloc (.cells #[.int .i64 0, .int .i64 0, .int .i64 0, .int .i64 0, .int .i64 0, .int .i64 0, .int .i64 0, .int .i64 0] 33)).alloc (.cells #[.int .i64 0, .int .i64 0, .int .i64 0, .int .i64 0, .int .i64 0, .int .i64 0, .int .i64 0, .int .i64 0] 33)).drew (w.heap.size + 1) [.int .i64 0, .int .i64 0, .int .i64 0, .int .i64 0, .int .i64 0, .int .i64 0, .int .i64 0, .int .i64 0] := by have h := CellsAt.new (w.alloc (.cells #[.int .i64 0, .int .i64 0, .int .i64 0, .int .i64 0, .int .i64 0, .int .i64 0, .int .i64 0, .int .i64 0] 33)) [.int .i64 0, .int .i64 0, .int .i64 0, .int .i64 0, .int .i64 0, .int .i64 0, .int .i64 0, .int .i64 0] 33; rw [World.size_alloc] at h; exact h
    generalize World.drew (World.alloc (World.alloc _ _) _) = V2 at *
    clear C0 C1
    have q0 := (a0 0 _ rfl).1; have f0 := (a0 0 _ rfl).2; have q1 := (a0 1 _ rfl).1; have f1 := (a0 1 _ rfl).2; have q2 := (a0 2 _ rfl).1; have f2 := (a0 2 _ rfl).2; have q3 := (a0 3 _ rfl).1; have f3 := (a0 3 _ rfl).2; have q4 := (a0 4 _ rfl).1; have f4 := (a0 4 _ rfl).2; have q5 := (a0 5 _ rfl).1; have f5 := (a0 5 _ rfl).2; have q6 := (a0 6 _ rfl).1; have f6 := (a0 6 _ rfl).2; have q7 := (a0 7 _ rfl).1; have f7 := (a0 7 _ rfl).2
    refine wpAnyC_op (r := 10) g2.b (by kernel_rfl) rfl rfl (fun K hK => ?_)
    go_simp
    refine hK _ _ ?_; clear hK K
    clear q0 f0 q1 f1 q2 f2 q3 f3 q4 f4 q5 f5 q6 f6 q7 f7
    skip
    have g3 : Gr w (put8 V2 (w.heap.size) (.int .i64 xid) (.int .i64 xwl) (.int .i64 xwh) (.int .i64 xbl) (.int .i64 xbh) (.int .i64 xhl) (.int .i64 xhh) (.int .i64 xti)) := put8_gr g2 (by omega)
    have y6 : CellsAt (put8 V2 (w.heap.size) (.int .i64 xid) (.int .i64 xwl) (.int .i64 xwh) (.int .i64 xbl) (.int .i64 xbh) (.int .i64 xhl) (.int .i64 xhh) (.int .i64 xti)) (w.heap.size) [.int .i64 xid, .int .i64 xwl, .int .i64 xwh, .int .i64 xbl, .int .i64 xbh, .int .i64 xhl, .int .i64 xhh, .int .i64 xti] := put8_cells a0
    have y7 : CellsAt (put8 V2 (w.heap.size) (.int .i64 xid) (.int .i64 xwl) (.int .i64 xwh) (.int .i64 xbl) (.int .i64 xbh) (.int .i64 xhl) (.int .i64 xhh) (.int .i64 xti)) (w.heap.size + 1) [.int .i64 0, .int .i64 0, .int .i64 0, .int .i64 0, .int .i64 0, .int .i64 0, .int .i64 0, .int .i64 0] := put8_other a1 (by omega)
    clear a0 a1 g2
    dsimp only [put8] at g3 y6 y7
    generalize (World.setCell _ _ _ : World) = V5 at *
    have q0 := (y7 0 _ rfl).1; have f0 := (y7 0 _ rfl).2; have q1 := (y7 1 _ rfl).1; have f1 := (y7 1 _ rfl).2; have q2 := (y7 2 _ rfl).1; have f2 := (y7 2 _ rfl).2; have q3 := (y7 3 _ rfl).1; have f3 := (y7 3 _ rfl).2; have q4 := (y7 4 _ rfl).1; have f4 := (y7 4 _ rfl).2; have q5 := (y7 5 _ rfl).1; have f5 := (y7 5 _ rfl).2; have q6 := (y7 6 _ rfl).1; have f6 := (y7 6 _ rfl).2; have q7 := (y7 7 _ rfl).1; have f7 := (y7 7 _ rfl).2
    refine wpAnyC_op (r := 11) g3.b (by kernel_rfl) rfl rfl (fun K hK => ?_)
    go_simp
    refine hK _ _ ?_; clear hK K
    clear q0 f0 q1 f1 q2 f2 q3 f3 q4 f4 q5 f5 q6 f6 q7 f7
    have hG : Gr w (put8 V5 (w.heap.size + 1) (.int .i64 yid) (.int .i64 ywl) (.int .i64 ywh) (.int .i64 ybl) (.int .i64 ybh) (.int .i64 yhl) (.int .i64 yhh) (.int .i64 yti)) := put8_gr g3 (by omega)
    have z7 : CellsAt (put8 V5 (w.heap.size + 1) (.int .i64 yid) (.int .i64 ywl) (.int .i64 ywh) (.int .i64 ybl) (.int .i64 ybh) (.int .i64 yhl) (.int .i64 yhh) (.int .i64 yti)) (w.heap.size + 1) [.int .i64 yid, .int .i64 ywl, .int .i64 ywh, .int .i64 ybl, .int .i64 ybh, .int .i64 yhl, .int .i64 yhh, .int .i64 yti] := put8_cells y7
    have z6 : CellsAt (put8 V5 (w.heap.size + 1) (.int .i64 yid) (.int .i64 ywl) (.int .i64 ywh) (.int .i64 ybl) (.int .i64 ybh) (.int .i64 yhl) (.int .i64 yhh) (.int .i64 yti)) (w.heap.size) [.int .i64 xid, .int .i64 xwl, .int .i64 xwh, .int .i64 xbl, .int .i64 xbh, .int .i64 xhl, .int .i64 xhh, .int .i64 xti] := put8_other y6 (by omega)
    clear y6 y7 g3
    dsimp only [put8] at hG z6 z7
    refine wpAnyC_end hG.b (by kernel_rfl) ?_
    refine ⟨rfl, ?_⟩
    generalize (World.setCell _ _ _ : World) = V3 at *
    have p0 := (z6 0 _ rfl).1; have r0 := (z7 0 _ rfl).1
    have p2 := (z6 2 _ rfl).1; have r2 := (z7 2 _ rfl).1
    have p3 := (z6 3 _ rfl).1; have r3 := (z7 3 _ rfl).1
    skip
    clear z6 z7 u0 v0 u1 v1 u2 v2 u3 v3 u4 v4 u5 v5 u6 v6 u7 v7 hX
    have w1 : IntKind.i64.wrap (xwh + xbl) = xwh + xbl := IntWalk.i64_in _ (by omega)
    have w2 : IntKind.i64.wrap (ywh + ybl) = ywh + ybl := IntWalk.i64_in _ (by omega)
    go_upto_region 2 with fail
    refine wp_region_RsD [(14, fun v _ => v = .int .i64 c1), (19, fun v _ => v = .int .i64 c2), (20, NewList V3.heap.size 2 [.int .i64 c1, .int .i64 c2]), (21, fun v _ => v = .int .i64 r)] [0, 1, 2, 3, 4, 5, 6, 7, 8, 9, 10, 11, 12, 13, 14, 15, 16, 17, 18, 19, 20, 21] 1 (by kernel_rfl) rfl (by simp only [List.forall_mem_cons]; exact ⟨keeps_eq, keeps_eq, keeps_list, keeps_eq, fun _ h => by cases h⟩) (by kernel_rfl) ?_
    simp only [numbered, List.filterMap_cons, List.filterMap_nil, List.getElem?_toArray, List.getElem?_cons_succ, List.getElem?_cons_zero, Option.map_some]
    show wpSD _ _ _ _ _ _ _ [(_, _), (_, _), (_, _), (_, _), (_, _), (_, _), (_, _), (_, _), (_, _), (_, _), (_, _), (_, _), (_, _), (_, _), (_, _), (_, _), (_, _), (_, _), (_, _), (_, _), (_, _), (_, _)] _ _
    (refine wpS_quietD rfl rfl ?_; intro K hK inst hx; go_big_quiet_op; (first | go_big_quiet_on | (refine ⟨_, fun _ => rfl, ?_⟩; go_big_quiet_on)); clear hx inst)
    (refine wpS_quietD rfl rfl ?_; intro K hK inst hx; go_big_quiet_op; (first | go_big_quiet_on | (refine ⟨_, fun _ => rfl, ?_⟩; go_big_quiet_on)); clear hx inst)
    (refine wpS_quietD rfl rfl ?_; intro K hK inst hx; have s0 := fun x => (fun _ => bkeep (Gr.b (BQD.below x)) r2) (hx x); go_big_quiet_op; (first | go_big_quiet_on | (refine ⟨_, fun _ => rfl, ?_⟩; go_big_quiet_on)); clear hx inst)
    (refine wpS_quietD rfl rfl ?_; intro K hK inst hx; go_big_quiet_op; (first | go_big_quiet_on | (refine ⟨_, fun _ => rfl, ?_⟩; go_big_quiet_on)); clear hx inst)
    (refine wpS_quietD rfl rfl ?_; intro K hK inst hx; go_big_quiet_op; (first | go_big_quiet_on | (refine ⟨_, fun _ => rfl, ?_⟩; go_big_quiet_on)); clear hx inst)
    (refine wpS_quietD rfl rfl ?_; intro K hK inst hx; have s0 := fun x => (fun _ => bkeep (Gr.b (BQD.below x)) r3) (hx x); go_big_quiet_op; (first | go_big_quiet_on | (refine ⟨_, fun _ => rfl, ?_⟩; go_big_quiet_on)); clear hx inst)
    (refine wpS_quietD rfl rfl ?_; intro K hK inst hx; go_big_quiet_op; (first | go_big_quiet_on | (refine ⟨_, fun _ => rfl, ?_⟩; go_big_quiet_on)); clear hx inst)
    (refine wpS_quietD rfl rfl ?_; intro K hK inst hx; go_big_quiet_op; (first | go_big_quiet_on | (refine ⟨_, fun _ => rfl, ?_⟩; go_big_quiet_on)); clear hx inst)
    (refine wpS_quietD rfl rfl ?_; intro K hK inst hx; go_big_quiet_op; (first | go_big_quiet_on | (refine ⟨_, fun _ => rfl, ?_⟩; go_big_quiet_on)); clear hx inst)
    (refine wpS_quietD rfl rfl ?_; intro K hK inst hx; have s0 := fun x => (fun _ => bkeep (Gr.b (BQD.below x)) p2) (hx x); go_big_quiet_op; (first | go_big_quiet_on | (refine ⟨_, fun _ => rfl, ?_⟩; go_big_quiet_on)); clear hx inst)
    (refine wpS_quietD rfl rfl ?_; intro K hK inst hx; go_big_quiet_op; (first | go_big_quiet_on | (refine ⟨_, fun _ => rfl, ?_⟩; go_big_quiet_on)); clear hx inst)
    (refine wpS_quietD rfl rfl ?_; intro K hK inst hx; go_big_quiet_op; (first | go_big_quiet_on | (refine ⟨_, fun _ => rfl, ?_⟩; go_big_quiet_on)); clear hx inst)
    (refine wpS_quietD rfl rfl ?_; intro K hK inst hx; have s0 := fun x => (fun _ => bkeep (Gr.b (BQD.below x)) p3) (hx x); go_big_quiet_op; (first | go_big_quiet_on | (refine ⟨_, fun _ => rfl, ?_⟩; go_big_quiet_on)); clear hx inst)
    (refine wpS_quietD rfl rfl ?_; intro K hK inst hx; go_big_quiet_op; (first | go_big_quiet_on | (refine ⟨_, fun _ => rfl, ?_⟩; go_big_quiet_on)); clear hx inst)
    refine wpS_freshD rfl rfl (fun w' hb hF => ?_) ?_
    · change freshAtD _ _ _ (fun v _ => v = .int .i64 c1) _; unfold freshAtD; go_simp; exact compare_any.mono fun e w'' ⟨he, hw⟩ => ⟨by rw [← HC1.out]; exact he, hw ▸ Gr.refl _⟩
    intro v W hv; simp only [pOf, List.lookup_cons, Nat.reduceBEq, beq_self_eq_true] at hv; subst hv
    simp only [Act.put, List.setIfInBounds_toArray, List.set_cons_succ, List.set_cons_zero]
    (refine wpS_quietD rfl rfl ?_; intro K hK inst hx; go_big_quiet_op; (first | go_big_quiet_on | (refine ⟨_, fun _ => rfl, ?_⟩; go_big_quiet_on)); clear hx inst)
    (refine wpS_quietD rfl rfl ?_; intro K hK inst hx; have s0 := fun x => (fun _ => bkeep (Gr.b (BQD.below x)) p0) (hx x); go_big_quiet_op; (first | go_big_quiet_on | (refine ⟨_, fun _ => rfl, ?_⟩; go_big_quiet_on)); clear hx inst)
    (refine wpS_quietD rfl rfl ?_; intro K hK inst hx; go_big_quiet_op; (first | go_big_quiet_on | (refine ⟨_, fun _ => rfl, ?_⟩; go_big_quiet_on)); clear hx inst)
    (refine wpS_quietD rfl rfl ?_; intro K hK inst hx; have s0 := fun x => (fun _ => bkeep (Gr.b (BQD.below x)) r0) (hx x); go_big_quiet_op; (first | go_big_quiet_on | (refine ⟨_, fun _ => rfl, ?_⟩; go_big_quiet_on)); clear hx inst)
    refine wpS_freshD rfl rfl (fun w' hb hF => ?_) ?_
    · change freshAtD _ _ _ (fun v _ => v = .int .i64 c2) _; unfold freshAtD; go_simp; exact compare_any.mono fun e w'' ⟨he, hw⟩ => ⟨by rw [← HC2.out]; exact he, hw ▸ Gr.refl _⟩
    intro v W hv; simp only [pOf, List.lookup_cons, Nat.reduceBEq, beq_self_eq_true] at hv; subst hv
    simp only [Act.put, List.setIfInBounds_toArray, List.set_cons_succ, List.set_cons_zero]
    refine wpS_freshD rfl rfl (fun w' hb hF => ?_) ?_
    · change freshAtD _ _ _ (NewList V3.heap.size 2 [.int .i64 c1, .int .i64 c2]) _; unfold freshAtD; go_simp; exact listD hb
    intro v W hv; simp only [pOf, List.lookup_cons, Nat.reduceBEq, beq_self_eq_true] at hv; obtain ⟨BL, hBL, rfl, -⟩ := hv
    simp only [Act.put, List.setIfInBounds_toArray, List.set_cons_succ, List.set_cons_zero]
    refine wpS_freshD rfl rfl (fun w' hb hF => ?_) ?_
    · change freshAtD _ _ _ (fun v _ => v = .int .i64 r) _; have h4 := hF 20 _ rfl (by kernel_rfl); obtain ⟨B', hB', hv', hn'⟩ := h4; obtain rfl : BL = B' := (by simpa using hv'); unfold freshAtD; go_simp; exact (or_any (hn' 0 _ rfl).1 (hn' 1 _ rfl).1 HR.out).mono fun e w'' ⟨he, hw⟩ => ⟨he, hw ▸ Gr.refl _⟩
    intro v W hv; simp only [pOf, List.lookup_cons, Nat.reduceBEq, beq_self_eq_true] at hv; subst hv
    simp only [Act.put, List.setIfInBounds_toArray, List.set_cons_succ, List.set_cons_zero]
    refine wpS_nilD ?_
    intro V4 hall
    have hb := hall.1
    clear hall
    refine wpAny_ready (rs := [22]) (by kernel_rfl) (by simp) ?_
    refine AllReady.cons rfl (fun K hK => ?_) AllReady.nil
    go_simp
    refine hK _ _ ?_; clear hK K
    refine wpAny_done (by kernel_rfl) ?_ _
    go_wp2_with fail
    go_ret
    exact ⟨rfl, hG.trans hb⟩
  · go_simp
    refine hK _ _ ?_; clear hK K
    have C1 : Below w.heap.size w (w.drew.alloc (.cells #[.int .i64 0, .int .i64 0, .int .i64 0, .int .i64 0, .int .i64 0, .int .i64 0, .int .i64 0, .int .i64 0] 33)) := C0.alloc (Nat.le_refl _) _
    refine wpAnyC_op (r := 8) C1 (by kernel_rfl) rfl rfl (fun K hK => ?_)
    go_simp
    refine hK _ _ ?_; clear hK K
    have g2 : Gr w ((w.alloc (.cells #[.int .i64 0, .int .i64 0, .int .i64 0, .int .i64 0, .int .i64 0, .int .i64 0, .int .i64 0, .int .i64 0] 33)).alloc (.cells #[.int .i64 0, .int .i64 0, .int .i64 0, .int .i64 0, .int .i64 0, .int .i64 0, .int .i64 0, .int .i64 0] 33)).drew := (((Gr.refl w).alloc _).alloc _).drew
    have a0 : CellsAt ((w.alloc (.cells #[.int .i64 0, .int .i64 0, .int .i64 0, .int .i64 0, .int .i64 0, .int .i64 0, .int .i64 0, .int .i64 0] 33)).alloc (.cells #[.int .i64 0, .int .i64 0, .int .i64 0, .int .i64 0, .int .i64 0, .int .i64 0, .int .i64 0, .int .i64 0] 33)).drew w.heap.size [.int .i64 0, .int .i64 0, .int .i64 0, .int .i64 0, .int .i64 0, .int .i64 0, .int .i64 0, .int .i64 0] := (CellsAt.new w [.int .i64 0, .int .i64 0, .int .i64 0, .int .i64 0, .int .i64 0, .int .i64 0, .int .i64 0, .int .i64 0] 33).alloc _
    have a1 : CellsAt ((w.alloc (.cells #[.int .i64 0, .int .i64 0, .int .i64 0, .int .i64 0, .int .i64 0, .int .i64 0, .int .i64 0, .int .i64 0] 33)).alloc (.cells #[.int .i64 0, .int .i64 0, .int .i64 0, .int .i64 0, .int .i64 0, .int .i64 0, .int .i64 0, .int .i64 0] 33)).drew (w.heap.size + 1) [.int .i64 0, .int .i64 0, .int .i64 0, .int .i64 0, .int .i64 0, .int .i64 0, .int .i64 0, .int .i64 0] := by have h := CellsAt.new (w.alloc (.cells #[.int .i64 0, .int .i64 0, .int .i64 0, .int .i64 0, .int .i64 0, .int .i64 0, .int .i64 0, .int .i64 0] 33)) [.int .i64 0, .int .i64 0, .int .i64 0, .int .i64 0, .int .i64 0, .int .i64 0, .int .i64 0, .int .i64 0] 33; rw [World.size_alloc] at h; exact h
    generalize World.drew (World.alloc (World.alloc _ _) _) = V2 at *
    clear C0 C1
    have q0 := (a1 0 _ rfl).1; have f0 := (a1 0 _ rfl).2; have q1 := (a1 1 _ rfl).1; have f1 := (a1 1 _ rfl).2; have q2 := (a1 2 _ rfl).1; have f2 := (a1 2 _ rfl).2; have q3 := (a1 3 _ rfl).1; have f3 := (a1 3 _ rfl).2; have q4 := (a1 4 _ rfl).1; have f4 := (a1 4 _ rfl).2; have q5 := (a1 5 _ rfl).1; have f5 := (a1 5 _ rfl).2; have q6 := (a1 6 _ rfl).1; have f6 := (a1 6 _ rfl).2; have q7 := (a1 7 _ rfl).1; have f7 := (a1 7 _ rfl).2
    refine wpAnyC_op (r := 10) g2.b (by kernel_rfl) rfl rfl (fun K hK => ?_)
    go_simp
    refine hK _ _ ?_; clear hK K
    clear q0 f0 q1 f1 q2 f2 q3 f3 q4 f4 q5 f5 q6 f6 q7 f7
    skip
    have g3 : Gr w (put8 V2 (w.heap.size + 1) (.int .i64 xid) (.int .i64 xwl) (.int .i64 xwh) (.int .i64 xbl) (.int .i64 xbh) (.int .i64 xhl) (.int .i64 xhh) (.int .i64 xti)) := put8_gr g2 (by omega)
    have y6 : CellsAt (put8 V2 (w.heap.size + 1) (.int .i64 xid) (.int .i64 xwl) (.int .i64 xwh) (.int .i64 xbl) (.int .i64 xbh) (.int .i64 xhl) (.int .i64 xhh) (.int .i64 xti)) (w.heap.size + 1) [.int .i64 xid, .int .i64 xwl, .int .i64 xwh, .int .i64 xbl, .int .i64 xbh, .int .i64 xhl, .int .i64 xhh, .int .i64 xti] := put8_cells a1
    have y7 : CellsAt (put8 V2 (w.heap.size + 1) (.int .i64 xid) (.int .i64 xwl) (.int .i64 xwh) (.int .i64 xbl) (.int .i64 xbh) (.int .i64 xhl) (.int .i64 xhh) (.int .i64 xti)) (w.heap.size) [.int .i64 0, .int .i64 0, .int .i64 0, .int .i64 0, .int .i64 0, .int .i64 0, .int .i64 0, .int .i64 0] := put8_other a0 (by omega)
    clear a0 a1 g2
    dsimp only [put8] at g3 y6 y7
    generalize (World.setCell _ _ _ : World) = V5 at *
    have q0 := (y7 0 _ rfl).1; have f0 := (y7 0 _ rfl).2; have q1 := (y7 1 _ rfl).1; have f1 := (y7 1 _ rfl).2; have q2 := (y7 2 _ rfl).1; have f2 := (y7 2 _ rfl).2; have q3 := (y7 3 _ rfl).1; have f3 := (y7 3 _ rfl).2; have q4 := (y7 4 _ rfl).1; have f4 := (y7 4 _ rfl).2; have q5 := (y7 5 _ rfl).1; have f5 := (y7 5 _ rfl).2; have q6 := (y7 6 _ rfl).1; have f6 := (y7 6 _ rfl).2; have q7 := (y7 7 _ rfl).1; have f7 := (y7 7 _ rfl).2
    refine wpAnyC_op (r := 11) g3.b (by kernel_rfl) rfl rfl (fun K hK => ?_)
    go_simp
    refine hK _ _ ?_; clear hK K
    clear q0 f0 q1 f1 q2 f2 q3 f3 q4 f4 q5 f5 q6 f6 q7 f7
    have hG : Gr w (put8 V5 (w.heap.size) (.int .i64 yid) (.int .i64 ywl) (.int .i64 ywh) (.int .i64 ybl) (.int .i64 ybh) (.int .i64 yhl) (.int .i64 yhh) (.int .i64 yti)) := put8_gr g3 (by omega)
    have z7 : CellsAt (put8 V5 (w.heap.size) (.int .i64 yid) (.int .i64 ywl) (.int .i64 ywh) (.int .i64 ybl) (.int .i64 ybh) (.int .i64 yhl) (.int .i64 yhh) (.int .i64 yti)) (w.heap.size) [.int .i64 yid, .int .i64 ywl, .int .i64 ywh, .int .i64 ybl, .int .i64 ybh, .int .i64 yhl, .int .i64 yhh, .int .i64 yti] := put8_cells y7
    have z6 : CellsAt (put8 V5 (w.heap.size) (.int .i64 yid) (.int .i64 ywl) (.int .i64 ywh) (.int .i64 ybl) (.int .i64 ybh) (.int .i64 yhl) (.int .i64 yhh) (.int .i64 yti)) (w.heap.size + 1) [.int .i64 xid, .int .i64 xwl, .int .i64 xwh, .int .i64 xbl, .int .i64 xbh, .int .i64 xhl, .int .i64 xhh, .int .i64 xti] := put8_other y6 (by omega)
    clear y6 y7 g3
    dsimp only [put8] at hG z6 z7
    refine wpAnyC_end hG.b (by kernel_rfl) ?_
    refine ⟨rfl, ?_⟩
    generalize (World.setCell _ _ _ : World) = V3 at *
    have p0 := (z6 0 _ rfl).1; have r0 := (z7 0 _ rfl).1
    have p2 := (z6 2 _ rfl).1; have r2 := (z7 2 _ rfl).1
    have p3 := (z6 3 _ rfl).1; have r3 := (z7 3 _ rfl).1
    skip
    clear z6 z7 u0 v0 u1 v1 u2 v2 u3 v3 u4 v4 u5 v5 u6 v6 u7 v7 hX
    have w1 : IntKind.i64.wrap (xwh + xbl) = xwh + xbl := IntWalk.i64_in _ (by omega)
    have w2 : IntKind.i64.wrap (ywh + ybl) = ywh + ybl := IntWalk.i64_in _ (by omega)
    go_upto_region 2 with fail
    refine wp_region_RsD [(14, fun v _ => v = .int .i64 c1), (19, fun v _ => v = .int .i64 c2), (20, NewList V3.heap.size 2 [.int .i64 c1, .int .i64 c2]), (21, fun v _ => v = .int .i64 r)] [0, 1, 2, 3, 4, 5, 6, 7, 8, 9, 10, 11, 12, 13, 14, 15, 16, 17, 18, 19, 20, 21] 1 (by kernel_rfl) rfl (by simp only [List.forall_mem_cons]; exact ⟨keeps_eq, keeps_eq, keeps_list, keeps_eq, fun _ h => by cases h⟩) (by kernel_rfl) ?_
    simp only [numbered, List.filterMap_cons, List.filterMap_nil, List.getElem?_toArray, List.getElem?_cons_succ, List.getElem?_cons_zero, Option.map_some]
    show wpSD _ _ _ _ _ _ _ [(_, _), (_, _), (_, _), (_, _), (_, _), (_, _), (_, _), (_, _), (_, _), (_, _), (_, _), (_, _), (_, _), (_, _), (_, _), (_, _), (_, _), (_, _), (_, _), (_, _), (_, _), (_, _)] _ _
    (refine wpS_quietD rfl rfl ?_; intro K hK inst hx; go_big_quiet_op; (first | go_big_quiet_on | (refine ⟨_, fun _ => rfl, ?_⟩; go_big_quiet_on)); clear hx inst)
    (refine wpS_quietD rfl rfl ?_; intro K hK inst hx; go_big_quiet_op; (first | go_big_quiet_on | (refine ⟨_, fun _ => rfl, ?_⟩; go_big_quiet_on)); clear hx inst)
    (refine wpS_quietD rfl rfl ?_; intro K hK inst hx; have s0 := fun x => (fun _ => bkeep (Gr.b (BQD.below x)) r2) (hx x); go_big_quiet_op; (first | go_big_quiet_on | (refine ⟨_, fun _ => rfl, ?_⟩; go_big_quiet_on)); clear hx inst)
    (refine wpS_quietD rfl rfl ?_; intro K hK inst hx; go_big_quiet_op; (first | go_big_quiet_on | (refine ⟨_, fun _ => rfl, ?_⟩; go_big_quiet_on)); clear hx inst)
    (refine wpS_quietD rfl rfl ?_; intro K hK inst hx; go_big_quiet_op; (first | go_big_quiet_on | (refine ⟨_, fun _ => rfl, ?_⟩; go_big_quiet_on)); clear hx inst)
    (refine wpS_quietD rfl rfl ?_; intro K hK inst hx; have s0 := fun x => (fun _ => bkeep (Gr.b (BQD.below x)) r3) (hx x); go_big_quiet_op; (first | go_big_quiet_on | (refine ⟨_, fun _ => rfl, ?_⟩; go_big_quiet_on)); clear hx inst)
    (refine wpS_quietD rfl rfl ?_; intro K hK inst hx; go_big_quiet_op; (first | go_big_quiet_on | (refine ⟨_, fun _ => rfl, ?_⟩; go_big_quiet_on)); clear hx inst)
    (refine wpS_quietD rfl rfl ?_; intro K hK inst hx; go_big_quiet_op; (first | go_big_quiet_on | (refine ⟨_, fun _ => rfl, ?_⟩; go_big_quiet_on)); clear hx inst)
    (refine wpS_quietD rfl rfl ?_; intro K hK inst hx; go_big_quiet_op; (first | go_big_quiet_on | (refine ⟨_, fun _ => rfl, ?_⟩; go_big_quiet_on)); clear hx inst)
    (refine wpS_quietD rfl rfl ?_; intro K hK inst hx; have s0 := fun x => (fun _ => bkeep (Gr.b (BQD.below x)) p2) (hx x); go_big_quiet_op; (first | go_big_quiet_on | (refine ⟨_, fun _ => rfl, ?_⟩; go_big_quiet_on)); clear hx inst)
    (refine wpS_quietD rfl rfl ?_; intro K hK inst hx; go_big_quiet_op; (first | go_big_quiet_on | (refine ⟨_, fun _ => rfl, ?_⟩; go_big_quiet_on)); clear hx inst)
    (refine wpS_quietD rfl rfl ?_; intro K hK inst hx; go_big_quiet_op; (first | go_big_quiet_on | (refine ⟨_, fun _ => rfl, ?_⟩; go_big_quiet_on)); clear hx inst)
    (refine wpS_quietD rfl rfl ?_; intro K hK inst hx; have s0 := fun x => (fun _ => bkeep (Gr.b (BQD.below x)) p3) (hx x); go_big_quiet_op; (first | go_big_quiet_on | (refine ⟨_, fun _ => rfl, ?_⟩; go_big_quiet_on)); clear hx inst)
    (refine wpS_quietD rfl rfl ?_; intro K hK inst hx; go_big_quiet_op; (first | go_big_quiet_on | (refine ⟨_, fun _ => rfl, ?_⟩; go_big_quiet_on)); clear hx inst)
    refine wpS_freshD rfl rfl (fun w' hb hF => ?_) ?_
    · change freshAtD _ _ _ (fun v _ => v = .int .i64 c1) _; unfold freshAtD; go_simp; exact compare_any.mono fun e w'' ⟨he, hw⟩ => ⟨by rw [← HC1.out]; exact he, hw ▸ Gr.refl _⟩
    intro v W hv; simp only [pOf, List.lookup_cons, Nat.reduceBEq, beq_self_eq_true] at hv; subst hv
    simp only [Act.put, List.setIfInBounds_toArray, List.set_cons_succ, List.set_cons_zero]
    (refine wpS_quietD rfl rfl ?_; intro K hK inst hx; go_big_quiet_op; (first | go_big_quiet_on | (refine ⟨_, fun _ => rfl, ?_⟩; go_big_quiet_on)); clear hx inst)
    (refine wpS_quietD rfl rfl ?_; intro K hK inst hx; have s0 := fun x => (fun _ => bkeep (Gr.b (BQD.below x)) p0) (hx x); go_big_quiet_op; (first | go_big_quiet_on | (refine ⟨_, fun _ => rfl, ?_⟩; go_big_quiet_on)); clear hx inst)
    (refine wpS_quietD rfl rfl ?_; intro K hK inst hx; go_big_quiet_op; (first | go_big_quiet_on | (refine ⟨_, fun _ => rfl, ?_⟩; go_big_quiet_on)); clear hx inst)
    (refine wpS_quietD rfl rfl ?_; intro K hK inst hx; have s0 := fun x => (fun _ => bkeep (Gr.b (BQD.below x)) r0) (hx x); go_big_quiet_op; (first | go_big_quiet_on | (refine ⟨_, fun _ => rfl, ?_⟩; go_big_quiet_on)); clear hx inst)
    refine wpS_freshD rfl rfl (fun w' hb hF => ?_) ?_
    · change freshAtD _ _ _ (fun v _ => v = .int .i64 c2) _; unfold freshAtD; go_simp; exact compare_any.mono fun e w'' ⟨he, hw⟩ => ⟨by rw [← HC2.out]; exact he, hw ▸ Gr.refl _⟩
    intro v W hv; simp only [pOf, List.lookup_cons, Nat.reduceBEq, beq_self_eq_true] at hv; subst hv
    simp only [Act.put, List.setIfInBounds_toArray, List.set_cons_succ, List.set_cons_zero]
    refine wpS_freshD rfl rfl (fun w' hb hF => ?_) ?_
    · change freshAtD _ _ _ (NewList V3.heap.size 2 [.int .i64 c1, .int .i64 c2]) _; unfold freshAtD; go_simp; exact listD hb
    intro v W hv; simp only [pOf, List.lookup_cons, Nat.reduceBEq, beq_self_eq_true] at hv; obtain ⟨BL, hBL, rfl, -⟩ := hv
    simp only [Act.put, List.setIfInBounds_toArray, List.set_cons_succ, List.set_cons_zero]
    refine wpS_freshD rfl rfl (fun w' hb hF => ?_) ?_
    · change freshAtD _ _ _ (fun v _ => v = .int .i64 r) _; have h4 := hF 20 _ rfl (by kernel_rfl); obtain ⟨B', hB', hv', hn'⟩ := h4; obtain rfl : BL = B' := (by simpa using hv'); unfold freshAtD; go_simp; exact (or_any (hn' 0 _ rfl).1 (hn' 1 _ rfl).1 HR.out).mono fun e w'' ⟨he, hw⟩ => ⟨he, hw ▸ Gr.refl _⟩
    intro v W hv; simp only [pOf, List.lookup_cons, Nat.reduceBEq, beq_self_eq_true] at hv; subst hv
    simp only [Act.put, List.setIfInBounds_toArray, List.set_cons_succ, List.set_cons_zero]
    refine wpS_nilD ?_
    intro V4 hall
    have hb := hall.1
    clear hall
    refine wpAny_ready (rs := [22]) (by kernel_rfl) (by simp) ?_
    refine AllReady.cons rfl (fun K hK => ?_) AllReady.nil
    go_simp
    refine hK _ _ ?_; clear hK K
    refine wpAny_done (by kernel_rfl) ?_ _
    go_wp2_with fail
    go_ret
    exact ⟨rfl, hG.trans hb⟩

end Go.Proofs.Ytnchhleokdkejaa

/- The library's contracts of slices.SortFunc at slices of numbers, at this translation's numbers. -/
namespace Go.Proofs
open Go.Shelf
def Try.lays125_ren : Go.Shelf.Ren := ⟨fun | 125 => 143 | 128 => 156 | 129 => 157 | n => n, fun | 46 => 176 | 3 => 3 | 51 => 188 | 53 => 190 | 4 => 4 | 5 => 5 | 9 => 9 | n => n, fun | n => n⟩
theorem Try.lays125 : Go.Proofs.Lays.n125 Try.prog Try.lays125_ren := {
  mixed := by kernel_rfl
  f125 := Try.func143.trans (congrArg some (by kernel_rfl))
  f128 := Try.func156.trans (congrArg some (by kernel_rfl))
  f129 := Try.func157.trans (congrArg some (by kernel_rfl))
  t3 := Try.underlying3
  a3 := Try.isAgg3
  z3 := Try.sizeOf3
  v3 := Try.zeroValue3
  t4 := Try.underlying4
  a4 := Try.isAgg4
  z4 := Try.sizeOf4
  v4 := Try.zeroValue4
  t5 := Try.underlying5
  a5 := Try.isAgg5
  z5 := Try.sizeOf5
  v5 := Try.zeroValue5
  t9 := Try.underlying9
  a9 := Try.isAgg9
  z9 := Try.sizeOf9
  v9 := Try.zeroValue9
  t46 := Try.underlying176
  a46 := Try.isAgg176
  z46 := Try.sizeOf176
  v46 := Try.zeroValue176
  t51 := Try.underlying188
  a51 := Try.isAgg188
  z51 := Try.sizeOf188
  v51 := Try.zeroValue188
  t53 := Try.underlying190
  a53 := Try.isAgg190
  z53 := Try.sizeOf190
  v53 := Try.zeroValue190 }
theorem Try.bits_Len (x : Int) (w : World) (h0 : 0 ≤ x) (h1 : x ≤ 18446744073709551615) :
    Calls Try.prog 143 #[.int .u64 x] w fun e w' => e = .returned (.int .i64 (Lib.bitLen x.toNat)) ∧ w' = w := Any.bits_Len Try.lays125 x w h0 h1
def Try.sortIdx_ren : Go.Shelf.Ren := ⟨fun | 6 => 129 | 15 => 143 | 14 => 142 | 28 => 156 | 29 => 157 | 20 => 148 | 21 => 149 | 22 => 150 | 23 => 151 | 24 => 152 | 25 => 153 | 26 => 154 | 27 => 155 | 46 => 158 | 47 => 159 | 48 => 160 | 49 => 161 | 50 => 162 | 57 => 163 | n => n, fun | 22 => 41 | 24 => 3 | 25 => 98 | 3 => 3 | 39 => 176 | 0 => 0 | 53 => 188 | 55 => 190 | 4 => 4 | 46 => 181 | 45 => 180 | 50 => 185 | 5 => 5 | 9 => 9 | 66 => 191 | 70 => 195 | 76 => 197 | 77 => 198 | n => n, fun | n => n⟩
theorem Try.sortIdx : Go.Proofs.SlLaysF.n6 Try.prog Try.sortIdx_ren := {
  mixed := by kernel_rfl
  f6 := ⟨Try.f129.name, by decide, Try.func129.trans (congrArg some (by kernel_rfl))⟩
  f14 := ⟨Try.f142.name, by decide, Try.func142.trans (congrArg some (by kernel_rfl))⟩
  f15 := Try.func143.trans (congrArg some (by kernel_rfl))
  f20 := ⟨Try.f148.name, by decide, Try.func148.trans (congrArg some (by kernel_rfl))⟩
  f21 := ⟨Try.f149.name, by decide, Try.func149.trans (congrArg some (by kernel_rfl))⟩
  f22 := ⟨Try.f150.name, by decide, Try.func150.trans (congrArg some (by kernel_rfl))⟩
  f23 := ⟨Try.f151.name, by decide, Try.func151.trans (congrArg some (by kernel_rfl))⟩
  f24 := ⟨Try.f152.name, by decide, Try.func152.trans (congrArg some (by kernel_rfl))⟩
  f25 := ⟨Try.f153.name, by decide, Try.func153.trans (congrArg some (by kernel_rfl))⟩
  f26 := ⟨Try.f154.name, by decide, Try.func154.trans (congrArg some (by kernel_rfl))⟩
  f27 := ⟨Try.f155.name, by decide, Try.func155.trans (congrArg some (by kernel_rfl))⟩
  f28 := Try.func156.trans (congrArg some (by kernel_rfl))
  f29 := Try.func157.trans (congrArg some (by kernel_rfl))
  f46 := ⟨Try.f158.name, by decide, Try.func158.trans (congrArg some (by kernel_rfl))⟩
  f47 := Try.func159.trans (congrArg some (by kernel_rfl))
  f48 := Try.func160.trans (congrArg some (by kernel_rfl))
  f49 := ⟨Try.f161.name, by decide, Try.func161.trans (congrArg some (by kernel_rfl))⟩
  f50 := ⟨Try.f162.name, by decide, Try.func162.trans (congrArg some (by kernel_rfl))⟩
  f57 := ⟨Try.f163.name, by decide, Try.func163.trans (congrArg some (by kernel_rfl))⟩
  t0 := Try.underlying0
  a0 := Try.isAgg0
  z0 := Try.sizeOf0
  v0 := Try.zeroValue0
  t3 := Try.underlying3
  a3 := Try.isAgg3
  z3 := Try.sizeOf3
  v3 := Try.zeroValue3
  t4 := Try.underlying4
  a4 := Try.isAgg4
  z4 := Try.sizeOf4
  v4 := Try.zeroValue4
  t5 := Try.underlying5
  a5 := Try.isAgg5
  z5 := Try.sizeOf5
  v5 := Try.zeroValue5
  t9 := Try.underlying9
  a9 := Try.isAgg9
  z9 := Try.sizeOf9
  v9 := Try.zeroValue9
  t22 := Try.underlying41
  a22 := Try.isAgg41
  z22 := Try.sizeOf41
  v22 := Try.zeroValue41
  a24 := Try.isAgg3
  z24 := Try.sizeOf3
  t25 := Try.underlying98
  a25 := Try.isAgg98
  z25 := Try.sizeOf98
  v25 := Try.zeroValue98
  t39 := Try.underlying176
  a39 := Try.isAgg176
  z39 := Try.sizeOf176
  v39 := Try.zeroValue176
  t45 := Try.underlying180
  a45 := Try.isAgg180
  z45 := Try.sizeOf180
  v45 := Try.zeroValue180
  t46 := Try.underlying181
  a46 := Try.isAgg181
  z46 := Try.sizeOf181
  v46 := Try.zeroValue181
  t50 := Try.underlying185
  a50 := Try.isAgg185
  z50 := Try.sizeOf185
  v50 := Try.zeroValue185
  t53 := Try.underlying188
  a53 := Try.isAgg188
  z53 := Try.sizeOf188
  v53 := Try.zeroValue188
  t55 := Try.underlying190
  a55 := Try.isAgg190
  z55 := Try.sizeOf190
  v55 := Try.zeroValue190
  t66 := Try.underlying191
  a66 := Try.isAgg191
  z66 := Try.sizeOf191
  v66 := Try.zeroValue191
  t70 := Try.underlying195
  a70 := Try.isAgg195
  z70 := Try.sizeOf195
  v70 := Try.zeroValue195
  t76 := Try.underlying197
  a76 := Try.isAgg197
  z76 := Try.sizeOf197
  v76 := Try.zeroValue197
  t77 := Try.underlying198
  a77 := Try.isAgg198
  z77 := Try.sizeOf198
  v77 := Try.zeroValue198 }
end Go.Proofs

/- The order of the setter's rule, and saggars in this order. -/
namespace Go.Proofs.Ytnchhleokdkejaa
open Go.RowKit Go.Pb Go.Pb.Ware Go.Pb.Sag
set_option linter.unusedVariables false
set_option linter.unusedSimpArgs false

open Go.Proofs Go.Sort Go.Pb.Bung
set_option maxHeartbeats 400000 in
theorem ins_no (p : Option Addr) (fv : Value) (w : World) : Calls Try.prog 148 #[.slice p 0 0, .int .i64 0, .int .i64 0, fv] w (fun e w' => e = .returned (.tuple #[]) ∧ w' = w) := by
  go_enter Try.func148, Try.ntmps148
  go_wp2_with fail
  refine wp_loop_rounds 1 ?_
  rw [rounds_succ]
  go_wp2_with fail
  go_end0
  exact ⟨rfl, rfl⟩
set_option maxHeartbeats 400000 in
theorem pdq_no (p : Option Addr) (lim : Int) (fv : Value) (w : World) : Calls Try.prog 142 #[.slice p 0 0, .int .i64 0, .int .i64 0, .int .i64 lim, fv] w (fun e w' => e = .returned (.tuple #[]) ∧ w' = w) := by
  go_enter Try.func142, Try.ntmps142
  go_wp2_with fail
  refine wp_loop_rounds 1 ?_
  rw [rounds_succ]
  go_wp2_with (go_at_call 148; refine (ins_no _ _ _).mono ?_; rintro e w' ⟨rfl, rfl⟩)
  (try simp only [Exit.inBlock, Exit.then])
  refine bodyPost_ret (results_none rfl _ _ _) rfl ?_
  exact ⟨rfl, rfl⟩
set_option maxHeartbeats 400000 in
theorem sort_no (p : Option Addr) (fv : Value) (w : World) : Calls Try.prog 129 #[.slice p 0 0, fv] w (fun e w' => e = .returned (.tuple #[]) ∧ w' = w) := by
  go_enter Try.func129, Try.ntmps129
  go_wp2_with (first | (go_at_call 143; refine (Try.bits_Len 0 _ (by omega) (by omega)).mono ?_; rintro e w' ⟨rfl, rfl⟩) | (go_at_call 142; refine (pdq_no _ _ _ _).mono ?_; rintro e w' ⟨rfl, rfl⟩))
  go_end0
  exact ⟨rfl, rfl⟩

set_option maxRecDepth 100000 in
set_option maxHeartbeats 800000 in
/-- Sorting the indices by the rule. -/
theorem sortRule_any {w0 w : World} {X M n : Nat} {lv : Value} {l : List Sg} (hX : w.cell? ⟨X, 0, none⟩ = some lv) (hXM : X < M) (h0 : w0.heap.size ≤ M) (hB : Below w0.heap.size w0 w) (h : RowsAt 8 w0 lv (l.map rowG)) (hok : ∀ s ∈ l, sgOk s = true) (hid : IdsN l) (hn : l.length = n) (hl : l.length ≤ 30) (hM : M < w.heap.size) (hU : UpN M n n w) :
    Calls Try.prog 129 #[.slice (some ⟨M, 0, none⟩) n n, .func (.func 130) #[] #[.pointer (some ⟨X, 0, none⟩)]] w (fun e w' => e = .returned (.tuple #[]) ∧ Below M w w' ∧ NumsAt w' (.slice (some ⟨M, 0, none⟩) n n) (ruleL l)) := by
  rcases Nat.eq_zero_or_pos n with hz | hz
  · subst hz
    rw [List.length_eq_zero_iff] at hn
    subst hn
    refine (sort_no _ _ w).mono ?_
    rintro e w' ⟨rfl, rfl⟩
    exact ⟨rfl, Below.refl _ _, .inr ⟨⟨M, 0, none⟩, 0, rfl, Nat.le_refl _, by omega, fun k z hk => by simp [ruleL, ruleN, ruleUp] at hk⟩⟩
  · obtain ⟨m, hm⟩ : ∃ m, n = m + 1 := ⟨n - 1, by omega⟩
    have hs := Any.slices_SortFunc (α := Ix m) Try.sortIdx encX (fun _ => rfl) (cmpI l) (cmpI_swo l m) 130 #[.pointer (some ⟨X, 0, none⟩)] M 0 n (valI m) w (enters_of Try.func130 (by kernel_rfl) rfl)
      (fun k os dk _ x y => by
        have hb := below_sort (w := w) (B := M) (b := M) (m := k) (d := dk) (os := os) (Nat.le_refl _) (by omega)
        have hx2 : (sortWorld encX w M 0 k dk os).cell? ⟨X, 0, none⟩ = some lv := (hb.1.cell (p := ⟨X, 0, none⟩) hXM).trans hX
        refine (ruleCmp_any hx2 (h.below (hB.trans (hb.1.mono h0))) hok (i := x.1) (j := y.1) (by have := x.2; omega) (by have := y.2; omega)).mono ?_
        rintro e w' ⟨rfl, hg⟩
        exact ⟨rfl, hg.grow⟩)
      (holds_made hm hU) hM (by rw [valI_size]; omega)
    rw [valI_size] at hs
    rw [show m + 1 = n from hm.symm] at hs
    refine hs.mono ?_
    rintro e w' ⟨rfl, d, q, os, hp, hso, rfl⟩
    rw [show n = (valI m).size by rw [valI_size]; exact hm] at hp hso
    obtain ⟨p1, p2⟩ := sorted_rule (hn.trans hm) hid hp hso
    have hb := below_sort (w := w) (B := M) (b := M) (m := q) (d := d) (os := os) (Nat.le_refl _) (by omega)
    have hh := holds_sortWorld encX w M 0 q (valI m) d os hM (holds_made hm hU) (by rw [p1, valI_size])
    refine ⟨rfl, hb.1, ?_⟩
    have hq := nums_holds (n := n) (by rw [p1]; exact hm.symm) (by omega) (by omega) hh
    rw [p2] at hq
    exact hq

theorem Try.infoIn : (Try.prog.info? 3).map (fun i => (i.zero, i.size, i.bytes)) = some (some (.int .i64 0), 1, 8) := by kernel_rfl
set_option maxRecDepth 100000 in
set_option maxHeartbeats 1000000 in
theorem rule_any {w : World} {v : Value} {l : List Sg} (h : RowsAt 8 w v (l.map rowG)) (hk : listOk l = true) :
    Calls Try.prog 99 #[v] w (fun e w' => ∃ u, e = .returned u ∧ Below w.heap.size w w' ∧ NumsAt w' u (ruleL l)) := by
  obtain ⟨i0, hi0, hz0, hz1, hz2⟩ := info_parts Try.infoIn
  obtain ⟨a, cap, rfl, hll⟩ := h.shape
  rw [List.length_map] at h hll ⊢
  obtain ⟨hl, hok, hid⟩ := listOk_iff.1 hk
  obtain ⟨n, hn⟩ : ∃ n, l.length = n := ⟨_, rfl⟩
  rw [hn] at h hll ⊢
  have HN : Hid (l.length = n) := hn
  have hmf : ∀ (fn : Fn) (first cap : Array Value) (w : World), (Instr.makeFunc fn first cap).run Try.prog w = .ok (.func fn first cap) w := fun _ _ _ _ => rfl
  go_enter Try.func99, Try.ntmps99
  go_upto_region 2 with (at_make; refine wpList_make_full _ rfl _ _ 41 rfl (w.heap.size + 1) 3 i0 (.int .i64 0) 1 Try.underlying41 hi0 hz0 hz1 .i64 .i64 _ _ n rfl rfl rfl rfl (by rw [hz2]; omega) (by unfold maxLen; omega) (by simp) ?_; intro w5 ho5 hg5)
  simp only [World.size_alloc] at ho5
  have hm5 := made_at (B := w.heap.size + 1) rfl ho5
  have hb5 : Below (w.alloc (.cells #[.slice a n cap] 24)).heap.size (w.alloc (.cells #[.slice a n cap] 24)) w5 := (Below.refl _ _).grown hg5 (Nat.le_refl _) (fun k h => by cases h)
  have hz5 : w.heap.size + 1 < w5.heap.size := by have := (World.ownsRow.lt ho5 (w.heap.size + 1) (by simp [Value.ownBlock])).2; exact this
  have hB5 : Below w.heap.size w w5 := ((Below.refl w.heap.size w).alloc (Nat.le_refl _) _).trans (hb5.mono (by simp))
  have x5 : w5.cell? ⟨w.heap.size, 0, none⟩ = some (.slice a n cap) := bkeep hb5 (by simp [go_sem])
  have U5 : UpN (w.heap.size + 1) n 0 w5 := UpN.start hm5
  clear ho5 hg5 hm5 hb5
  go_wp2_with fail
  go_loopg [10] n (fun gk iv wr => ∃ k : Nat, k ≤ n ∧ gk = n - k ∧ iv = .int .i64 k ∧ UpN (w.heap.size + 1) n k wr ∧ Below w.heap.size w wr ∧ w.heap.size + 1 < wr.heap.size ∧ wr.cell? ⟨w.heap.size, 0, none⟩ = some (.slice a n cap))
  case atStart => exact ⟨0, Nat.zero_le _, rfl, rfl, U5, hB5, hz5, x5⟩
  case round =>
    clear U5 hB5 hz5 x5
    obtain ⟨k, hk1, hgk, rfl, hU, hB, hz, hx⟩ := hrel
    have HGK : Hid (gk = n - k) := hgk; clear hgk
    by_cases hlt : k < n
    · have hki : (k : Int) < (n : Int) := by omega
      obtain ⟨q0, f0⟩ := hU k hlt
      go_wp2_with fail
      go_roundg (n - (k + 1))
      case measure => have h := HGK.out; omega
      case rel => exact ⟨k + 1, by omega, rfl, by go_num, hU.put hlt, hB.setCell (p := ⟨w.heap.size + 1, k, none⟩) (Nat.le_succ _) _, by simpa using hz, (World.cell?_setCell_other _ _ _ _ (by intro e; injection e with e _; omega)).trans hx⟩
    · obtain rfl : k = n := by omega
      go_wp2_with fail
      refine (sortRule_any (w0 := w) hx (Nat.lt_succ_self _) (Nat.le_succ _) hB h hok hid HN.out hl hz hU).mono ?_
      rintro e w9 ⟨rfl, hb9, hn9⟩
      go_wp2_with fail
      go_ret
      exact ⟨_, rfl, hB.trans (hb9.mono (Nat.le_succ _)), hn9⟩

set_option maxRecDepth 100000 in
set_option maxHeartbeats 1000000 in
theorem ruled_any {w : World} {v : Value} {l : List Sg} (h : RowsAt 8 w v (l.map rowG)) (hk : listOk l = true) :
    Calls Try.prog 101 #[v] w (NewSgs 33 (ruledL l) w) := by
  have hl := (listOk_iff.1 hk).1
  unfold NewSgs
  go_enter Try.func101, Try.ntmps101
  go_wp2_with fail
  refine (rule_any (h.below (by go_grown)) hk).mono ?_
  rintro e w2 ⟨u, rfl, hb2, hu⟩
  have hz2 := hb2.size
  go_wp2_with fail
  refine (chosenG_any (h.below hb2) (by omega) hu (by rw [ruleL_length]; omega) (ruleL_in l)).mono ?_
  unfold NewSgs
  rintro e w3 ⟨x, rfl, hb3, ho3⟩
  go_wp2_with fail
  go_ret
  exact ⟨_, rfl, hb2.trans (hb3.mono hz2), owns_base hz2 ho3⟩

end Go.Proofs.Ytnchhleokdkejaa

/- Sums of ranges, a course's answer, saggars from the top. -/
namespace Go.Proofs.Ytnchhleokdkejaa
open Go.RowKit Go.Pb Go.Pb.Ware Go.Pb.Sag
set_option linter.unusedVariables false
set_option linter.unusedSimpArgs false

open Go.Shelf Go.Pb.Bung
attribute [local go_sem] Oper.semAt_some
set_option maxRecDepth 100000 in
set_option maxHeartbeats 400000 in
theorem ans_any {w : World} {sid swl swh sbl sbh shl shh sti lo hi r : Int} (hr : ansS ⟨sid, swl, swh, sbl, sbh, shl, shh, sti⟩ lo hi = r) :
    Calls Try.prog 127 #[.agg #[.int .i64 sid, .int .i64 swl, .int .i64 swh, .int .i64 sbl, .int .i64 sbh, .int .i64 shl, .int .i64 shh, .int .i64 sti], .agg #[.int .i64 lo, .int .i64 hi]] w (Ret w (.int .i64 r)) := by
  unfold Ret
  have HR := hid hr; clear hr
  by_cases h1 : hi ≤ sbl
  · obtain rfl : r = 1 := by rw [← HR.out]; unfold ansS; rw [if_pos h1]
    go_enter Try.func127, Try.ntmps127
    go_wp2_with fail
    go_ret
    exact ⟨rfl, by go_grown⟩
  · by_cases h2 : lo > sbh
    · obtain rfl : r = 0 := by rw [← HR.out]; unfold ansS; rw [if_neg h1, if_pos h2]
      go_enter Try.func127, Try.ntmps127
      go_wp2_with fail
      go_ret
      exact ⟨rfl, by go_grown⟩
    · obtain rfl : r = 2 := by rw [← HR.out]; unfold ansS; rw [if_neg h1, if_neg h2]
      go_enter Try.func127, Try.ntmps127
      go_wp2_with fail
      go_ret
      exact ⟨rfl, by go_grown⟩

theorem two_other {W : World} {B C : Nat} {vs : List Value} (h : CellsAt W B vs) (hne : B ≠ C) (x y : Value) : CellsAt ((W.setCell ⟨C, 0, none⟩ x).setCell ⟨C, 1, none⟩ y) B vs := (h.other hne _).other hne _
theorem acc_put {W : World} {B : Nat} {u v : Value} (h : CellsAt W B [u, v]) (o : Obj) (x y : Value) : CellsAt (((W.alloc o).setCell ⟨B, 0, none⟩ x).setCell ⟨B, 1, none⟩ y) B [x, y] := cells_store (o := 1) (u := y) (cells_store (o := 0) (u := x) (h.alloc o))
theorem acc_below {n0 B : Nat} {w0 W : World} (h : Below n0 w0 W) (o : Obj) (x y : Value) (hB : n0 ≤ B ∧ n0 ≤ W.heap.size) : Below n0 w0 (((W.alloc o).setCell ⟨B, 0, none⟩ x).setCell ⟨B, 1, none⟩ y) := ((h.alloc hB.2 o).setCell (p := ⟨B, 0, none⟩) hB.1 _).setCell (p := ⟨B, 1, none⟩) hB.1 _

set_option maxRecDepth 100000 in
set_option maxHeartbeats 1000000 in
theorem sum2_any {w : World} {a b c d : Int} {g : Nat} (h0 : w.cell? ⟨g, 0, none⟩ = some (.int .i64 a)) (h1 : w.cell? ⟨g, 1, none⟩ = some (.int .i64 b)) (h2 : w.cell? ⟨g, 2, none⟩ = some (.int .i64 c)) (h3 : w.cell? ⟨g, 3, none⟩ = some (.int .i64 d)) (hb : (0 ≤ a ∧ a ≤ 1000000000) ∧ (0 ≤ b ∧ b ≤ 1000000000) ∧ (0 ≤ c ∧ c ≤ 1000000000) ∧ 0 ≤ d ∧ d ≤ 1000000000) :
    Calls Try.prog 126 #[.slice (some ⟨g, 0, none⟩) 2 2] w (Ret w (.agg #[.int .i64 (a + c), .int .i64 (b + d)])) := by
  unfold Ret
  have H0 := hid h0
  have H1 := hid h1
  have H2 := hid h2
  have H3 := hid h3
  go_enter Try.func126, Try.ntmps126
  go_upto_region 2 with fail
  generalize hW : World.alloc (World.alloc w _) _ = v1
  have hB1 : Below w.heap.size w v1 := by rw [← hW]; exact ((Below.refl _ w).alloc (Nat.le_refl _) _).alloc (by simp) _
  have hz1 : v1.heap.size = w.heap.size + 2 := by rw [← hW]; simp
  have b0 : CellsAt v1 w.heap.size [.int .i64 0, .int .i64 0] := by rw [← hW]; exact (CellsAt.new w _ 23).alloc _
  have b1 : CellsAt v1 (w.heap.size + 1) [.int .i64 0, .int .i64 0] := by rw [← hW]; have h := CellsAt.new (w.alloc (.cells #[.int .i64 0, .int .i64 0] 23)) [.int .i64 0, .int .i64 0] 23; rwa [World.size_alloc] at h
  have e0 := bkeep hB1 h0
  have e1 := bkeep hB1 h1
  have e2 := bkeep hB1 h2
  have e3 := bkeep hB1 h3
  have HZ := hid hz1; clear hW hz1 h0 h1 h2 h3
  go_wp2_with fail
  go_loopg [8] 2 (fun gk iv wr => ∃ k : Nat, k ≤ 2 ∧ gk = 2 - k ∧ iv = .int .i64 k ∧ CellsAt wr w.heap.size [.int .i64 0, .int .i64 0] ∧ CellsAt wr (w.heap.size + 1) [.int .i64 (if k = 0 then 0 else if k = 1 then a else a + c), .int .i64 (if k = 0 then 0 else if k = 1 then b else b + d)] ∧ Below w.heap.size w wr ∧ w.heap.size + 2 ≤ wr.heap.size)
  case atStart => exact ⟨0, by omega, rfl, rfl, b0, b1, hB1, by have := HZ.out; omega⟩
  case round =>
    clear b0 b1 e0 e1 e2 e3 hB1
    obtain ⟨k, hk, hgk, rfl, b0, b1, hB, hz⟩ := hrel
    have HGK := hid hgk; clear hgk
    have e0 := bkeep hB H0.out
    have e1 := bkeep hB H1.out
    have e2 := bkeep hB H2.out
    have e3 := bkeep hB H3.out
    have q0 := (b1 0 _ rfl).1
    have f0 := (b1 0 _ rfl).2
    have q1 := (b1 1 _ rfl).1
    have f1 := (b1 1 _ rfl).2
    have p0 := (b0 0 _ rfl).1
    have g0 := (b0 0 _ rfl).2
    have p1 := (b0 1 _ rfl).1
    have g1 := (b0 1 _ rfl).2
    rcases (show k = 0 ∨ k = 1 ∨ k = 2 by omega) with rfl | rfl | rfl
    · simp at q0 q1
      go_wp2_with fail
      go_roundg 1
      case measure => have h := HGK.out; omega
      case rel => exact ⟨1, by omega, rfl, by first | rfl | go_num, two_other (b0.alloc _) (by omega) _ _, by simpa using acc_put b1 _ _ _, acc_below hB _ _ _ (by omega), by simp; omega⟩
    · simp at q0 q1
      go_wp2_with fail
      go_roundg 0
      case measure => have h := HGK.out; omega
      case rel => exact ⟨2, by omega, rfl, by first | rfl | go_num, two_other (b0.alloc _) (by omega) _ _, by simpa using acc_put b1 _ _ _, acc_below hB _ _ _ (by omega), by simp; omega⟩
    · simp at q0 q1
      go_wp2_with fail
      exact bodyPost_ret (v := .agg #[.int .i64 (a + c), .int .i64 (b + d)]) (by simp [results, Try.results126, go_sem, *]) rfl ⟨rfl, (hB.setCell (p := ⟨w.heap.size, 0, none⟩) (Nat.le_refl _) _).setCell (p := ⟨w.heap.size, 1, none⟩) (Nat.le_refl _) _⟩

/-- What is handed over for the course i: its index and its saggar. -/
def encB (l : List Sg) (i : Nat) : Array Value := #[.int .i64 (i : Int), sgV (l.getD i default)]
def NxB (n : Nat) (pre : List Nat) (i : Nat) : Prop := i + pre.length + 1 = n
theorem encB_at {l : List Sg} {i : Nat} {sid swl swh sbl sbh shl shh sti : Int} (h : l[i]? = some ⟨sid, swl, swh, sbl, sbh, shl, shh, sti⟩) : encB l i = #[.int .i64 (i : Int), .agg #[.int .i64 sid, .int .i64 swl, .int .i64 swh, .int .i64 sbl, .int .i64 sbh, .int .i64 shl, .int .i64 shh, .int .i64 sti]] := by
  unfold encB
  rw [show l.getD i default = (⟨sid, swl, swh, sbl, sbh, shl, shh, sti⟩ : Sg) by rw [List.getD, h]; rfl]; rfl

set_option maxRecDepth 100000 in
set_option maxHeartbeats 2000000 in
theorem back_n {m : Nat} (hm : 1 ≤ m) {w : World} {b : Nat} {v : Value} {l : List Sg} {p : Nat → Prop} (c0 : w.cell? ⟨b, 0, none⟩ = some v) (h : RowsAt 8 w v (l.map rowG)) (hl : l.length ≤ 1000) (hpb : p b) (hpv : l ≠ [] → InP p v) :
    SeqN Fence.wide m Try.prog 140 #[.pointer (some ⟨b, 0, none⟩)] (encB l) (KeepP p) (fun _ _ => True) (NxB l.length) (fun xs => xs.length = l.length) (fun _ => True) w := fun lr J Jx W hW hJ hJx hJl hJxl hY hj0 => by
  have hWs := hW.size
  have c1 := bkeep hW c0
  have hr1 := h.below hW
  clear c0 h
  obtain ⟨a, cap, rfl, hll⟩ := hr1.shape
  rw [List.length_map] at c1 hr1 hll hpv
  obtain ⟨n, hn⟩ : ∃ n, l.length = n := ⟨_, rfl⟩
  rw [hn] at c1 hr1 hll hl hpv hY ⊢
  have HN := hid hn; clear hn
  have HPV := hid hpv; have HPB := hid hpb; clear hpv hpb
  refine callsIn_of_wp Try.func140 rfl trivial ?_ rfl
  simp only [Try.ntmps140, List.size_toArray, List.length_cons, List.length_nil, Nat.reduceAdd, Nat.reduceSub, Array.replicate_succ, Array.replicate_zero, List.push_toArray, List.append_toArray, List.nil_append, List.cons_append]
  gi_wp2
  gi_loopw [3] (fun iv wr => ∃ (j : Nat) (z : Int), z + 1 = j ∧ j ≤ n ∧ iv = .int .i64 z ∧ (∃ pre : List Nat, pre.length + j = n ∧ J pre wr) ∧ wr.cell? ⟨b, 0, none⟩ = some (.slice a n cap) ∧ RowsAt 8 wr (.slice a n cap) (l.map rowG) ∧ W.heap.size ≤ wr.heap.size) (fun iv _ => (intOf iv + 1).toNat)
  case atStart => exact ⟨n, (n : Int) - 1, by omega, Nat.le_refl _, by go_num, ⟨[], by simp, hj0⟩, c1, hr1, Nat.le_refl _⟩
  case round =>
    clear c1 hr1 hj0
    obtain ⟨j, z, hzj, hjn, rfl, ⟨pre, hpre, hJk⟩, c1, hr1, hz1⟩ := hrel
    by_cases hlt : 0 ≤ z
    · obtain ⟨i, rfl⟩ : ∃ i : Nat, z = (i : Int) := ⟨z.toNat, by omega⟩
      obtain rfl : j = i + 1 := by omega
      have hil : i < n := by omega
      have hii : (i : Int) < (n : Int) := by omega
      have hil2 : i < l.length := by rw [HN.out]; exact hil
      obtain ⟨s, hs⟩ : ∃ s, l[i]? = some s := ⟨_, List.getElem?_eq_getElem hil2⟩
      obtain ⟨a', ha, r0, hc, -⟩ := sg_row (by rw [HN.out]; exact hr1) hs
      subst ha
      obtain ⟨sid, swl, swh, sbl, sbh, shl, shh, sti⟩ := s
      dsimp only at r0
      have r1 := hc 1 _ (by decide) rfl
      have r2 := hc 2 _ (by decide) rfl
      have r3 := hc 3 _ (by decide) rfl
      have r4 := hc 4 _ (by decide) rfl
      have r5 := hc 5 _ (by decide) rfl
      have r6 := hc 6 _ (by decide) rfl
      have r7 := hc 7 _ (by decide) rfl
      dsimp only at r1 r2 r3 r4 r5 r6 r7
      clear hc
      obtain ⟨fn, tmps, assign, body, hyy, hR⟩ := hY pre i _ hJk trivial (show i + pre.length + 1 = n by omega) hz1
      rw [encB_at hs] at hyy
      clear hs hil2
      have HR := hid hr1; have C1 := hid c1; clear hr1 hzj hjn
      have hwr : wrap64 ((i : Int) - 1) = (i : Int) - 1 := IntWalk.wrap64_in _ (by omega)
      have HPR := hid hpre; clear hpre
      have c1 := C1.out
      gi_wp2
      refine RoundIn.mono hR ?_
      rintro e W3 (⟨rfl, hJ5, hk5, hka⟩ | ⟨rfl, hJx5, hka⟩)
      · gi_wp2
        go_roundw
        case rel => exact ⟨i, (i : Int) - 1, by omega, by omega, by first | rfl | go_num, ⟨pre ++ [i], by rw [List.length_append, List.length_singleton]; have := HPR.out; omega, hJ5⟩, hk5.cell HPB.out C1.out, rows_keepP HR.out (fun hne => HPV.out (fun e => hne (by rw [e]; rfl))) hk5, by have := hka.size; omega⟩
        case measure => first | (simp [intOf]; done) | (simp [intOf]; omega)
      · gi_wp2
        refine bodyPost_ret (results_none rfl _ _ _) rfl ?_
        exact ⟨⟨_, rfl⟩, .inr ⟨_, trivial, hJx5⟩⟩
    · obtain rfl : j = 0 := by omega
      gi_wp2
      go_end0
      exact ⟨⟨_, rfl⟩, .inl ⟨pre, by omega, hJk⟩⟩

set_option maxRecDepth 100000 in
set_option maxHeartbeats 400000 in
theorem back_any {w : World} {a : Option Addr} {n c : Nat} :
    Calls Try.prog 125 #[.slice a n c] w (fun e w' => e = .returned (.func (.func 140) #[] #[.pointer (some ⟨w.heap.size, 0, none⟩)]) ∧ w'.cell? ⟨w.heap.size, 0, none⟩ = some (.slice a n c) ∧ Below w.heap.size w w' ∧ w.heap.size < w'.heap.size) := by
  go_enter Try.func125, Try.ntmps125
  go_wp2
  go_ret
  exact ⟨rfl, by simp [go_sem], by go_grown, by simp⟩

end Go.Proofs.Ytnchhleokdkejaa

/- The loads of courses, from the top down. -/
namespace Go.Proofs.Ytnchhleokdkejaa
open Go.RowKit Go.Pb Go.Pb.Ware Go.Pb.Sag
set_option linter.unusedVariables false
set_option linter.unusedSimpArgs false

open Go.Shelf Go.Pb.Bung
attribute [local go_sem] Oper.semAt_some
theorem cells_low {A C : World} {B n0 : Nat} {v : Value} {vs : List Value} (h : CellsAt A B (v :: vs)) (hb : Below n0 A C) (hB : B < n0) : CellsAt C B (v :: vs) := by
  intro o u hu
  obtain ⟨h1, h2⟩ := h o u hu
  have e := hb.block B hB
  refine ⟨?_, ?_⟩
  · unfold World.cell? at h1 ⊢; rw [e]; exact h1
  · unfold World.frozen? at h2 ⊢; rw [e]; exact h2
theorem np {p : Nat → Prop} {w W W2 : World} (h : ∀ k, p k → k < w.heap.size) (h2 : W2.heap.size = W.heap.size + 2) (hs : w.heap.size ≤ W.heap.size) {o : Nat} : ¬ (fun k => p k ∨ k = W2.heap.size) (⟨W.heap.size + 1, o, none⟩ : Addr).block := by
  rintro (hp | hp)
  · have := h _ hp; dsimp only at this; omega
  · dsimp only at hp; omega

set_option maxRecDepth 100000 in
set_option maxHeartbeats 2000000 in
theorem loads_n {m : Nat} (hm : 2 ≤ m) {w : World} {b : Nat} {v : Value} {l : List Sg} {p : Nat → Prop} (c0 : w.cell? ⟨b, 0, none⟩ = some v) (h : RowsAt 8 w v (l.map rowG)) (hl : l.length ≤ 30) (hs : ∀ s ∈ l, 0 ≤ s.wl ∧ s.wl ≤ 10000000 ∧ 0 ≤ s.wh ∧ s.wh ≤ 10000000) (hpb : p b) (hpv : l ≠ [] → InP p v) (hpw : ∀ k, p k → k < w.heap.size) :
    SeqN Fence.wide m Try.prog 124 #[.pointer (some ⟨b, 0, none⟩)] (encL l) (KeepP p) (fun _ _ => True) (NxB l.length) (fun xs => xs.length = l.length) (fun _ => True) w := fun lr J Jx W hW hJ hJx hJl hJxl hY hj0 => by
  have hm1 : 1 ≤ m := by omega
  have hWs := hW.size
  have c1 := bkeep hW c0
  have hr1 := h.below hW
  clear c0 h
  obtain ⟨a, cap, rfl, hll⟩ := hr1.shape
  rw [List.length_map] at c1 hr1 hll hpv
  obtain ⟨n, hn⟩ : ∃ n, l.length = n := ⟨_, rfl⟩
  rw [hn] at c1 hr1 hll hpv hY hl ⊢
  have HN := hid hn; clear hn
  have HPV := hid hpv; have HPB := hid hpb; have HPW := hid hpw; have HS := hid hs; clear hpv hpb hpw hs
  refine callsIn_of_wp_marks Try.func124 rfl trivial ?_ rfl
  simp only [Try.ntmps124, List.size_toArray, List.length_cons, List.length_nil, Nat.reduceAdd, Nat.reduceSub, Array.replicate_succ, Array.replicate_zero, List.push_toArray, List.append_toArray, List.nil_append, List.cons_append]
  gi_upto_region 2 with (fail)
  generalize hW2 : World.alloc (World.alloc W _) _ = W2
  have y2 : CellsAt W2 W.heap.size [.func (.yield lr) #[] #[]] := by rw [← hW2]; exact (CellsAt.new W _ 160).alloc _
  have y3 : CellsAt W2 (W.heap.size + 1) [.int .i64 0, .int .i64 0] := by rw [← hW2]; have h := CellsAt.new (W.alloc (.cells #[.func (.yield lr) #[] #[]] 160)) [.int .i64 0, .int .i64 0] 23; rwa [World.size_alloc] at h
  have hB2 : Below W.heap.size W W2 := by rw [← hW2]; exact ((Below.refl _ W).alloc (Nat.le_refl _) _).alloc (by simp) _
  have HZ2 := hid (show W2.heap.size = W.heap.size + 2 by rw [← hW2]; simp)
  clear hW2
  replace c1 := bkeep hB2 c1
  replace hr1 := hr1.below hB2
  gi_wp2_with (refine ⟨trivial, ?_⟩; gi_at_call 125; refine (callsIn_wide.2 back_any).mono ?_; rintro e w4 ⟨rfl, c4, hb4, hz4⟩)
  have hB4 : Below W.heap.size W w4 := hB2.trans (hb4.mono (by have := HZ2.out; omega))
  have hr4 := hr1.below hb4
  replace y2 := y2.below hb4
  replace y3 := y3.below hb4
  have hj4 := hJl _ _ _ hj0 hB4
  have HZ4 := hid hz4; clear hr1 c1 hb4 hB2 hj0 hz4
  refine wpIn_rangeFunc_n (F := Fence.wide) (n := m) rfl (by omega) (gf := 140) (lb := #[.pointer (some ⟨W2.heap.size, 0, none⟩)]) rfl trivial (enters_of Try.func140 (by kernel_rfl) rfl) (back_n (m := m - 1) (by omega) (p := (fun k => p k ∨ k = W2.heap.size)) c4 hr4 (by rw [HN.out]; omega) (Or.inr rfl) (fun hne a n c e => Or.inl (HPV.out hne a n c e))) (fun h k => h.trans k) (fun V q o o' hq _ _ _ => KeepP.put (fun hp => by have := HZ4.out; have := HZ2.out; rcases hp with hp | rfl; have := HPW.out _ hp; omega; omega)) (Below.refl _ _) (fun _ => rfl)
    (fun (pre : List Nat) V => J pre V ∧ CellsAt V W.heap.size [.func (.yield lr) #[] #[]] ∧ CellsAt V (W.heap.size + 1) [.int .i64 (accL l pre.length), .int .i64 (accH l pre.length)] ∧ w4.heap.size ≤ V.heap.size) (fun c (pre : List Nat) V => c = .ret ∧ Jx pre V) ?own ?ownx ?low ?lowx (fun _ _ _ _ hs _ _ => hs) ?start
    (fun x a' V => ∃ Bx, w4.heap.size ≤ Bx ∧ CellsAt V Bx (cellsG (l.getD x default)) ∧ a' = { tmps := #[.func (.yield lr) #[] #[], .pointer (some ⟨b, 0, none⟩), .pointer (some ⟨W.heap.size, 0, none⟩), .pointer (some ⟨W.heap.size + 1, 0, none⟩), .int .i64 (x : Int), .pointer (some ⟨Bx, 0, none⟩), .slice a n cap, .func (.func 140) #[] #[.pointer (some ⟨W2.heap.size, 0, none⟩)], .int .i64 (x : Int), sgV (l.getD x default), undef, undef, undef, undef, undef, undef, undef, undef, undef, undef], defers := [] })
    (fun x a' _ X Y row hs hg hr => by obtain ⟨Bx, h1, h2, h3⟩ := hs; exact ⟨Bx, h1, h2.kept hg (fun r e => (hr r e).2), h3⟩)
    ?assign ?body ?done ?stop
  case own => rintro s X Y row ⟨h1, h2, h3, h4⟩ hg hr; exact ⟨hJ s X Y row h1 hg (fun r e => ⟨by have := (hr r e).1; have := HZ4.out; have := HZ2.out; omega, (hr r e).2⟩), h2.kept hg (fun r e => (hr r e).2), h3.kept hg (fun r e => (hr r e).2), by have := hg.size; omega⟩
  case ownx => rintro c s X Y row ⟨h1, h2⟩ hg hr; exact ⟨h1, hJx s X Y row h2 hg (fun r e => ⟨by have := (hr r e).1; have := HZ4.out; have := HZ2.out; omega, (hr r e).2⟩)⟩
  case low => rintro s X Y ⟨h1, h2, h3, h4⟩ hb; exact ⟨hJl s X Y h1 (hb.mono (by have := HZ4.out; have := HZ2.out; omega)), cells_low h2 hb (by have := HZ4.out; have := HZ2.out; omega), cells_low h3 hb (by have := HZ4.out; have := HZ2.out; omega), by have := hb.size; omega⟩
  case lowx => rintro c s X Y ⟨h1, h2⟩ hb; exact ⟨h1, hJxl s X Y h2 (hb.mono (by have := HZ4.out; have := HZ2.out; omega))⟩
  case start => exact ⟨hj4, y2, by have h := acc_zero (l := l); rw [List.length_nil, h.1, h.2]; exact y3, Nat.le_refl _⟩
  case assign =>
    rintro q pre x V K2 ⟨h1, h2, h3, h4⟩ - hK2
    obtain ⟨s, hs⟩ : ∃ s, l.getD x default = s := ⟨_, rfl⟩
    unfold encB
    rw [hs]
    obtain ⟨sid, swl, swh, sbl, sbh, shl, shh, sti⟩ := s
    have HS3 := hid hs; clear hs
    simp only [sgV, cellsG, rowG, List.map_cons, List.map_nil]
    gi_wp2
    exact hK2 _ _ (KeepsAll.of_below ((Below.refl _ _).alloc (Nat.le_refl _) _)) (KeepP.of_below ((Below.refl _ _).alloc (Nat.le_refl _) _)) ⟨hJl _ _ _ h1 ((Below.refl _ _).alloc (by have := hB4.size; omega) _), h2.alloc _, h3.alloc _, by simp; omega⟩ trivial ⟨V.heap.size, h4, by rw [HS3.out]; exact CellsAt.new V _ 33, by rw [HS3.out]; rfl⟩
  case body =>
    rintro q pre i a' V hq1 hq2 ⟨hj, y2, y3, hzv⟩ - ⟨Bx, hBx, bX, rfl⟩ hNx
    have hNX := hNx
    unfold NxB at hNX
    have hil : i < l.length := by omega
    obtain ⟨s, hs⟩ : ∃ s, l[i]? = some s := ⟨_, List.getElem?_eq_getElem hil⟩
    have hgd : l.getD i default = s := by rw [List.getD, hs]; rfl
    have hsm := HS.out s (List.mem_of_getElem? hs)
    obtain ⟨hl1, hl2⟩ := acc_load (l := l) (i := i) (k := pre.length) (by omega)
    obtain ⟨hs1, hs2⟩ := acc_step (l := l) (i := i) (k := pre.length) (by omega) hs
    obtain ⟨hb1, hb2, hb3, hb4⟩ := load_small HS.out i
    rw [hl1] at hb1 hb2; rw [hl2] at hb3 hb4
    rw [HN.out] at hb2 hb4
    rw [hgd] at bX ⊢
    obtain ⟨sid, swl, swh, sbl, sbh, shl, shh, sti⟩ := s
    dsimp only at hs1 hs2 hsm
    obtain ⟨fn, tmps, assign, body, hyy, hR⟩ := hY pre i V hj trivial (HN.out ▸ hNx) (by have := hB4.size; omega)
    unfold encL at hyy
    rw [hl1, hl2] at hyy
    obtain ⟨x, hx⟩ : ∃ x, accL l pre.length = x := ⟨_, rfl⟩
    obtain ⟨y, hy⟩ : ∃ y, accH l pre.length = y := ⟨_, rfl⟩
    rw [hx] at y3 hyy hb1 hb2 hs1; rw [hy] at y3 hyy hb3 hb4 hs2
    have HX1 := hid hs1; have HX2 := hid hs2; have HXX := hid hx; have HYY := hid hy; have HNX := hid hNX; clear hs1 hs2 hl1 hl2 hs hgd hx hy hNx hNX hil
    have q0 := (y2 0 _ rfl).1; have q1 := (y3 0 _ rfl).1; have q2 := (y3 1 _ rfl).1
    gi_wp2
    refine ⟨fun h => (by cases h), RoundIn.mono (roundIn_wide hR) ?_⟩
    rintro e V3 (⟨rfl, hJ5, hk5, hka⟩ | ⟨rfl, hJx5, hka⟩)
    · replace y2 := cells_keepA y2 hka (Nat.le_refl _)
      replace y3 := cells_keepA y3 hka (Nat.le_succ _)
      replace bX := cells_keepA bX hka (by have := hB4.size; omega)
      clear q0 q1 q2 hyy hR
      have q1 := (y3 0 _ rfl).1; have q2 := (y3 1 _ rfl).1; have g1 := (y3 0 _ rfl).2; have g2 := (y3 1 _ rfl).2
      have r1 := (bX 1 _ rfl).1; have r2 := (bX 2 _ rfl).1
      have hk3 := hka.size
      gi_wp2_with (refine ⟨trivial, fun h => (by cases h), ?_⟩; gi_at_call 126; refine (callsIn_wide.2 (sum2_any (a := x) (b := y) (c := swl) (d := swh) (by simp [go_sem]) (by simp [go_sem]) (by simp [go_sem]) (by simp [go_sem]) (by omega))).mono ?_; rintro e w6 ⟨rfl, hb6⟩; have hb7 : Below V3.heap.size V3 w6 := ((Below.refl _ V3).alloc (Nat.le_refl _) _).trans (hb6.mono (by simp)); replace y2 := y2.below hb7; replace y3 := y3.below hb7; replace q1 := (y3 0 _ rfl).1; replace q2 := (y3 1 _ rfl).1; replace g1 := (y3 0 _ rfl).2; replace g2 := (y3 1 _ rfl).2; clear hb6)
      have hs6 := hb7.size
      refine ⟨((hka.mono (by have := hB4.size; omega)).trans (KeepsAll.of_below hb7)).trans ((KeepsAll.set (by have := HZ4.out; have := HZ2.out; show W.heap.size + 1 < _; omega)).trans (KeepsAll.set (by have := HZ4.out; have := HZ2.out; show W.heap.size + 1 < _; omega))), ?_, ?_⟩
      · refine KeepP.trans ⟨hk3, fun k hp hk => ?_⟩ ((KeepP.of_below hb7).trans ((KeepP.set (np HPW.out HZ2.out hWs)).trans (KeepP.set (np HPW.out HZ2.out hWs))))
        rcases hp with hp | rfl
        · exact hk5.2 k hp hk
        · exact hka.same _ (by have := HZ2.out; omega) hk
      · refine ⟨hJl _ _ _ hJ5 ?_, two_other y2 (by omega) _ _, ?_, by simp; omega⟩
        · exact ((hb7.mono (by have := hB4.size; omega)).setCell (p := ⟨W.heap.size + 1, 0, none⟩) (Nat.le_succ _) _).setCell (p := ⟨W.heap.size + 1, 1, none⟩) (Nat.le_succ _) _
        · rw [List.length_append, List.length_singleton, HX1.out, HX2.out]; exact cells_store (o := 1) (cells_store (o := 0) y3)
    · gi_wp2
      exact ⟨hka.mono (by have := hB4.size; omega), rfl, hJx5⟩
  case done =>
    rintro D xs V hD hS ⟨hj, y2, y3, hzv⟩ hK2
    gi_wp2
    refine ⟨by simp, .inl ⟨_, _, rfl, run_takeDeferred hK2, ?_⟩⟩
    exact ⟨.tuple #[], by simp [results, Try.results124, go_sem], ⟨_, rfl⟩, .inl ⟨xs, by rw [← HN.out]; exact hS, hJ.putObj _ hj (by have := hB4.size; omega) hK2 rfl⟩⟩
  case stop =>
    rintro D c pre V hD hpre ⟨rfl, hj⟩ hK2
    gi_wp2
    refine ⟨by simp, .inl ⟨_, _, rfl, run_takeDeferred hK2, ?_⟩⟩
    exact ⟨.tuple #[], by simp [results, Try.results124, go_sem], ⟨_, rfl⟩, .inr ⟨pre, trivial, hJx.putObj _ hj (by have := hB4.size; omega) hK2 rfl⟩⟩

set_option maxRecDepth 100000 in
set_option maxHeartbeats 400000 in
theorem loads_any {w : World} {a : Option Addr} {n c : Nat} :
    Calls Try.prog 84 #[.slice a n c] w (fun e w' => e = .returned (.func (.func 124) #[] #[.pointer (some ⟨w.heap.size, 0, none⟩)]) ∧ w'.cell? ⟨w.heap.size, 0, none⟩ = some (.slice a n c) ∧ Below w.heap.size w w' ∧ w.heap.size < w'.heap.size) := by
  go_enter Try.func84, Try.ntmps84
  go_wp2
  go_ret
  exact ⟨rfl, by simp [go_sem], by go_grown, by simp⟩

end Go.Proofs.Ytnchhleokdkejaa
