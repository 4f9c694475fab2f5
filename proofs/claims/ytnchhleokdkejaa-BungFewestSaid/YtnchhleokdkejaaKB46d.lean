/- Whether lists are parts of things. -/
import Derived.Test.YtnchhleokdkejaaKB22d
import Derived.Test.YtnchhleokdkejaaKScd
import Derived.Test.YtnchhleokdkejaaKLibDd
import Derived.Test.YtnchhleokdkejaaKLibd
import Derived.Test.YtnchhleokdkejaaKB10d
import Derived.Deep.LoopGhost
import Derived.OwnWalk
import Derived.Test.YtnchhleokdkejaaKSud
import Derived.Test.YtnchhleokdkejaaKBed
import Derived.Maps.AppendAt
import Derived.Deep.CutBlock
import Derived.Lib.MinMax
import Derived.Laws.AppendOwn
namespace Go.Proofs.Ytnchhleokdkejaa
open Go.RowKit Go.Pb Go.Pb.Ware Go.Pb.Sag
set_option linter.unusedVariables false
set_option linter.unusedSimpArgs false

/-- Whether lists are parts of n things. -/
def areB (n : Nat) : Int → List Int → List (List Int) → Bool
  | _, seen, [] => decide (seen.length = n)
  | first, seen, g :: gs => match g[0]? with
    | none => false
    | some x => idxB (n : Int) (-1) g && (decide (first < x) && (g.all (fun z => !seen.contains z) && areB n x (seen ++ g) gs))
/-- Which numbers below n have been seen. -/
def SeenAt (B n : Nat) (seen : List Int) (W : World) : Prop := ∀ i : Nat, i < n → W.cell? ⟨B, i, none⟩ = some (.bool (seen.contains (i : Int))) ∧ W.frozen? ⟨B, i, none⟩ = false
theorem SeenAt.below {B n : Nat} {seen : List Int} {W W' : World} (h : SeenAt B n seen W) (hb : Below W.heap.size W W') : SeenAt B n seen W' := fun i hi => ⟨bkeep hb (h i hi).1, bfree hb (h i hi).1 (h i hi).2⟩
theorem SeenAt.set {B n m : Nat} {seen : List Int} {W : World} (h : SeenAt B n seen W) (hm : m < n) : SeenAt B n (seen ++ [(m : Int)]) (W.setCell ⟨B, m, none⟩ (.bool true)) := by
  intro i hi
  obtain ⟨h1, h2⟩ := h i hi
  refine ⟨?_, set_free h1 h2⟩
  by_cases e : i = m
  · subst e
    rw [setc_same h1]; simp
  · rw [setc_other h1 e]
    have : ¬ (i : Int) = (m : Int) := by omega
    simp [this]
end Go.Proofs.Ytnchhleokdkejaa

/- Bungs that stand, by plain maths: without a saggar, with narrower ranges, by the setter's rule. -/
namespace Go.Pb.Bung
open Go Go.Pb Go.Pb.Ware Go.RowKit
set_option linter.unusedVariables false
set_option linter.unusedSimpArgs false
def sumW (l : List Sg) : Int := (l.map (·.wh)).sum
def sumL (l : List Sg) : Int := (l.map (·.wl)).sum
/-- Each bears what stands on it. -/
def StandsP : List Sg → Prop
  | [] => True
  | s :: l => sumW l ≤ s.bl ∧ StandsP l
theorem standsP_iff : ∀ {l : List Sg}, StandsP l ↔ ∀ i s, l[i]? = some s → loadH l i ≤ s.bl
  | [] => ⟨fun _ i s h => by simp at h, fun _ => trivial⟩
  | s :: l => by
    rw [StandsP, standsP_iff (l := l)]
    constructor
    · rintro ⟨h1, h2⟩ i t ht
      cases i with
      | zero => (obtain rfl : s = t := by simpa using ht); exact h1
      | succ i => exact h2 i t (by simpa using ht)
    · intro h
      exact ⟨h 0 s rfl, fun i t ht => h (i + 1) t (by simpa using ht)⟩
theorem getD_is {l : List Sg} {i : Nat} {s : Sg} (h : l[i]? = some s) : l.getD i default = s := by rw [List.getD_eq_getElem?_getD, h]; rfl
theorem ansL_one {l : List Sg} {i : Nat} {s : Sg} (h : l[i]? = some s) : ansL l i = 1 ↔ loadH l i ≤ s.bl := by
  unfold ansL ansS
  rw [getD_is h]
  split
  · rename_i h1; exact ⟨fun _ => h1, fun _ => rfl⟩
  · rename_i h1
    split
    · exact ⟨fun e => (by cases e), fun e => absurd e h1⟩
    · exact ⟨fun e => (by cases e), fun e => absurd e h1⟩
theorem stA_one {l : List Sg} : stA l = 1 ↔ StandsP l := by
  rw [standsP_iff]
  constructor
  · intro h i s hs
    rw [← ansL_one hs]
    have hi : i < l.length := (List.getElem?_eq_some_iff.1 hs).1
    unfold stA at h
    split at h
    · cases h
    · rename_i h1
      split at h
      · cases h
      · rename_i h2
        rcases ansS_three (l.getD i default) (loadL l i) (loadH l i) with e | e | e
        · exact absurd (List.any_eq_true.2 ⟨i, List.mem_range.2 hi, decide_eq_true e⟩) h1
        · exact e
        · exact absurd (List.any_eq_true.2 ⟨i, List.mem_range.2 hi, decide_eq_true e⟩) h2
  · intro h
    have key : ∀ i, i < l.length → ansL l i = 1 := fun i hi => (ansL_one (List.getElem?_eq_getElem hi)).2 (h i _ (List.getElem?_eq_getElem hi))
    unfold stA
    rw [if_neg (by
      intro hx
      obtain ⟨i, hi, e⟩ := List.any_eq_true.1 hx
      have h1 := key i (List.mem_range.1 hi)
      have e2 := of_decide_eq_true e
      omega), if_neg (by
      intro hx
      obtain ⟨i, hi, e⟩ := List.any_eq_true.1 hx
      have h1 := key i (List.mem_range.1 hi)
      have e2 := of_decide_eq_true e
      omega)]
theorem stA_three (l : List Sg) : stA l = 0 ∨ stA l = 1 ∨ stA l = 2 := by
  unfold stA; split
  · exact .inl rfl
  · split
    · exact .inr (.inr rfl)
    · exact .inr (.inl rfl)
def Wt (l : List Sg) : Prop := ∀ s ∈ l, 0 ≤ s.wh
theorem Wt.tail {s : Sg} {l : List Sg} (h : Wt (s :: l)) : Wt l := fun x hx => h x (List.mem_cons_of_mem _ hx)
/-! Narrower ranges. -/
/-- The ranges of t lie within those of s. -/
def Nar (s t : Sg) : Prop := s.wl ≤ t.wl ∧ t.wh ≤ s.wh ∧ s.bl ≤ t.bl ∧ t.bh ≤ s.bh ∧ s.hl ≤ t.hl ∧ t.hh ≤ s.hh ∧ t.ti = s.ti
theorem Nar.refl (s : Sg) : Nar s s := by unfold Nar; omega
def NarL : List Sg → List Sg → Prop
  | [], [] => True
  | s :: l, t :: m => Nar s t ∧ NarL l m
  | _, _ => False
theorem NarL.refl : ∀ l, NarL l l
  | [] => trivial
  | s :: l => ⟨Nar.refl s, NarL.refl l⟩
theorem NarL.len : ∀ {l m : List Sg}, NarL l m → m.length = l.length
  | [], [], _ => rfl
  | s :: l, t :: m, h => by rw [List.length_cons, List.length_cons, NarL.len h.2]
  | [], _ :: _, h => h.elim
  | _ :: _, [], h => h.elim
theorem NarL.drop : ∀ {l m : List Sg} (k : Nat), NarL l m → NarL (l.drop k) (m.drop k)
  | [], [], k, _ => by simp [NarL]
  | s :: l, t :: m, 0, h => h
  | s :: l, t :: m, k + 1, h => NarL.drop k h.2
  | [], _ :: _, _, h => h.elim
  | _ :: _, [], _, h => h.elim
theorem ruledL_map (l : List Sg) : ruledL l = (ruleN l).map (atG l) := by
  unfold ruledL chosenG ruleL
  rw [List.map_map]
  rfl
theorem range_atG (l : List Sg) : (List.range l.length).map (atG l) = l := by
  apply List.ext_getElem
  · simp
  · intro i h1 h2
    rw [List.getElem_map, List.getElem_range]
    unfold atG
    rw [List.getD_eq_getElem?_getD, List.getElem?_eq_getElem h2]
    rfl
theorem ruledL_perm (l : List Sg) : (ruledL l).Perm l := by
  have h := (ruleN_perm l).map (atG l)
  rw [range_atG] at h
  rw [ruledL_map]; exact h
end Go.Pb.Bung

/- Valid lists of saggars that others make: exchanged, without one, with one narrower; chosen weights. -/
namespace Go.Pb.Bung
open Go Go.Pb Go.Pb.Ware Go.RowKit
set_option linter.unusedVariables false
set_option linter.unusedSimpArgs false
theorem listOk_sub {l m : List Sg} (hp : m.Sublist l) (h : listOk l = true) : listOk m = true := by
  rw [listOk_iff] at h ⊢
  refine ⟨Nat.le_trans hp.length_le h.1, fun s hs => h.2.1 s (hp.subset hs), ?_⟩
  have h3 := h.2.2
  unfold IdsN at h3 ⊢
  exact h3.sublist (hp.map _)
/-- What a valid saggar's numbers are. -/
theorem sg_facts {s : Sg} (h : sgOk s = true) : ((0 ≤ s.wl ∧ s.wl ≤ s.wh) ∧ s.wh ≤ 10000000) ∧ ((0 ≤ s.bl ∧ s.bl ≤ s.bh) ∧ s.bh ≤ 10000000) ∧ ((1 ≤ s.hl ∧ s.hl ≤ s.hh) ∧ s.hh ≤ 10000) ∧ (0 ≤ s.ti ∧ s.ti ≤ 200) ∧ 1 ≤ s.id ∧ s.id ≤ 999 := by
  unfold sgOk at h
  simp only [Bool.and_eq_true, btw_iff, rgOk_iff] at h
  omega
theorem listOk_wt {l : List Sg} (h : listOk l = true) : Wt l := fun s hs => by
  have := sg_facts ((listOk_iff.1 h).2.1 s hs)
  omega
/-! Weights that numbers choose. -/
/-- Of the saggars above a course the k lower ones weigh ws. -/
def ChoseW (l : List Sg) (ws : List Int) : Prop := ws.length ≤ l.length ∧ ∀ (j : Nat) (z : Int) (s : Sg), ws[j]? = some z → l[j]? = some s → s.wl ≤ z ∧ z ≤ s.wh
theorem ChoseW.nil (l : List Sg) : ChoseW l [] := ⟨Nat.zero_le _, fun j z s h => by simp at h⟩
theorem ChoseW.snoc {l : List Sg} {ws : List Int} {z : Int} {s : Sg} (h : ChoseW l ws) (hs : l[ws.length]? = some s) (h1 : s.wl ≤ z) (h2 : z ≤ s.wh) : ChoseW l (ws ++ [z]) := by
  refine ⟨by have := (List.getElem?_eq_some_iff.1 hs).1; simp; omega, fun j y t hy ht => ?_⟩
  rcases Nat.lt_or_ge j ws.length with hj | hj
  · rw [List.getElem?_append_left hj] at hy; exact h.2 j y t hy ht
  · rw [List.getElem?_append_right hj] at hy
    obtain rfl : j = ws.length := by
      rcases Nat.lt_or_ge ws.length j with h3 | h3
      · rw [List.getElem?_eq_none (by simp; omega)] at hy; cases hy
      · omega
    simp at hy
    subst hy
    rw [hs] at ht
    obtain rfl := Option.some.inj ht
    exact ⟨h1, h2⟩
end Go.Pb.Bung

/- The fewest bungs, by plain maths. -/
namespace Go.Proofs.Ytnchhleokdkejaa
open Go.RowKit Go.Pb Go.Pb.Ware Go.Pb.Sag
set_option linter.unusedVariables false
set_option linter.unusedSimpArgs false

open Go.Proofs Go.Pb.Bung
/-- What is still to be accepted, behind a head and what has been seen. -/
structure RestA (n : Nat) (first : Int) (seen : List Int) (gs : List (List Int)) : Prop where
  each : ∀ (k : Nat) g, gs[k]? = some g → (∃ x, g[0]? = some x ∧ first < x) ∧ g.Pairwise (· < ·) ∧ (∀ z ∈ g, 0 ≤ z ∧ z < (n : Int)) ∧ ∀ z ∈ g, z ∉ seen
  heads : ∀ (j k : Nat) g h x y, j < k → gs[j]? = some g → gs[k]? = some h → g[0]? = some x → h[0]? = some y → x < y
  apart : ∀ (j k : Nat) g h z, j < k → gs[j]? = some g → gs[k]? = some h → z ∈ g → z ∉ h
  len : (seen ++ gs.flatten).length = n
theorem restA_nil {n : Nat} {first : Int} {seen : List Int} : RestA n first seen [] ↔ seen.length = n := by
  constructor
  · intro h; have := h.len; simpa using this
  · intro h; exact ⟨fun k g h => (by simp at h), fun j k g h x y _ h1 => (by simp at h1), fun j k g h z _ h1 => (by simp at h1), by simpa using h⟩
theorem restA_cons {n : Nat} {first x : Int} {seen g : List Int} {gs : List (List Int)} (hx : g[0]? = some x) :
    RestA n first seen (g :: gs) ↔ (g.Pairwise (· < ·) ∧ ∀ z ∈ g, -1 < z ∧ z < (n : Int)) ∧ first < x ∧ (∀ z ∈ g, z ∉ seen) ∧ RestA n x (seen ++ g) gs := by
  constructor
  · intro h
    obtain ⟨⟨x', hx', h1⟩, h2, h3, h5⟩ := h.each 0 g rfl
    rw [hx] at hx'; injection hx' with hx'; subst hx'
    refine ⟨⟨h2, fun z hz => by have := h3 z hz; omega⟩, h1, h5, fun k f hf => ?_, fun j k f f' y y' hjk hf hf' => h.heads (j + 1) (k + 1) f f' y y' (by omega) (by simpa using hf) (by simpa using hf'), fun j k f f' z hjk hf hf' => h.apart (j + 1) (k + 1) f f' z (by omega) (by simpa using hf) (by simpa using hf'), by have := h.len; simpa [List.append_assoc] using this⟩
    obtain ⟨⟨y, hy, _⟩, k2, k3, k5⟩ := h.each (k + 1) f (by simpa using hf)
    refine ⟨⟨y, hy, h.heads 0 (k + 1) g f x y (by omega) rfl (by simpa using hf) hx hy⟩, k2, k3, fun z hz hm => ?_⟩
    rcases List.mem_append.1 hm with e | e
    · exact k5 z hz e
    · exact h.apart 0 (k + 1) g f z (by omega) rfl (by simpa using hf) e hz
  · rintro ⟨⟨h1, h2⟩, h3, h4, h⟩
    refine ⟨fun k f hf => ?_, fun j k f f' y y' hjk hf hf' hy hy' => ?_, fun j k f f' z hjk hf hf' hz hz' => ?_, by have := h.len; simpa [List.append_assoc] using this⟩
    · match k, hf with
      | 0, hf =>
        simp at hf; subst hf
        exact ⟨⟨x, hx, h3⟩, h1, fun z hz => by have := h2 z hz; omega, h4⟩
      | k + 1, hf =>
        obtain ⟨⟨y, hy, k1⟩, k2, k3, k5⟩ := h.each k f (by simpa using hf)
        exact ⟨⟨y, hy, by omega⟩, k2, k3, fun z hz hm => k5 z hz (List.mem_append_left _ hm)⟩
    · match j, k, hjk, hf, hf' with
      | 0, k + 1, _, hf, hf' =>
        simp at hf; subst hf
        obtain ⟨⟨w, hw, k1⟩, _⟩ := h.each k f' (by simpa using hf')
        rw [hx] at hy; injection hy with hy
        rw [hw] at hy'; injection hy' with hy'
        omega
      | j + 1, k + 1, hjk, hf, hf' => exact h.heads j k f f' y y' (by omega) (by simpa using hf) (by simpa using hf') hy hy'
    · match j, k, hjk, hf, hf' with
      | 0, k + 1, _, hf, hf' =>
        simp at hf; subst hf
        exact (h.each k f' (by simpa using hf')).2.2.2 z hz' (List.mem_append_right _ hz)
      | j + 1, k + 1, hjk, hf, hf' => exact h.apart j k f f' z (by omega) (by simpa using hf) (by simpa using hf') hz hz'
theorem are_iff {n : Nat} : ∀ {gs : List (List Int)} {first : Int} {seen : List Int}, areB n first seen gs = true ↔ RestA n first seen gs
  | [], first, seen => by rw [areB, decide_eq_true_eq, restA_nil]
  | g :: gs, first, seen => by
    rw [areB]
    cases hx : g[0]? with
    | none =>
      constructor
      · intro h; cases h
      · intro h; obtain ⟨⟨x, hx', _⟩, _⟩ := h.each 0 g rfl; rw [hx] at hx'; cases hx'
    | some x =>
      dsimp only
      rw [restA_cons hx, Bool.and_eq_true, Bool.and_eq_true, Bool.and_eq_true, idx_iff, decide_eq_true_eq, are_iff (gs := gs), List.all_eq_true]
      simp
/-- The loop accepts just what the groups of all items are. -/
theorem are_acc {n : Nat} {gs : List (List Int)} : areB n (-1) [] gs = true ↔ Acc n gs := by
  rw [are_iff]
  have mem : ∀ {z : Int}, z ∈ gs.flatten ↔ ∃ (k : Nat) (g : List Int), gs[k]? = some g ∧ z ∈ g := by
    intro z
    constructor
    · intro h
      obtain ⟨f, hf, hb⟩ := List.mem_flatten.1 h
      obtain ⟨k, hk⟩ := List.getElem?_of_mem hf
      exact ⟨k, f, hk, hb⟩
    · rintro ⟨k, g, hg, hz⟩
      exact List.mem_flatten.2 ⟨g, List.mem_of_getElem? hg, hz⟩
  constructor
  · intro h
    have hn := flat_nodup (fun k g hg => (h.each k g hg).2.1) h.apart
    have hr : ∀ z ∈ gs.flatten, 0 ≤ z ∧ z < (n : Int) := fun z hz => by
      obtain ⟨k, g, hg, hm⟩ := mem.1 hz
      exact (h.each k g hg).2.2.1 z hm
    refine ⟨fun k g hg => ?_, fun k g hg => (h.each k g hg).2.1, fun k g hg => (h.each k g hg).2.2.1, h.heads, fun i hi => mem.1 ((nodup_len hn hr).2 (by have := h.len; simpa using this) i hi), fun j k g g' z hg hg' hz hz' => ?_⟩
    · obtain ⟨x, hx, _⟩ := (h.each k g hg).1; exact ⟨x, hx⟩
    · rcases Nat.lt_trichotomy j k with e | e | e
      · exact absurd hz' (h.apart j k g g' z e hg hg' hz)
      · exact e
      · exact absurd hz (h.apart k j g' g z e hg' hg hz')
  · intro h
    have hap : ∀ (j k : Nat) g g' z, j < k → gs[j]? = some g → gs[k]? = some g' → z ∈ g → z ∉ g' := fun j k g g' z e hg hg' hz hz' => by have := h.once j k g g' z hg hg' hz hz'; omega
    have hn := flat_nodup h.inc hap
    refine ⟨fun k g hg => ?_, h.heads, hap, ?_⟩
    · obtain ⟨x, hx⟩ := h.one k g hg
      have hx0 := (h.lo k g hg x (head_mem hx)).1
      exact ⟨⟨x, hx, by omega⟩, h.inc k g hg, h.lo k g hg, fun z _ hm => by cases hm⟩
    · rw [List.nil_append]
      exact nodup_all hn (fun z hz => by obtain ⟨k, g, hg, hm⟩ := mem.1 hz; exact h.lo k g hg z hm) (fun i hi => mem.2 (h.cover i hi))

theorem below_sub (i : Nat) (g : List Int) : (below i g).Sublist g := List.filter_sublist
theorem put_someG {does : List Int → Bool} {n : Nat} {gs : List (List Int)} (ha : Acc n gs) (hf : ∀ g ∈ gs, ∀ i, below i g ≠ [] → does (below i g) = true) : ∀ (d i : Nat) (P : List (List Int)), i + d = n → Part i gs P → putG does gs.length d i P ≠ none
  | 0, i, P, _, _ => by rw [putG]; exact fun h => by cases h
  | d + 1, i, P, hid, hp => by
    obtain ⟨k, g, hg, hi⟩ := ha.cover i (by omega)
    obtain ⟨x, hx⟩ := ha.one k g hg
    have hxi := head_le (ha.inc k g hg) hx hi
    have hgm : g ∈ gs := List.mem_of_getElem? hg
    rw [putG_succ]
    by_cases hlt : x < (i : Int)
    · obtain ⟨e, hp2⟩ := part_set ha hp hg hi hx hlt
      have hk : k < P.length := (hp.head k g x hg hx).2 hlt
      have ht : tryG does gs.length d i P k ≠ none := by
        unfold tryG
        rw [if_pos (by rw [e]; exact hf g hgm _ (by rw [← e]; simp))]
        exact put_someG ha hf d (i + 1) _ (by omega) hp2
      cases hfs : (List.range P.length).findSome? (tryG does gs.length d i P) with
      | some r => exact fun h => by cases h
      | none => exact absurd (List.findSome?_eq_none_iff.1 hfs k (List.mem_range.2 hk)) ht
    · obtain rfl : x = (i : Int) := by omega
      obtain ⟨hk, e, hp2⟩ := part_snoc ha hp hg hx
      cases hfs : (List.range P.length).findSome? (tryG does gs.length d i P) with
      | some r => exact fun h => by cases h
      | none =>
        have hkl := (List.getElem?_eq_some_iff.1 hg).1
        dsimp only
        rw [if_neg (by omega), tryG_last, if_pos (by rw [e]; exact hf g hgm _ (by rw [← e]; simp))]
        exact put_someG ha hf d (i + 1) _ (by omega) hp2
theorem put_accG {does : List Int → Bool} {n most : Nat} : ∀ (d i : Nat) (P r : List (List Int)), i + d = n → Acc i P → (∀ g ∈ P, does g = true) → P.length ≤ most → putG does most d i P = some r → (Acc n r ∧ ∀ g ∈ r, does g = true) ∧ r.length ≤ most
  | 0, i, P, r, hid, ha, hf, hm, h => by
    rw [putG] at h
    injection h with h
    subst h
    obtain rfl : i = n := by omega
    exact ⟨⟨ha, hf⟩, hm⟩
  | d + 1, i, P, r, hid, ha, hf, hm, h => by
    rw [putG_succ] at h
    cases hfs : (List.range P.length).findSome? (tryG does most d i P) with
    | some r' =>
      rw [hfs] at h
      injection h with h
      subst h
      obtain ⟨k, hk, ht⟩ := List.exists_of_findSome?_eq_some hfs
      rw [List.mem_range] at hk
      unfold tryG at ht
      have hg : P[k]? = some (P.getD k []) := by rw [List.getD_eq_getElem?_getD, List.getElem?_eq_getElem hk]; rfl
      split at ht
      · rename_i hfit
        refine put_accG d (i + 1) _ _ (by omega) (acc_set ha hg) (fun g hgm => ?_) (by rw [List.length_set]; exact hm) ht
        rcases List.mem_or_eq_of_mem_set hgm with h2 | h2
        · exact hf g h2
        · rw [h2]; exact hfit
      · cases ht
    | none =>
      rw [hfs] at h
      dsimp only at h
      split at h
      · cases h
      · rename_i hne
        rw [tryG_last] at h
        split at h
        · rename_i h1
          refine put_accG d (i + 1) _ _ (by omega) (acc_snoc ha) (fun g hgm => ?_) (by simp; omega) h
          rcases List.mem_append.1 hgm with h2 | h2
          · exact hf g h2
          · simp at h2; rw [h2]; exact h1
        · cases h
/-- What does with some things does with fewer. -/
def Down (does : List Int → Bool) (n : Nat) : Prop := ∀ g h : List Int, g.Pairwise (· < ·) → (∀ z ∈ g, 0 ≤ z ∧ z < (n : Int)) → h.Sublist g → does g = true → does h = true
theorem few_low {does : List Int → Bool} {n : Nat} {r : List (List Int)} (h : (List.range (n + 1)).findSome? (fun m => putG does m n 0 []) = some r) : ∃ a, a ≤ n ∧ putG does a n 0 [] = some r ∧ ∀ x, x < a → putG does x n 0 [] = none := by
  obtain ⟨l1, a, l2, he, hp, hno⟩ := List.findSome?_eq_some_iff.1 h
  have hla : l1.length < n + 1 := by have := congrArg List.length he; simp at this; omega
  have hal : a = l1.length := by
    have h2 : (List.range (n + 1))[l1.length]? = some a := by rw [he, List.getElem?_append_right (Nat.le_refl _)]; simp
    rw [List.getElem?_range hla] at h2
    injection h2 with h2
    exact h2.symm
  refine ⟨a, by omega, hp, fun x hx => ?_⟩
  have h2 : (List.range (n + 1))[x]? = some x := List.getElem?_range (show x < n + 1 by omega)
  rw [he, List.getElem?_append_left (show x < l1.length by omega)] at h2
  exact hno x (List.mem_of_getElem? h2)
theorem few_some {does : List Int → Bool} {n : Nat} {r : List (List Int)} (hd : Down does n) (hr : fewG does n = some r) : (Acc n r ∧ ∀ g ∈ r, does g = true) ∧ ∀ gs, Acc n gs → (∀ g ∈ gs, does g = true) → r.length ≤ gs.length := by
  unfold fewG at hr
  split at hr
  · obtain ⟨a, han, hp, hno⟩ := few_low hr
    obtain ⟨hacc, hlen⟩ := put_accG (n := n) n 0 [] r (by omega) acc_nil (fun g hg => by cases hg) (Nat.zero_le _) hp
    refine ⟨hacc, fun gs ha hf => ?_⟩
    have hs := put_someG (does := does) ha (fun g hg i _ => by
      obtain ⟨k, hk⟩ := List.getElem?_of_mem hg
      exact hd g _ (ha.inc k g hk) (ha.lo k g hk) (below_sub i g) (hf g hg)) n 0 [] (by omega) (part_nil ha)
    exact Nat.le_trans hlen (Nat.le_of_not_lt fun hlt => hs (hno _ hlt))
  · cases hr
/-! What does with some saggars does with fewer. -/
theorem sg_ids {l : List Sg} (h : IdsN l) {a b : Sg} (ha : a ∈ l) (hb : b ∈ l) (e : a.id = b.id) : a = b := by
  obtain ⟨i, hi, rfl⟩ := List.mem_iff_getElem.1 ha
  obtain ⟨j, hj, rfl⟩ := List.mem_iff_getElem.1 hb
  have h1 := ids_at h hi hj (by unfold atG; rw [List.getD_eq_getElem?_getD, List.getD_eq_getElem?_getD, List.getElem?_eq_getElem hi, List.getElem?_eq_getElem hj]; exact e)
  subst h1; rfl
def NL (a b : Sg) : Prop := Go.Pb.Bung.lowB b a = false
theorem ruledL_low (l : List Sg) : (ruledL l).Pairwise NL := by
  rw [ruledL_map, List.pairwise_map]
  exact ruleUp_sorted l l.length
theorem sg_unique {m t u : List Sg} (h : IdsN m) (ht : t.Perm m) (hu : u.Perm m) (h1 : t.Pairwise NL) (h2 : u.Pairwise NL) : t = u := by
  refine List.Perm.eq_of_pairwise (le := NL) (fun a b ha hb k1 k2 => ?_) h1 h2 (ht.trans hu.symm)
  unfold NL at k1 k2
  rw [lowB_no] at k1 k2
  exact sg_ids h (ht.mem_iff.1 ha) (hu.mem_iff.1 hb) (by omega)
theorem filter_sub : ∀ {m l : List Sg}, m.Sublist l → IdsN l → l.filter (fun s => hasL m s.id) = m
  | _, _, .slnil, _ => rfl
  | m, a :: l, .cons _ h, hi => by
    have hi2 := hi
    unfold IdsN at hi2
    rw [List.map_cons, List.pairwise_cons] at hi2
    have ha : hasL m a.id = false := by
      unfold hasL
      rw [List.any_eq_false]
      intro s hs
      rw [decide_eq_true_iff]
      intro e
      exact hi2.1 s.id (List.mem_map.2 ⟨s, h.subset hs, rfl⟩) e.symm
    rw [List.filter_cons_of_neg (by rw [ha]; simp)]
    exact filter_sub h hi2.2
  | _, a :: l, .cons_cons (l₁ := m) _ h, hi => by
    have hi2 := hi
    unfold IdsN at hi2
    rw [List.map_cons, List.pairwise_cons] at hi2
    have ha : hasL (a :: m) a.id = true := by unfold hasL; simp
    rw [List.filter_cons, if_pos ha]
    congr 1
    have e : l.filter (fun s => hasL (a :: m) s.id) = l.filter (fun s => hasL m s.id) := by
      refine List.filter_congr fun s hs => ?_
      unfold hasL
      rw [List.any_cons, decide_eq_false (fun e => hi2.1 s.id (List.mem_map.2 ⟨s, hs, rfl⟩) e), Bool.false_or]
    rw [e]
    exact filter_sub h hi2.2
theorem ruledL_sub {m l : List Sg} (h : m.Sublist l) (hi : IdsN l) : (ruledL m).Sublist (ruledL l) := by
  have hm : IdsN m := by unfold IdsN at *; exact hi.sublist (h.map _)
  have e : ruledL m = (ruledL l).filter (fun s => hasL m s.id) := by
    refine sg_unique hm (ruledL_perm m) ?_ (ruledL_low m) ((ruledL_low l).sublist List.filter_sublist)
    have h1 := (ruledL_perm l).filter (fun s => hasL m s.id)
    rw [filter_sub h hi] at h1
    exact h1
  rw [e]; exact List.filter_sublist
theorem sum_sub {f : Sg → Int} : ∀ {m l : List Sg}, m.Sublist l → (∀ s ∈ l, 0 ≤ f s) → (m.map f).sum ≤ (l.map f).sum
  | _, _, .slnil, _ => Int.le_refl _
  | m, a :: l, .cons _ h, hf => by
    have h1 := sum_sub h fun s hs => hf s (List.mem_cons_of_mem _ hs)
    have h2 := hf a (List.mem_cons_self ..)
    rw [List.map_cons, List.sum_cons]; omega
  | _, a :: l, .cons_cons _ h, hf => by
    have h1 := sum_sub h fun s hs => hf s (List.mem_cons_of_mem _ hs)
    rw [List.map_cons, List.map_cons, List.sum_cons, List.sum_cons]; omega
theorem standsP_sub : ∀ {m l : List Sg}, m.Sublist l → Wt l → StandsP l → StandsP m
  | _, _, .slnil, _, h => h
  | m, a :: l, .cons _ h, hw, hs => standsP_sub h hw.tail hs.2
  | _, a :: l, .cons_cons _ h, hw, hs => ⟨Int.le_trans (sum_sub h hw.tail) hs.1, standsP_sub h hw.tail hs.2⟩
def HiL (hi : Int) (l : List Sg) : Int := hgtH l hi l.length
theorem hiL_is (hi : Int) (l : List Sg) : HiL hi l = (l.map (·.hh)).sum + ((l.length - 1 : Nat) : Int) * hi := by unfold HiL hgtH; rw [List.take_length]
theorem hiL_sub {hi : Int} {m l : List Sg} (h : m.Sublist l) (hh : ∀ s ∈ l, 0 ≤ s.hh) (h0 : 0 ≤ hi) : HiL hi m ≤ HiL hi l := by
  rw [hiL_is, hiL_is]
  have h1 : (m.map (·.hh)).sum ≤ (l.map (·.hh)).sum := sum_sub h hh
  have h2 : ((m.length - 1 : Nat) : Int) ≤ ((l.length - 1 : Nat) : Int) := by have := h.length_le; omega
  have h3 := Int.mul_le_mul_of_nonneg_right h2 h0
  omega
theorem hiL_nonneg {hi : Int} {l : List Sg} (hh : ∀ s ∈ l, 0 ≤ s.hh) (h0 : 0 ≤ hi) : 0 ≤ HiL hi l := by
  have := hiL_sub (hi := hi) (List.nil_sublist l) hh h0
  rw [hiL_is hi []] at this
  simpa using this
def WoL (hi : Int) : List Sg → Int
  | [] => 0
  | s :: l => s.ti * HiL hi (s :: l) + WoL hi l
theorem off_wo {hi : Int} {l : List Sg} : ∀ k, k + 1 ≤ l.length → offL l hi (k + 1) + WoL hi (l.drop (k + 1)) = WoL hi (l.drop 1)
  | 0, _ => by rw [off_first]; simp [offL]
  | k + 1, hk => by
    have ih := off_wo (hi := hi) (l := l) k (by omega)
    have hs := List.getElem?_eq_getElem (show k + 1 < l.length by omega)
    rw [off_next hs (by omega), ← ih, List.drop_eq_getElem_cons (show k + 1 < l.length by omega), WoL]
    show _ + _ * HiL hi (l[k + 1] :: l.drop (k + 1 + 1)) + _ = _
    omega
theorem ln_wo (hi : Int) (l : List Sg) : lnA l hi = (WoL hi (l.drop 1) + 999) / 1000 := by
  unfold lnA
  cases l with
  | nil => rfl
  | cons s l =>
    have h := off_wo (hi := hi) (l := s :: l) l.length (by simp)
    rw [List.drop_of_length_le (by simp)] at h
    rw [WoL, Int.add_zero] at h
    rw [List.length_cons, h]
theorem wo_sub {hi : Int} (h0 : 0 ≤ hi) : ∀ {m l : List Sg}, m.Sublist l → (∀ s ∈ l, 0 ≤ s.hh) → (∀ s ∈ l, 0 ≤ s.ti) → WoL hi m ≤ WoL hi l
  | _, _, .slnil, _, _ => Int.le_refl _
  | m, a :: l, .cons _ h, hh, ht => by
    have h1 := wo_sub h0 h (fun x hx => hh x (List.mem_cons_of_mem _ hx)) (fun x hx => ht x (List.mem_cons_of_mem _ hx))
    have h2 := Int.mul_nonneg (ht a (List.mem_cons_self ..)) (hiL_nonneg (hi := hi) hh h0)
    rw [WoL]; omega
  | _, a :: l, .cons_cons (l₁ := m) _ h, hh, ht => by
    have h1 := wo_sub h0 h (fun x hx => hh x (List.mem_cons_of_mem _ hx)) (fun x hx => ht x (List.mem_cons_of_mem _ hx))
    have h2 := Int.mul_le_mul_of_nonneg_left (hiL_sub (hi := hi) (h.cons_cons a) hh h0) (ht a (List.mem_cons_self ..))
    rw [WoL, WoL]; omega
theorem off_sub {hi : Int} (h0 : 0 ≤ hi) {m l : List Sg} (h : m.Sublist l) (hh : ∀ s ∈ l, 0 ≤ s.hh) (ht : ∀ s ∈ l, 0 ≤ s.ti) : WoL hi (m.drop 1) ≤ WoL hi (l.drop 1) := by
  cases h with
  | slnil => exact Int.le_refl _
  | cons a h => exact wo_sub h0 ((List.drop_sublist 1 m).trans h) (fun x hx => hh x (List.mem_cons_of_mem _ hx)) (fun x hx => ht x (List.mem_cons_of_mem _ hx))
  | cons_cons a h => exact wo_sub h0 h (fun x hx => hh x (List.mem_cons_of_mem _ hx)) (fun x hx => ht x (List.mem_cons_of_mem _ hx))
theorem fit_one {lo hi : Int} {l : List Sg} {cr le : Int} : fitA lo hi l cr le = 1 ↔ hgtL l lo l.length ≤ cr ∧ HiL hi l ≤ cr ∧ lnA l hi ≤ le ∧ stA l = 1 := by
  unfold fitA HiL
  constructor
  · intro h
    split at h
    · cases h
    · rename_i h1
      split at h
      · rename_i h2
        exact ⟨by omega, h2⟩
      · cases h
  · rintro ⟨h1, h2, h3, h4⟩
    rw [if_neg (by omega), if_pos ⟨h2, h3, h4⟩]
theorem fit_sub {lo hi : Int} {m l : List Sg} {cr le : Int} (h : m.Sublist l) (hk : listOk l = true) (hlo : 0 ≤ lo) (hlh : lo ≤ hi) (hf : fitA lo hi l cr le = 1) : fitA lo hi m cr le = 1 := by
  have hh : ∀ s ∈ l, 0 ≤ s.hh := fun s hs => by have := sg_facts ((listOk_iff.1 hk).2.1 s hs); omega
  have ht := (fun s hs => by have := sg_facts ((listOk_iff.1 hk).2.1 s hs); omega : ∀ s ∈ l, 0 ≤ s.ti)
  rw [fit_one] at hf ⊢
  obtain ⟨h1, h2, h3, h4⟩ := hf
  have k2 := hiL_sub (hi := hi) h hh (by omega)
  have k3 : lnA m hi ≤ lnA l hi := by
    rw [ln_wo, ln_wo]
    have := off_sub (hi := hi) (by omega) h hh ht
    omega
  have k4 : stA m = 1 := by
    rw [stA_one] at *
    exact standsP_sub h (listOk_wt hk) h4
  have k1 : hgtL m lo m.length ≤ HiL hi m := by
    have hm := listOk_sub h hk
    unfold HiL hgtL hgtH
    have e : ∀ k : List Sg, (∀ s ∈ k, s.hl ≤ s.hh) → (k.map (·.hl)).sum ≤ (k.map (·.hh)).sum := by
      intro k hk
      induction k with
      | nil => simp
      | cons x k ih =>
        have i1 := ih fun s hs => hk s (List.mem_cons_of_mem _ hs)
        have i2 := hk x (List.mem_cons_self ..)
        simp only [List.map_cons, List.sum_cons]; omega
    have e1 := e (m.take m.length) (fun s hs => by have := sg_facts ((listOk_iff.1 hm).2.1 s (List.mem_of_mem_take hs)); omega)
    have e2 := Int.mul_le_mul_of_nonneg_left hlh (show (0 : Int) ≤ ((m.length - 1 : Nat) : Int) by omega)
    omega
  exact ⟨by omega, by omega, by omega, k4⟩
theorem does_down {lo hi : Int} {l : List Sg} {cr le : Int} (hk : listOk l = true) (hlo : 0 ≤ lo) (hlh : lo ≤ hi) : Down (doesB lo hi l cr le) l.length := by
  intro g h hp hz hs hd
  unfold doesB at hd ⊢
  rw [decide_eq_true_iff] at hd ⊢
  have hd2 : g.Pairwise (· ≠ ·) := hp.imp fun h => by omega
  have hgl : g.length ≤ 30 := Nat.le_trans (nodup_len hd2 hz).1 (listOk_iff.1 hk).1
  have hkg := listOk_chosen hk hz hd2 hgl
  have hsub : (chosenG l h).Sublist (chosenG l g) := by unfold chosenG; exact hs.map _
  exact fit_sub (ruledL_sub hsub (listOk_iff.1 hkg).2.2) (listOk_ruled hkg) hlo hlh hd

end Go.Proofs.Ytnchhleokdkejaa

/- Indices in an order that numbers choose. -/
namespace Go.Proofs.Ytnchhleokdkejaa
open Go.RowKit Go.Pb Go.Pb.Ware Go.Pb.Sag
set_option linter.unusedVariables false
set_option linter.unusedSimpArgs false

open Go.Proofs Go.Pb.Bung
def cellsZ (z : Int) : List Value := [.int .i64 z]
theorem flatZ (zs : List Int) : zs.flatMap cellsZ = zs.map (Value.int .i64) := by
  induction zs with
  | nil => rfl
  | cons z zs ih => rw [List.flatMap_cons, ih]; rfl
theorem numsZ_lat {w : World} {a : Addr} {cap : Nat} {zs : List Int} (h : NumsAt w (.slice (some a) zs.length cap) zs) : LAt 1 w (.slice (some a) zs.length cap) zs.length (zs.flatMap cellsZ) := by
  obtain ⟨_, _, e, h2, h3⟩ := h.shape
  injection e with _ _ e; subst e
  rw [flatZ]
  refine ⟨by rw [List.length_map, Nat.mul_one], fun u hu => (by obtain ⟨z, _, rfl⟩ := List.mem_map.1 hu; rfl), .inr ⟨a, cap, rfl, h2, h3, fun j u hu => ?_⟩⟩
  rw [List.getElem?_map] at hu
  obtain ⟨hj, hz⟩ : ∃ hj : j < zs.length, u = .int .i64 zs[j] := by
    rcases Nat.lt_or_ge j zs.length with hj | hj
    · rw [List.getElem?_eq_getElem hj] at hu; injection hu with hu; exact ⟨hj, hu.symm⟩
    · rw [List.getElem?_eq_none hj] at hu; cases hu
  obtain ⟨a', e1, e2⟩ := h.elem hj
  injection e1 with e1; subst e1; rw [hz]; exact e2
/-- A list that is read, and an own one beside it, in another block. -/
structure LO (T lo : Nat) (W : World) (lv ov : Value) (L O : List Int) : Prop where
  nums : NumsAt W lv L
  own : W.ownsRow lo T 1 ov O.length (O.map (Value.int .i64))
  apart : L ≠ [] → ∀ b, ov.ownBlock = some b → lv.ownBlock ≠ some b
theorem LO.next {T lo : Nat} {W W' : World} {lv ov : Value} {L O : List Int} (h : LO T lo W lv ov L O) (hb : Below W.heap.size W W') : LO T lo W' lv ov L O := ⟨h.nums.below hb, owns_below h.own hb, h.apart⟩
theorem block_add (a : Addr) (k : Nat) : (a.add k).block = a.block := by unfold Addr.add; split <;> rfl
theorem LO.push {T lo : Nat} {W W' : World} {lv ov ov' : Value} {L O : List Int} {z : Int} (h : LO T lo W lv ov L O) (hg : W.grownBy W' ov.ownBlock) (ho : W'.ownsRow lo T 1 ov' (O.length + 1) (O.map (Value.int .i64) ++ [.int .i64 z])) (hv : ov'.ownBlock = ov.ownBlock ∨ ov'.ownBlock = some W.heap.size) : LO T lo W' lv ov' L (O ++ [z]) := by
  refine ⟨?_, by rw [List.length_append, List.map_append]; exact ho, fun hL b hb hh => ?_⟩
  · rcases h.nums with h1 | ⟨a, cap, h1, h2, h3, h4⟩
    · exact .inl h1
    · refine .inr ⟨a, cap, h1, h2, h3, fun k z hz => ⟨hg.cell (h4 k z hz).1 ?_, (h4 k z hz).2⟩⟩
      rw [block_add]
      intro e
      have hL : L ≠ [] := by rintro rfl; simp at hz
      exact h.apart hL _ e.symm (by rw [h1]; rfl)
  · rcases hv with e | e
    · exact h.apart hL b (by rw [← e]; exact hb) hh
    · rw [e] at hb
      injection hb with hb
      rcases h.nums with ⟨_, h1⟩ | ⟨a, cap, h1, h2, h3, h4⟩
      · exact hL h1
      · rw [h1] at hh
        injection hh with hh
        obtain ⟨x, xs, rfl⟩ := List.exists_cons_of_ne_nil hL
        have h5 := World.block_lt_of_cell? W _ (h4 0 x rfl).1
        rw [block_add] at h5
        omega
theorem new_cellsZ (w : World) (z : Int) (ty n : Nat) (hn : w.heap.size = n) : ∀ j u, ([.int .i64 z] : List Value)[j]? = some u → (w.alloc (.cells #[.int .i64 z] ty)).cell? ((⟨n, 0, none⟩ : Addr).add j) = some u := by
  subst hn
  intro j u h
  match j, h with
  | 0, h => simp at h; subst h; simp [Addr.add, go_sem]
  | j + 1, h => simp at h

end Go.Proofs.Ytnchhleokdkejaa

/- Bungs with one more index, by the reference. -/
namespace Go.Proofs.Ytnchhleokdkejaa
open Go.RowKit Go.Pb Go.Pb.Ware Go.Pb.Sag
set_option linter.unusedVariables false
set_option linter.unusedSimpArgs false

open Go.Proofs Go.Pb.Bung
theorem Try.infoZL : (Try.prog.info? 41).map (fun i => (i.zero, i.size, i.bytes)) = some (some (.slice none 0 0), 1, 24) := by kernel_rfl
/-- The bungs with one more index in the k-th one. -/
def givG (gs : List (List Int)) (k i : Nat) : List (List Int) := (if k = gs.length then gs ++ [[]] else gs).set k ((if k = gs.length then gs ++ [[]] else gs).getD k [] ++ [(i : Int)])
theorem numsZ_any {w : World} {v : Value} {zs : List Int} (h : NumsAt w v zs) : LAt 1 w v zs.length (zs.map (Value.int .i64)) := by
  rcases h with ⟨rfl, rfl⟩ | ⟨a, cap, rfl, h2, h3, h4⟩
  · exact ⟨rfl, fun u hu => by simp at hu, .inl ⟨rfl, rfl⟩⟩
  · rw [← flatZ]
    exact numsZ_lat (.inr ⟨a, cap, rfl, h2, h3, h4⟩)
theorem cellZ (w : World) (x : Value) (t : TypeId) (n : Nat) (hn : w.heap.size = n) : ∀ j u, [x][j]? = some u → (w.alloc (.cells #[x] t)).cell? ((⟨n, 0, none⟩ : Addr).add j) = some u := by
  subst hn
  intro j u hu
  rw [Go.WideShapes.add_plain, Nat.zero_add]
  exact (CellsAt.new w [x] t j u hu).1
/-- One row more. -/
theorem giv_snoc {lo : Nat} {W w3 w4 : World} {v v' u : Value} {gs : List (List Int)} {g : List Int} {us : List Value} (hlo : lo ≤ W.heap.size) (ho : W.ownsRow lo 41 1 v gs.length us) (hr : Go.Pb.Sag.RowsIn lo 3 W us gs) (hA : Go.Pb.Sag.Apart us) (hb : Below W.heap.size W w3) (hu : w3.ownsRow W.heap.size 3 1 u g.length (g.map (Value.int .i64))) (hg : w3.grownBy w4 v.ownBlock) (ho4 : w4.ownsRow lo 41 1 v' (gs.length + 1) (us ++ [u])) :
    w4.ownsRow lo 41 1 v' (gs ++ [g]).length (us ++ [u]) ∧ Go.Pb.Sag.RowsIn lo 3 w4 (us ++ [u]) (gs ++ [g]) ∧ Go.Pb.Sag.Apart (us ++ [u]) := by
  have hul : us.length = gs.length := by have := ho.1; omega
  have ho3 := owns_below ho hb
  have key : ∀ (k : Nat) (x : Value) (q : List Int), (us ++ [u])[k]? = some x → (gs ++ [g])[k]? = some q → w4.ownsRow lo 3 1 x q.length (q.map (Value.int .i64)) := by
    intro k x q hx hq
    rcases Nat.lt_or_ge k gs.length with h | h
    · rw [List.getElem?_append_left (by omega)] at hx
      rw [List.getElem?_append_left h] at hq
      have h1 := owns_below (hr k x q hx hq) hb
      exact h1.kept hg (apart_types h1 ho3 (by decide))
    · rw [List.getElem?_append_right (by omega), hul] at hx
      rw [List.getElem?_append_right h] at hq
      have hk : k - gs.length = 0 := by
        have := (List.getElem?_eq_some_iff.1 hq).1
        simp at this; omega
      rw [hk] at hx hq
      simp at hx hq
      subst hx; subst hq
      exact owns_base hlo (hu.kept hg (apart_types hu ho3 (by decide)))
  refine ⟨by rw [List.length_append]; exact ho4, key, fun j k x y hjk hx hy => ?_⟩
  have low : ∀ (k : Nat) (x : Value), k < gs.length → (us ++ [u])[k]? = some x → ∀ b, x.ownBlock = some b → b < W.heap.size := by
    intro k x hk hx b hb2
    rw [List.getElem?_append_left (by omega)] at hx
    exact (World.ownsRow.lt (hr k x _ hx (List.getElem?_eq_getElem hk)) b hb2).2
  have high : ∀ (k : Nat) (x : Value), ¬ k < gs.length → (us ++ [u])[k]? = some x → (k = gs.length ∧ ∀ b, x.ownBlock = some b → W.heap.size ≤ b) := by
    intro k x hk hx
    have hk2 := (List.getElem?_eq_some_iff.1 hx).1
    simp at hk2
    have e : k = gs.length := by omega
    subst e
    rw [List.getElem?_append_right (by omega), hul, Nat.sub_self] at hx
    simp at hx
    subst hx
    exact ⟨rfl, fun b hb2 => (World.ownsRow.lt hu b hb2).1⟩
  by_cases hj : j < gs.length
  · by_cases hk : k < gs.length
    · rw [List.getElem?_append_left (by omega)] at hx hy
      exact hA j k x y hjk hx hy
    · obtain ⟨_, h2⟩ := high k y hk hy
      have h1 := low j x hj hx
      cases hxb : x.ownBlock with
      | none => exact .inl rfl
      | some b => exact .inr fun e => by have := h1 b hxb; have := h2 b e.symm; omega
  · obtain ⟨e1, h1⟩ := high j x hj hx
    by_cases hk : k < gs.length
    · have h2 := low k y hk hy
      cases hxb : x.ownBlock with
      | none => exact .inl rfl
      | some b => exact .inr fun e => by have := h1 b hxb; have := h2 b e.symm; omega
    · obtain ⟨e2, _⟩ := high k y hk hy
      omega
/-- One index more in a row, and its store. -/
theorem giv_put {lo k i : Nat} {W w2 w3 : World} {v' u : Value} {gs : List (List Int)} {g : List Int} {us : List Value} {gb cap n : Nat} (hn : gs.length = n) (ho : W.ownsRow lo 41 1 (.slice (some ⟨gb, 0, none⟩) n cap) n us) (hr : Go.Pb.Sag.RowsIn lo 3 W us gs) (hA : Go.Pb.Sag.Apart us) (hg : gs[k]? = some g) (hu : us[k]? = some u) (hb : Below W.heap.size W w2) (hg3 : w2.grownBy w3 u.ownBlock) (ho3 : w3.ownsRow lo 3 1 v' (g.length + 1) (g.map (Value.int .i64) ++ [.int .i64 (i : Int)])) :
    (w3.cell? ⟨gb, k, none⟩ = some u ∧ w3.frozen? ⟨gb, k, none⟩ = false) ∧ GroupsAt lo (.slice (some ⟨gb, 0, none⟩) n cap) (gs.set k (g ++ [(i : Int)])) (w3.setCell ⟨gb, k, none⟩ v') := by
  subst hn
  have ho2 := owns_below ho hb
  have hk := (List.getElem?_eq_some_iff.1 hg).1
  have hul : us.length = gs.length := by have := ho.1; omega
  have h3 := ho2.kept hg3 (apart_types ho2 (owns_below (hr k u g hu hg) hb) (by decide))
  have hcell := h3.cells (g := gb) rfl k u hu
  rw [Go.WideShapes.add_plain, Nat.zero_add] at hcell
  refine ⟨⟨hcell, owns_frozen h3 rfl k⟩, us.set k v', ?_, fun j x q hx hq => ?_⟩
  · rw [List.length_set]; exact Go.Pb.Sag.own_set h3
  · by_cases e : j = k
    · subst e
      rw [List.getElem?_set_self (by omega)] at hx
      rw [List.getElem?_set_self hk] at hq
      injection hx with hx; injection hq with hq
      subst hx; subst hq
      rw [List.length_append, List.map_append]
      exact set_own ho3 (apart_types ho3 h3 (by decide))
    · rw [List.getElem?_set_ne (Ne.symm e)] at hx hq
      have h1 := owns_below (hr j x q hx hq) hb
      have h2 := h1.kept hg3 (hA j k x u e hx hu)
      exact set_own h2 (apart_types h2 h3 (by decide))

set_option maxRecDepth 100000 in
set_option maxHeartbeats 1500000 in
theorem rGiven {w : World} {gv : Value} {gs : List (List Int)} {k i : Nat} (hg : ListsAt gv gs w) (hlen : gs.length ≤ 1000) (hsz : ∀ g ∈ gs, g.length ≤ 1000) (hk : k ≤ gs.length) :
    Calls Try.prog 123 #[gv, .int .i64 (k : Int), .int .i64 (i : Int)] w (fun e w' => ∃ u, e = .returned u ∧ Below w.heap.size w w' ∧ GroupsAt w.heap.size u (givG gs k i) w') := by
  obtain ⟨i1, hj, hy0, hy1, hy2⟩ := info_parts Try.infoIn
  obtain ⟨i2, hq, ha0, ha1, ha2⟩ := info_parts Try.infoZL
  have hg0 := hg
  obtain ⟨a, cap, rfl, hrow⟩ := hg
  have HRW : Hid (∀ k g, gs[k]? = some g → _) := hid hrow
  have HG : Hid (ListsAt (.slice a gs.length cap) gs w) := hid hg0
  obtain ⟨q, hql⟩ : ∃ q, gs.length = q := ⟨_, rfl⟩
  have HQ := hid hql
  have HSZ := hid hsz
  rw [hql] at hlen hk ⊢
  clear hql hsz hrow hg0
  go_enter Try.func123, Try.ntmps123
  go_wp2_with fail
  go_loopg [7, 8] q (fun gk ov iv wr => ∃ (j : Nat) (us : List Value), j ≤ q ∧ gk = q - j ∧ iv = .int .i64 j ∧ wr.ownsRow w.heap.size 41 1 ov j us ∧ Hid (Go.Pb.Sag.RowsIn w.heap.size 3 wr us (gs.take j) ∧ Go.Pb.Sag.Apart us) ∧ Below w.heap.size w wr)
  case atStart => exact ⟨0, [], Nat.zero_le _, rfl, rfl, World.ownsRow_nil _ _ _ _, hid ⟨fun k v g h => (by simp at h), fun j k u v _ h => (by simp at h)⟩, Below.refl _ _⟩
  case round =>
    obtain ⟨j, us, hjq, hgk, rfl, ho, HR, hB⟩ := hrel
    have HGK := hid hgk; clear hgk
    have hzr := hB.size
    obtain ⟨ua, uc, rfl, hul⟩ := owns_shape ho
    by_cases hlt : j < q
    · have hji : (j : Int) < (q : Int) := by omega
      have hj00 : (0 : Int) ≤ (j : Int) := by omega
      obtain ⟨g, hgj⟩ : ∃ g, gs[j]? = some g := ⟨_, List.getElem?_eq_getElem (by rw [HQ.out]; exact hlt)⟩
      obtain ⟨a', ha, u, hcu, hnu⟩ := HRW.out j g hgj
      subst ha
      have r0 : wr.cell? (a'.add j) = some u := (World.cell?_of_block (hB.block _ (World.block_lt_of_cell? w _ hcu))).trans hcu
      have hnr := hnu.below hB
      obtain ⟨ra, rc, rfl, hr1, hr2⟩ := hnr.shape
      have hlat := numsZ_any hnr
      obtain ⟨m, hm⟩ : ∃ m, g.length = m := ⟨_, rfl⟩
      have HM := hid hm
      have hmb : m ≤ 1000 := by rw [← hm]; exact HSZ.out g (List.mem_of_getElem? hgj)
      rw [hm] at hlat hr1 r0
      have HTL : Hid ((gs.take j).length = j) := hid (by rw [List.length_take, HQ.out]; omega)
      have HTK : Hid (gs.take (j + 1) = gs.take j ++ [g]) := hid (by rw [List.take_add_one, hgj]; rfl)
      clear hm hcu hnu hnr hgj
      have r1 : (wr.alloc (.cells #[] 3)).cell? (a'.add j) = some (.slice ra m rc) := bkeep ((Below.refl _ _).alloc (Nat.le_refl _) _) r0
      go_wp2_with (first | (at_builtin; (refine wpList_append_lat rfl _ _ 41 rfl wr.heap.size 3 i1 (.int .i64 0) 1 8 Try.underlying41 hj hy0 hy1 hy2 rfl (by decide) (.slice (some ⟨wr.heap.size, 0, none⟩) 0 0) 0 [] rfl (owns_empty wr 3 1) (.slice ra m rc) m (g.map (Value.int .i64)) rfl (hlat.below ((Below.refl _ _).alloc (Nat.le_refl _) _)) (by unfold maxLen; omega) (by omega) (by simp) ?_; intro v21 w4 ho4 hg4; have hb4 := Pb.below_grown ((Below.refl _ wr).alloc (Nat.le_refl _) _) hg4 (owns_empty wr 3 1) (by simp) (Nat.le_refl _); rw [Nat.zero_add, List.nil_append] at ho4; obtain ⟨xa, xc, rfl, -⟩ := owns_shape ho4; clear hg4)) | (at_builtin; (refine wpList_append_own _ rfl _ _ 76 rfl w.heap.size 41 i2 (.slice none 0 0) 1 24 Try.underlying76 hq ha0 ha1 ha2 rfl (by decide) (.slice ua j uc) j us rfl (owns_below ho (hb4.alloc hb4.size _)) ⟨w4.heap.size, 0, none⟩ 1 1 [.slice xa m xc] rfl rfl (cellZ w4 _ _ _ rfl) (fun u hu => by simp only [List.mem_cons, List.not_mem_nil, or_false] at hu; rcases hu with rfl; rfl) (by unfold maxLen; omega) (by omega) (by have := hb4.size; simp; omega) ?_; intro v23 w5 ho5 hg5 hnil; have hB5 := Pb.below_grown (bnext (w := w) hB (hb4.alloc hb4.size _)) hg5 (owns_below ho (hb4.alloc hb4.size _)) (by have := hb4.size; simp; omega) (Nat.le_refl _); have hsn := giv_snoc (gs := gs.take j) (g := g) hzr (by rw [HTL.out]; exact ho) HR.out.1 HR.out.2 (hb4.alloc hb4.size (.cells #[.slice xa m xc] 41)) (by rw [HM.out]; exact owns_below ho4 ((Below.refl _ _).alloc (Nat.le_refl _) _)) hg5 (by rw [HTL.out]; exact ho5); have HSN := hid hsn; clear hsn; obtain ⟨ya, yc, rfl, -⟩ := owns_shape ho5; clear hg5 hnil)))
      clear ho HR
      (try clear ho4)
      (try clear hb4)
      go_roundg (q - (j + 1))
      case measure => have h := HGK.out; omega
      case rel => exact ⟨j + 1, us ++ [.slice xa m xc], by omega, rfl, by go_num, ho5, by rw [HTK.out]; exact hid ⟨HSN.out.2.1, HSN.out.2.2⟩, hB5⟩
    · obtain rfl : j = q := by omega
      have htk : gs.take j = gs := List.take_of_length_le (by rw [HQ.out]; exact Nat.le_refl _)
      rw [htk] at HR
      clear htk HRW HGK
      by_cases hkq : k = j
      · subst hkq
        go_upto_region 8 with (at_builtin; go_must (refine wpList_append_own _ rfl _ _ 76 rfl w.heap.size 41 i2 (.slice none 0 0) 1 24 Try.underlying76 hq ha0 ha1 ha2 rfl (by decide) (.slice ua k uc) k us rfl (ho.alloc _) ⟨wr.heap.size, 0, none⟩ 1 1 [.slice none 0 0] rfl rfl (cellZ wr _ _ _ rfl) (fun u hu => by simp only [List.mem_cons, List.not_mem_nil, or_false] at hu; rcases hu with rfl; rfl) (by unfold maxLen; omega) (by omega) (by simp; omega) ?_; intro v23 w5 ho5 hg5 hnil; have hB5 := Pb.below_grown (hB.alloc (by omega) _) hg5 (ho.alloc _) (by simp; omega) (Nat.le_refl _); have hsn := giv_snoc (gs := gs) (g := []) (u := .slice none 0 0) hzr (by rw [HQ.out]; exact ho) HR.out.1 HR.out.2 ((Below.refl _ wr).alloc (Nat.le_refl _) (.cells #[.slice none 0 0] 41)) (World.ownsRow_nil _ _ _ _) hg5 (by rw [HQ.out]; exact ho5); obtain ⟨ya, yc, rfl, -⟩ := owns_shape ho5; clear hg5 hnil))
        have HL1 : Hid ((gs ++ [[]]).length = k + 1) := hid (by rw [List.length_append, HQ.out]; rfl)
        have HS1 : Hid (∀ g ∈ gs ++ [[]], g.length ≤ 1000) := hid (fun g hg => by rcases List.mem_append.1 hg with h | h; exact HSZ.out g h; simp at h; subst h; simp)
        have HEND : Hid (givG gs k i = (gs ++ [[]]).set k ((gs ++ [[]]).getD k [] ++ [(i : Int)])) := hid (by unfold givG; rw [if_pos HQ.out.symm])
        clear ho HR hB
        have ho := ho5; have HR := hid hsn.2; have hB := hB5; clear ho5 hsn hB5
        skip
        obtain ⟨gb, gcap, hge, -, -⟩ := own_some ho (by omega)
        injection hge with e1 _ e3
        subst e1
        subst e3
        obtain ⟨g, hgk2⟩ : ∃ g, (gs ++ [[]])[k]? = some g := ⟨_, List.getElem?_eq_getElem (by rw [HL1.out]; omega)⟩
        obtain ⟨u, hu⟩ : ∃ u, (us ++ [.slice none 0 0])[k]? = some u := ⟨_, List.getElem?_eq_getElem (by have := ho.1; omega)⟩
        have hrw := HR.out.1 k u g hu hgk2
        obtain ⟨ra, rc, rfl, -⟩ := owns_shape hrw
        obtain ⟨m, hm⟩ : ∃ m, g.length = m := ⟨_, rfl⟩
        have HM := hid hm
        have hmb : m ≤ 1000 := by rw [← hm]; exact HS1.out g (List.mem_of_getElem? hgk2)
        rw [hm] at hrw hu
        have r0 : w5.cell? ⟨gb, k, none⟩ = some (.slice ra m rc) := by have h := ho.cells (g := gb) rfl k _ hu; rw [Go.WideShapes.add_plain, Nat.zero_add] at h; exact h
        have hki : (k : Int) < ((k + 1 : Nat) : Int) := by omega
        have hk00 : (0 : Int) ≤ (k : Int) := by omega
        have hzr := hB.size
        have HGE : Hid ((gs ++ [[]]).getD k [] = g) := hid (by rw [List.getD_eq_getElem?_getD, hgk2]; rfl)
        have HG2 := hid hgk2; have HU2 := hid hu; clear hm hgk2 hu
        go_wp2_with (at_builtin; go_must (refine wpList_append_own _ rfl _ _ 41 rfl w.heap.size 3 i1 (.int .i64 0) 1 8 Try.underlying41 hj hy0 hy1 hy2 rfl (by decide) (.slice ra m rc) m _ rfl (hrw.alloc _) ⟨w5.heap.size, 0, none⟩ 1 1 [.int .i64 (i : Int)] rfl rfl (new_cellsZ w5 _ _ _ rfl) (fun u hu => by simp only [List.mem_cons, List.not_mem_nil, or_false] at hu; rcases hu with rfl; rfl) (by unfold maxLen; omega) (by omega) (by simp; omega) ?_; intro v' w6 ho6 hg6 hnil; have hB6 := Pb.below_grown (hB.alloc (by omega) _) hg6 (hrw.alloc _) (by simp; omega) (by omega); have hpt := giv_put HL1.out ho HR.out.1 HR.out.2 HG2.out HU2.out ((Below.refl _ w5).alloc (Nat.le_refl _) (.cells #[.int .i64 (i : Int)] 3)) hg6 (by rw [HM.out]; exact ho6); obtain ⟨⟨p0, p1⟩, hga⟩ := hpt; have HGA := hid hga; obtain ⟨xb, xd, rfl, -⟩ := owns_shape ho6; have hgbl : w.heap.size ≤ gb := (World.ownsRow.lt ho gb rfl).1; clear hga ho6 hg6 hnil r0))
        skip
        go_ret
        exact ⟨_, rfl, hB6.setCell (p := ⟨gb, k, none⟩) hgbl _, by have h := HGA.out; rw [HEND.out]; (try rw [HGE.out]); exact h⟩
      · have hkb : ((k : Int) == (j : Int)) = false := beq_eq_false_iff_ne.mpr (by omega)
        have hkz : ¬ (k : Int) = (j : Int) := by omega
        have HL1 : Hid (gs.length = j) := HQ
        have HS1 := HSZ
        have HEND : Hid (givG gs k i = gs.set k (gs.getD k [] ++ [(i : Int)])) := hid (by unfold givG; rw [if_neg (by rw [HQ.out]; exact hkq)])
        go_upto_region 8 with fail
        obtain ⟨gb, gcap, hge, -, -⟩ := own_some ho (by omega)
        injection hge with e1 _ e3
        subst e1
        subst e3
        obtain ⟨g, hgk2⟩ : ∃ g, gs[k]? = some g := ⟨_, List.getElem?_eq_getElem (by rw [HL1.out]; omega)⟩
        obtain ⟨u, hu⟩ : ∃ u, us[k]? = some u := ⟨_, List.getElem?_eq_getElem (by have := ho.1; omega)⟩
        have hrw := HR.out.1 k u g hu hgk2
        obtain ⟨ra, rc, rfl, -⟩ := owns_shape hrw
        obtain ⟨m, hm⟩ : ∃ m, g.length = m := ⟨_, rfl⟩
        have HM := hid hm
        have hmb : m ≤ 1000 := by rw [← hm]; exact HS1.out g (List.mem_of_getElem? hgk2)
        rw [hm] at hrw hu
        have r0 : wr.cell? ⟨gb, k, none⟩ = some (.slice ra m rc) := by have h := ho.cells (g := gb) rfl k _ hu; rw [Go.WideShapes.add_plain, Nat.zero_add] at h; exact h
        have hki : (k : Int) < (j : Int) := by omega
        have hk00 : (0 : Int) ≤ (k : Int) := by omega
        have hzr := hB.size
        have HGE : Hid (gs.getD k [] = g) := hid (by rw [List.getD_eq_getElem?_getD, hgk2]; rfl)
        have HG2 := hid hgk2; have HU2 := hid hu; clear hm hgk2 hu
        go_wp2_with (at_builtin; go_must (refine wpList_append_own _ rfl _ _ 41 rfl w.heap.size 3 i1 (.int .i64 0) 1 8 Try.underlying41 hj hy0 hy1 hy2 rfl (by decide) (.slice ra m rc) m _ rfl (hrw.alloc _) ⟨wr.heap.size, 0, none⟩ 1 1 [.int .i64 (i : Int)] rfl rfl (new_cellsZ wr _ _ _ rfl) (fun u hu => by simp only [List.mem_cons, List.not_mem_nil, or_false] at hu; rcases hu with rfl; rfl) (by unfold maxLen; omega) (by omega) (by simp; omega) ?_; intro v' w6 ho6 hg6 hnil; have hB6 := Pb.below_grown (hB.alloc (by omega) _) hg6 (hrw.alloc _) (by simp; omega) (by omega); have hpt := giv_put HL1.out ho HR.out.1 HR.out.2 HG2.out HU2.out ((Below.refl _ wr).alloc (Nat.le_refl _) (.cells #[.int .i64 (i : Int)] 3)) hg6 (by rw [HM.out]; exact ho6); obtain ⟨⟨p0, p1⟩, hga⟩ := hpt; have HGA := hid hga; obtain ⟨xb, xd, rfl, -⟩ := owns_shape ho6; have hgbl : w.heap.size ≤ gb := (World.ownsRow.lt ho gb rfl).1; clear hga ho6 hg6 hnil r0))
        skip
        go_ret
        exact ⟨_, rfl, hB6.setCell (p := ⟨gb, k, none⟩) hgbl _, by have h := HGA.out; rw [HEND.out]; (try rw [HGE.out]); exact h⟩

end Go.Proofs.Ytnchhleokdkejaa

/- Bungs that numbers choose. -/
namespace Go.Proofs.Ytnchhleokdkejaa
open Go.RowKit Go.Pb Go.Pb.Ware Go.Pb.Sag
set_option linter.unusedVariables false
set_option linter.unusedSimpArgs false

open Go.Proofs Go.Pb.Bung
theorem giv_acc {j c : Nat} {gs : List (List Int)} (ha : Go.Pb.Sag.Acc j gs) (hc : c ≤ gs.length) : Go.Pb.Sag.Acc (j + 1) (givG gs c j) := by
  unfold givG
  by_cases e : c = gs.length
  · rw [if_pos e, e]
    have h1 : (gs ++ [[]]).getD gs.length [] = ([] : List Int) := by rw [List.getD_eq_getElem?_getD, List.getElem?_append_right (Nat.le_refl _), Nat.sub_self]; rfl
    rw [h1, set_last]
    exact acc_snoc ha
  · rw [if_neg e]
    have hg : gs[c]? = some (gs.getD c []) := by rw [List.getD_eq_getElem?_getD, List.getElem?_eq_getElem (by omega)]; rfl
    exact acc_set ha hg
theorem acc_small {n : Nat} {gs : List (List Int)} (ha : Go.Pb.Sag.Acc n gs) : (∀ g ∈ gs, g.length ≤ n) ∧ ∀ g ∈ gs, ∀ z ∈ g, 0 ≤ z ∧ z < (n : Int) := by
  refine ⟨fun g hg => ?_, fun g hg => ?_⟩
  · obtain ⟨k, hk⟩ := List.getElem?_of_mem hg
    exact (nodup_len ((ha.inc k g hk).imp fun h => by omega) (ha.lo k g hk)).1
  · obtain ⟨k, hk⟩ := List.getElem?_of_mem hg
    exact ha.lo k g hk
theorem lists_nil (W : World) : ListsAt (.slice none 0 0) [] W := ⟨none, 0, rfl, fun k g h => by simp at h⟩

end Go.Proofs.Ytnchhleokdkejaa

/- The first parts that do, by the reference. -/
namespace Go.Proofs.Ytnchhleokdkejaa
open Go.RowKit Go.Pb Go.Pb.Ware Go.Pb.Sag
set_option linter.unusedVariables false
set_option linter.unusedSimpArgs false

open Go.Proofs Go.Pb.Bung
def refP (ok : List (List Int) → Bool) (most : Nat) : Nat → Nat → List (List Int) → Option (List (List Int))
  | 0, _, gs => if ok gs = true then some gs else none
  | d + 1, i, gs => (List.range (min (gs.length + 1) most)).findSome? (fun k => refP ok most d (i + 1) (givG gs k i))
theorem find_congr {α β : Type} {f g : α → Option β} : ∀ {l : List α}, (∀ a ∈ l, f a = g a) → l.findSome? f = l.findSome? g
  | [], _ => rfl
  | a :: l, h => by
    rw [List.findSome?_cons, List.findSome?_cons, h a (List.mem_cons_self ..)]
    cases g a with
    | some r => rfl
    | none => exact find_congr fun b hb => h b (List.mem_cons_of_mem _ hb)
theorem giv_new (gs : List (List Int)) (i : Nat) : givG gs gs.length i = gs ++ [[(i : Int)]] := by
  unfold givG
  rw [if_pos rfl]
  have h1 : (gs ++ [[]]).getD gs.length [] = ([] : List Int) := by rw [List.getD_eq_getElem?_getD, List.getElem?_append_right (Nat.le_refl _), Nat.sub_self]; rfl
  rw [h1, set_last]
  rfl
theorem giv_old {gs : List (List Int)} {k i : Nat} (hk : k < gs.length) : givG gs k i = gs.set k (gs.getD k [] ++ [(i : Int)]) := by unfold givG; rw [if_neg (by omega)]
theorem giv_bad {does : List Int → Bool} {n i k : Nat} {gs : List (List Int)} (hd : Down does n) (hin : i < n) (ha : Go.Pb.Sag.Acc i gs) (hk : k ≤ gs.length) {g : List Int} (hg : g ∈ gs) (hb : does g = false) : ∃ g' ∈ givG gs k i, does g' = false := by
  rcases Nat.lt_or_ge k gs.length with h | h
  · rw [giv_old h]
    obtain ⟨t, ht⟩ := List.getElem?_of_mem hg
    have htl := (List.getElem?_eq_some_iff.1 ht).1
    by_cases e : t = k
    · subst e
      have e1 : gs.getD t [] = g := by rw [List.getD_eq_getElem?_getD, ht]; rfl
      rw [e1]
      refine ⟨g ++ [(i : Int)], List.mem_of_getElem? (List.getElem?_set_self htl), ?_⟩
      cases hx : does (g ++ [(i : Int)]) with
      | false => rfl
      | true =>
        have hlo := ha.lo t g ht
        have h1 := hd (g ++ [(i : Int)]) g (List.pairwise_append.2 ⟨ha.inc t g ht, List.pairwise_singleton _ _, fun a ha' b hb' => by rw [List.mem_singleton] at hb'; subst hb'; exact (hlo a ha').2⟩) (fun z hz => by
          rcases List.mem_append.1 hz with h2 | h2
          · have := hlo z h2; omega
          · rw [List.mem_singleton] at h2; omega) (List.sublist_append_left _ _) hx
        rw [hb] at h1; cases h1
    · exact ⟨g, List.mem_of_getElem? (show (gs.set k (gs.getD k [] ++ [(i : Int)]))[t]? = some g by rw [List.getElem?_set_ne (Ne.symm e)]; exact ht), hb⟩
  · obtain rfl : k = gs.length := by omega
    rw [giv_new]
    exact ⟨g, List.mem_append_left _ hg, hb⟩
theorem ref_bad {does : List Int → Bool} {n most : Nat} (hd : Down does n) : ∀ (d i : Nat) (gs : List (List Int)), i + d = n → Go.Pb.Sag.Acc i gs → (∃ g ∈ gs, does g = false) → refP (fun gs => gs.all does) most d i gs = none
  | 0, i, gs, _, _, ⟨g, hg, hb⟩ => by
    rw [refP, if_neg]
    intro h
    have := List.all_eq_true.1 h g hg
    rw [hb] at this; cases this
  | d + 1, i, gs, hi, ha, ⟨g, hg, hb⟩ => by
    rw [refP]
    refine find_no fun k hk => ?_
    exact ref_bad hd d (i + 1) _ (by omega) (giv_acc ha (by omega)) (giv_bad hd (by omega) ha (by omega) hg hb)
theorem ref_put {does : List Int → Bool} {n most : Nat} (hd : Down does n) : ∀ (d i : Nat) (gs : List (List Int)), i + d = n → Go.Pb.Sag.Acc i gs → (∀ g ∈ gs, does g = true) → gs.length ≤ most → refP (fun gs => gs.all does) most d i gs = putG does most d i gs
  | 0, i, gs, _, _, h, _ => by
    rw [refP, if_pos (List.all_eq_true.2 h), putG]
  | d + 1, i, gs, hi, ha, h, hm => by
    have key : ∀ k, k < gs.length → refP (fun gs => gs.all does) most d (i + 1) (givG gs k i) = tryG does most d i gs k := by
      intro k hk
      have hac := giv_acc (c := k) ha (by omega)
      rw [giv_old hk] at hac ⊢
      unfold tryG
      split
      · rename_i hx
        refine ref_put hd d (i + 1) _ (by omega) hac (fun g hg => ?_) (by rw [List.length_set]; exact hm)
        rcases List.mem_or_eq_of_mem_set hg with h1 | h1
        · exact h g h1
        · rw [h1]; exact hx
      · rename_i hx
        exact ref_bad hd d (i + 1) _ (by omega) hac ⟨_, List.mem_of_getElem? (List.getElem?_set_self hk), by simpa using hx⟩
    have knew : refP (fun gs => gs.all does) most d (i + 1) (givG gs gs.length i) = if gs.length = most then refP (fun gs => gs.all does) most d (i + 1) (givG gs gs.length i) else tryG does most d i (gs ++ [[]]) gs.length := by
      split
      · rfl
      · rename_i hne
        have hac := giv_acc (c := gs.length) ha (by omega)
        rw [giv_new] at hac ⊢
        rw [tryG_last]
        split
        · rename_i hx
          refine ref_put hd d (i + 1) _ (by omega) hac (fun g hg => ?_) (by rw [List.length_append, List.length_singleton]; omega)
          rcases List.mem_append.1 hg with h1 | h1
          · exact h g h1
          · rw [List.mem_singleton] at h1; subst h1; exact hx
        · rename_i hx
          exact ref_bad hd d (i + 1) _ (by omega) hac ⟨_, List.mem_append_right _ (List.mem_singleton.2 rfl), by simpa using hx⟩
    rw [refP, putG_succ]
    by_cases e : gs.length = most
    · rw [show min (gs.length + 1) most = gs.length by omega, find_congr (fun k hk => key k (List.mem_range.1 hk)), if_pos e]
      cases (List.range gs.length).findSome? (tryG does most d i gs) <;> rfl
    · rw [show min (gs.length + 1) most = gs.length + 1 by omega, List.range_succ, List.findSome?_append, find_congr (fun k hk => key k (List.mem_range.1 hk)), if_neg e]
      rw [if_neg e] at knew
      rw [List.findSome?_singleton, knew]
      cases (List.range gs.length).findSome? (tryG does most d i gs) <;> rfl
/-- The reference's search finds what the program's finds. -/
theorem ref_few {does : List Int → Bool} {n : Nat} (hd : Down does n) : (List.range (n + 1)).findSome? (fun m => refP (fun gs => gs.all does) m n 0 []) = fewG does n := by
  have h1 : (List.range (n + 1)).findSome? (fun m => refP (fun gs => gs.all does) m n 0 []) = (List.range (n + 1)).findSome? (fun m => putG does m n 0 []) := find_congr fun m _ => ref_put hd n 0 [] (by omega) acc_nil (fun g hg => by cases hg) (Nat.zero_le _)
  rw [h1]
  unfold fewG
  split
  · rfl
  · rename_i hs
    refine find_no fun m _ => ?_
    cases hp : putG does m n 0 [] with
    | none => rfl
    | some r =>
      exfalso
      obtain ⟨⟨ha, hr⟩, _⟩ := put_accG (n := n) n 0 [] r (by omega) acc_nil (fun g hg => by cases hg) (Nat.zero_le _) hp
      refine hs (List.all_eq_true.2 fun j hj => ?_)
      obtain ⟨k, g, hg, hm⟩ := ha.cover j (List.mem_range.1 hj)
      exact hd g _ (ha.inc k g hg) (ha.lo k g hg) (List.singleton_sublist.2 hm) (hr g (List.mem_of_getElem? hg))
theorem acc_total {i : Nat} {gs : List (List Int)} (ha : Go.Pb.Sag.Acc i gs) : (gs.map List.length).sum = i := by
  have h := (are_iff.1 (are_acc.2 ha)).len
  rw [List.nil_append, List.length_flatten] at h
  exact h
theorem sum_take_le (gs : List (List Int)) (j : Nat) : ((gs.take j).map List.length).sum ≤ (gs.map List.length).sum := by
  have h : gs.map List.length = (gs.take j).map List.length ++ (gs.drop j).map List.length := by rw [← List.map_append, List.take_append_drop]
  rw [h, List.sum_append]
  omega
theorem sum_take_succ {gs : List (List Int)} {j : Nat} {g : List Int} (h : gs[j]? = some g) : ((gs.take (j + 1)).map List.length).sum = ((gs.take j).map List.length).sum + g.length := by
  rw [List.take_add_one, h, List.map_append, List.sum_append]
  simp
theorem bungs_acc {n i : Nat} {gs : List (List Int)} (hn : n ≤ 30) (hi : i ≤ n) (ha : Go.Pb.Sag.Acc i gs) : Bungs n gs := by
  intro g hg
  obtain ⟨k, hk⟩ := List.getElem?_of_mem hg
  obtain ⟨x, hx⟩ := ha.one k g hk
  have h1 := (acc_small ha).1 g hg
  exact ⟨fun z hz => by have := ha.lo k g hk z hz; omega, (ha.inc k g hk).imp fun h => by omega, by omega, fun e => by rw [e] at hx; cases hx⟩
/-- What parted answers. -/
def PartOk : Option (List (List Int)) → Bool → Value → World → Prop
  | some r, b, u, W => b = true ∧ ListsAt u r W
  | none, b, _, _ => b = false
theorem PartOk.below {r : Option (List (List Int))} {b : Bool} {u : Value} {W W' : World} (h : PartOk r b u W) (hb : Below W.heap.size W W') : PartOk r b u W' := by
  cases r with
  | none => exact h
  | some r => exact ⟨h.1, h.2.below hb⟩
def PartT (r : Option (List (List Int))) (v : Value) (W : World) : Prop := ∃ u b, v = .tuple #[u, .bool b] ∧ PartOk r b u W
theorem keeps_partT {r : Option (List (List Int))} : Keeps (PartT r) := fun _ _ _ ⟨u, b, h1, h2⟩ hb => ⟨u, b, h1, h2.below hb⟩
def LstsP (gs : List (List Int)) (v : Value) (W : World) : Prop := ListsAt v gs W
theorem keeps_lsts {gs : List (List Int)} : Keeps (LstsP gs) := fun _ _ _ h hb => ListsAt.below h hb
def PartedRes (r : Option (List (List Int))) (W : World) (e : Ending) (w' : World) : Prop := ∃ u b, e = .returned (.tuple #[u, .bool b]) ∧ Below W.heap.size W w' ∧ PartOk r b u w'

set_option maxRecDepth 100000 in
set_option maxHeartbeats 1000000 in
theorem rParted {l : List Sg} {lo hi cr le : Int} {most : Nat} (hk : listOk l = true) (h1 : 0 ≤ lo ∧ lo ≤ 200) (h2 : 0 ≤ hi ∧ hi ≤ 200) (hm9 : most ≤ 30) : ∀ (d i : Nat) (gs : List (List Int)) (gv v : Value) (w : World), i + d = l.length → Go.Pb.Sag.Acc i gs → ListsAt gv gs w → RowsAt 8 w v (l.map rowG) →
    Calls Try.prog 116 #[.agg #[.int .i64 lo, .int .i64 hi, v, .int .i64 cr, .int .i64 le], gv, .int .i64 (most : Int)] w (PartedRes (refP (fun gs => gs.all (doesB lo hi l cr le)) most d i gs) w) := by
  intro d
  induction d with
  | zero =>
    intro i gs gv v w hid2 ha hg h
    have hl30 := (listOk_iff.1 hk).1
    obtain ⟨a, cap, rfl, hll⟩ := h.shape
    simp only [List.length_map] at h hll ⊢
    obtain ⟨n, hn⟩ : ∃ n, l.length = n := ⟨_, rfl⟩
    have HN := hid hn
    rw [hn] at h hll hid2 hl30 ⊢
    clear hn
    have hgl := acc_len ha
    have htot := acc_total ha
    have HA := hid ha; have HTO := hid htot
    have hgv := hg
    obtain ⟨ga, gc, rfl, hrow⟩ := hgv
    have HRW := hid hrow
    obtain ⟨q, hq⟩ : ∃ q, gs.length = q := ⟨_, rfl⟩
    have HQ := hid hq
    rw [hq] at hgl
    have HG : Hid (ListsAt (.slice ga gs.length gc) gs w) := hid hg
    (try rw [hq])
    have hgq : ListsAt (.slice ga q gc) gs w := by rw [← hq]; exact hg
    clear hq hrow htot ha hg
    have hg := hgq; clear hgq
    obtain ⟨RS, hRS⟩ : ∃ r, refP (fun gs => gs.all (doesB lo hi l cr le)) most 0 i gs = r := ⟨_, rfl⟩
    rw [hRS]
    have HRS := hid hRS; clear hRS
    go_enter Try.func116, Try.ntmps116
    go_upto_region 1 with fail
    generalize hW : World.alloc w _ = v1
    have y0 : CellsAt v1 w.heap.size [.int .i64 lo, .int .i64 hi, .slice a n cap, .int .i64 cr, .int .i64 le] := by rw [← hW]; exact CellsAt.new w [.int .i64 lo, .int .i64 hi, .slice a n cap, .int .i64 cr, .int .i64 le] 75
    have hB : Below w.heap.size w v1 := by rw [← hW]; exact (Below.refl _ w).alloc (Nat.le_refl _) _
    clear hW
    go_wp2_with fail
    go_loopg [8, 9] q (fun gk sv kv wr => ∃ (j t : Nat), j ≤ q ∧ gk = q - j ∧ sv = .int .i64 t ∧ kv = .int .i64 j ∧ t ≤ i ∧ Hid (((gs.take j).map List.length).sum = t) ∧ CellsAt wr w.heap.size [.int .i64 lo, .int .i64 hi, .slice a n cap, .int .i64 cr, .int .i64 le] ∧ Below w.heap.size w wr)
    case atStart => exact ⟨0, 0, Nat.zero_le _, rfl, rfl, rfl, Nat.zero_le _, hid rfl, y0, hB⟩
    case round =>
      clear y0 hB
      obtain ⟨j, t, hj, hgj, rfl, rfl, hti, HT, y0, hB⟩ := hrel
      have HGJ := hid hgj; clear hgj
      by_cases hlt : j < q
      · have hji : (j : Int) < (q : Int) := by omega
        have hj00 : (0 : Int) ≤ (j : Int) := by omega
        obtain ⟨g, hgj⟩ : ∃ g, gs[j]? = some g := ⟨_, List.getElem?_eq_getElem (by rw [HQ.out]; exact hlt)⟩
        obtain ⟨a', hae, ru, hcu, hnu⟩ := HRW.out j g hgj
        subst hae
        have hnr := hnu.below hB
        obtain ⟨ra, rc, rfl, -, -⟩ := hnr.shape
        have r0 : wr.cell? (a'.add j) = some (.slice ra g.length rc) := (World.cell?_of_block (hB.block _ (World.block_lt_of_cell? w _ hcu))).trans hcu
        have hst := sum_take_succ hgj
        have hle2 := sum_take_le gs (j + 1)
        rw [HTO.out] at hle2
        rw [HT.out] at hst
        obtain ⟨m, hm⟩ : ∃ m, g.length = m := ⟨_, rfl⟩
        rw [hm] at hst r0
        rw [hst] at hle2
        have HST := hid hst
        have hwt : IntKind.i64.wrap ((t : Int) + (m : Int)) = ((t + m : Nat) : Int) := (IntWalk.i64_in _ (by omega)).trans (by omega)
        obtain ⟨T, hT⟩ : ∃ T, t + m = T := ⟨_, rfl⟩
        rw [hT] at hwt hle2
        have HTT := hid hT; clear hst hT hm hcu hnu hnr hgj
        go_wp2_with fail
        go_roundg (q - (j + 1))
        case measure => have h := HGJ.out; omega
        case rel => exact ⟨j + 1, T, by omega, rfl, rfl, by go_num, hle2, hid (HST.out.trans HTT.out), y0, hB⟩
      · obtain rfl : j = q := by omega
        have hti2 : t = i := by rw [← HT.out, List.take_of_length_le (by rw [HQ.out]; exact Nat.le_refl _)]; exact HTO.out
        subst hti2
        clear HT HRW HGJ hti
        obtain rfl : t = n := by omega
        obtain ⟨al, hal⟩ : ∃ b, gs.all (doesB lo hi l cr le) = b := ⟨_, rfl⟩
        have HAL := hid hal
        have hres : refP (fun gs => gs.all (doesB lo hi l cr le)) most 0 t gs = if al = true then some gs else none := by rw [refP]; simp only [hal]
        have HRE := hid hres
        clear hal hres
        have q0 := (y0 0 _ rfl).1
        have q1 := (y0 1 _ rfl).1
        have q2 := (y0 2 _ rfl).1
        have q3 := (y0 3 _ rfl).1
        have q4 := (y0 4 _ rfl).1
        go_wp2_with fail
        refine (rAllDo_any (h.below hB) hk h1 h2 (hg.below hB) (by rw [HQ.out]; omega) (by have h9 := bungs_acc (n := l.length) (by rw [HN.out]; exact hl30) (by rw [HN.out]; exact Nat.le_refl _) HA.out; exact h9) HAL.out).mono ?_
        rintro e w1 ⟨rfl, hb⟩
        have hg9 := (hg.below hB).below hb
        have hB9 := bnext (w := w) hB hb
        clear q0 q1 q2 q3 q4
        clear hb
        go_wp2_with fail
        go_ret2
        cases al
        · exact ⟨_, false, rfl, hB9, by have h9 := HRS.out; rw [HRE.out] at h9; subst h9; rfl⟩
        · exact ⟨_, true, rfl, hB9, by have h9 := HRS.out; rw [HRE.out] at h9; subst h9; exact ⟨rfl, hg9⟩⟩
  | succ d ih =>
    intro i gs gv v w hid2 ha hg h
    have hl30 := (listOk_iff.1 hk).1
    obtain ⟨a, cap, rfl, hll⟩ := h.shape
    simp only [List.length_map] at h hll ⊢
    obtain ⟨n, hn⟩ : ∃ n, l.length = n := ⟨_, rfl⟩
    have HN := hid hn
    rw [hn] at h hll hid2 hl30 ⊢
    clear hn
    have hgl := acc_len ha
    have htot := acc_total ha
    have HA := hid ha; have HTO := hid htot
    have hgv := hg
    obtain ⟨ga, gc, rfl, hrow⟩ := hgv
    have HRW := hid hrow
    obtain ⟨q, hq⟩ : ∃ q, gs.length = q := ⟨_, rfl⟩
    have HQ := hid hq
    rw [hq] at hgl
    have HG : Hid (ListsAt (.slice ga gs.length gc) gs w) := hid hg
    (try rw [hq])
    have hgq : ListsAt (.slice ga q gc) gs w := by rw [← hq]; exact hg
    clear hq hrow htot ha hg
    have hg := hgq; clear hgq
    obtain ⟨RS, hRS⟩ : ∃ r, refP (fun gs => gs.all (doesB lo hi l cr le)) most (d + 1) i gs = r := ⟨_, rfl⟩
    rw [hRS]
    have HRS := hid hRS; clear hRS
    go_enter Try.func116, Try.ntmps116
    go_upto_region 1 with fail
    generalize hW : World.alloc w _ = v1
    have y0 : CellsAt v1 w.heap.size [.int .i64 lo, .int .i64 hi, .slice a n cap, .int .i64 cr, .int .i64 le] := by rw [← hW]; exact CellsAt.new w [.int .i64 lo, .int .i64 hi, .slice a n cap, .int .i64 cr, .int .i64 le] 75
    have hB : Below w.heap.size w v1 := by rw [← hW]; exact (Below.refl _ w).alloc (Nat.le_refl _) _
    clear hW
    go_wp2_with fail
    go_loopg [8, 9] q (fun gk sv kv wr => ∃ (j t : Nat), j ≤ q ∧ gk = q - j ∧ sv = .int .i64 t ∧ kv = .int .i64 j ∧ t ≤ i ∧ Hid (((gs.take j).map List.length).sum = t) ∧ CellsAt wr w.heap.size [.int .i64 lo, .int .i64 hi, .slice a n cap, .int .i64 cr, .int .i64 le] ∧ Below w.heap.size w wr)
    case atStart => exact ⟨0, 0, Nat.zero_le _, rfl, rfl, rfl, Nat.zero_le _, hid rfl, y0, hB⟩
    case round =>
      clear y0 hB
      obtain ⟨j, t, hj, hgj, rfl, rfl, hti, HT, y0, hB⟩ := hrel
      have HGJ := hid hgj; clear hgj
      by_cases hlt : j < q
      · have hji : (j : Int) < (q : Int) := by omega
        have hj00 : (0 : Int) ≤ (j : Int) := by omega
        obtain ⟨g, hgj⟩ : ∃ g, gs[j]? = some g := ⟨_, List.getElem?_eq_getElem (by rw [HQ.out]; exact hlt)⟩
        obtain ⟨a', hae, ru, hcu, hnu⟩ := HRW.out j g hgj
        subst hae
        have hnr := hnu.below hB
        obtain ⟨ra, rc, rfl, -, -⟩ := hnr.shape
        have r0 : wr.cell? (a'.add j) = some (.slice ra g.length rc) := (World.cell?_of_block (hB.block _ (World.block_lt_of_cell? w _ hcu))).trans hcu
        have hst := sum_take_succ hgj
        have hle2 := sum_take_le gs (j + 1)
        rw [HTO.out] at hle2
        rw [HT.out] at hst
        obtain ⟨m, hm⟩ : ∃ m, g.length = m := ⟨_, rfl⟩
        rw [hm] at hst r0
        rw [hst] at hle2
        have HST := hid hst
        have hwt : IntKind.i64.wrap ((t : Int) + (m : Int)) = ((t + m : Nat) : Int) := (IntWalk.i64_in _ (by omega)).trans (by omega)
        obtain ⟨T, hT⟩ : ∃ T, t + m = T := ⟨_, rfl⟩
        rw [hT] at hwt hle2
        have HTT := hid hT; clear hst hT hm hcu hnu hnr hgj
        go_wp2_with fail
        go_roundg (q - (j + 1))
        case measure => have h := HGJ.out; omega
        case rel => exact ⟨j + 1, T, by omega, rfl, rfl, by go_num, hle2, hid (HST.out.trans HTT.out), y0, hB⟩
      · obtain rfl : j = q := by omega
        have hti2 : t = i := by rw [← HT.out, List.take_of_length_le (by rw [HQ.out]; exact Nat.le_refl _)]; exact HTO.out
        subst hti2
        clear HT HRW HGJ hti
        have htn : ¬ t = n := by omega
        have htni : ¬ (t : Int) = (n : Int) := by omega
        have htnb : ((t : Int) == (n : Int)) = false := beq_eq_false_iff_ne.mpr htni
        obtain ⟨M, hM⟩ : ∃ M, min (gs.length + 1) most = M := ⟨_, rfl⟩
        have hMq : M ≤ j + 1 ∧ M ≤ most := by have := HQ.out; omega
        have HMM : Hid (min (gs.length + 1) most = M) := hid hM
        have hMx : M = j + 1 ∨ M = most := by have := HQ.out; omega
        have hres : refP (fun gs => gs.all (doesB lo hi l cr le)) most (d + 1) t gs = (List.range M).findSome? (fun k => refP (fun gs => gs.all (doesB lo hi l cr le)) most d (t + 1) (givG gs k t)) := by rw [refP, hM]
        have HRE := hid hres
        clear hM hres
        have q0 := (y0 0 _ rfl).1
        have q1 := (y0 1 _ rfl).1
        have q2 := (y0 2 _ rfl).1
        have q3 := (y0 3 _ rfl).1
        have q4 := (y0 4 _ rfl).1
        go_wp2_with fail
        clear q0 q1 q2 q3 q4
        go_loopg [10] M (fun gk kv wr => ∃ k : Nat, k ≤ M ∧ gk = M - k ∧ kv = .int .i64 k ∧ Hid (∀ k', k' < k → refP (fun gs => gs.all (doesB lo hi l cr le)) most d (t + 1) (givG gs k' t) = none) ∧ CellsAt wr w.heap.size [.int .i64 lo, .int .i64 hi, .slice a n cap, .int .i64 cr, .int .i64 le] ∧ Below w.heap.size w wr)
        case atStart => exact ⟨0, Nat.zero_le _, rfl, rfl, hid (fun k h => by omega), y0, hB⟩
        case round =>
          clear y0 hB
          obtain ⟨k, hkM, hgk, rfl, HK, y0, hB⟩ := hrel
          have HGK := hid hgk; clear hgk
          by_cases hlt2 : k < M
          · have hkj : (k : Int) ≤ (j : Int) := by omega
            have hkm : (k : Int) < (most : Int) := by omega
            have hac := giv_acc HA.out (c := k) (by rw [HQ.out]; omega)
            have HAC := hid hac
            have hsm := acc_small HA.out
            have hsm2 := acc_small hac
            have HSM := hid hsm; have HSM2 := hid hsm2; clear hac hsm hsm2
            obtain ⟨r, hr⟩ : ∃ r, refP (fun gs => gs.all (doesB lo hi l cr le)) most d (t + 1) (givG gs k t) = r := ⟨_, rfl⟩
            have HR := hid hr; clear hr
            have q0 := (y0 0 _ rfl).1
            have q1 := (y0 1 _ rfl).1
            have q2 := (y0 2 _ rfl).1
            have q3 := (y0 3 _ rfl).1
            have q4 := (y0 4 _ rfl).1
            have hgr := hg.below hB; have hhr := h.below hB
            go_upto_region 11 with fail
            refine wp_region_Rs [(4, LstsP (givG gs k t)), (6, PartT r)] [0, 1, 2, 3, 4, 5, 6, 7, 8, 9, 10, 11] 0 (by kernel_rfl) rfl (by simp only [List.forall_mem_cons]; exact ⟨keeps_lsts, keeps_partT, fun _ h => by cases h⟩) (by kernel_rfl) ?_
            simp only [numbered, List.filterMap_cons, List.filterMap_nil, List.getElem?_toArray, List.getElem?_cons_succ, List.getElem?_cons_zero, Option.map_some]
            show wpS _ _ _ _ _ _ _ [(_, _), (_, _), (_, _), (_, _), (_, _), (_, _), (_, _), (_, _), (_, _), (_, _), (_, _), (_, _)] _ _
            (refine wpS_quiet rfl rfl ?_; intro K hK inst hx; have s0 := fun x => (fun _ => bkeep (BQ.below x) q0) (hx x); have s1 := fun x => (fun _ => bkeep (BQ.below x) q1) (hx x); have s2 := fun x => (fun _ => bkeep (BQ.below x) q2) (hx x); have s3 := fun x => (fun _ => bkeep (BQ.below x) q3) (hx x); have s4 := fun x => (fun _ => bkeep (BQ.below x) q4) (hx x); go_big_quiet_op; (first | go_big_quiet_on | (refine ⟨_, fun _ => rfl, ?_⟩; go_big_quiet_on)); clear hx inst)
            (refine wpS_quiet rfl rfl ?_; intro K hK inst hx; have s0 := fun x => (fun _ => bkeep (BQ.below x) q0) (hx x); have s1 := fun x => (fun _ => bkeep (BQ.below x) q1) (hx x); have s2 := fun x => (fun _ => bkeep (BQ.below x) q2) (hx x); have s3 := fun x => (fun _ => bkeep (BQ.below x) q3) (hx x); have s4 := fun x => (fun _ => bkeep (BQ.below x) q4) (hx x); go_big_quiet_op; (first | go_big_quiet_on | (refine ⟨_, fun _ => rfl, ?_⟩; go_big_quiet_on)); clear hx inst)
            (refine wpS_quiet rfl rfl ?_; intro K hK inst hx; have s0 := fun x => (fun _ => bkeep (BQ.below x) q0) (hx x); have s1 := fun x => (fun _ => bkeep (BQ.below x) q1) (hx x); have s2 := fun x => (fun _ => bkeep (BQ.below x) q2) (hx x); have s3 := fun x => (fun _ => bkeep (BQ.below x) q3) (hx x); have s4 := fun x => (fun _ => bkeep (BQ.below x) q4) (hx x); go_big_quiet_op; (first | go_big_quiet_on | (refine ⟨_, fun _ => rfl, ?_⟩; go_big_quiet_on)); clear hx inst)
            (refine wpS_quiet rfl rfl ?_; intro K hK inst hx; have s0 := fun x => (fun _ => bkeep (BQ.below x) q0) (hx x); have s1 := fun x => (fun _ => bkeep (BQ.below x) q1) (hx x); have s2 := fun x => (fun _ => bkeep (BQ.below x) q2) (hx x); have s3 := fun x => (fun _ => bkeep (BQ.below x) q3) (hx x); have s4 := fun x => (fun _ => bkeep (BQ.below x) q4) (hx x); go_big_quiet_op; (first | go_big_quiet_on | (refine ⟨_, fun _ => rfl, ?_⟩; go_big_quiet_on)); clear hx inst)
            refine wpS_fresh rfl rfl (fun w' hb hF => ?_) ?_
            · change freshAt _ _ _ (LstsP (givG gs k t)) _; unfold freshAt; go_simp; exact (rGiven (hgr.below hb) (by rw [HQ.out]; omega) (fun g hgm => by have := HSM.out.1 g hgm; omega) (by rw [HQ.out]; omega)).mono fun e W2 ⟨u, he, hb2, hga⟩ => ⟨u, he, hb2, groupsAt_lists hga (fun g hgm z hz => by have := HSM2.out.2 g hgm z hz; exact I64.mk (by omega) (by omega))⟩
            intro v W hv; simp only [pOf, List.lookup_cons, Nat.reduceBEq, beq_self_eq_true] at hv; have hv4 := hv; clear hv
            simp only [Act.put, List.setIfInBounds_toArray, List.set_cons_succ, List.set_cons_zero]
            (refine wpS_quiet rfl rfl ?_; intro K hK inst hx; have s0 := fun x => (fun _ => bkeep (BQ.below x) q0) (hx x); have s1 := fun x => (fun _ => bkeep (BQ.below x) q1) (hx x); have s2 := fun x => (fun _ => bkeep (BQ.below x) q2) (hx x); have s3 := fun x => (fun _ => bkeep (BQ.below x) q3) (hx x); have s4 := fun x => (fun _ => bkeep (BQ.below x) q4) (hx x); go_big_quiet_op; (first | go_big_quiet_on | (refine ⟨_, fun _ => rfl, ?_⟩; go_big_quiet_on)); clear hx inst)
            refine wpS_fresh rfl rfl (fun w' hb hF => ?_) ?_
            · change freshAt _ _ _ (PartT r) _; have h4 : LstsP (givG gs k t) _ w' := hF 4 _ rfl (by kernel_rfl); unfold freshAt; go_simp; exact ((ih (t + 1) (givG gs k t) _ _ w' (by rw [HN.out]; omega) HAC.out h4 (hhr.below hb)).mono fun e W2 ⟨u, b, he, hb2, hpo⟩ => ⟨_, he, hb2, u, b, rfl, by rw [HR.out] at hpo; exact hpo⟩)
            intro v W hv; simp only [pOf, List.lookup_cons, Nat.reduceBEq, beq_self_eq_true] at hv; obtain ⟨u6, b6, rfl, hpo6⟩ := hv; clear hpo6
            simp only [Act.put, List.setIfInBounds_toArray, List.set_cons_succ, List.set_cons_zero]
            (refine wpS_quiet rfl rfl ?_; intro K hK inst hx; have s0 := fun x => (fun _ => bkeep (BQ.below x) q0) (hx x); have s1 := fun x => (fun _ => bkeep (BQ.below x) q1) (hx x); have s2 := fun x => (fun _ => bkeep (BQ.below x) q2) (hx x); have s3 := fun x => (fun _ => bkeep (BQ.below x) q3) (hx x); have s4 := fun x => (fun _ => bkeep (BQ.below x) q4) (hx x); go_big_quiet_op; (first | go_big_quiet_on | (refine ⟨_, fun _ => rfl, ?_⟩; go_big_quiet_on)); clear hx inst)
            (refine wpS_quiet rfl rfl ?_; intro K hK inst hx; have s0 := fun x => (fun _ => bkeep (BQ.below x) q0) (hx x); have s1 := fun x => (fun _ => bkeep (BQ.below x) q1) (hx x); have s2 := fun x => (fun _ => bkeep (BQ.below x) q2) (hx x); have s3 := fun x => (fun _ => bkeep (BQ.below x) q3) (hx x); have s4 := fun x => (fun _ => bkeep (BQ.below x) q4) (hx x); go_big_quiet_op; (first | go_big_quiet_on | (refine ⟨_, fun _ => rfl, ?_⟩; go_big_quiet_on)); clear hx inst)
            (refine wpS_quiet rfl rfl ?_; intro K hK inst hx; have s0 := fun x => (fun _ => bkeep (BQ.below x) q0) (hx x); have s1 := fun x => (fun _ => bkeep (BQ.below x) q1) (hx x); have s2 := fun x => (fun _ => bkeep (BQ.below x) q2) (hx x); have s3 := fun x => (fun _ => bkeep (BQ.below x) q3) (hx x); have s4 := fun x => (fun _ => bkeep (BQ.below x) q4) (hx x); go_big_quiet_op; (first | go_big_quiet_on | (refine ⟨_, fun _ => rfl, ?_⟩; go_big_quiet_on)); clear hx inst)
            (refine wpS_quiet rfl rfl ?_; intro K hK inst hx; have s0 := fun x => (fun _ => bkeep (BQ.below x) q0) (hx x); have s1 := fun x => (fun _ => bkeep (BQ.below x) q1) (hx x); have s2 := fun x => (fun _ => bkeep (BQ.below x) q2) (hx x); have s3 := fun x => (fun _ => bkeep (BQ.below x) q3) (hx x); have s4 := fun x => (fun _ => bkeep (BQ.below x) q4) (hx x); go_big_quiet_op; (first | go_big_quiet_on | (refine ⟨_, fun _ => rfl, ?_⟩; go_big_quiet_on)); clear hx inst)
            (refine wpS_quiet rfl rfl ?_; intro K hK inst hx; have s0 := fun x => (fun _ => bkeep (BQ.below x) q0) (hx x); have s1 := fun x => (fun _ => bkeep (BQ.below x) q1) (hx x); have s2 := fun x => (fun _ => bkeep (BQ.below x) q2) (hx x); have s3 := fun x => (fun _ => bkeep (BQ.below x) q3) (hx x); have s4 := fun x => (fun _ => bkeep (BQ.below x) q4) (hx x); go_big_quiet_op; (first | go_big_quiet_on | (refine ⟨_, fun _ => rfl, ?_⟩; go_big_quiet_on)); clear hx inst)
            refine wpS_nil ?_
            intro w3 hall
            have hb := hall.1
            have h6 : PartT r _ w3 := hall.2 6 _ rfl
            obtain ⟨u7, b7, he7, hpo⟩ := h6
            injection he7 with he7
            obtain ⟨rfl, rfl⟩ : u6 = u7 ∧ b6 = b7 := by simpa using he7
            clear hall he7 q0 q1 q2 q3 q4
            refine wpAny_done (by kernel_rfl) ?_ _
            replace y0 := y0.below hb
            have hB3 := bnext (w := w) hB hb
            clear hb hgr hhr hB
            have hB := hB3; clear hB3
            cases r with
            | none =>
              obtain rfl : b6 = false := hpo
              go_wp2_with fail
              go_roundg (M - (k + 1))
              case measure => have h := HGK.out; omega
              case rel => exact ⟨k + 1, by omega, rfl, by go_num, hid (fun k' hk' => by rcases Nat.lt_or_ge k' k with h3 | h3; exact HK.out k' h3; (have e : k' = k := by omega); subst e; exact HR.out), y0, hB⟩
            | some r =>
              obtain ⟨rfl, hlr⟩ := hpo
              have hfin : (List.range M).findSome? (fun k => refP (fun gs => gs.all (doesB lo hi l cr le)) most d (t + 1) (givG gs k t)) = some r := find_here (f := fun k => refP (fun gs => gs.all (doesB lo hi l cr le)) most d (t + 1) (givG gs k t)) hlt2 HK.out HR.out
              have HFI := hid hfin; clear hfin
              go_wp2_with fail
              go_ret2
              exact ⟨_, true, rfl, hB, by have h9 := HRS.out; rw [HRE.out, HFI.out] at h9; subst h9; exact ⟨rfl, hlr⟩⟩
          · obtain rfl : k = M := by omega
            have hfin : (List.range k).findSome? (fun k => refP (fun gs => gs.all (doesB lo hi l cr le)) most d (t + 1) (givG gs k t)) = none := find_no (f := fun k => refP (fun gs => gs.all (doesB lo hi l cr le)) most d (t + 1) (givG gs k t)) HK.out
            have HFI := hid hfin; clear hfin
            by_cases hkj : k ≤ j
            · have hkj2 : (k : Int) ≤ (j : Int) := by omega
              have hkm : ¬ (k : Int) < (most : Int) := by omega
              go_wp2_with fail
              go_ret2
              exact ⟨_, false, rfl, hB, by have h9 := HRS.out; rw [HRE.out, HFI.out] at h9; subst h9; rfl⟩
            · have hkj2 : ¬ (k : Int) ≤ (j : Int) := by omega
              go_wp2_with fail
              go_ret2
              exact ⟨_, false, rfl, hB, by have h9 := HRS.out; rw [HRE.out, HFI.out] at h9; subst h9; rfl⟩
end Go.Proofs.Ytnchhleokdkejaa

/- The fewest bungs, by the reference. -/
namespace Go.Proofs.Ytnchhleokdkejaa
open Go.RowKit Go.Pb Go.Pb.Ware Go.Pb.Sag
set_option linter.unusedVariables false
set_option linter.unusedSimpArgs false

open Go.Proofs Go.Pb.Bung
theorem yard_wad {lo hi cr le : Int} {l : List Sg} (h : ckYd lo hi l cr le = 0) : lo ≤ hi := by
  unfold ckYd at h
  by_cases h1 : ckWd lo hi = 0
  · unfold ckWd at h1
    split at h1
    · rename_i h2
      unfold wadOk at h2
      rw [rgOk_iff] at h2
      exact h2.2.1
    · cases h1
  · rw [if_pos (by simpa using h1)] at h
    exact absurd h h1
/-- What Fewest of the reference returns. -/
def FewLs (r : List (List Int) × Int) (W : World) (e : Ending) (w' : World) : Prop := ∃ v, e = .returned (.tuple #[v, .int .i64 r.2]) ∧ Below W.heap.size W w' ∧ ListsAt v r.1 w'
theorem fewA_small {lo hi cr le : Int} {l : List Sg} {r : List (List Int) × Int} (hr : fewA lo hi l cr le = r) : r.1.length ≤ 1000 ∧ (∀ g ∈ r.1, g.length ≤ 1000) ∧ ∀ g ∈ r.1, ∀ z ∈ g, I64 z := by
  subst hr
  unfold fewA
  split
  · simp
  · rename_i h0
    have h0' : ckYd lo hi l cr le = 0 := by omega
    split
    · simp
    · rename_i h9
      cases hf : fewG (doesB lo hi l cr le) l.length with
      | none => simp
      | some gs =>
        obtain ⟨g1, g2, g3⟩ := yard_ok h0'
        obtain ⟨⟨ha, _⟩, _⟩ := few_some (does_down g3 g1.1 (yard_wad h0')) hf
        have h1 := acc_len ha
        have h2 := acc_small ha
        dsimp only
        exact ⟨by omega, fun g hg => by have := h2.1 g hg; omega, fun g hg z hz => by have := h2.2 g hg z hz; exact I64.mk (by omega) (by omega)⟩

set_option maxRecDepth 100000 in
set_option maxHeartbeats 1000000 in
theorem rFewest_any {w : World} {v : Value} {l : List Sg} {lo hi cr le : Int} {r : List (List Int) × Int} (h : RowsAt 8 w v (l.map rowG)) (hr : fewA lo hi l cr le = r) :
    Calls Try.prog 60 #[.agg #[.int .i64 lo, .int .i64 hi, v, .int .i64 cr, .int .i64 le]] w (FewLs r w) := by
  obtain ⟨a, cap, rfl, hll⟩ := h.shape
  rw [List.length_map] at h hll ⊢
  obtain ⟨c, hc⟩ : ∃ c, ckYd lo hi l cr le = c := ⟨_, rfl⟩
  obtain ⟨n, hn⟩ : ∃ n, l.length = n := ⟨_, rfl⟩
  have hr2 : r = if c ≠ 0 then ([], c) else if n > 9 then ([], 36) else match fewG (doesB lo hi l cr le) n with | some gs => (gs, 0) | none => ([], 3) := by rw [← hr]; unfold fewA; rw [hc, hn]; (try rfl)
  clear hr
  have HN : Hid (l.length = n) := hid hn
  have HC := hid hc
  rw [hn] at h hll ⊢
  clear hn
  by_cases h1 : c = 0
  · rw [if_neg (by simpa using h1)] at hr2
    obtain ⟨g1, g2, g3⟩ := yard_ok (hc.trans h1)
    have hwl := yard_wad (hc.trans h1)
    subst h1
    clear hc
    by_cases h9 : n > 9
    · rw [if_pos h9] at hr2
      subst hr2
      go_enter Try.func60, Try.ntmps60
      go_upto_region 1 with fail
      generalize hW : World.alloc w _ = v1
      have y0 : CellsAt v1 w.heap.size [.int .i64 lo, .int .i64 hi, .slice a n cap, .int .i64 cr, .int .i64 le] := by rw [← hW]; exact CellsAt.new w [.int .i64 lo, .int .i64 hi, .slice a n cap, .int .i64 cr, .int .i64 le] 75
      have hB : Below w.heap.size w v1 := by rw [← hW]; exact (Below.refl _ w).alloc (Nat.le_refl _) _
      clear hW
      have q0 := (y0 0 _ rfl).1
      have q1 := (y0 1 _ rfl).1
      have q2 := (y0 2 _ rfl).1
      have q3 := (y0 3 _ rfl).1
      have q4 := (y0 4 _ rfl).1
      go_wp2_with fail
      refine (rChk_any (h.below hB) HC.out).mono ?_
      rintro e w1 ⟨rfl, hb⟩
      clear q0 q1 q2 q3 q4
      replace y0 := y0.below hb
      have hB1 := bnext (w := w) hB hb
      clear hb hB
      have q0 := (y0 0 _ rfl).1
      have q1 := (y0 1 _ rfl).1
      have q2 := (y0 2 _ rfl).1
      have q3 := (y0 3 _ rfl).1
      have q4 := (y0 4 _ rfl).1
      have h9i : (9 : Int) < (n : Int) := by omega
      go_wp2_with fail
      go_ret2
      exact ⟨_, rfl, hB1, lists_nil _⟩
    · rw [if_neg h9] at hr2
      have hrf := ref_few (does_down (cr := cr) (le := le) g3 g1.1 hwl)
      rw [HN.out] at hrf
      have HRF := hid hrf; have HR2 := hid hr2; clear hrf hr2
      go_enter Try.func60, Try.ntmps60
      go_upto_region 1 with fail
      generalize hW : World.alloc w _ = v1
      have y0 : CellsAt v1 w.heap.size [.int .i64 lo, .int .i64 hi, .slice a n cap, .int .i64 cr, .int .i64 le] := by rw [← hW]; exact CellsAt.new w [.int .i64 lo, .int .i64 hi, .slice a n cap, .int .i64 cr, .int .i64 le] 75
      have hB : Below w.heap.size w v1 := by rw [← hW]; exact (Below.refl _ w).alloc (Nat.le_refl _) _
      clear hW
      have q0 := (y0 0 _ rfl).1
      have q1 := (y0 1 _ rfl).1
      have q2 := (y0 2 _ rfl).1
      have q3 := (y0 3 _ rfl).1
      have q4 := (y0 4 _ rfl).1
      go_wp2_with fail
      refine (rChk_any (h.below hB) HC.out).mono ?_
      rintro e w1 ⟨rfl, hb⟩
      clear q0 q1 q2 q3 q4
      replace y0 := y0.below hb
      have hB1 := bnext (w := w) hB hb
      clear hb hB
      have q0 := (y0 0 _ rfl).1
      have q1 := (y0 1 _ rfl).1
      have q2 := (y0 2 _ rfl).1
      have q3 := (y0 3 _ rfl).1
      have q4 := (y0 4 _ rfl).1
      have h9i : ¬ (9 : Int) < (n : Int) := by omega
      go_wp2_with fail
      clear q0 q1 q2 q3 q4
      go_loopg [5] (n + 1) (fun gk mv wr => ∃ m : Nat, m ≤ n + 1 ∧ gk = n + 1 - m ∧ mv = .int .i64 m ∧ Hid (∀ m', m' < m → refP (fun gs => gs.all (doesB lo hi l cr le)) m' n 0 [] = none) ∧ CellsAt wr w.heap.size [.int .i64 lo, .int .i64 hi, .slice a n cap, .int .i64 cr, .int .i64 le] ∧ Below w.heap.size w wr)
      case atStart => exact ⟨0, Nat.zero_le _, rfl, rfl, hid (fun m h => by omega), y0, hB1⟩
      case round =>
        clear y0 hB1
        obtain ⟨m, hm, hgk, rfl, HM, y0, hB⟩ := hrel
        have HGK := hid hgk; clear hgk
        by_cases hlt : m ≤ n
        · have hmi : (m : Int) ≤ (n : Int) := by omega
          obtain ⟨r0, hr0⟩ : ∃ r, refP (fun gs => gs.all (doesB lo hi l cr le)) m n 0 [] = r := ⟨_, rfl⟩
          have HR0 := hid hr0; clear hr0
          have q0 := (y0 0 _ rfl).1
          have q1 := (y0 1 _ rfl).1
          have q2 := (y0 2 _ rfl).1
          have q3 := (y0 3 _ rfl).1
          have q4 := (y0 4 _ rfl).1
          go_wp2_with fail
          refine (rParted (most := m) g3 g1 g2 (by omega) n 0 [] _ _ _ (by rw [HN.out]; omega) acc_nil (lists_nil _) (h.below hB)).mono ?_
          rintro e w1 ⟨u, b, rfl, hb, hpo⟩
          rw [HR0.out] at hpo
          clear q0 q1 q2 q3 q4
          replace y0 := y0.below hb
          have hB9 := bnext (w := w) hB hb
          clear hb hB
          cases r0 with
          | none =>
            obtain rfl : b = false := hpo
            go_wp2_with fail
            go_roundg (n + 1 - (m + 1))
            case measure => have h := HGK.out; omega
            case rel => exact ⟨m + 1, by omega, rfl, by go_num, hid (fun k' hk' => by rcases Nat.lt_or_ge k' m with h3 | h3; exact HM.out k' h3; (have e : k' = m := by omega); subst e; exact HR0.out), y0, hB9⟩
          | some r0 =>
            obtain ⟨rfl, hlr⟩ := hpo
            have hfin : (List.range (n + 1)).findSome? (fun m => refP (fun gs => gs.all (doesB lo hi l cr le)) m n 0 []) = some r0 := find_here (f := fun m => refP (fun gs => gs.all (doesB lo hi l cr le)) m n 0 []) (show m < n + 1 by omega) HM.out HR0.out
            have hrr : r = (r0, 0) := by rw [HR2.out, ← HRF.out, hfin]
            subst hrr
            clear hfin
            go_wp2_with fail
            go_ret2
            exact ⟨_, rfl, hB9, hlr⟩
        · have hmn : m = n + 1 := by omega
          have hmi : ¬ (m : Int) ≤ (n : Int) := by omega
          have hfin : (List.range (n + 1)).findSome? (fun m => refP (fun gs => gs.all (doesB lo hi l cr le)) m n 0 []) = none := by rw [← hmn]; exact find_no (f := fun m => refP (fun gs => gs.all (doesB lo hi l cr le)) m n 0 []) HM.out
          have hrr : r = ([], 3) := by rw [HR2.out, ← HRF.out, hfin]
          subst hrr
          clear hfin hmn hm
          have q0 := (y0 0 _ rfl).1
          have q1 := (y0 1 _ rfl).1
          have q2 := (y0 2 _ rfl).1
          have q3 := (y0 3 _ rfl).1
          have q4 := (y0 4 _ rfl).1
          go_wp2_with fail
          go_ret2
          exact ⟨_, rfl, hB, lists_nil _⟩
  · rw [if_pos h1] at hr2
    subst hr2
    have h1b : (c == 0) = false := beq_eq_false_iff_ne.mpr h1
    go_enter Try.func60, Try.ntmps60
    go_upto_region 1 with fail
    generalize hW : World.alloc w _ = v1
    have y0 : CellsAt v1 w.heap.size [.int .i64 lo, .int .i64 hi, .slice a n cap, .int .i64 cr, .int .i64 le] := by rw [← hW]; exact CellsAt.new w [.int .i64 lo, .int .i64 hi, .slice a n cap, .int .i64 cr, .int .i64 le] 75
    have hB : Below w.heap.size w v1 := by rw [← hW]; exact (Below.refl _ w).alloc (Nat.le_refl _) _
    clear hW
    have q0 := (y0 0 _ rfl).1
    have q1 := (y0 1 _ rfl).1
    have q2 := (y0 2 _ rfl).1
    have q3 := (y0 3 _ rfl).1
    have q4 := (y0 4 _ rfl).1
    go_wp2_with fail
    refine (rChk_any (h.below hB) HC.out).mono ?_
    rintro e w1 ⟨rfl, hb⟩
    clear q0 q1 q2 q3 q4
    replace y0 := y0.below hb
    have hB1 := bnext (w := w) hB hb
    clear hb hB
    have q0 := (y0 0 _ rfl).1
    have q1 := (y0 1 _ rfl).1
    have q2 := (y0 2 _ rfl).1
    have q3 := (y0 3 _ rfl).1
    have q4 := (y0 4 _ rfl).1
    go_wp2_with fail
    go_ret2
    exact ⟨_, rfl, hB1, lists_nil _⟩

end Go.Proofs.Ytnchhleokdkejaa
