/- Bungs that stand, by plain maths: without a saggar, with narrower ranges, by the setter's rule. -/
import Derived.Test.YtnchhleokdkejaaKLibDb
import Derived.Test.YtnchhleokdkejaaKScb
import Derived.Laws.OwnMore
import Derived.Laws.AppendOwn
import Derived.OwnWalk
import Derived.Deep.LoopGhost
import Derived.Test.YtnchhleokdkejaaKBcb
import Derived.Test.YtnchhleokdkejaaKLibb
import Derived.Test.YtnchhleokdkejaaKSfb
import Derived.Maps.AppendAt
import Derived.Deep.CutBlock
import Derived.Maps.OwnSet
import Derived.Maps.OwnOps
import Derived.DeepKeys4
import Derived.Deep.RegionHeld3
namespace Go.Pb.Bung
open Go Go.Pb Go.Pb.Ware Go.RowKit
set_option linter.unusedVariables false
set_option linter.unusedSimpArgs false
def sumW (l : List Sg) : Int := (l.map (·.wh)).sum
def sumL (l : List Sg) : Int := (l.map (·.wl)).sum
/-- Each bears what stands on it. -/
def StandsP : List Sg → Prop
  | [] => True
  | s :: l => sumW l ≤ s.bl ∧ StandsP l
theorem sumW_cons (s : Sg) (l : List Sg) : sumW (s :: l) = s.wh + sumW l := by unfold sumW; rw [List.map_cons, List.sum_cons]
theorem sumL_cons (s : Sg) (l : List Sg) : sumL (s :: l) = s.wl + sumL l := by unfold sumL; rw [List.map_cons, List.sum_cons]
theorem standsP_iff : ∀ {l : List Sg}, StandsP l ↔ ∀ i s, l[i]? = some s → loadH l i ≤ s.bl
  | [] => ⟨fun _ i s h => by simp at h, fun _ => trivial⟩
  | s :: l => by
    rw [StandsP, standsP_iff (l := l)]
    constructor
    · rintro ⟨h1, h2⟩ i t ht
      cases i with
      | zero => (obtain rfl : s = t := by simpa using ht); exact h1
      | succ i => exact h2 i t (by simpa using ht)
    · intro h
      exact ⟨h 0 s rfl, fun i t ht => h (i + 1) t (by simpa using ht)⟩
theorem getD_is {l : List Sg} {i : Nat} {s : Sg} (h : l[i]? = some s) : l.getD i default = s := by rw [List.getD_eq_getElem?_getD, h]; rfl
theorem ansL_one {l : List Sg} {i : Nat} {s : Sg} (h : l[i]? = some s) : ansL l i = 1 ↔ loadH l i ≤ s.bl := by
  unfold ansL ansS
  rw [getD_is h]
  split
  · rename_i h1; exact ⟨fun _ => h1, fun _ => rfl⟩
  · rename_i h1
    split
    · exact ⟨fun e => (by cases e), fun e => absurd e h1⟩
    · exact ⟨fun e => (by cases e), fun e => absurd e h1⟩
theorem ansL_zero {l : List Sg} {i : Nat} {s : Sg} (h : l[i]? = some s) : ansL l i = 0 ↔ ¬ loadH l i ≤ s.bl ∧ s.bh < loadL l i := by
  unfold ansL ansS
  rw [getD_is h]
  split
  · rename_i h1; exact ⟨fun e => (by cases e), fun e => absurd h1 e.1⟩
  · rename_i h1
    split
    · rename_i h2; exact ⟨fun _ => ⟨h1, h2⟩, fun _ => rfl⟩
    · rename_i h2; exact ⟨fun e => (by cases e), fun e => absurd e.2 h2⟩
theorem stA_one {l : List Sg} : stA l = 1 ↔ StandsP l := by
  rw [standsP_iff]
  constructor
  · intro h i s hs
    rw [← ansL_one hs]
    have hi : i < l.length := (List.getElem?_eq_some_iff.1 hs).1
    unfold stA at h
    split at h
    · cases h
    · rename_i h1
      split at h
      · cases h
      · rename_i h2
        rcases ansS_three (l.getD i default) (loadL l i) (loadH l i) with e | e | e
        · exact absurd (List.any_eq_true.2 ⟨i, List.mem_range.2 hi, decide_eq_true e⟩) h1
        · exact e
        · exact absurd (List.any_eq_true.2 ⟨i, List.mem_range.2 hi, decide_eq_true e⟩) h2
  · intro h
    have key : ∀ i, i < l.length → ansL l i = 1 := fun i hi => (ansL_one (List.getElem?_eq_getElem hi)).2 (h i _ (List.getElem?_eq_getElem hi))
    unfold stA
    rw [if_neg (by
      intro hx
      obtain ⟨i, hi, e⟩ := List.any_eq_true.1 hx
      have h1 := key i (List.mem_range.1 hi)
      have e2 := of_decide_eq_true e
      omega), if_neg (by
      intro hx
      obtain ⟨i, hi, e⟩ := List.any_eq_true.1 hx
      have h1 := key i (List.mem_range.1 hi)
      have e2 := of_decide_eq_true e
      omega)]
theorem stA_zero {l : List Sg} : stA l = 0 ↔ ∃ i s, l[i]? = some s ∧ ¬ loadH l i ≤ s.bl ∧ s.bh < loadL l i := by
  constructor
  · intro h
    unfold stA at h
    split at h
    · rename_i h1
      obtain ⟨i, hi, e⟩ := List.any_eq_true.1 h1
      have hi2 := List.mem_range.1 hi
      have hs := List.getElem?_eq_getElem hi2
      exact ⟨i, _, hs, (ansL_zero hs).1 (of_decide_eq_true e)⟩
    · split at h <;> cases h
  · rintro ⟨i, s, hs, h⟩
    exact stA_no (List.getElem?_eq_some_iff.1 hs).1 ((ansL_zero hs).2 h)
theorem stA_three (l : List Sg) : stA l = 0 ∨ stA l = 1 ∨ stA l = 2 := by
  unfold stA; split
  · exact .inl rfl
  · split
    · exact .inr (.inr rfl)
    · exact .inr (.inl rfl)
def Wt (l : List Sg) : Prop := ∀ s ∈ l, 0 ≤ s.wh
theorem Wt.tail {s : Sg} {l : List Sg} (h : Wt (s :: l)) : Wt l := fun x hx => h x (List.mem_cons_of_mem _ hx)
theorem sumW_erase : ∀ {l : List Sg}, Wt l → ∀ i, sumW (l.eraseIdx i) ≤ sumW l
  | [], _, i => by simp
  | s :: l, h, 0 => by
    have h2 := h s (List.mem_cons_self ..)
    rw [List.eraseIdx_cons_zero, sumW_cons]; omega
  | s :: l, h, i + 1 => by
    have h1 := sumW_erase h.tail i
    rw [List.eraseIdx_cons_succ, sumW_cons, sumW_cons]; omega
theorem standsP_erase : ∀ {l : List Sg}, Wt l → StandsP l → ∀ i, StandsP (l.eraseIdx i)
  | [], _, _, i => by simp [StandsP]
  | s :: l, h, hs, 0 => by rw [List.eraseIdx_cons_zero]; exact hs.2
  | s :: l, h, hs, i + 1 => by
    rw [List.eraseIdx_cons_succ]
    exact ⟨Int.le_trans (sumW_erase h.tail i) hs.1, standsP_erase h.tail hs.2 i⟩
/-! Narrower ranges. -/
/-- The ranges of t lie within those of s. -/
def Nar (s t : Sg) : Prop := s.wl ≤ t.wl ∧ t.wh ≤ s.wh ∧ s.bl ≤ t.bl ∧ t.bh ≤ s.bh ∧ s.hl ≤ t.hl ∧ t.hh ≤ s.hh ∧ t.ti = s.ti
theorem Nar.refl (s : Sg) : Nar s s := by unfold Nar; omega
def NarL : List Sg → List Sg → Prop
  | [], [] => True
  | s :: l, t :: m => Nar s t ∧ NarL l m
  | _, _ => False
theorem NarL.refl : ∀ l, NarL l l
  | [] => trivial
  | s :: l => ⟨Nar.refl s, NarL.refl l⟩
theorem narL_set {s t : Sg} (h : Nar s t) : ∀ {l : List Sg} {i : Nat}, l[i]? = some s → NarL l (l.set i t)
  | [], i, hs => by simp at hs
  | x :: l, 0, hs => by
    obtain rfl : x = s := by simpa using hs
    exact ⟨h, NarL.refl l⟩
  | x :: l, i + 1, hs => ⟨Nar.refl x, narL_set h (by simpa using hs)⟩
theorem NarL.len : ∀ {l m : List Sg}, NarL l m → m.length = l.length
  | [], [], _ => rfl
  | s :: l, t :: m, h => by rw [List.length_cons, List.length_cons, NarL.len h.2]
  | [], _ :: _, h => h.elim
  | _ :: _, [], h => h.elim
theorem NarL.drop : ∀ {l m : List Sg} (k : Nat), NarL l m → NarL (l.drop k) (m.drop k)
  | [], [], k, _ => by simp [NarL]
  | s :: l, t :: m, 0, h => h
  | s :: l, t :: m, k + 1, h => NarL.drop k h.2
  | [], _ :: _, _, h => h.elim
  | _ :: _, [], _, h => h.elim
theorem NarL.get : ∀ {l m : List Sg} {i : Nat} {s : Sg}, NarL l m → l[i]? = some s → ∃ t, m[i]? = some t ∧ Nar s t
  | [], _, i, s, _, hs => by simp at hs
  | x :: l, t :: m, 0, s, h, hs => by
    obtain rfl : x = s := by simpa using hs
    exact ⟨t, rfl, h.1⟩
  | x :: l, t :: m, i + 1, s, h, hs => NarL.get (i := i) h.2 (by simpa using hs)
  | _ :: _, [], _, _, h, _ => h.elim
theorem NarL.sums : ∀ {l m : List Sg}, NarL l m → sumL l ≤ sumL m ∧ sumW m ≤ sumW l ∧ (l.map (·.hl)).sum ≤ (m.map (·.hl)).sum ∧ (m.map (·.hh)).sum ≤ (l.map (·.hh)).sum
  | [], [], _ => by simp
  | s :: l, t :: m, h => by
    obtain ⟨h1, h2, h3, h4⟩ := NarL.sums h.2
    obtain ⟨n1, n2, n3, n4, n5, n6, n7⟩ := h.1
    rw [sumL_cons, sumL_cons, sumW_cons, sumW_cons]
    simp only [List.map_cons, List.sum_cons]
    omega
  | [], _ :: _, h => h.elim
  | _ :: _, [], h => h.elim
theorem nar_loads {l m : List Sg} (h : NarL l m) (i : Nat) : loadL l i ≤ loadL m i ∧ loadH m i ≤ loadH l i := ⟨(h.drop (i + 1)).sums.1, (h.drop (i + 1)).sums.2.1⟩
theorem nar_one {l m : List Sg} (h : NarL l m) (hs : stA l = 1) : stA m = 1 := by
  rw [stA_one, standsP_iff] at *
  intro i t ht
  have hi : i < l.length := by have := (List.getElem?_eq_some_iff.1 ht).1; rw [h.len] at this; exact this
  obtain ⟨t', ht', hn⟩ := h.get (List.getElem?_eq_getElem hi)
  rw [ht] at ht'
  obtain rfl := Option.some.inj ht'
  have h1 := hs i _ (List.getElem?_eq_getElem hi)
  have h2 := (nar_loads h i).2
  have h3 := hn.2.2.1
  omega
theorem nar_zero {l m : List Sg} (h : NarL l m) (hw : ∀ s ∈ m, s.bl ≤ s.bh) (hr : ∀ s ∈ m, s.wl ≤ s.wh) (hs : stA l = 0) : stA m = 0 := by
  rw [stA_zero] at *
  obtain ⟨i, s, h1, h2, h3⟩ := hs
  obtain ⟨t, ht, hn⟩ := h.get h1
  have h4 := (nar_loads h i).1
  have h5 := hn.2.2.2.1
  have h6 := hw t (List.mem_of_getElem? ht)
  have h7 : loadL m i ≤ loadH m i := by
    unfold loadL loadH
    have key : ∀ k : List Sg, (∀ s ∈ k, s.wl ≤ s.wh) → (k.map (·.wl)).sum ≤ (k.map (·.wh)).sum := by
      intro k hk
      induction k with
      | nil => simp
      | cons x k ih =>
        have i1 := ih fun s hs => hk s (List.mem_cons_of_mem _ hs)
        have i2 := hk x (List.mem_cons_self ..)
        simp only [List.map_cons, List.sum_cons]; omega
    exact key _ fun s hs => hr s (List.mem_of_mem_drop hs)
  exact ⟨i, t, ht, by omega, by omega⟩
theorem nar_hgt {l m : List Sg} {lo hi : Int} (h : NarL l m) : hgtL l lo l.length ≤ hgtL m lo m.length ∧ hgtH m hi m.length ≤ hgtH l hi l.length := by
  unfold hgtL hgtH
  rw [h.len, List.take_length, show m.take l.length = m by rw [← h.len, List.take_length]]
  have := h.sums
  omega
theorem nar_off {l m : List Sg} {hi : Int} (h : NarL l m) (ht : ∀ s ∈ l, 0 ≤ s.ti) : ∀ k, k ≤ l.length → offL m hi k ≤ offL l hi k
  | 0, _ => Int.le_refl _
  | k + 1, hk => by
    have ih := nar_off (hi := hi) h ht k (by omega)
    by_cases h0 : k = 0
    · subst h0
      rw [off_first, off_first]; exact ih
    · have hs := List.getElem?_eq_getElem (show k < l.length by omega)
      obtain ⟨t, ht2, hn⟩ := h.get hs
      rw [off_next hs h0, off_next ht2 h0, hn.2.2.2.2.2.2]
      have h3 := (nar_hgt (lo := 0) (hi := hi) (h.drop k)).2
      have h4 := Int.mul_le_mul_of_nonneg_left h3 (ht _ (List.getElem_mem (show k < l.length by omega)))
      omega
theorem nar_lean {l m : List Sg} {hi : Int} (h : NarL l m) (ht : ∀ s ∈ l, 0 ≤ s.ti) : lnA m hi ≤ lnA l hi := by
  unfold lnA
  rw [h.len]
  have := nar_off (hi := hi) h ht l.length (Nat.le_refl _)
  omega
/-! Saggars that numbers make. -/
def madeG (i : Nat) (r : List Int) : Sg := ⟨1 + i + 40 * (r.getD 6 0 % 20), r.getD 0 0 % 200, r.getD 0 0 % 200 + r.getD 1 0 % 40, r.getD 2 0 % 900, r.getD 2 0 % 900 + r.getD 3 0 % 60, 20 + r.getD 4 0 % 300, 20 + r.getD 4 0 % 300 + r.getD 5 0 % 12, r.getD 6 0 % 25⟩
def madeL (rows : List (List Int)) (k : Nat) : List Sg := (List.range k).map fun i => madeG i (rows.getD i [])
theorem madeL_len (rows : List (List Int)) (k : Nat) : (madeL rows k).length = k := by unfold madeL; simp
theorem madeL_snoc {rows : List (List Int)} {k : Nat} {r : List Int} (h : rows[k]? = some r) : madeL rows (k + 1) = madeL rows k ++ [madeG k r] := by
  unfold madeL
  rw [List.range_succ, List.map_append, List.map_cons, List.map_nil, List.getD_eq_getElem?_getD, h]
  rfl
theorem madeG_ok {i : Nat} (hi : i < 12) (r : List Int) : sgOk (madeG i r) = true := by
  unfold sgOk madeG
  simp only [Bool.and_eq_true, btw_iff, rgOk_iff]
  omega
theorem madeL_ok {rows : List (List Int)} {k : Nat} (hk : k ≤ 12) : listOk (madeL rows k) = true := by
  rw [listOk_iff]
  refine ⟨by rw [madeL_len]; omega, fun s hs => ?_, ?_⟩
  · unfold madeL at hs
    obtain ⟨i, hi, rfl⟩ := List.mem_map.1 hs
    exact madeG_ok (by have := List.mem_range.1 hi; omega) _
  · unfold IdsN madeL
    rw [List.map_map, List.pairwise_map]
    refine List.Pairwise.imp_of_mem (R := (· < ·)) (fun {a b} ha hb hab => ?_) List.pairwise_lt_range
    have h1 := List.mem_range.1 ha
    have h2 := List.mem_range.1 hb
    simp only [Function.comp, madeG]
    omega
end Go.Pb.Bung

/- Saggars that numbers make. -/
namespace Go.Proofs.Ytnchhleokdkejaa
open Go.RowKit Go.Pb Go.Pb.Ware Go.Pb.Sag
set_option linter.unusedVariables false
set_option linter.unusedSimpArgs false

open Go.Proofs Go.Pb.Bung
theorem len7 {r : List Int} (h : r.length = 7) : ∃ a b c d e f g, r = [a, b, c, d, e, f, g] := by
  match r, h with
  | [a, b, c, d, e, f, g], _ => exact ⟨_, _, _, _, _, _, _, rfl⟩
theorem madeL_i64 {rows : List (List Int)} {k : Nat} (hk : k ≤ 12) : ∀ s ∈ madeL rows k, ∀ z ∈ rowG s, I64 z := by
  intro s hs z hz
  unfold madeL at hs
  obtain ⟨i, hi, rfl⟩ := List.mem_map.1 hs
  have := List.mem_range.1 hi
  simp only [rowG, madeG, List.mem_cons, List.not_mem_nil, or_false] at hz
  rcases hz with rfl | rfl | rfl | rfl | rfl | rfl | rfl | rfl <;> exact I64.mk (by omega) (by omega)

set_option maxRecDepth 100000 in
set_option maxHeartbeats 1000000 in
theorem rMade_any {w : World} {v : Value} {rows : List (List Int)} {most K : Nat} (h : RowsAt 7 w v rows) (hm : most ≤ 12) (hK : min rows.length most = K) :
    Calls Try.prog 70 #[v, .int .i64 (most : Int)] w (fun e w' => ∃ u, e = .returned u ∧ Below w.heap.size w w' ∧ RowsAt 8 w' u ((madeL rows K).map rowG)) := by
  obtain ⟨i0, hi0, hz0, hz1, hz2⟩ := info_parts Try.infoG
  obtain ⟨a, cap, rfl, hll⟩ := h.shape
  have hcap := RowsAt.caps h
  obtain ⟨n, hn⟩ : ∃ n, rows.length = n := ⟨_, rfl⟩
  have HN : Hid (rows.length = n) := hn
  have HI : Hid (∀ r ∈ rows, r.length = 7 ∧ ∀ z ∈ r, I64 z) := hid h.i64
  rw [hn] at h hll hcap hK ⊢
  obtain ⟨hcap1, hcap2⟩ := hcap
  have hK1 : K ≤ n := by omega
  have hK2 : K ≤ most := by omega
  have HK : Hid (min n most = K) := hid hK
  clear hn hK
  go_enter Try.func70, Try.ntmps70
  go_wp2_with fail
  go_loopg [5, 6] K (fun gk ov iv wr => ∃ k : Nat, k ≤ K ∧ gk = K - k ∧ iv = .int .i64 k ∧ wr.ownsRow w.heap.size 33 8 ov k ((madeL rows k).flatMap cellsG) ∧ Below w.heap.size w wr)
  case atStart => exact ⟨0, Nat.zero_le _, rfl, rfl, World.ownsRow_nil _ _ _ _, Below.refl _ _⟩
  case round =>
    obtain ⟨k, hk, hgk, rfl, ho, hB⟩ := hrel
    have HGK := hid hgk; clear hgk
    by_cases hlt : k < K
    · have hki : (k : Int) < (n : Int) := by omega
      have hkm : (k : Int) < (most : Int) := by omega
      obtain ⟨r, hr⟩ : ∃ r, rows[k]? = some r := ⟨_, List.getElem?_eq_getElem (by rw [HN.out]; omega)⟩
      obtain ⟨a', ha, hrl2, hc0, hcc⟩ := (show RowsAt 7 wr (.slice a rows.length cap) rows by rw [HN.out]; exact h.below hB).row (k := k) (by rw [HN.out]; omega)
      subst ha
      have her : rows[k]'(by rw [HN.out]; omega) = r := Option.some.inj ((List.getElem?_eq_getElem _).symm.trans hr)
      rw [her] at hrl2 hc0 hcc
      obtain ⟨y0, y1, y2, y3, y4, y5, y6, rfl⟩ := len7 hrl2
      have r0 := hc0 _ rfl
      have r1 := hcc 1 _ (by decide) rfl
      have r2 := hcc 2 _ (by decide) rfl
      have r3 := hcc 3 _ (by decide) rfl
      have r4 := hcc 4 _ (by decide) rfl
      have r5 := hcc 5 _ (by decide) rfl
      have r6 := hcc 6 _ (by decide) rfl
      obtain ⟨p0, hp0⟩ : ∃ p, y0 % 200 = p := ⟨_, rfl⟩
      have b0 := mod_in hp0 (by decide)
      have HP0 : Hid _ := hid hp0
      obtain ⟨p1, hp1⟩ : ∃ p, y1 % 40 = p := ⟨_, rfl⟩
      have b1 := mod_in hp1 (by decide)
      have HP1 : Hid _ := hid hp1
      obtain ⟨p2, hp2⟩ : ∃ p, y2 % 900 = p := ⟨_, rfl⟩
      have b2 := mod_in hp2 (by decide)
      have HP2 : Hid _ := hid hp2
      obtain ⟨p3, hp3⟩ : ∃ p, y3 % 60 = p := ⟨_, rfl⟩
      have b3 := mod_in hp3 (by decide)
      have HP3 : Hid _ := hid hp3
      obtain ⟨p4, hp4⟩ : ∃ p, y4 % 300 = p := ⟨_, rfl⟩
      have b4 := mod_in hp4 (by decide)
      have HP4 : Hid _ := hid hp4
      obtain ⟨p5, hp5⟩ : ∃ p, y5 % 12 = p := ⟨_, rfl⟩
      have b5 := mod_in hp5 (by decide)
      have HP5 : Hid _ := hid hp5
      obtain ⟨p6, hp6⟩ : ∃ p, y6 % 20 = p := ⟨_, rfl⟩
      have b6 := mod_in hp6 (by decide)
      have HP6 : Hid _ := hid hp6
      obtain ⟨p7, hp7⟩ : ∃ p, y6 % 25 = p := ⟨_, rfl⟩
      have b7 := mod_in hp7 (by decide)
      have HP7 : Hid _ := hid hp7
      have HE : Hid (madeL rows (k + 1) = madeL rows k ++ [(⟨1 + (k : Int) + 40 * p6, p0, p0 + p1, p2, p2 + p3, 20 + p4, 20 + p4 + p5, p7⟩ : Sg)]) := hid (by rw [madeL_snoc hr]; unfold madeG; simp only [List.getD_cons_zero, List.getD_cons_succ]; rw [hp0, hp1, hp2, hp3, hp4, hp5, hp6, hp7])
      clear hr her hc0 hcc hrl2 hp0 hp1 hp2 hp3 hp4 hp5 hp6 hp7
      obtain ⟨ua, uc, rfl, hul⟩ := owns_shape ho
      go_upto_region 6 with fail
      have r5w : Below wr.heap.size wr (wr.alloc (.cells #[.int .i64 y0, .int .i64 y1, .int .i64 y2, .int .i64 y3, .int .i64 y4, .int .i64 y5, .int .i64 y6] 158)) := (Below.refl _ _).alloc (Nat.le_refl _) _
      have yc : CellsAt (wr.alloc (.cells #[.int .i64 y0, .int .i64 y1, .int .i64 y2, .int .i64 y3, .int .i64 y4, .int .i64 y5, .int .i64 y6] 158)) wr.heap.size [.int .i64 y0, .int .i64 y1, .int .i64 y2, .int .i64 y3, .int .i64 y4, .int .i64 y5, .int .i64 y6] := CellsAt.new wr _ 158
      have ho9 := owns_below ho r5w
      have hB9 := bnext (w := w) hB r5w
      have hz9 := r5w.size
      generalize World.alloc wr _ = W9 at *
      clear r5w r0 r1 r2 r3 r4 r5 r6
      have c0 := (yc 0 _ rfl).1
      have c1 := (yc 1 _ rfl).1
      have c2 := (yc 2 _ rfl).1
      have c3 := (yc 3 _ rfl).1
      have c4 := (yc 4 _ rfl).1
      have c5 := (yc 5 _ rfl).1
      have c6 := (yc 6 _ rfl).1
      go_wp2_with fail
      refine (modB HP0.out (by decide) (by decide)).mono ?_
      rintro e wm ⟨rfl, rfl⟩
      go_wp2_with fail
      refine (modB HP2.out (by decide) (by decide)).mono ?_
      rintro e wm ⟨rfl, rfl⟩
      go_wp2_with fail
      refine (modB HP4.out (by decide) (by decide)).mono ?_
      rintro e wm ⟨rfl, rfl⟩
      go_upto_region 9 with fail
      refine wp_region_Rs [(5, fun v _ => v = .int .i64 p6), (12, fun v _ => v = .int .i64 p1), (19, fun v _ => v = .int .i64 p3), (26, fun v _ => v = .int .i64 p5), (31, fun v _ => v = .int .i64 p7), (33, NewList W9.heap.size 1 [.int .i64 (1 + (k : Int) + 40 * p6), .int .i64 p0, .int .i64 (p0 + p1), .int .i64 p2, .int .i64 (p2 + p3), .int .i64 (20 + p4), .int .i64 (20 + p4 + p5), .int .i64 p7])] [0, 1, 2, 3, 4, 5, 6, 7, 8, 9, 10, 11, 12, 13, 14, 15, 16, 17, 18, 19, 20, 21, 22, 23, 24, 25, 26, 27, 28, 29, 30, 31, 32, 33] 2 (by kernel_rfl) rfl (by simp only [List.forall_mem_cons]; exact ⟨keeps_eq, keeps_eq, keeps_eq, keeps_eq, keeps_eq, keeps_list, fun _ h => by cases h⟩) (by kernel_rfl) ?_
      simp only [numbered, List.filterMap_cons, List.filterMap_nil, List.getElem?_toArray, List.getElem?_cons_succ, List.getElem?_cons_zero, Option.map_some]
      show wpS _ _ _ _ _ _ _ [(_, _), (_, _), (_, _), (_, _), (_, _), (_, _), (_, _), (_, _), (_, _), (_, _), (_, _), (_, _), (_, _), (_, _), (_, _), (_, _), (_, _), (_, _), (_, _), (_, _), (_, _), (_, _), (_, _), (_, _), (_, _), (_, _), (_, _), (_, _), (_, _), (_, _), (_, _), (_, _), (_, _), (_, _)] _ _
      (refine wpS_quiet rfl rfl ?_; intro K2 hK inst hx; go_big_quiet_op; (first | go_big_quiet_on | (refine ⟨_, fun _ => rfl, ?_⟩; go_big_quiet_on)); clear hx inst)
      (refine wpS_quiet rfl rfl ?_; intro K2 hK inst hx; go_big_quiet_op; (first | go_big_quiet_on | (refine ⟨_, fun _ => rfl, ?_⟩; go_big_quiet_on)); clear hx inst)
      (refine wpS_quiet rfl rfl ?_; intro K2 hK inst hx; go_big_quiet_op; (first | go_big_quiet_on | (refine ⟨_, fun _ => rfl, ?_⟩; go_big_quiet_on)); clear hx inst)
      (refine wpS_quiet rfl rfl ?_; intro K2 hK inst hx; go_big_quiet_op; (first | go_big_quiet_on | (refine ⟨_, fun _ => rfl, ?_⟩; go_big_quiet_on)); clear hx inst)
      (refine wpS_quiet rfl rfl ?_; intro K2 hK inst hx; have sc6 := fun x => (fun _ => bkeep (BQ.below x) c6) (hx x); go_big_quiet_op; (first | go_big_quiet_on | (refine ⟨_, fun _ => rfl, ?_⟩; go_big_quiet_on)); clear hx inst)
      refine wpS_fresh rfl rfl (fun w' hb hF => ?_) ?_
      · change freshAt _ _ _ (fun v _ => v = .int .i64 p6) _; unfold freshAt; go_simp; exact modBR HP6.out (by decide) (by decide)
      intro v W hv; simp only [pOf, List.lookup_cons, Nat.reduceBEq, beq_self_eq_true] at hv; subst hv
      simp only [Act.put, List.setIfInBounds_toArray, List.set_cons_succ, List.set_cons_zero]
      (refine wpS_quiet rfl rfl ?_; intro K2 hK inst hx; go_big_quiet_op; (first | go_big_quiet_on | (refine ⟨_, fun _ => rfl, ?_⟩; go_big_quiet_on)); clear hx inst)
      (refine wpS_quiet rfl rfl ?_; intro K2 hK inst hx; go_big_quiet_op; (first | go_big_quiet_on | (refine ⟨_, fun _ => rfl, ?_⟩; go_big_quiet_on)); clear hx inst)
      (refine wpS_quiet rfl rfl ?_; intro K2 hK inst hx; go_big_quiet_op; (first | go_big_quiet_on | (refine ⟨_, fun _ => rfl, ?_⟩; go_big_quiet_on)); clear hx inst)
      (refine wpS_quiet rfl rfl ?_; intro K2 hK inst hx; go_big_quiet_op; (first | go_big_quiet_on | (refine ⟨_, fun _ => rfl, ?_⟩; go_big_quiet_on)); clear hx inst)
      (refine wpS_quiet rfl rfl ?_; intro K2 hK inst hx; go_big_quiet_op; (first | go_big_quiet_on | (refine ⟨_, fun _ => rfl, ?_⟩; go_big_quiet_on)); clear hx inst)
      (refine wpS_quiet rfl rfl ?_; intro K2 hK inst hx; have sc1 := fun x => (fun _ => bkeep (BQ.below x) c1) (hx x); go_big_quiet_op; (first | go_big_quiet_on | (refine ⟨_, fun _ => rfl, ?_⟩; go_big_quiet_on)); clear hx inst)
      refine wpS_fresh rfl rfl (fun w' hb hF => ?_) ?_
      · change freshAt _ _ _ (fun v _ => v = .int .i64 p1) _; unfold freshAt; go_simp; exact modBR HP1.out (by decide) (by decide)
      intro v W hv; simp only [pOf, List.lookup_cons, Nat.reduceBEq, beq_self_eq_true] at hv; subst hv
      simp only [Act.put, List.setIfInBounds_toArray, List.set_cons_succ, List.set_cons_zero]
      (refine wpS_quiet rfl rfl ?_; intro K2 hK inst hx; go_big_quiet_op; (first | go_big_quiet_on | (refine ⟨_, fun _ => rfl, ?_⟩; go_big_quiet_on)); clear hx inst)
      (refine wpS_quiet rfl rfl ?_; intro K2 hK inst hx; go_big_quiet_op; (first | go_big_quiet_on | (refine ⟨_, fun _ => rfl, ?_⟩; go_big_quiet_on)); clear hx inst)
      (refine wpS_quiet rfl rfl ?_; intro K2 hK inst hx; go_big_quiet_op; (first | go_big_quiet_on | (refine ⟨_, fun _ => rfl, ?_⟩; go_big_quiet_on)); clear hx inst)
      (refine wpS_quiet rfl rfl ?_; intro K2 hK inst hx; go_big_quiet_op; (first | go_big_quiet_on | (refine ⟨_, fun _ => rfl, ?_⟩; go_big_quiet_on)); clear hx inst)
      (refine wpS_quiet rfl rfl ?_; intro K2 hK inst hx; go_big_quiet_op; (first | go_big_quiet_on | (refine ⟨_, fun _ => rfl, ?_⟩; go_big_quiet_on)); clear hx inst)
      (refine wpS_quiet rfl rfl ?_; intro K2 hK inst hx; have sc3 := fun x => (fun _ => bkeep (BQ.below x) c3) (hx x); go_big_quiet_op; (first | go_big_quiet_on | (refine ⟨_, fun _ => rfl, ?_⟩; go_big_quiet_on)); clear hx inst)
      refine wpS_fresh rfl rfl (fun w' hb hF => ?_) ?_
      · change freshAt _ _ _ (fun v _ => v = .int .i64 p3) _; unfold freshAt; go_simp; exact modBR HP3.out (by decide) (by decide)
      intro v W hv; simp only [pOf, List.lookup_cons, Nat.reduceBEq, beq_self_eq_true] at hv; subst hv
      simp only [Act.put, List.setIfInBounds_toArray, List.set_cons_succ, List.set_cons_zero]
      (refine wpS_quiet rfl rfl ?_; intro K2 hK inst hx; go_big_quiet_op; (first | go_big_quiet_on | (refine ⟨_, fun _ => rfl, ?_⟩; go_big_quiet_on)); clear hx inst)
      (refine wpS_quiet rfl rfl ?_; intro K2 hK inst hx; go_big_quiet_op; (first | go_big_quiet_on | (refine ⟨_, fun _ => rfl, ?_⟩; go_big_quiet_on)); clear hx inst)
      (refine wpS_quiet rfl rfl ?_; intro K2 hK inst hx; go_big_quiet_op; (first | go_big_quiet_on | (refine ⟨_, fun _ => rfl, ?_⟩; go_big_quiet_on)); clear hx inst)
      (refine wpS_quiet rfl rfl ?_; intro K2 hK inst hx; go_big_quiet_op; (first | go_big_quiet_on | (refine ⟨_, fun _ => rfl, ?_⟩; go_big_quiet_on)); clear hx inst)
      (refine wpS_quiet rfl rfl ?_; intro K2 hK inst hx; go_big_quiet_op; (first | go_big_quiet_on | (refine ⟨_, fun _ => rfl, ?_⟩; go_big_quiet_on)); clear hx inst)
      (refine wpS_quiet rfl rfl ?_; intro K2 hK inst hx; have sc5 := fun x => (fun _ => bkeep (BQ.below x) c5) (hx x); go_big_quiet_op; (first | go_big_quiet_on | (refine ⟨_, fun _ => rfl, ?_⟩; go_big_quiet_on)); clear hx inst)
      refine wpS_fresh rfl rfl (fun w' hb hF => ?_) ?_
      · change freshAt _ _ _ (fun v _ => v = .int .i64 p5) _; unfold freshAt; go_simp; exact modBR HP5.out (by decide) (by decide)
      intro v W hv; simp only [pOf, List.lookup_cons, Nat.reduceBEq, beq_self_eq_true] at hv; subst hv
      simp only [Act.put, List.setIfInBounds_toArray, List.set_cons_succ, List.set_cons_zero]
      (refine wpS_quiet rfl rfl ?_; intro K2 hK inst hx; go_big_quiet_op; (first | go_big_quiet_on | (refine ⟨_, fun _ => rfl, ?_⟩; go_big_quiet_on)); clear hx inst)
      (refine wpS_quiet rfl rfl ?_; intro K2 hK inst hx; go_big_quiet_op; (first | go_big_quiet_on | (refine ⟨_, fun _ => rfl, ?_⟩; go_big_quiet_on)); clear hx inst)
      (refine wpS_quiet rfl rfl ?_; intro K2 hK inst hx; go_big_quiet_op; (first | go_big_quiet_on | (refine ⟨_, fun _ => rfl, ?_⟩; go_big_quiet_on)); clear hx inst)
      (refine wpS_quiet rfl rfl ?_; intro K2 hK inst hx; have sc6 := fun x => (fun _ => bkeep (BQ.below x) c6) (hx x); go_big_quiet_op; (first | go_big_quiet_on | (refine ⟨_, fun _ => rfl, ?_⟩; go_big_quiet_on)); clear hx inst)
      refine wpS_fresh rfl rfl (fun w' hb hF => ?_) ?_
      · change freshAt _ _ _ (fun v _ => v = .int .i64 p7) _; unfold freshAt; go_simp; exact modBR HP7.out (by decide) (by decide)
      intro v W hv; simp only [pOf, List.lookup_cons, Nat.reduceBEq, beq_self_eq_true] at hv; subst hv
      simp only [Act.put, List.setIfInBounds_toArray, List.set_cons_succ, List.set_cons_zero]
      (refine wpS_quiet rfl rfl ?_; intro K2 hK inst hx; go_big_quiet_op; (first | go_big_quiet_on | (refine ⟨_, fun _ => rfl, ?_⟩; go_big_quiet_on)); clear hx inst)
      refine wpS_fresh rfl rfl (fun w' hb hF => ?_) ?_
      · change freshAt _ _ _ (NewList W9.heap.size 1 [.int .i64 (1 + (k : Int) + 40 * p6), .int .i64 p0, .int .i64 (p0 + p1), .int .i64 p2, .int .i64 (p2 + p3), .int .i64 (20 + p4), .int .i64 (20 + p4 + p5), .int .i64 p7]) _; unfold freshAt; go_simp; exact list_of hb
      intro v W hv; simp only [pOf, List.lookup_cons, Nat.reduceBEq, beq_self_eq_true] at hv; obtain ⟨B33, hB33, rfl, -⟩ := hv
      simp only [Act.put, List.setIfInBounds_toArray, List.set_cons_succ, List.set_cons_zero]
      refine wpS_nil ?_
      intro w2 hall
      have hb := hall.1
      have h33 : NewList W9.heap.size 1 [.int .i64 (1 + (k : Int) + 40 * p6), .int .i64 p0, .int .i64 (p0 + p1), .int .i64 p2, .int .i64 (p2 + p3), .int .i64 (20 + p4), .int .i64 (20 + p4 + p5), .int .i64 p7] _ w2 := hall.2 33 _ rfl
      obtain ⟨B', hB', hv', hn'⟩ := h33
      obtain rfl : B33 = B' := by simpa using hv'
      clear hall
      have ho2 := owns_below ho9 hb
      have hB2 := bnext (w := w) hB9 hb
      have hzw2 := hb.size
      refine wpAny_ready (rs := [34]) (by kernel_rfl) (by simp) ?_
      refine AllReady.cons rfl (fun K hK => ?_) AllReady.nil
      refine (if_pos (show Region.wanted _ _ = true from rfl)).mpr ?_
      refine wp_append_own w2 (.tmp 36) (.tmp 69) 24 rfl w.heap.size 33 i0 (.agg #[.int .i64 0, .int .i64 0, .int .i64 0, .int .i64 0, .int .i64 0, .int .i64 0, .int .i64 0, .int .i64 0]) 8 64 Try.underlying24 hi0 hz0 hz1 hz2 rfl (by decide) (.slice ua k uc) k _ rfl ho2 ⟨B33, 0, none⟩ 1 1 [.int .i64 (1 + (k : Int) + 40 * p6), .int .i64 p0, .int .i64 (p0 + p1), .int .i64 p2, .int .i64 (p2 + p3), .int .i64 (20 + p4), .int .i64 (20 + p4 + p5), .int .i64 p7] rfl rfl (fun j u h => by rw [Go.WideShapes.add_plain, Nat.zero_add]; exact (hn' j u h).1) (one_cellsG (⟨1 + (k : Int) + 40 * p6, p0, p0 + p1, p2, p2 + p3, 20 + p4, 20 + p4 + p5, p7⟩ : Sg)) (by unfold maxLen; omega) (by omega) (by have := hB2.size; omega) ?_
      intro v70 w3 ho3 hg3 hnil3
      refine hK _ _ ?_
      clear hK K hnil3
      obtain ⟨xa, xc, rfl, -⟩ := owns_shape ho3
      have hB3 : Below w.heap.size w w3 := Pb.below_grown hB2 hg3 ho2 hB2.size (Nat.le_refl _)
      refine wpAny_ready (rs := [35]) (by kernel_rfl) (by simp) ?_
      refine AllReady.cons rfl (fun K hK => ?_) AllReady.nil
      go_simp
      refine hK _ _ ?_; clear hK K
      refine wpAny_done (by kernel_rfl) ?_ _
      clear hB2 ho2 hg3 hn' hB9 ho9 yc c0 c1 c2 c3 c4 c5 c6
      go_wp2_with fail
      go_roundg (K - (k + 1))
      case measure => have h := HGK.out; omega
      case rel => exact ⟨k + 1, by omega, rfl, by go_num, by rw [HE.out, List.flatMap_append, List.flatMap_singleton]; exact ho3, hB3⟩
    · obtain rfl : k = K := by omega
      by_cases hkn : k < n
      · have hki : (k : Int) < (n : Int) := by omega
        have hkm : ¬ (k : Int) < (most : Int) := by have := HK.out; omega
        go_wp2_with fail
        go_ret
        exact ⟨_, rfl, hB, rows_of_owns (by rw [madeL_len]; exact ho) (madeL_i64 (by omega))⟩
      · have hki : ¬ (k : Int) < (n : Int) := by omega
        go_wp2_with fail
        go_ret
        exact ⟨_, rfl, hB, rows_of_owns (by rw [madeL_len]; exact ho) (madeL_i64 (by omega))⟩

end Go.Proofs.Ytnchhleokdkejaa

/- Slices read as the cells that they hold, whatever an element is. -/
namespace Go.Pb
open Go Go.RowKit
set_option linter.unusedVariables false
/-- The slice v has m elements of n cells each, which hold cs. -/
structure LAt (n : Nat) (w : World) (v : Value) (m : Nat) (cs : List Value) : Prop where
  len : cs.length = m * n
  one : ∀ u ∈ cs, u.oneCell' = true
  at' : (v = .slice none 0 0 ∧ m = 0) ∨ ∃ (a : Addr) (cap : Nat), v = .slice (some a) m cap ∧ m ≤ cap ∧ cap ≤ 9223372036854775807 ∧ ∀ j u, cs[j]? = some u → w.cell? (a.add j) = some u
theorem LAt.below {n m : Nat} {w w' : World} {v : Value} {cs : List Value} (h : LAt n w v m cs) (hb : Below w.heap.size w w') : LAt n w' v m cs :=
  ⟨h.len, h.one, by
    rcases h.at' with h1 | ⟨a, cap, h1, h2, h3, h4⟩
    · exact .inl h1
    · exact .inr ⟨a, cap, h1, h2, h3, fun j u hu => bkeep hb (h4 j u hu)⟩⟩
theorem LAt.shape {n m : Nat} {w : World} {v : Value} {cs : List Value} (h : LAt n w v m cs) : ∃ (a : Option Addr) (cap : Nat), v = .slice a m cap ∧ m ≤ cap ∧ cap ≤ 9223372036854775807 ∧ (a = none → m = 0 ∧ cap = 0) := by
  rcases h.at' with ⟨h1, h2⟩ | ⟨a, cap, h1, h2, h3, h4⟩
  · subst h2; exact ⟨none, 0, h1, Nat.le_refl _, by omega, fun _ => ⟨rfl, rfl⟩⟩
  · exact ⟨some a, cap, h1, h2, h3, fun e => by cases e⟩
theorem LAt.cells {n m cap : Nat} {w : World} {a : Addr} {cs : List Value} (h : LAt n w (.slice (some a) m cap) m cs) : ∀ j u, cs[j]? = some u → w.cell? (a.add j) = some u := by
  rcases h.at' with ⟨h1, _⟩ | ⟨a', cap', h1, _, _, h4⟩
  · cases h1
  · injection h1 with h1 _ _; injection h1 with h1; subst h1; exact h4
theorem LAt.nil {n cap : Nat} {w : World} {cs : List Value} {m : Nat} (h : LAt n w (.slice none m cap) m cs) : m = 0 ∧ cap = 0 ∧ cs = [] := by
  rcases h.at' with ⟨h1, h2⟩ | ⟨a', cap', h1, _, _, h4⟩
  · injection h1 with _ _ h3; subst h2; exact ⟨rfl, h3, List.length_eq_zero_iff.1 (by rw [h.len]; simp)⟩
  · injection h1 with h1 _ _; cases h1
theorem LAt.head {n m cap k : Nat} {w : World} {a : Addr} {cs : List Value} (h : LAt n w (.slice (some a) m cap) m cs) (hk : k ≤ m) : LAt n w (.slice (some a) k cap) k (cs.take (k * n)) := by
  obtain ⟨_, cap', e, h2, h3, _⟩ := h.shape
  injection e with _ _ e; subst e
  refine ⟨by rw [List.length_take, h.len]; exact Nat.min_eq_left (Nat.mul_le_mul_right n hk), fun u hu => h.one u (List.mem_of_mem_take hu), .inr ⟨a, cap, rfl, by omega, h3, fun j u hu => ?_⟩⟩
  rw [List.getElem?_take] at hu
  split at hu
  · exact h.cells j u hu
  · cases hu
theorem LAt.tail {n m cap k : Nat} {w : World} {a q : Addr} {cs : List Value} (h : LAt n w (.slice (some a) m cap) m cs) (hk : k ≤ m) (hq : k < m → q = a.add (k * n)) : LAt n w (.slice (some q) (m - k) (cap - k)) (m - k) (cs.drop (k * n)) := by
  obtain ⟨_, cap', e, h2, h3, _⟩ := h.shape
  injection e with _ _ e; subst e
  refine ⟨by rw [List.length_drop, h.len, Nat.sub_mul], fun u hu => h.one u (List.mem_of_mem_drop hu), .inr ⟨q, cap - k, rfl, by omega, by omega, fun j u hu => ?_⟩⟩
  have hkm : k < m := by
    rcases Nat.lt_or_ge k m with h5 | h5
    · exact h5
    · have h6 := (List.getElem?_eq_some_iff.1 hu).1
      rw [List.length_drop, h.len] at h6
      have := Nat.mul_le_mul_right n h5
      omega
  rw [hq hkm, Go.Deep.add_add]
  rw [List.getElem?_drop] at hu
  exact h.cells _ u hu
theorem drop_take_erase {n : Nat} {α : Type} {f : α → List Value} (hf : ∀ x, (f x).length = n) : ∀ {l : List α} {k : Nat}, (l.flatMap f).take (k * n) = (l.take k).flatMap f ∧ (l.flatMap f).drop (k * n) = (l.drop k).flatMap f
  | [], k => by simp
  | x :: l, 0 => by simp
  | x :: l, k + 1 => by
    obtain ⟨h1, h2⟩ := drop_take_erase hf (l := l) (k := k)
    rw [List.flatMap_cons, List.take_succ_cons, List.drop_succ_cons, List.flatMap_cons, Nat.succ_mul]
    have e : (f x).length ≤ k * n + n := by rw [hf]; omega
    refine ⟨?_, ?_⟩
    · rw [List.take_append, List.take_of_length_le e, hf, show k * n + n - n = k * n by omega, h1]
    · rw [List.drop_append, List.drop_of_length_le e, hf, show k * n + n - n = k * n by omega, h2, List.nil_append]
theorem flat_erase {n : Nat} {α : Type} {f : α → List Value} (hf : ∀ x, (f x).length = n) (l : List α) (k : Nat) : (l.flatMap f).take (k * n) ++ (l.flatMap f).drop ((k + 1) * n) = (l.eraseIdx k).flatMap f := by
  rw [(drop_take_erase hf).1, (drop_take_erase hf).2, ← List.flatMap_append, ← List.eraseIdx_eq_take_drop_succ]
end Go.Pb
namespace Go.Pb.Sag
open Go Go.Pb Go.Pb.Ware Go.RowKit
set_option linter.unusedVariables false
end Go.Pb.Sag

/- The first packings, as the reference lists them; appends of whatever elements. -/
namespace Go.Pb
set_option linter.unusedVariables false
open Go Go.RowKit
/-- An append of a slice, nil or not, to an empty one of the call's own. -/
theorem fresh_append_lat {P : Program} {o : Oper} {a : Act} {w : World} (s x : Operand) (t : TypeId) (ho : o.op = .call { callee := .builtin .append, args := #[s, x], argTypes := #[t, t] })
    (base : Nat) (e : TypeId) (i : TypeInfo) (z : Value) (size bytes : Nat) (ht : P.underlying t = some (.slice e)) (hi : P.info? e = some i) (hz : i.zero = some z)
    (hsize : i.size = size) (hby : i.bytes = bytes) (hzs : z.cells.size = size) (hsz : 0 < size) (v : Value) (hs : a.eval s = v) (hv : NewEmpty base e v w)
    (xv : Value) (m : Nat) (cs : List Value) (hx : a.eval x = xv) (hn : LAt size w xv m cs) (h63 : m ≤ maxLen) (hbytes : m * bytes ≤ 140737488355328) (hbase : base ≤ w.heap.size) :
    freshAt P o a (fun v w => w.ownsRow base e size v m cs) w := by
  rcases hn.at' with ⟨rfl, rfl⟩ | ⟨ad, c, rfl, h2, h3, h4⟩
  · have hcs : cs = [] := List.length_eq_zero_iff.1 (by rw [hn.len]; simp)
    subst hcs
    obtain ⟨B, hB, rfl, hg⟩ := hv
    have hown : w.ownsRow base e size (.slice (some ⟨B, 0, none⟩) 0 0) 0 [] := ⟨by simp, .inr ⟨B, 0, #[], rfl, hB, hg, Nat.le_refl _, by simp [maxLen], by simp, by simp⟩⟩
    have hr := run_append_owned_none (P := P) (w := w) base t o.type e i size ht hi _ 0 [] hown
    unfold freshAt execOp
    simp only [ho, resolve, invoke, builtin, Sem.run_bind, Sem.run_pure, Result.andThen_ok, List.map_toArray, List.map_cons, List.map_nil, hs, hx, hr]
    exact ⟨Below.refl _ _, hown⟩
  · exact fresh_append s x t ho base e i z size bytes ht hi hz hsize hby hzs hsz v hs hv ad m c cs hx hn.len h4 hn.one h63 hbytes hbase
/-- An append to a slice of the call's own, whether the source is nil or not. -/
theorem wp_append_lat {P : Program} {o : Oper} {a : Act} {K : Act → World → Prop} {Q : Exit → Act → World → Prop} (w : World) (s x : Operand) (t : TypeId) (ho : o.op = .call { callee := .builtin .append, args := #[s, x], argTypes := #[t, t] })
    (base : Nat) (e : TypeId) (i : TypeInfo) (z : Value) (size bytes : Nat) (ht : P.underlying t = some (.slice e)) (hi : P.info? e = some i) (hz : i.zero = some z)
    (hsize : i.size = size) (hby : i.bytes = bytes) (hzs : z.cells.size = size) (hsz : 0 < size) (v : Value) (n : Nat) (xs : List Value) (hs : a.eval s = v) (hown : w.ownsRow base e size v n xs)
    (xv : Value) (m : Nat) (cs : List Value) (hx : a.eval x = xv) (hn : LAt size w xv m cs) (h63 : n + m ≤ maxLen) (hbytes : (n + m) * bytes ≤ 140737488355328) (hbase : base ≤ w.heap.size)
    (h : ∀ v' w', w'.ownsRow base e size v' (n + m) (xs ++ cs) → w.grownBy w' v.ownBlock → K (a.put o.dst v') w') : o.wp P a w K Q := by
  rcases hn.at' with ⟨rfl, rfl⟩ | ⟨ad, c, rfl, h2, h3, h4⟩
  · have hcs : cs = [] := List.length_eq_zero_iff.1 (by rw [hn.len]; simp)
    subst hcs
    have hr := run_append_owned_none (P := P) (w := w) base t o.type e i size ht hi v n xs hown
    have h5 := h v w (by simpa using hown) ⟨rfl, rfl, rfl, Nat.le_refl _, fun k _ _ => rfl⟩
    unfold Oper.wp execOp
    simp only [ho, resolve, invoke, builtin, Sem.run_bind, Sem.run_pure, Result.andThen_ok, List.map_toArray, List.map_cons, List.map_nil, hs, hx, hr]
    exact h5
  · exact wp_append_own w s x t ho base e i z size bytes ht hi hz hsize hby hzs hsz v n xs hs hown ad m c cs hx hn.len h4 hn.one h63 hbytes hbase fun v' w' h5 h6 _ => h v' w' h5 h6
end Go.Pb
namespace Go.Pb.Sag
open Go Go.Pb Go.Pb.Ware Go.RowKit
set_option linter.unusedVariables false
/-- Rows of stands in memory of the call's own. -/
def RowsQ (lo TQ TS : Nat) (v : Value) (rows : List (List St)) (W : World) : Prop := ∃ us : List Value, W.ownsRow lo TQ 1 v rows.length us ∧ ∀ (k : Nat) (u : Value) (q : List St), us[k]? = some u → rows[k]? = some q → W.ownsRow lo TS 3 u q.length (q.flatMap cellsP)
theorem RowsQ.below {lo TQ TS : Nat} {v : Value} {rows : List (List St)} {W W' : World} (h : RowsQ lo TQ TS v rows W) (hb : Below W.heap.size W W') : RowsQ lo TQ TS v rows W' := by
  obtain ⟨us, h1, h2⟩ := h
  exact ⟨us, owns_below h1 hb, fun k u q h3 h4 => owns_below (h2 k u q h3 h4) hb⟩
theorem RowsQ.nil {lo TQ TS : Nat} {W : World} : RowsQ lo TQ TS (.slice none 0 0) [] W := ⟨[], World.ownsRow_nil _ _ _ _, fun k u q h => by simp at h⟩
theorem RowsQ.shape {lo TQ TS : Nat} {v : Value} {rows : List (List St)} {W : World} (h : RowsQ lo TQ TS v rows W) : ∃ (a : Option Addr) (cap : Nat), v = .slice a rows.length cap ∧ rows.length ≤ 9223372036854775807 := by
  obtain ⟨us, h1, _⟩ := h
  exact owns_shape h1
/-- Rows behind rows: the slice has grown by an append. -/
theorem RowsQ.append {lo TQ TS : Nat} (hT : TQ ≠ TS) {v v' : Value} {rows more : List (List St)} {us ms : List Value} {W w3 : World}
    (ho : W.ownsRow lo TQ 1 v rows.length us) (hr : ∀ (k : Nat) (u : Value) (q : List St), us[k]? = some u → rows[k]? = some q → W.ownsRow lo TS 3 u q.length (q.flatMap cellsP))
    (hm : ∀ (k : Nat) (u : Value) (q : List St), ms[k]? = some u → more[k]? = some q → W.ownsRow lo TS 3 u q.length (q.flatMap cellsP)) (hml : ms.length = more.length)
    (hg : W.grownBy w3 v.ownBlock) (ho3 : w3.ownsRow lo TQ 1 v' (rows.length + more.length) (us ++ ms)) : RowsQ lo TQ TS v' (rows ++ more) w3 := by
  have hul : us.length = rows.length := by have := ho.1; omega
  have kept : ∀ {u : Value} {q : List St}, W.ownsRow lo TS 3 u q.length (q.flatMap cellsP) → w3.ownsRow lo TS 3 u q.length (q.flatMap cellsP) := fun h => h.kept hg (apart_types h ho (Ne.symm hT))
  refine ⟨us ++ ms, by rw [List.length_append]; exact ho3, fun k u q hu hq => ?_⟩
  rcases Nat.lt_or_ge k rows.length with h | h
  · rw [List.getElem?_append_left (by omega)] at hu
    rw [List.getElem?_append_left h] at hq
    exact kept (hr k u q hu hq)
  · rw [List.getElem?_append_right (by omega), hul] at hu
    rw [List.getElem?_append_right h] at hq
    exact kept (hm (k - rows.length) u q hu hq)
/-- One row. -/
theorem RowsQ.one {lo TQ TS B : Nat} {u : Value} {q : List St} {W : World} (hB : W.heap.size = B) (hlo : lo ≤ B) (h : W.ownsRow lo TS 3 u q.length (q.flatMap cellsP)) : RowsQ lo TQ TS (.slice (some ⟨B, 0, none⟩) 1 1) [q] (W.alloc (.cells #[u] TQ)) := by
  subst hB
  refine ⟨[u], ⟨rfl, .inr ⟨W.heap.size, 1, #[u], rfl, hlo, World.alloc_heap_new W _, Nat.le_refl _, by unfold maxLen; omega, rfl, rfl⟩⟩, fun k x y hx hy => ?_⟩
  match k with
  | 0 =>
    injection hx with hx; injection hy with hy
    subst hx; subst hy
    exact h.alloc _
  | k + 1 => simp at hx
end Go.Pb.Sag

/- The reference's rule. -/
namespace Go.Proofs.Ytnchhleokdkejaa
open Go.RowKit Go.Pb Go.Pb.Ware Go.Pb.Sag
set_option linter.unusedVariables false
set_option linter.unusedSimpArgs false

open Go.Proofs Go.Pb.Bung
def castN (t : List Nat) : List Int := t.map fun n : Nat => (n : Int)
theorem castN_len (t : List Nat) : (castN t).length = t.length := by unfold castN; rw [List.length_map]
end Go.Proofs.Ytnchhleokdkejaa

/- Indices in an order that numbers choose. -/
namespace Go.Proofs.Ytnchhleokdkejaa
open Go.RowKit Go.Pb Go.Pb.Ware Go.Pb.Sag
set_option linter.unusedVariables false
set_option linter.unusedSimpArgs false

open Go.Proofs Go.Pb.Bung
def cellsZ (z : Int) : List Value := [.int .i64 z]
theorem lenZ (z : Int) : (cellsZ z).length = 1 := rfl
theorem flatZ (zs : List Int) : zs.flatMap cellsZ = zs.map (Value.int .i64) := by
  induction zs with
  | nil => rfl
  | cons z zs ih => rw [List.flatMap_cons, ih]; rfl
theorem numsZ_lat {w : World} {a : Addr} {cap : Nat} {zs : List Int} (h : NumsAt w (.slice (some a) zs.length cap) zs) : LAt 1 w (.slice (some a) zs.length cap) zs.length (zs.flatMap cellsZ) := by
  obtain ⟨_, _, e, h2, h3⟩ := h.shape
  injection e with _ _ e; subst e
  rw [flatZ]
  refine ⟨by rw [List.length_map, Nat.mul_one], fun u hu => (by obtain ⟨z, _, rfl⟩ := List.mem_map.1 hu; rfl), .inr ⟨a, cap, rfl, h2, h3, fun j u hu => ?_⟩⟩
  rw [List.getElem?_map] at hu
  obtain ⟨hj, hz⟩ : ∃ hj : j < zs.length, u = .int .i64 zs[j] := by
    rcases Nat.lt_or_ge j zs.length with hj | hj
    · rw [List.getElem?_eq_getElem hj] at hu; injection hu with hu; exact ⟨hj, hu.symm⟩
    · rw [List.getElem?_eq_none hj] at hu; cases hu
  obtain ⟨a', e1, e2⟩ := h.elem hj
  injection e1 with e1; subst e1; rw [hz]; exact e2
/-- A list that is read, and an own one beside it, in another block. -/
structure LO (T lo : Nat) (W : World) (lv ov : Value) (L O : List Int) : Prop where
  nums : NumsAt W lv L
  own : W.ownsRow lo T 1 ov O.length (O.map (Value.int .i64))
  apart : L ≠ [] → ∀ b, ov.ownBlock = some b → lv.ownBlock ≠ some b
theorem LO.next {T lo : Nat} {W W' : World} {lv ov : Value} {L O : List Int} (h : LO T lo W lv ov L O) (hb : Below W.heap.size W W') : LO T lo W' lv ov L O := ⟨h.nums.below hb, owns_below h.own hb, h.apart⟩
theorem block_add (a : Addr) (k : Nat) : (a.add k).block = a.block := by unfold Addr.add; split <;> rfl
theorem LO.push {T lo : Nat} {W W' : World} {lv ov ov' : Value} {L O : List Int} {z : Int} (h : LO T lo W lv ov L O) (hg : W.grownBy W' ov.ownBlock) (ho : W'.ownsRow lo T 1 ov' (O.length + 1) (O.map (Value.int .i64) ++ [.int .i64 z])) (hv : ov'.ownBlock = ov.ownBlock ∨ ov'.ownBlock = some W.heap.size) : LO T lo W' lv ov' L (O ++ [z]) := by
  refine ⟨?_, by rw [List.length_append, List.map_append]; exact ho, fun hL b hb hh => ?_⟩
  · rcases h.nums with h1 | ⟨a, cap, h1, h2, h3, h4⟩
    · exact .inl h1
    · refine .inr ⟨a, cap, h1, h2, h3, fun k z hz => ⟨hg.cell (h4 k z hz).1 ?_, (h4 k z hz).2⟩⟩
      rw [block_add]
      intro e
      have hL : L ≠ [] := by rintro rfl; simp at hz
      exact h.apart hL _ e.symm (by rw [h1]; rfl)
  · rcases hv with e | e
    · exact h.apart hL b (by rw [← e]; exact hb) hh
    · rw [e] at hb
      injection hb with hb
      rcases h.nums with ⟨_, h1⟩ | ⟨a, cap, h1, h2, h3, h4⟩
      · exact hL h1
      · rw [h1] at hh
        injection hh with hh
        obtain ⟨x, xs, rfl⟩ := List.exists_cons_of_ne_nil hL
        have h5 := World.block_lt_of_cell? W _ (h4 0 x rfl).1
        rw [block_add] at h5
        omega
theorem LO.left {T T2 lo : Nat} {W W' : World} {lv lv' ov : Value} {L L' O : List Int} {n : Nat} {cs : List Value} (h : LO T lo W lv ov L O) (hb : Below W.heap.size W W') (hn : NumsAt W' lv' L') (ho : W'.ownsRow W.heap.size T2 1 lv' n cs) : LO T lo W' lv' ov L' O := by
  refine ⟨hn, owns_below h.own hb, fun _ b hb2 hh => ?_⟩
  have h1 := (World.ownsRow.lt h.own b hb2).2
  have h2 := (World.ownsRow.lt ho b hh).1
  omega
theorem wpList_append_at {P : Program} {w : World} {ops : Array Oper} {rest : List Oper} {o : Oper} {a : Act} {Q : Exit → Act → World → Prop} (hgd : o.guard = none) (s x : Operand) (t : TypeId) (ho : o.op = .call { callee := .builtin .append, args := #[s, x], argTypes := #[t, t] })
    (base : Nat) (e : TypeId) (i : TypeInfo) (z : Value) (size bytes : Nat) (ht : P.underlying t = some (.slice e)) (hi : P.info? e = some i) (hz : i.zero = some z) (hsize : i.size = size) (hby : i.bytes = bytes) (hzs : z.cells.size = size) (hsz : 0 < size)
    (v : Value) (n : Nat) (xs : List Value) (hs : a.eval s = v) (hown : w.ownsRow base e size v n xs) (ad : Addr) (m c : Nat) (news : List Value) (hx : a.eval x = .slice (some ad) m c) (hl : news.length = m * size) (hnews : ∀ j u, news[j]? = some u → w.cell? (ad.add j) = some u) (h1 : ∀ u ∈ news, u.oneCell' = true)
    (h63 : n + m ≤ maxLen) (hbytes : (n + m) * bytes ≤ 140737488355328) (hbase : base ≤ w.heap.size)
    (h : ∀ v' w', w'.ownsRow base e size v' (n + m) (xs ++ news) → w.grownBy w' v.ownBlock → (v'.ownBlock = v.ownBlock ∨ v'.ownBlock = some w.heap.size) → wpList P ops Q rest (a.put o.dst v') w') : wpList P ops Q (o :: rest) a w := by
  refine wpList_plain hgd fun K hK => ?_
  obtain ⟨v', w', hr, h2, h3, _, h5⟩ := run_append_own_at (P := P) w base t o.type e i z size bytes ht hi hz hsize hby hzs hsz v n xs hown ad m c news hl hnews h1 h63 hbytes hbase
  unfold Oper.wp execOp
  simp only [ho, resolve, invoke, builtin, Sem.run_bind, Sem.run_pure, Result.andThen_ok, List.map_toArray, List.map_cons, List.map_nil, hs, hx, hr]
  exact hK _ _ (h v' w' h2 h3 h5)
theorem perm_take {L : List Int} {c : Nat} (hc : c < L.length) : (L[c] :: L.eraseIdx c).Perm L := by
  rw [List.eraseIdx_eq_take_drop_succ]
  have h1 : L = L.take c ++ L[c] :: L.drop (c + 1) := by rw [← List.drop_eq_getElem_cons hc, List.take_append_drop]
  exact (List.perm_middle (l₁ := L.take c) (l₂ := L.drop (c + 1)) (a := L[c])).symm.trans (by rw [← h1])
theorem perm_step {L O X : List Int} {c : Nat} {x : Int} (h : (O ++ L).Perm X) (hc : c < L.length) (hx : L[c] = x) : ((O ++ [x]) ++ L.eraseIdx c).Perm X := by
  subst hx
  rw [List.append_assoc]
  exact ((perm_take hc).append_left O).trans h
theorem castN_snoc (k : Nat) : castN (List.range (k + 1)) = castN (List.range k) ++ [(k : Int)] := by unfold castN; rw [List.range_succ, List.map_append]; rfl
theorem range_in {n : Nat} {z : Int} (h : z ∈ castN (List.range n)) : 0 ≤ z ∧ z < (n : Int) := by
  unfold castN at h
  obtain ⟨i, hi, rfl⟩ := List.mem_map.1 h
  have := List.mem_range.1 hi
  omega
theorem range_apart (n : Nat) : (castN (List.range n)).Pairwise (· ≠ ·) := by
  unfold castN
  rw [List.pairwise_map]
  exact List.Pairwise.imp (fun {a b} h e => by have e2 : (a : Int) = (b : Int) := e; omega) (List.pairwise_lt_range (n := n))
theorem new_cellsZ (w : World) (z : Int) (ty n : Nat) (hn : w.heap.size = n) : ∀ j u, ([.int .i64 z] : List Value)[j]? = some u → (w.alloc (.cells #[.int .i64 z] ty)).cell? ((⟨n, 0, none⟩ : Addr).add j) = some u := by
  subst hn
  intro j u h
  match j, h with
  | 0, h => simp at h; subst h; simp [Addr.add, go_sem]
  | j + 1, h => simp at h

set_option maxRecDepth 100000 in
set_option maxHeartbeats 1000000 in
theorem rShuf_any {w : World} {v : Value} {zs : List Int} {n : Nat} (hp : NumsAt w v zs) (hn : n ≤ 30) :
    Calls Try.prog 71 #[.int .i64 (n : Int), v] w (fun e w' => ∃ (u : Value) (O : List Int), e = .returned u ∧ Below w.heap.size w w' ∧ O.Perm (castN (List.range n)) ∧ w'.ownsRow w.heap.size 3 1 u O.length (O.map (Value.int .i64))) := by
  obtain ⟨i1, hj, hy0, hy1, hy2⟩ := info_parts Try.infoIn
  obtain ⟨pa, pc, rfl, hp1, hp2⟩ := hp.shape
  have hpi : ∀ z ∈ zs, I64 z := hp.i64
  obtain ⟨m, hm⟩ : ∃ m, zs.length = m := ⟨_, rfl⟩
  have HM : Hid (zs.length = m) := hm
  have HPI : Hid (∀ z ∈ zs, I64 z) := hpi
  rw [hm] at hp hp1 ⊢
  clear hm hpi
  go_enter Try.func71, Try.ntmps71
  go_wp2_with fail
  go_loopg [5, 6] n (fun gk lv iv wr => ∃ k : Nat, k ≤ n ∧ gk = n - k ∧ iv = .int .i64 k ∧ wr.ownsRow w.heap.size 3 1 lv k ((castN (List.range k)).map (Value.int .i64)) ∧ Below w.heap.size w wr)
  case atStart => exact ⟨0, Nat.zero_le _, rfl, rfl, World.ownsRow_nil _ _ _ _, Below.refl _ _⟩
  case round =>
    obtain ⟨k, hk, hgk, rfl, ho, hB⟩ := hrel
    have HGK := hid hgk; clear hgk
    have hzr := hB.size
    obtain ⟨ua, uc, rfl, hul⟩ := owns_shape ho
    by_cases hlt : k < n
    · have hki : (k : Int) < (n : Int) := by omega
      go_wp2_with (at_builtin; go_must (refine wpList_append_own _ rfl _ _ 41 rfl w.heap.size 3 i1 (.int .i64 0) 1 8 Try.underlying41 hj hy0 hy1 hy2 rfl (by decide) _ _ _ rfl (ho.alloc _) ⟨wr.heap.size, 0, none⟩ 1 1 [.int .i64 (k : Int)] rfl rfl (new_cellsZ wr _ _ _ rfl) (fun u hu => by simp only [List.mem_cons, List.not_mem_nil, or_false] at hu; rcases hu with rfl; rfl) (by unfold maxLen; omega) (by omega) (by simp; omega) ?_; intro v' w4 ho4 hg4 hnil; replace hB := Pb.below_grown (hB.alloc (by omega) _) hg4 (ho.alloc _) (by simp; omega) (by omega); clear hg4 hnil ho))
      go_roundg (n - (k + 1))
      case measure => have h := HGK.out; omega
      case rel => exact ⟨k + 1, by omega, rfl, by go_num, by rw [castN_snoc, List.map_append]; exact ho4, hB⟩
    · obtain rfl : k = n := by omega
      clear HGK
      have hLO : LO 3 w.heap.size wr (.slice ua k uc) (.slice none 0 0) (castN (List.range k)) [] := ⟨numsAt_of_owns (fun z hz => by have := range_in hz; exact I64.mk (by omega) (by omega)) (by rw [castN_len, List.length_range]; exact ho), World.ownsRow_nil _ _ _ _, fun _ b h => by cases h⟩
      clear ho
      go_wp2_with fail
      go_loopg [5, 7, 8] k (fun gk lv ov iv wr => ∃ (j : Nat) (L O : List Int), j ≤ k ∧ gk = k - j ∧ iv = .int .i64 j ∧ O.length = j ∧ L.length + j = k ∧ Hid ((O ++ L).Perm (castN (List.range k))) ∧ LO 3 w.heap.size wr lv ov L O ∧ Below w.heap.size w wr)
      case atStart => exact ⟨0, _, [], Nat.zero_le _, rfl, rfl, rfl, by simp [castN], hid (List.Perm.refl _), hLO, hB⟩
      case round =>
        clear hLO hB hzr
        obtain ⟨j, L, O, hj2, hgj, rfl, hO, hL, HP, hLO, hB⟩ := hrel
        have HGJ := hid hgj; clear hgj
        obtain ⟨la, lc, rfl, hl1, hl2⟩ := hLO.nums.shape
        obtain ⟨oa, oc, rfl, -⟩ := owns_shape hLO.own
        obtain ⟨N, hN⟩ : ∃ N, L.length = N := ⟨_, rfl⟩
        have HN : Hid (L.length = N) := hN
        have HO : Hid (O.length = j) := hO
        rw [hN] at hLO hL hl1 ⊢
        rw [hO] at hLO ⊢
        clear hN hO
        have hzr := hB.size
        by_cases hlt : j < k
        · have hji : (j : Int) < (k : Int) := by omega
          have hN1 : 1 ≤ N := by omega
          go_upto_if 26 with fail
          go_cut [9] from 19 to 53 (fun kv wc => ∃ c : Nat, kv = .int .i64 c ∧ c < N ∧ wc = wr)
          case first =>
            by_cases hm0 : m = 0
            · have hmb : ¬ (0 : Int) < (m : Int) := by omega
              have HM0 := hid hm0; clear hm0
              go_wp2_with fail
              go_meet
              exact ⟨0, rfl, by omega, rfl⟩
            · have hmb : (0 : Int) < (m : Int) := by omega
              obtain ⟨q, hq⟩ : ∃ q, j % m = q := ⟨_, rfl⟩
              have hqm : q < m := by subst hq; exact Nat.mod_lt _ (by omega)
              obtain ⟨p', hpa, r0⟩ := (show NumsAt wr (.slice pa zs.length pc) zs by rw [HM.out]; exact hp.below hB).elem (k := q) (by rw [HM.out]; exact hqm)
              subst hpa
              obtain ⟨z, hz⟩ : ∃ z, zs[q]'(by rw [HM.out]; exact hqm) = z := ⟨_, rfl⟩
              rw [hz] at r0
              clear hz
              have hqi : (q : Int) < (m : Int) := by omega
              have hq0 : (0 : Int) ≤ (q : Int) := by omega
              have hmod : IntKind.i64.wrap ((j : Int).tmod (m : Int)) = (q : Int) := by rw [Int.tmod_eq_emod_of_nonneg (by omega), ← Int.natCast_emod, hq]; exact IntWalk.i64_in _ (by omega)
              have hmod2 : ((j : Int).tmod (m : Int)) = (q : Int) := by rw [Int.tmod_eq_emod_of_nonneg (by omega), ← Int.natCast_emod, hq]
              have hnz : ¬ (m : Int) = 0 := by omega
              have hnb : ((m : Int) == 0) = false := beq_eq_false_iff_ne.mpr (by omega)
              clear hq
              obtain ⟨c, hc⟩ : ∃ c : Int, z % (N : Int) = c := ⟨_, rfl⟩
              have hcb := mod_in hc (by omega)
              have HC : Hid _ := hid hc; clear hc
              obtain ⟨d, rfl⟩ : ∃ d : Nat, c = (d : Int) := ⟨c.toNat, by omega⟩
              go_wp2_with fail
              refine (modB HC.out (by omega) (by omega)).mono ?_
              rintro e wm ⟨rfl, rfl⟩
              go_wp2_with fail
              go_meet
              exact ⟨d, rfl, by omega, rfl⟩
          case rest =>
            obtain ⟨c, rfl, hcN, rfl⟩ := hcut
            obtain ⟨wr, hwr⟩ : ∃ v, v = wc := ⟨_, rfl⟩
            subst hwr
            obtain ⟨a', ha, r0⟩ := (show NumsAt wr (.slice la L.length lc) L by rw [HN.out]; exact hLO.nums).elem (k := c) (by rw [HN.out]; exact hcN)
            subst ha
            obtain ⟨x, hx⟩ : ∃ x, L[c]'(by rw [HN.out]; exact hcN) = x := ⟨_, rfl⟩
            rw [hx] at r0
            have HS : Hid (((O ++ [x]) ++ L.eraseIdx c).Perm (castN (List.range k))) := hid (perm_step HP.out (by rw [HN.out]; exact hcN) hx)
            clear hx
            have hci : (c : Int) < (N : Int) := by omega
            have hc0 : (0 : Int) ≤ (c : Int) := by omega
            go_upto_region 14 with (at_builtin; go_must (refine wpList_append_at rfl _ _ 41 rfl w.heap.size 3 i1 (.int .i64 0) 1 8 Try.underlying41 hj hy0 hy1 hy2 rfl (by decide) (.slice oa j oc) j _ rfl (by have h := (hLO.next (W' := wr.alloc (.cells #[.int .i64 x] 3)) ((Below.refl _ _).alloc (Nat.le_refl _) _)).own; rw [HO.out] at h; exact h) ⟨wr.heap.size, 0, none⟩ 1 1 [.int .i64 x] rfl rfl (new_cellsZ wr _ _ _ rfl) (fun u hu => by simp only [List.mem_cons, List.not_mem_nil, or_false] at hu; rcases hu with rfl; rfl) (by unfold maxLen; omega) (by omega) (by simp; omega) ?_; intro v' v4 ho4 hg4 hat4; have hB4 := Pb.below_grown (hB.alloc (by omega) _) hg4 (by have h := (hLO.next (W' := wr.alloc (.cells #[.int .i64 x] 3)) ((Below.refl _ _).alloc (Nat.le_refl _) _)).own; rw [HO.out] at h; exact h) (by simp; omega) (by omega); have hLO4 := LO.push (z := x) (hLO.next (W' := wr.alloc (.cells #[.int .i64 x] 3)) ((Below.refl _ _).alloc (Nat.le_refl _) _)) hg4 (by rw [HO.out]; exact ho4) hat4; obtain ⟨xo, xoc, rfl, -⟩ := owns_shape ho4; clear hg4 hat4 ho4 hLO hB))
            have hlat : LAt 1 v4 (.slice (some a') N lc) N (L.flatMap cellsZ) := by have h := numsZ_lat (show NumsAt v4 (.slice (some a') L.length lc) L by rw [HN.out]; exact hLO4.nums); rwa [HN.out] at h
            have hle : c + (N - (c + 1)) = (L.eraseIdx c).length := by rw [List.length_eraseIdx_of_lt (by rw [HN.out]; exact hcN), HN.out]; omega
            have hfe := flat_erase lenZ L c
            have HLE := hid hle; have HFE := hid hfe
            have HLI : Hid (∀ z ∈ L.eraseIdx c, I64 z) := hid fun z hz => hLO4.nums.i64 z (List.mem_of_mem_eraseIdx hz)
            clear hle hfe r0
            obtain ⟨ad, had⟩ : ∃ ad, (if lc = c + 1 then some a' else some (a'.add ((c + 1) * 1))) = some ad := by split <;> exact ⟨_, rfl⟩
            have hlt0 : LAt 1 v4 (.slice (some a') N lc) N (L.flatMap cellsZ) := hlat
            have hcap : N ≤ lc ∧ lc ≤ 9223372036854775807 := by obtain ⟨_, _, e, x, y, _⟩ := hlt0.shape; injection e with _ _ e3; subst e3; exact ⟨x, y⟩
            have hc3 : (c : Int) ≤ (lc : Int) := by omega
            have hc4 : ((c : Int) + 1) ≤ (lc : Int) := by omega
            have hs1 := hlt0.head (k := c) (by omega)
            have hs2 := hlt0.tail (k := c + 1) (q := ad) (by omega) (fun hlt => by rw [if_neg (by omega)] at had; injection had with had; exact had.symm)
            have HS1 := hid hs1; have HS2 := hid hs2; clear hs1 hs2 hlt0
            have had1 : (if lc = c + 1 then some a' else some (⟨a'.block, a'.off + (c + 1), none⟩ : Addr)) = some ad := by rw [← had]; split <;> simp [Addr.add]
            refine wp_region_F [5, 6, 7, 8] (by kernel_rfl) [(0, NewEmpty v4.heap.size 3), (4, fun v W9 => W9.ownsRow v4.heap.size 3 1 v c ((L.flatMap cellsZ).take (c * 1)))] [0, 1, 2, 3, 4] 2 (by kernel_rfl) rfl (by simp only [List.forall_mem_cons]; exact ⟨keeps_empty, keeps_owns, fun _ h => by cases h⟩) (by kernel_rfl) ?_
            refine ⟨_, _, rfl, .inl ⟨rfl, fun w => rfl⟩, ?_⟩
            refine ⟨_, _, rfl, .inl ⟨rfl, fun w => rfl⟩, ?_⟩
            refine ⟨_, .int .i64 ((c : Int) + 1), rfl, .inl ⟨rfl, fun w => by go_simp; exact IntWalk.i64_in _ (by omega)⟩, ?_⟩
            refine ⟨_, .slice (some ad) (N - (c + 1)) (lc - (c + 1)), rfl, .inl ⟨rfl, fun w => by go_simp; intro h; exfalso; have := h (by omega); omega⟩, ?_⟩
            show wpS _ _ _ _ _ _ _ (numbered _ _) _ _
            (try simp only [Act.put, List.getElem_toArray, List.getElem_cons_succ, List.getElem_cons_zero, List.setIfInBounds_toArray, List.set_cons_succ, List.set_cons_zero])
            simp only [numbered, List.filterMap_cons, List.filterMap_nil, List.getElem?_toArray, List.getElem?_cons_succ, List.getElem?_cons_zero, Option.map_some]
            show wpS _ _ _ _ _ _ _ [(_, _), (_, _), (_, _), (_, _), (_, _)] _ _
            refine wpS_fresh rfl rfl (fun w' hb hF => ?_) ?_
            · change freshAt _ _ _ (NewEmpty v4.heap.size 3) _; unfold freshAt; go_simp; exact empty_of hb
            intro v W hv; simp only [pOf, List.lookup_cons, Nat.reduceBEq, beq_self_eq_true] at hv; have hv0 := hv; obtain ⟨B0, hB0, rfl, -⟩ := hv
            simp only [Act.put, List.setIfInBounds_toArray, List.set_cons_succ, List.set_cons_zero]
            (refine wpS_quiet rfl rfl ?_; intro K hK inst hx; go_big_quiet_op; (first | go_big_quiet_on | (refine ⟨_, fun _ => rfl, ?_⟩; go_big_quiet_on)); clear hx inst)
            (refine wpS_quiet rfl rfl ?_; intro K hK inst hx; go_big_quiet_op; (first | go_big_quiet_on | (refine ⟨_, fun _ => rfl, ?_⟩; go_big_quiet_on)); clear hx inst)
            (refine wpS_quiet rfl rfl ?_; intro K hK inst hx; go_big_quiet_op; (first | go_big_quiet_on | (refine ⟨_, fun _ => rfl, ?_⟩; go_big_quiet_on)); clear hx inst)
            refine wpS_fresh rfl rfl (fun w' hb hF => ?_) ?_
            · change freshAt _ _ _ (fun v W9 => W9.ownsRow v4.heap.size 3 1 v c ((L.flatMap cellsZ).take (c * 1))) _; have h0 : NewEmpty v4.heap.size 3 _ w' := hF 0 _ rfl (by kernel_rfl); exact fresh_append (.tmp 44) (.tmp 47) 41 rfl v4.heap.size 3 i1 (.int .i64 0) 1 8 Try.underlying41 hj hy0 hy1 hy2 rfl (by decide) (.slice (some ⟨B0, 0, none⟩) 0 0) rfl h0 a' c lc _ rfl HS1.out.len (fun j u h => bkeep hb (HS1.out.cells j u h)) HS1.out.one (by unfold maxLen; omega) (by omega) hb.size
            intro v W hv; simp only [pOf, List.lookup_cons, Nat.reduceBEq, beq_self_eq_true] at hv; obtain ⟨ga, gc, rfl, -⟩ := owns_shape hv
            simp only [Act.put, List.setIfInBounds_toArray, List.set_cons_succ, List.set_cons_zero]
            refine wpS_nil ?_
            intro w2 hall
            have hb := hall.1
            have h4 : w2.ownsRow v4.heap.size 3 1 _ c ((L.flatMap cellsZ).take (c * 1)) := hall.2 4 _ rfl
            clear hall
            refine wpAny_ready (rs := [9]) (by kernel_rfl) (by simp) ?_
            refine AllReady.cons rfl (fun K hK => ?_) AllReady.nil
            refine (if_pos (show Region.wanted _ _ = true from rfl)).mpr ?_
            refine wp_append_own w2 (.tmp 48) (.tmp 52) 41 rfl v4.heap.size 3 i1 (.int .i64 0) 1 8 Try.underlying41 hj hy0 hy1 hy2 rfl (by decide) (.slice ga c gc) c _ rfl h4 ad (N - (c + 1)) (lc - (c + 1)) ((L.flatMap cellsZ).drop ((c + 1) * 1)) rfl HS2.out.len (fun j u h => bkeep hb (HS2.out.cells j u h)) HS2.out.one (by unfold maxLen; omega) (by omega) hb.size ?_
            intro v52 w3 ho3 hg3 hnil3
            refine hK _ _ ?_
            clear hK K hnil3
            obtain ⟨xa, xc, rfl, -⟩ := owns_shape ho3
            have hb3 : Below v4.heap.size v4 w3 := Pb.below_grown hb hg3 h4 hb.size (Nat.le_refl _)
            clear hb hg3 h4 HS1 HS2
            refine wpAny_ready (rs := [10]) (by kernel_rfl) (by simp) ?_
            refine AllReady.cons rfl (fun K hK => ?_) AllReady.nil
            go_simp
            refine hK _ _ ?_; clear hK K
            refine wpAny_done (by kernel_rfl) ?_ _
            refine ⟨rfl, ?_⟩
            have ho9 := ho3
            rw [HFE.out, HLE.out, flatZ] at ho9
            have hn3 : NumsAt w3 (.slice xa (L.eraseIdx c).length xc) (L.eraseIdx c) := numsAt_of_owns HLI.out ho9
            have hLO3 := hLO4.left hb3 hn3 ho9
            have hB3 := bnext (w := w) hB4 hb3
            have hEL : (L.eraseIdx c).length + (j + 1) = k := by rw [← HLE.out]; omega
            rw [HLE.out]
            clear hLO4 hn3 ho3 ho9 hb3 hB4
            go_wp2_with fail
            go_roundg (k - (j + 1))
            case measure => have h := HGJ.out; omega
            case rel => exact ⟨j + 1, L.eraseIdx c, O ++ [x], by omega, rfl, by go_num, by rw [List.length_append, HO.out]; rfl, hEL, HS, hLO3, hB3⟩
        · obtain rfl : j = k := by omega
          have hL0 : L = [] := List.length_eq_zero_iff.1 (by rw [HN.out]; omega)
          have hP := HP.out
          rw [hL0, List.append_nil] at hP
          have HPP := hid hP; clear hP hL0
          have ho9 : wr.ownsRow w.heap.size 3 1 (.slice oa j oc) O.length (O.map (Value.int .i64)) := hLO.own
          have hjj : ¬ (j : Int) < (j : Int) := by omega
          go_wp2_with fail
          go_ret
          exact ⟨_, rfl, hB, O, HPP.out, ho9⟩

end Go.Proofs.Ytnchhleokdkejaa

/- A map that remembers what lists answer, by plain maths. -/
namespace Go.Pb.Bung
open Go Go.Pb Go.Pb.Ware Go.RowKit Go.Maps
set_option linter.unusedVariables false
set_option linter.unusedSimpArgs false
def bitsOf (g : List Int) : List Bool := (List.range 9).map fun i : Nat => decide ((i : Int) ∈ g)
def listOf (bs : List Bool) : List Int := ((List.range 9).filter fun i => bs.getD i false).map fun i : Nat => (i : Int)
def keyV (bs : List Bool) : Value := .agg (bs.map Value.bool).toArray
theorem bitsOf_length (g : List Int) : (bitsOf g).length = 9 := by unfold bitsOf; simp
theorem rise_ext : ∀ {l m : List Int}, l.Pairwise (· < ·) → m.Pairwise (· < ·) → (∀ z, z ∈ l ↔ z ∈ m) → l = m := by
  intro l m hl hm h
  refine List.Perm.eq_of_pairwise (le := (· < ·)) (fun a b _ _ h1 h2 => by omega) hl hm ?_
  rw [List.perm_ext_iff_of_nodup (hl.imp fun {a b} h e => by omega) (hm.imp fun {a b} h e => by omega)]
  exact h
theorem list_bits {g : List Int} (h : g.Pairwise (· < ·)) (hz : ∀ z ∈ g, 0 ≤ z ∧ z < 9) : listOf (bitsOf g) = g := by
  refine rise_ext ?_ h fun z => ?_
  · unfold listOf
    rw [List.pairwise_map]
    have h1 : (List.range 9).Pairwise (· < ·) := List.pairwise_lt_range
    exact (h1.filter _).imp fun {a b} hab => by omega
  · unfold listOf
    rw [List.mem_map]
    constructor
    · rintro ⟨i, hi, rfl⟩
      obtain ⟨h1, h2⟩ := List.mem_filter.1 hi
      have h3 := List.mem_range.1 h1
      unfold bitsOf at h2
      rw [List.getD_eq_getElem?_getD, List.getElem?_map, List.getElem?_range h3] at h2
      simpa using h2
    · intro hg
      have h1 := hz z hg
      refine ⟨z.toNat, List.mem_filter.2 ⟨List.mem_range.2 (by omega), ?_⟩, by omega⟩
      unfold bitsOf
      rw [List.getD_eq_getElem?_getD, List.getElem?_map, List.getElem?_range (by omega)]
      have h2 : ((z.toNat : Nat) : Int) = z := by omega
      simp [h2, hg]
def allB : Nat → List (List Bool)
  | 0 => [[]]
  | k + 1 => (allB k).map (false :: ·) ++ (allB k).map (true :: ·)
theorem mem_allB : ∀ {k : Nat} {b : List Bool}, b.length = k → b ∈ allB k
  | 0, b, h => by rw [List.length_eq_zero_iff] at h; subst h; simp [allB]
  | k + 1, [], h => by simp at h
  | k + 1, x :: b, h => by
    have h1 := mem_allB (k := k) (b := b) (by simpa using h)
    rw [allB, List.mem_append, List.mem_map, List.mem_map]
    cases x
    · exact .inl ⟨b, h1, rfl⟩
    · exact .inr ⟨b, h1, rfl⟩
theorem length_allB : ∀ k, (allB k).length = 2 ^ k
  | 0 => rfl
  | k + 1 => by rw [allB, List.length_append, List.length_map, List.length_map, length_allB k]; omega
theorem few_bits {ks : List (List Bool)} (hn : ks.Nodup) (h : ∀ b ∈ ks, b.length = 9) : ks.length ≤ 512 := by
  have h1 := hn.length_le_of_subset (l₂ := allB 9) (fun b hb => mem_allB (h b hb))
  rwa [length_allB] at h1
/-- What the map in block M remembers. -/
def MapQ (P : Program) (K E : TypeId) (M : Nat) (does : List Int → Bool) (W : World) : Prop := ∃ (ks : List (List Bool)) (D : DataW Unit), W.ownsMap P K (plainElem P E) M ks.length D ∧ ks.Nodup ∧ (∀ b ∈ ks, b.length = 9) ∧
  ∀ bs kl, bs.length = 9 → keyOf P K (keyV bs) = some kl → has D kl = decide (bs ∈ ks) ∧ (bs ∈ ks → D.atKey kl (.lit (.bool false)) = .lit (.bool (does (listOf bs))))
theorem MapQ.start (P : Program) (K E : TypeId) (does : List Int → Bool) (W : World) : MapQ P K E W.heap.size does (W.alloc (.map #[] 0)) :=
  ⟨[], .map [], World.ownsMap_made _ _ _ _, List.nodup_nil, fun b hb => by simp at hb, fun bs kl _ _ => ⟨rfl, fun h => by simp at h⟩⟩
theorem keyV_inj {a b : List Bool} (h : keyV a = keyV b) : a = b := by
  unfold keyV at h
  injection h with h
  have h1 : a.map Value.bool = b.map Value.bool := by simpa using congrArg Array.toList h
  exact List.map_inj_right (f := Value.bool) (fun x y e => by injection e) |>.1 h1
theorem MapQ.put {P : Program} {K E : TypeId} {M : Nat} {does : List Int → Bool} {W W' : World} {ks : List (List Bool)} {D : DataW Unit} (KL : Keyed P K) (ho : W.ownsMap P K (plainElem P E) M ks.length D) (hn : ks.Nodup) (h9 : ∀ b ∈ ks, b.length = 9)
    (hk : ∀ bs kl, bs.length = 9 → keyOf P K (keyV bs) = some kl → has D kl = decide (bs ∈ ks) ∧ (bs ∈ ks → D.atKey kl (.lit (.bool false)) = .lit (.bool (does (listOf bs)))))
    {bs : List Bool} {kl : Lit} {b : Bool} (hb : bs.length = 9) (hkey : keyOf P K (keyV bs) = some kl) (hno : ¬ bs ∈ ks) (hd : does (listOf bs) = b) (ho' : W'.ownsMap P K (plainElem P E) M (ks.length + 1) (D.put kl (.lit (.bool b)))) : MapQ P K E M does W' := by
  have hm := (ho.tidy KL).isMap
  have hik := KL.key hkey
  refine ⟨bs :: ks, _, ho', List.nodup_cons.2 ⟨hno, hn⟩, fun c hc => ?_, fun cs cl hc hcl => ?_⟩
  · rcases List.mem_cons.1 hc with rfl | hc
    · exact hb
    · exact h9 c hc
  · obtain ⟨h1, h2⟩ := hk cs cl hc hcl
    by_cases e : cs = bs
    · subst e
      have : cl = kl := by rw [hkey] at hcl; injection hcl with hcl; exact hcl.symm
      subst this
      refine ⟨?_, fun _ => ?_⟩
      · rw [has_put_same hm hik]; simp
      · rw [atKey_put_same hm hik, hd]
    · have hne : cl ≠ kl := fun e2 => e (keyV_inj (KL.inj (e2 ▸ hcl) hkey))
      refine ⟨?_, fun hin => ?_⟩
      · rw [has_put_other hne, h1]; simp [e]
      · rw [atKey_put_other hne]
        rcases List.mem_cons.1 hin with h3 | h3
        · exact absurd h3 e
        · exact h2 h3
theorem ownsMap_block {P : Program} {K : TypeId} {R : Value → Option (DataW Unit × List MemPlace)} {W W' : World} {M n : Nat} {D : DataW Unit} (h : W.ownsMap P K R M n D) (hb : W'.heap[M]? = W.heap[M]?) : W'.ownsMap P K R M n D := by
  obtain ⟨es, clock, h1, h2, h3, h4⟩ := h
  exact ⟨es, clock, hb.trans h1, h2, h3, h4⟩
theorem MapQ.low {P : Program} {K E : TypeId} {M n0 : Nat} {does : List Int → Bool} {W W' : World} (h : MapQ P K E M does W) (hb : Below n0 W W') (hM : M < n0) : MapQ P K E M does W' := by
  obtain ⟨ks, D, h1, h2⟩ := h
  exact ⟨ks, D, ownsMap_block h1 (hb.block M hM), h2⟩
theorem MapQ.lt {P : Program} {K E : TypeId} {M : Nat} {does : List Int → Bool} {W : World} (h : MapQ P K E M does W) : M < W.heap.size := by
  obtain ⟨ks, D, h1, _⟩ := h
  exact h1.lt
theorem MapQ.below {P : Program} {K E : TypeId} {M : Nat} {does : List Int → Bool} {W W' : World} (h : MapQ P K E M does W) (hb : Below W.heap.size W W') : MapQ P K E M does W' := h.low hb h.lt
theorem plainElem_bool_inv {P : Program} {e : TypeId} (he : P.underlying e = some .bool) {v : Value} {z : DataW Unit × List MemPlace} (h : plainElem P e v = some z) : ∃ x, v = .bool x ∧ z = (.lit (.bool x), []) := by
  unfold plainElem at h
  rw [he] at h
  cases v <;> simp at h
  exact ⟨_, rfl, h.symm⟩
end Go.Pb.Bung

/- Whether saggars do at a spot, and what remembers it. -/
namespace Go.Proofs.Ytnchhleokdkejaa
open Go.RowKit Go.Pb Go.Pb.Ware Go.Pb.Sag
set_option linter.unusedVariables false
set_option linter.unusedSimpArgs false

open Go.Proofs Go.Pb.Bung
def doesB (lo hi : Int) (l : List Sg) (cr le : Int) (g : List Int) : Bool := decide (fitA lo hi (ruledL (chosenG l g)) cr le = 1)

set_option maxRecDepth 100000 in
set_option maxHeartbeats 1000000 in
theorem does_any {w : World} {v u : Value} {l : List Sg} {g : List Int} {lo hi cr le : Int} (h : RowsAt 8 w v (l.map rowG)) (hk : listOk l = true) (h1 : 0 ≤ lo ∧ lo ≤ 200) (h2 : 0 ≤ hi ∧ hi ≤ 200) (hu : NumsAt w u g) (hz : ∀ z ∈ g, 0 ≤ z ∧ z < (l.length : Int)) (hd : g.Pairwise (· ≠ ·)) (hgn : g.length ≤ 30) :
    Calls Try.prog 118 #[.agg #[.int .i64 lo, .int .i64 hi, v, .int .i64 cr, .int .i64 le], u] w (Ret w (.bool (doesB lo hi l cr le g))) := by
  unfold Ret
  obtain ⟨ua, uc, rfl, hul, huc⟩ := hu.shape
  obtain ⟨a, cap, rfl, hll⟩ := h.shape
  rw [List.length_map] at h hll ⊢
  have hl := (listOk_iff.1 hk).1
  have hkc := listOk_chosen hk hz hd hgn
  have hi1 := i64_chosen (zs := g) (i64_rows h)
  obtain ⟨b, hb9⟩ : ∃ b, doesB lo hi l cr le g = b := ⟨_, rfl⟩
  obtain ⟨r, hr⟩ : ∃ r, fitA lo hi (ruledL (chosenG l g)) cr le = r := ⟨_, rfl⟩
  have hbr : b = decide (r = 1) := by rw [← hb9, ← hr]; rfl
  rw [hb9]
  obtain ⟨n, hn⟩ : ∃ n, l.length = n := ⟨_, rfl⟩
  have HN : Hid (l.length = n) := hn
  have HR : Hid (fitA lo hi (ruledL (chosenG l g)) cr le = r) := hr
  rw [hn] at h hll hl hz ⊢
  clear hn hr hb9
  go_enter Try.func118, Try.ntmps118
  go_wp2_with fail
  refine (chosenG_any (h.below (by go_grown)) (by rw [HN.out]; omega) (hu.below (by go_grown)) (by omega) (by rw [HN.out]; exact hz)).mono ?_
  unfold NewSgs
  rintro e w1 ⟨x, rfl, hb, ho⟩
  replace hb0 := bnext (w := w) (by go_grown) hb; have hz := hb.size; (try simp only [World.size_alloc, World.size_setCell] at hz); replace q0 : w1.cell? ⟨w.heap.size, 0, none⟩ = some (.int .i64 lo) := bkeep hb (by first | (with_reducible exact q0) | (with_reducible exact akeep q0) | simp [*, go_sem]); replace q1 : w1.cell? ⟨w.heap.size, 1, none⟩ = some (.int .i64 hi) := bkeep hb (by first | (with_reducible exact q1) | (with_reducible exact akeep q1) | simp [*, go_sem]); replace q2 : w1.cell? ⟨w.heap.size, 2, none⟩ = some (.slice a n cap) := bkeep hb (by first | (with_reducible exact q2) | (with_reducible exact akeep q2) | simp [*, go_sem]); replace q3 : w1.cell? ⟨w.heap.size, 3, none⟩ = some (.int .i64 cr) := bkeep hb (by first | (with_reducible exact q3) | (with_reducible exact akeep q3) | simp [*, go_sem]); replace q4 : w1.cell? ⟨w.heap.size, 4, none⟩ = some (.int .i64 le) := bkeep hb (by first | (with_reducible exact q4) | (with_reducible exact akeep q4) | simp [*, go_sem]); clear hb
  have hr1 := rows_of_owns ho hi1
  clear ho
  go_wp2_with fail
  refine (ruled_any hr1 hkc).mono ?_
  unfold NewSgs
  rintro e w1 ⟨y, rfl, hb, ho⟩
  obtain ⟨ya, yc, rfl, -⟩ := owns_shape ho
  replace hb0 := bnext (w := w) (by go_grown) hb; have hz := hb.size; (try simp only [World.size_alloc, World.size_setCell] at hz); replace q0 : w1.cell? ⟨w.heap.size, 0, none⟩ = some (.int .i64 lo) := bkeep hb (by first | (with_reducible exact q0) | (with_reducible exact akeep q0) | simp [*, go_sem]); replace q1 : w1.cell? ⟨w.heap.size, 1, none⟩ = some (.int .i64 hi) := bkeep hb (by first | (with_reducible exact q1) | (with_reducible exact akeep q1) | simp [*, go_sem]); replace q2 : w1.cell? ⟨w.heap.size, 2, none⟩ = some (.slice a n cap) := bkeep hb (by first | (with_reducible exact q2) | (with_reducible exact akeep q2) | simp [*, go_sem]); replace q3 : w1.cell? ⟨w.heap.size, 3, none⟩ = some (.int .i64 cr) := bkeep hb (by first | (with_reducible exact q3) | (with_reducible exact akeep q3) | simp [*, go_sem]); replace q4 : w1.cell? ⟨w.heap.size, 4, none⟩ = some (.int .i64 le) := bkeep hb (by first | (with_reducible exact q4) | (with_reducible exact akeep q4) | simp [*, go_sem]); clear hb
  have hr2 := rows_of_owns ho (i64_chosen (zs := ruleL (chosenG l g)) (i64_rows hr1))
  clear ho hr1
  have hkr := listOk_ruled hkc
  go_wp2_with fail
  refine (fits_any hr2 (listOk_iff.1 hkr).1 hkr h1 h2 HR.out).mono ?_
  rintro e w1 ⟨rfl, hb⟩
  replace hb0 := bnext (w := w) (by go_grown) hb; have hz := hb.size; (try simp only [World.size_alloc, World.size_setCell] at hz); replace q0 : w1.cell? ⟨w.heap.size, 0, none⟩ = some (.int .i64 lo) := bkeep hb (by first | (with_reducible exact q0) | (with_reducible exact akeep q0) | simp [*, go_sem]); replace q1 : w1.cell? ⟨w.heap.size, 1, none⟩ = some (.int .i64 hi) := bkeep hb (by first | (with_reducible exact q1) | (with_reducible exact akeep q1) | simp [*, go_sem]); replace q2 : w1.cell? ⟨w.heap.size, 2, none⟩ = some (.slice a n cap) := bkeep hb (by first | (with_reducible exact q2) | (with_reducible exact akeep q2) | simp [*, go_sem]); replace q3 : w1.cell? ⟨w.heap.size, 3, none⟩ = some (.int .i64 cr) := bkeep hb (by first | (with_reducible exact q3) | (with_reducible exact akeep q3) | simp [*, go_sem]); replace q4 : w1.cell? ⟨w.heap.size, 4, none⟩ = some (.int .i64 le) := bkeep hb (by first | (with_reducible exact q4) | (with_reducible exact akeep q4) | simp [*, go_sem]); clear hb
  clear hr2
  go_wp2_with fail
  go_ret
  exact ⟨ret_bool (by rw [hbr]; simp [BEq.beq]), hb0⟩

end Go.Proofs.Ytnchhleokdkejaa

/- What remembers whether saggars do. -/
namespace Go.Proofs.Ytnchhleokdkejaa
open Go.RowKit Go.Pb Go.Pb.Ware Go.Pb.Sag
set_option linter.unusedVariables false
set_option linter.unusedSimpArgs false

open Go.Proofs Go.Maps Go.Pb.Bung
set_option maxRecDepth 100000 in
theorem Try.laidOutB_ : laidOutB Try.prog = true := by kernel_rfl
theorem Try.wideK : (match Try.prog.underlying 152 with | some (.array _ _) | some (.struct _) => true | _ => false) = true := by rw [Try.underlying152]
set_option maxRecDepth 100000 in
theorem Try.lawK : Keyed Try.prog 152 := Keyed.of_law (deep_law_laid Try.laidOutB_ (m := 2) (by omega) (of_decide_eq_true (by kernel_rfl)) (by kernel_rfl) Try.wideK)
theorem Try.zeroB (w : World) : (zeroValue 4).run Try.prog w = .ok (.bool false) w := by kernel_rfl
set_option maxRecDepth 100000 in
theorem key9 {bs : List Bool} (h : bs.length = 9) : ∃ kl, keyOf Try.prog 152 (keyV bs) = some kl := by
  match bs, h with
  | [b0, b1, b2, b3, b4, b5, b6, b7, b8], _ =>
    have h1 : (keyOf Try.prog 152 (.agg #[.bool b0, .bool b1, .bool b2, .bool b3, .bool b4, .bool b5, .bool b6, .bool b7, .bool b8])).isSome = true := by kernel_rfl
    exact Option.isSome_iff_exists.1 h1
theorem bits9 (g : List Int) : ∃ b0 b1 b2 b3 b4 b5 b6 b7 b8, bitsOf g = [b0, b1, b2, b3, b4, b5, b6, b7, b8] ∧ decide (((0 : Nat) : Int) ∈ g) = b0 ∧ decide (((1 : Nat) : Int) ∈ g) = b1 ∧ decide (((2 : Nat) : Int) ∈ g) = b2 ∧ decide (((3 : Nat) : Int) ∈ g) = b3 ∧ decide (((4 : Nat) : Int) ∈ g) = b4 ∧ decide (((5 : Nat) : Int) ∈ g) = b5 ∧ decide (((6 : Nat) : Int) ∈ g) = b6 ∧ decide (((7 : Nat) : Int) ∈ g) = b7 ∧ decide (((8 : Nat) : Int) ∈ g) = b8 := by
  exact ⟨decide (((0 : Nat) : Int) ∈ g), decide (((1 : Nat) : Int) ∈ g), decide (((2 : Nat) : Int) ∈ g), decide (((3 : Nat) : Int) ∈ g), decide (((4 : Nat) : Int) ∈ g), decide (((5 : Nat) : Int) ∈ g), decide (((6 : Nat) : Int) ∈ g), decide (((7 : Nat) : Int) ∈ g), decide (((8 : Nat) : Int) ∈ g), rfl, rfl, rfl, rfl, rfl, rfl, rfl, rfl, rfl, rfl⟩
theorem grown_below {w w' : World} {row : Option Nat} (h : Below w.heap.size w w') : w.grownBy w' row := ⟨h.os, h.tape, h.output, h.size, fun k hk _ => h.block k hk⟩
theorem grown_cell {w w' : World} {M b o : Nat} {v : Value} (h : w.grownBy w' (some M)) (hc : w.cell? ⟨b, o, none⟩ = some v) (hne : b ≠ M) : w'.cell? ⟨b, o, none⟩ = some v := h.cell (a := ⟨b, o, none⟩) hc (fun e => hne (by injection e))

set_option maxRecDepth 100000 in
set_option maxHeartbeats 1000000 in
theorem recall_any {w : World} {v u : Value} {l : List Sg} {g : List Int} {lo hi cr le : Int} {XM XY M : Nat} {does : List Int → Bool} (hdo : does = doesB lo hi l cr le) (h : RowsAt 8 w v (l.map rowG)) (hk : listOk l = true) (hl9 : l.length ≤ 9) (h1 : 0 ≤ lo ∧ lo ≤ 200) (h2 : 0 ≤ hi ∧ hi ≤ 200) (hu : NumsAt w u g) (hz : ∀ z ∈ g, 0 ≤ z ∧ z < (l.length : Int)) (hd : g.Pairwise (· < ·)) (hgn : g.length ≤ 9) (hcM : w.cell? ⟨XM, 0, none⟩ = some (.map (some M))) (hcY : w.cell? ⟨XY, 0, none⟩ = some (.int .i64 lo) ∧ w.cell? ⟨XY, 1, none⟩ = some (.int .i64 hi) ∧ w.cell? ⟨XY, 2, none⟩ = some (v) ∧ w.cell? ⟨XY, 3, none⟩ = some (.int .i64 cr) ∧ w.cell? ⟨XY, 4, none⟩ = some (.int .i64 le)) (hQ : MapQ Try.prog 152 4 M does w) :
    Calls Try.prog 137 #[u, .pointer (some ⟨XM, 0, none⟩), .pointer (some ⟨XY, 0, none⟩)] w (fun e w' => e = .returned (.bool (does g)) ∧ w.grownBy w' (some M) ∧ MapQ Try.prog 152 4 M does w') := by
  obtain ⟨y0, y1, y2, y3, y4⟩ := hcY
  obtain ⟨ua, uc, rfl, hul, huc⟩ := hu.shape
  obtain ⟨a, cap, rfl, hll⟩ := h.shape
  rw [List.length_map] at h hll y2
  have hMlt := hQ.lt
  have hz9 : ∀ z ∈ g, 0 ≤ z ∧ z < 9 := fun z hz' => by have := hz z hz'; omega
  have hlist := list_bits hd hz9
  have hb9l := bitsOf_length g
  obtain ⟨kl, hkl⟩ := key9 hb9l
  obtain ⟨b0, b1, b2, b3, b4, b5, b6, b7, b8, hbits, e0, e1, e2, e3, e4, e5, e6, e7, e8⟩ := bits9 g
  have hkey : keyOf Try.prog 152 (.agg #[.bool b0, .bool b1, .bool b2, .bool b3, .bool b4, .bool b5, .bool b6, .bool b7, .bool b8]) = some kl := by rw [hbits] at hkl; exact hkl
  obtain ⟨n, hn⟩ : ∃ n, l.length = n := ⟨_, rfl⟩
  have HN : Hid (l.length = n) := hn
  rw [hn] at h hll hl9 y2
  have HZ : Hid (∀ z ∈ g, 0 ≤ z ∧ z < (l.length : Int)) := hz
  clear hn hz
  go_enter Try.func137, Try.ntmps137
  go_upto_region 2 with fail
  generalize hW : World.alloc w _ = w5
  have hb5 : Below w.heap.size w w5 := by rw [← hW]; exact (Below.refl _ _).alloc (Nat.le_refl _) _
  have S5 : SeenAt w.heap.size 9 [] w5 := SeenAt.start (fun i hi => by rw [← hW]; have h := CellsAt.new w [.bool false, .bool false, .bool false, .bool false, .bool false, .bool false, .bool false, .bool false, .bool false] 152; exact h i _ (by match i, hi with | 0, _ => rfl | 1, _ => rfl | 2, _ => rfl | 3, _ => rfl | 4, _ => rfl | 5, _ => rfl | 6, _ => rfl | 7, _ => rfl | 8, _ => rfl))
  have hz5 : w.heap.size < w5.heap.size := by rw [← hW]; simp
  clear hW
  go_wp2_with fail
  go_loopg [12] g.length (fun gk iv wr => ∃ k : Nat, k ≤ g.length ∧ gk = g.length - k ∧ iv = .int .i64 k ∧ SeenAt w.heap.size 9 (g.take k) wr ∧ Below w.heap.size w wr ∧ w.heap.size < wr.heap.size)
  case atStart => exact ⟨0, Nat.zero_le _, rfl, rfl, by simpa using S5, hb5, hz5⟩
  case round =>
    clear S5 hb5 hz5
    obtain ⟨k, hk1, hgk, rfl, hS, hB, hzz⟩ := hrel
    have HGK : Hid (gk = g.length - k) := hgk; clear hgk
    by_cases hlt : k < g.length
    · have hki : (k : Int) < (g.length : Int) := by omega
      obtain ⟨a', ha, r0⟩ := (hu.below hB).elem hlt
      subst ha
      have hzk := hz9 g[k] (List.getElem_mem hlt)
      obtain ⟨m, hm⟩ : ∃ m : Nat, g[k] = (m : Int) := ⟨g[k].toNat, by omega⟩
      have hm9 : m < 9 := by omega
      have hmi : (m : Int) < 9 := by omega
      have hm0 : (0 : Int) ≤ (m : Int) := by omega
      rw [hm] at r0
      obtain ⟨q0, f0⟩ := hS m hm9
      go_wp2_with fail
      go_roundg (g.length - (k + 1))
      case measure => have h := HGK.out; omega
      case rel => exact ⟨k + 1, by omega, rfl, by go_num, by rw [List.take_succ_eq_append_getElem hlt, hm]; exact hS.put hm9, hB.setCell (p := ⟨w.heap.size, m, none⟩) (Nat.le_refl _) _, by simpa using hzz⟩
    · obtain rfl : k = g.length := by omega
      rw [List.take_length] at hS
      have q0 := (hS 0 (by omega)).1; rw [e0] at q0
      have q1 := (hS 1 (by omega)).1; rw [e1] at q1
      have q2 := (hS 2 (by omega)).1; rw [e2] at q2
      have q3 := (hS 3 (by omega)).1; rw [e3] at q3
      have q4 := (hS 4 (by omega)).1; rw [e4] at q4
      have q5 := (hS 5 (by omega)).1; rw [e5] at q5
      have q6 := (hS 6 (by omega)).1; rw [e6] at q6
      have q7 := (hS 7 (by omega)).1; rw [e7] at q7
      have q8 := (hS 8 (by omega)).1; rw [e8] at q8
      have c0 := bkeep hB hcM
      have x0 := bkeep hB y0; have x1 := bkeep hB y1; have x2 := bkeep hB y2; have x3 := bkeep hB y3; have x4 := bkeep hB y4
      obtain ⟨ks, D, hown, hnd, h9, hall⟩ := hQ.below hB
      obtain ⟨hhas, hat⟩ := hall (bitsOf g) kl hb9l hkl
      rw [hlist] at hat
      clear hS e0 e1 e2 e3 e4 e5 e6 e7 e8
      by_cases hin : bitsOf g ∈ ks
      · rw [decide_eq_true hin] at hhas
        have hat2 := hat hin
        go_wp2_with (at_lookup; refine wpList_lookup_own_ok _ rfl _ _ 148 rfl 152 4 Try.lawK Try.underlying148 _ (Try.zeroB _) (.lit (.bool false)) [] (plainElem_bool Try.underlying4 false) M ks.length D rfl hown _ _ rfl hkey ?_; intro v9 ps9 hv9; obtain ⟨x9, rfl, hx9⟩ := plainElem_bool_inv Try.underlying4 hv9; rw [hhas])
        have hxd : does g = x9 := by rw [hat2] at hx9; injection hx9 with hx9 _; injection hx9 with hx9; injection hx9
        go_ret
        exact ⟨ret_bool hxd.symm, grown_below hB, ks, D, hown, hnd, h9, hall⟩
      · rw [decide_eq_false hin] at hhas
        go_wp2_with (first | (at_lookup; refine wpList_lookup_own_ok _ rfl _ _ 148 rfl 152 4 Try.lawK Try.underlying148 _ (Try.zeroB _) (.lit (.bool false)) [] (plainElem_bool Try.underlying4 false) M ks.length D rfl hown _ _ rfl hkey ?_; intro v9 ps9 hv9; obtain ⟨x9, rfl, hx9⟩ := plainElem_bool_inv Try.underlying4 hv9; rw [hhas]))
        have hr0 := h.below hB
        obtain ⟨bb, hbb⟩ : ∃ b, does g = b := ⟨_, rfl⟩
        have hz3 := hB.size
        have hl30 : g.length ≤ 30 := by omega
        have hcall := does_any (w := wr) (v := .slice a n cap) (u := .slice ua g.length uc) (l := l) (lo := lo) (hi := hi) (cr := cr) (le := le) (h.below hB) hk h1 h2 (hu.below hB) HZ.out (hd.imp fun {a b} hab e => by omega) hl30
        rw [show doesB lo hi l cr le g = bb by rw [← hbb, hdo]] at hcall
        refine hcall.mono ?_
        rintro e w8 ⟨rfl, hb⟩
        have d0 := bkeep hb q0
        have d1 := bkeep hb q1
        have d2 := bkeep hb q2
        have d3 := bkeep hb q3
        have d4 := bkeep hb q4
        have d5 := bkeep hb q5
        have d6 := bkeep hb q6
        have d7 := bkeep hb q7
        have d8 := bkeep hb q8
        have c8 := bkeep hb c0
        have hown8 := ownsMap_block hown (hb.block M (by omega))
        have hB8 := hB.trans (hb.mono hz3)
        have hk512 := few_bits hnd h9
        go_wp2_with (at_mapUpdate; refine wpList_mapUpdate_own _ rfl _ _ _ 148 rfl 152 4 Try.lawK Try.underlying148 _ M ks.length D rfl hown8 (by unfold maxLen; omega) _ _ kl rfl rfl hkey (.lit (.bool bb)) [] (plainElem_bool Try.underlying4 bb) ?_; intro w9 hown9 hg9)
        go_ret
        exact ⟨ret_bool hbb.symm, (grown_below (row := some M) hB8).andThen hg9 (fun j e => .inr e), MapQ.put Try.lawK hown8 hnd h9 hall hb9l hkl hin (by rw [hlist]; exact hbb) hown9⟩

set_option maxRecDepth 100000 in
set_option maxHeartbeats 1000000 in
theorem remembered_any {w : World} {v : Value} {l : List Sg} {lo hi cr le : Int} {does : List Int → Bool} (h : RowsAt 8 w v (l.map rowG)) :
    Calls Try.prog 114 #[.agg #[.int .i64 lo, .int .i64 hi, v, .int .i64 cr, .int .i64 le]] w (fun e w' => ∃ XM M, e = .returned (.func (.func 137) #[] #[.pointer (some ⟨XM, 0, none⟩), .pointer (some ⟨w.heap.size, 0, none⟩)]) ∧ Below w.heap.size w w' ∧ w.heap.size ≤ M ∧ w'.cell? ⟨XM, 0, none⟩ = some (.map (some M)) ∧ XM ≠ M ∧ w.heap.size ≠ M ∧ (w'.cell? ⟨w.heap.size, 0, none⟩ = some (.int .i64 lo) ∧ w'.cell? ⟨w.heap.size, 1, none⟩ = some (.int .i64 hi) ∧ w'.cell? ⟨w.heap.size, 2, none⟩ = some (v) ∧ w'.cell? ⟨w.heap.size, 3, none⟩ = some (.int .i64 cr) ∧ w'.cell? ⟨w.heap.size, 4, none⟩ = some (.int .i64 le)) ∧ MapQ Try.prog 152 4 M does w') := by
  obtain ⟨a, cap, rfl, hll⟩ := h.shape
  rw [List.length_map] at h hll ⊢
  obtain ⟨n, hn⟩ : ∃ n, l.length = n := ⟨_, rfl⟩
  rw [hn] at h hll ⊢
  have hmm := @run_makeMap Try.prog
  have hmf : ∀ (fn : Fn) (first cap : Array Value) (w : World), (Instr.makeFunc fn first cap).run Try.prog w = .ok (.func fn first cap) w := fun _ _ _ _ => rfl
  go_enter Try.func114, Try.ntmps114
  have hM := (MapQ.start Try.prog 152 4 does (w.alloc (.cells #[.int .i64 lo, .int .i64 hi, .slice a n cap, .int .i64 cr, .int .i64 le] 143))).below ((Below.refl _ _).alloc (Nat.le_refl _) (.cells #[.map (some (w.heap.size + 1))] 148))
  rw [World.size_alloc] at hM
  go_wp2_with fail
  go_ret
  exact ⟨w.heap.size + 1 + 1, w.heap.size + 1, rfl, by go_grown, by omega, by simp [go_sem], by omega, by omega, ⟨by simp [go_sem], by simp [go_sem], by simp [go_sem], by simp [go_sem], by simp [go_sem]⟩, hM⟩

end Go.Proofs.Ytnchhleokdkejaa
