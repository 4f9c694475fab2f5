/- Part of a claim. -/
import Derived.Test.YtodmidchpbcnpaaGreatG37R
import Derived.Test.YtodmidchpbcnpaaGreatG27R
import Derived.Test.YtodmidchpbcnpaaGreatKSmR
set_option linter.unusedVariables false
set_option linter.unusedSimpArgs false
namespace Go.Proofs.YtodmidchpbcnpaaGreat
open Go.RowKit Go.Pb Go.Pb.Ware Go.Pb.Sag


theorem trouble_nil {s : Bx} (hX : boxOk s = true) (k : Int) : troubleA s [] k = false := by
 have h2 := boxOk_iff.1 hX
 have e1 : troubleB s [] 1 = false := rfl
 have e2 : troubleB s [] 2 = false := rfl
 have e3 : troubleB s [] 3 = false := by
  show decide (s.bears < 0) = false
  rw [decide_eq_false_iff_not]; omega
 have hm : 0 ≤ s.wide * s.deep := Int.mul_nonneg (by omega) (by omega)
 have e4 : troubleB s [] 4 = false := by
  show decide (s.wide * s.deep < 0) = false
  rw [decide_eq_false_iff_not]; omega
 by_cases h5 : k = 5
 ·subst h5
  rw [troubleA_5, ← packable_fits]
  unfold lowB
  rw [e1, e3, room_nil]
  have h : decide (areaL [] ≤ s.wide * s.deep) = true := by
   show decide ((0 : Int) ≤ s.wide * s.deep) = true
   rw [decide_eq_true_eq]; exact hm
  rw [h]; rfl
 ·rw [troubleA_B h5]
  by_cases h1 : k = 1
  ·rw [h1]; exact e1
  by_cases h2 : k = 2
  ·rw [h2]; exact e2
  by_cases h3 : k = 3
  ·rw [h3]; exact e3
  by_cases h4 : k = 4
  ·rw [h4]; exact e4
  unfold troubleB
  rw [if_neg h1, if_neg h2, if_neg h3, if_neg h4]
theorem trouble_other {s : Bx} {fs : List Ft} {k : Int} (h1 : k ≠ 1) (h2 : k ≠ 2) (h3 : k ≠ 3) (h4 : k ≠ 4) (h5 : k ≠ 5) : troubleA s fs k = false := by
 rw [troubleA_B h5]
 unfold troubleB
 rw [if_neg h1, if_neg h2, if_neg h3, if_neg h4]
theorem chosen_erase (fs : List Ft) (zs : List Int) (k : Nat) : chosenL fs (zs.eraseIdx k) = (chosenL fs zs).eraseIdx k := map_erase
theorem chosen_len (fs : List Ft) (zs : List Int) : (chosenL fs zs).length = zs.length := List.length_map ..
theorem any_erase {Q : Ft → Bool} {l : List Ft} {j k : Nat} (hj : j < l.length) (hne : j ≠ k) (h : Q l[j] = true) : (l.eraseIdx k).any Q = true :=
 List.any_eq_true.2 ⟨l[j], List.mem_eraseIdx_iff_getElem.2 ⟨j, hj, hne, rfl⟩, h⟩
theorem reason_one {s : Bx} {fs : List Ft} {kind : Int} {zs : List Int} {Q : Ft → Bool} (hQ : ∀ l, troubleA s l kind = l.any Q) (h0 : zs ≠ []) : (troubleA s (chosenL fs zs) kind && allNeed s fs kind zs zs.length) = (decide (zs.length = 1) && Q (fs.getD (zs.headD 0).toNat zFt)) := by
 match zs, h0 with
 | [z], _ =>
  have e : allNeed s fs kind [z] 1 = true := by
   unfold allNeed allNeed
   rw [hQ]; rfl
  show (troubleA s (chosenL fs [z]) kind && allNeed s fs kind [z] 1) = _
  rw [e, hQ]
  simp [chosenL]
 | z1 :: z2 :: zs', _ =>
  have e : decide ((z1 :: z2 :: zs').length = 1) = false := by rw [decide_eq_false_iff_not]; simp
  rw [e, Bool.false_and, Bool.and_eq_false_iff]
  cases ht : troubleA s (chosenL fs (z1 :: z2 :: zs')) kind
  ·exact .inl rfl
  ·right
   rw [hQ, List.any_eq_true] at ht
   obtain ⟨x, hx, hq⟩ := ht
   obtain ⟨j, hj, rfl⟩ := List.getElem_of_mem hx
   refine allNeed_down (k := if j = 0 then 1 else 0) (by simp only [List.length_cons]; split <;> omega) ?_
   rw [chosen_erase, hQ]
   exact any_erase hj (by split <;> omega) hq
theorem reason_nil {s : Bx} {fs : List Ft} {kind : Int} (hX : boxOk s = true) : reasonB s fs kind [] = false := by
 unfold reasonB
 rw [show chosenL fs [] = [] from rfl, trouble_nil hX]; simp
theorem chosen_yes {Q : Ft → Bool} {fs : List Ft} {l : List Int} {i : Nat} (hi : i < fs.length) (hm : (i : Int) ∈ l) (h : Q fs[i] = true) : (chosenL fs l).any Q = true := by
 refine List.any_eq_true.2 ⟨fs[i], List.mem_map.2 ⟨(i : Int), hm, ?_⟩, h⟩
 rw [Int.toNat_natCast, List.getD_eq_getElem?_getD, List.getElem?_eq_getElem hi]; rfl
theorem idxs_succ (n : Nat) : idxs (n + 1) = idxs n ++ [(n : Int)] := by unfold idxs; rw [List.range_succ, List.map_append]; rfl
theorem idxs_in {i n : Nat} (h : i < n) : (i : Int) ∈ idxs n := List.mem_map.2 ⟨i, List.mem_range.2 h, rfl⟩
theorem erase_idxs (n : Nat) (l : List Int) : (idxs (n + 1) ++ l).eraseIdx n = idxs n ++ l := by
 rw [idxs_succ, List.append_assoc, List.eraseIdx_append_of_length_le (by rw [idxs_len]; exact Nat.le_refl _), idxs_len, Nat.sub_self]; rfl
theorem needed_one {s : Bx} {fs : List Ft} {kind : Int} {i : Nat} {Q : Ft → Bool} (hQ : ∀ l, troubleA s l kind = l.any Q) (hi : i < fs.length) (h1 : Q fs[i] = true) (h0 : ∀ j (hj : j < fs.length), j < i → Q fs[j] = false) : neededL s fs kind = [(i : Int)] := by
 have hC : ∀ j, j ≤ i → needLoop s fs kind j (idxs j ++ [(i : Int)]) = [(i : Int)] := by
  intro j
  induction j with
  | zero => intro _; rfl
  | succ j ih =>
   intro hj
   rw [needLoop]
   have e : needStep s fs kind (idxs (j + 1) ++ [(i : Int)]) j = idxs j ++ [(i : Int)] := by
    unfold needStep
    rw [erase_idxs, hQ, chosen_yes hi (List.mem_append_right _ (List.mem_singleton.2 rfl)) h1, if_pos rfl]
   rw [e]; exact ih (by omega)
 have hB : needLoop s fs kind (i + 1) (idxs (i + 1)) = [(i : Int)] := by
  rw [needLoop]
  have e : needStep s fs kind (idxs (i + 1)) i = idxs (i + 1) := by
   unfold needStep
   have e2 := erase_idxs i []
   rw [List.append_nil, List.append_nil] at e2
   rw [e2, hQ]
   have e3 : (chosenL fs (idxs i)).any Q = false := by
    rw [List.any_eq_false]
    intro x hx
    obtain ⟨z, hz, rfl⟩ := List.mem_map.1 hx
    obtain ⟨k, hk, rfl⟩ := List.mem_map.1 hz
    have hk2 := List.mem_range.1 hk
    rw [Int.toNat_natCast, List.getD_eq_getElem?_getD, List.getElem?_eq_getElem (show k < fs.length by omega)]
    show ¬ Q fs[k] = true
    rw [h0 k (by omega) hk2]; simp
   rw [e3, if_neg (by simp)]
  rw [e, idxs_succ]
  exact hC i (Nat.le_refl _)
 have hA : ∀ d, i + 1 + d ≤ fs.length → needLoop s fs kind (i + 1 + d) (idxs (i + 1 + d)) = [(i : Int)] := by
  intro d
  induction d with
  | zero => intro _; exact hB
  | succ d ih =>
   intro hd
   rw [show i + 1 + (d + 1) = (i + 1 + d) + 1 by omega, needLoop]
   have e : needStep s fs kind (idxs (i + 1 + d + 1)) (i + 1 + d) = idxs (i + 1 + d) := by
    unfold needStep
    have e2 := erase_idxs (i + 1 + d) []
    rw [List.append_nil, List.append_nil] at e2
    rw [e2, hQ, chosen_yes hi (idxs_in (by omega)) h1, if_pos rfl]
   rw [e]; exact ih (by omega)
 have h := hA (fs.length - (i + 1)) (by omega)
 rw [show i + 1 + (fs.length - (i + 1)) = fs.length by omega] at h
 exact h
theorem kind1 (s : Bx) (l : List Ft) : troubleA s l 1 = l.any (highB s) := rfl
theorem kind2 (s : Bx) (l : List Ft) : troubleA s l 2 = l.any (noStand s) := rfl
def lastZ (zs : List Int) : Nat → Int
 | 0 => -1
 | k + 1 => zs.getD k 0
theorem lastZ_at {zs : List Int} {k : Nat} (h : k < zs.length) : lastZ zs (k + 1) = zs[k] := by
 show zs.getD k 0 = _
 rw [List.getD_eq_getElem?_getD, List.getElem?_eq_getElem h]; rfl
end Go.Proofs.YtodmidchpbcnpaaGreat