/- Plain lemmas on piles: what the law WareStands asks. -/
import Derived.Test.YtgnljgceddphfaaPlain
namespace Go.Pb.Ware
set_option linter.unusedVariables false

theorem mostTo_spec (s : Sh) (high : Int) : ∀ m, mostTo s high m ≤ m ∧ (∀ j : Nat, mostTo s high m < j → j ≤ m → fitsB s high j = false) ∧ (mostTo s high m ≠ 0 → fitsB s high (mostTo s high m) = true)
  | 0 => ⟨Nat.le_refl _, fun j h1 h2 => by unfold mostTo at h1; omega, fun h => absurd rfl h⟩
  | m + 1 => by
    obtain ⟨h1, h2, h3⟩ := mostTo_spec s high m
    unfold mostTo
    split
    · rename_i hf
      exact ⟨Nat.le_refl _, fun j a b => by omega, fun _ => hf⟩
    · rename_i hf
      refine ⟨by omega, fun j a b => ?_, h3⟩
      by_cases hj : j = m + 1
      · subst hj; simpa using hf
      · exact h2 j a (by omega)

theorem fits_iff {s : Sh} {high n : Int} : fitsB s high n = true ↔ (n - 1) * s.weight.hi ≤ s.bears ∧ (heightOf s n).hi ≤ high := by simp [fitsB, standsB]
theorem fits_not {s : Sh} {high n : Int} : fitsB s high n = false ↔ (standsB s n = false ∨ high < (heightOf s n).hi) := by
  unfold fitsB
  cases standsB s n <;> simp <;> omega

theorem most_0 {s : Sh} {high : Int} (hs : shOk s = true) (h : mostTo s high 40 = 0) : most s high = (0, 3) ∧ high < s.high.hi := by
  refine ⟨by simp [most, hs, h], ?_⟩
  have h1 := (mostTo_spec s high 40).2.1 1 (by omega) (by omega)
  have s1 := shOk_iff.1 hs
  rcases fits_not.1 h1 with h2 | h2
  · simp [standsB] at h2; omega
  · simp [heightOf] at h2; exact h2
theorem most_n {s : Sh} {high : Int} (hs : shOk s = true) (h : mostTo s high 40 ≠ 0) : ∃ k : Int, most s high = (k, 0) ∧ 1 ≤ k ∧ k ≤ 40 ∧ standsB s k = true ∧ (heightOf s k).hi ≤ high ∧
    (k = 40 ∨ standsB s (k + 1) = false ∨ high < (heightOf s (k + 1)).hi) := by
  obtain ⟨h1, h2, h3⟩ := mostTo_spec s high 40
  refine ⟨(mostTo s high 40 : Nat), by simp [most, hs, h], by omega, by omega, ?_⟩
  have hf := h3 h
  generalize mostTo s high 40 = m at *
  have h4 := hf
  unfold fitsB at h4
  simp only [Bool.and_eq_true, decide_eq_true_eq] at h4
  refine ⟨h4.1, h4.2, ?_⟩
  by_cases hm : m = 40
  · left; omega
  · right
    have := h2 (m + 1) (by omega) (by omega)
    exact fits_not.1 this

theorem load_in {s : Sh} {many at' : Int} (hs : shOk s = true) (h1 : 1 ≤ many) (h2 : many ≤ 40) (h3 : 0 ≤ at') (h4 : at' ≤ many - 1) :
    load s many at' = (⟨(many - 1 - at') * s.weight.lo, (many - 1 - at') * s.weight.hi⟩, 0) := by
  have e1 : ckP s many = 0 := by simp [ckP, hs, btw_iff.2 ⟨h1, h2⟩]
  simp only [load, e1, btw_iff.2 ⟨h3, h4⟩, if_true]
theorem stands_in' {s : Sh} {many : Int} (hs : shOk s = true) (h1 : 1 ≤ many) (h2 : many ≤ 40) : stands s many = (standsB s many, 0) := by
  have e1 : ckP s many = 0 := by simp [ckP, hs, btw_iff.2 ⟨h1, h2⟩]
  simp only [stands, e1, if_true]
theorem height_in' {s : Sh} {many : Int} (hs : shOk s = true) (h1 : 1 ≤ many) (h2 : many ≤ 40) : height s many = (heightOf s many, 0) := by
  have e1 : ckP s many = 0 := by simp [ckP, hs, btw_iff.2 ⟨h1, h2⟩]
  simp only [height, e1, if_true]
theorem pile_le {c n mh be : Int} (h0 : 0 ≤ mh) (h1 : c ≤ n) (h2 : n * mh ≤ be) : c * mh ≤ be :=
  Int.le_trans (Int.mul_le_mul_of_nonneg_right h1 h0) h2
theorem pile_add {c a w ml mh : Int} (h1 : c * ml ≤ a) (h2 : a ≤ c * mh) (h3 : ml ≤ w) (h4 : w ≤ mh) : (c + 1) * ml ≤ a + w ∧ a + w ≤ (c + 1) * mh := by
  rw [Int.add_mul, Int.add_mul]; omega
theorem stands_less {s : Sh} {n : Int} (hs : shOk s = true) (h : standsB s n = true) : standsB s (n - 1) = true := by
  have s1 := shOk_iff.1 hs
  simp only [standsB, decide_eq_true_eq] at *
  exact pile_le (by omega) (by omega) h
end Go.Pb.Ware
