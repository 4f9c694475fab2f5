/- Plain lemmas for the laws of layer 1: moulds, truths, stands. Lists and integers alone. -/
import Derived.Test.YtcadbcmldlammaaPlain
namespace Go.Pb.Ware
set_option linter.unusedVariables false

theorem up_le {n d x : Int} (hd : 0 < d) : up n d ≤ x ↔ n ≤ x * d := by
  unfold up
  constructor
  · intro h
    have h1 : -x ≤ -n / d := by omega
    have h2 := (Int.le_ediv_iff_mul_le hd).1 h1
    rw [Int.neg_mul] at h2; omega
  · intro h
    have h1 : -x ≤ -n / d := (Int.le_ediv_iff_mul_le hd).2 (by rw [Int.neg_mul]; omega)
    omega
theorem lt_up {n d x : Int} (hd : 0 < d) : x < up n d ↔ x * d < n := by
  have := @up_le n d x hd; omega
theorem le_down {n d x : Int} (hd : 0 < d) : x ≤ n / d ↔ x * d ≤ n := Int.le_ediv_iff_mul_le hd
theorem down_lt {n d x : Int} (hd : 0 < d) : n / d < x ↔ n < x * d := by
  have := @le_down n d x hd; omega

theorem mould_none {b : Bo} {d : Rg} {x : Int} (hb : boOk b = true) (h0 : 0 ≤ d.lo) (h1 : d.lo ≤ d.hi) (h2 : d.hi ≤ 2000) (hx0 : 0 ≤ x) (hx1 : x ≤ 2000) (hm : ¬ mouldLo b d ≤ mouldHi b d) :
    (becomes ⟨x, x⟩ b.shrink).lo < d.lo ∨ d.hi < (becomes ⟨x, x⟩ b.shrink).hi := by
  have b1 := boOk_iff.1 hb
  by_cases h : (becomes ⟨x, x⟩ b.shrink).lo < d.lo
  · exact .inl h
  right
  by_cases h' : d.hi < (becomes ⟨x, x⟩ b.shrink).hi
  · exact h'
  exfalso
  unfold becomes at h h'
  dsimp only at h h'
  have e1 := (le_down (by omega)).1 (Int.not_lt.1 h)
  have e2 := (up_le (by omega)).1 (Int.not_lt.1 h')
  apply hm
  have f1 : mouldLo b d ≤ x := (up_le (by omega)).2 (by omega)
  have f2 : x ≤ d.hi * 1000 / (1000 - b.shrink.lo) := (le_down (by omega)).2 (by omega)
  unfold mouldHi
  omega

theorem mould_some {b : Bo} {d : Rg} (hb : boOk b = true) (h0 : 0 ≤ d.lo) (h1 : d.lo ≤ d.hi) (h2 : d.hi ≤ 2000) :
    0 ≤ mouldLo b d ∧ mouldHi b d ≤ 2000 ∧
    (∀ x, mouldLo b d ≤ x → x ≤ mouldHi b d → d.lo ≤ (becomes ⟨x, x⟩ b.shrink).lo ∧ (becomes ⟨x, x⟩ b.shrink).hi ≤ d.hi) ∧
    (mouldLo b d - 1) * (1000 - b.shrink.hi) < 1000 * d.lo ∧ (mouldHi b d = 2000 ∨ 1000 * d.hi < (mouldHi b d + 1) * (1000 - b.shrink.lo)) := by
  have b1 := boOk_iff.1 hb
  refine ⟨?_, by unfold mouldHi; omega, fun x hx0 hx1 => ?_, ?_, ?_⟩
  · have := (@lt_up (d.lo * 1000) (1000 - b.shrink.hi) (-1) (by omega)).2 (by omega)
    unfold mouldLo; omega
  · have e1 := (up_le (by omega)).1 hx0
    have e2 := (@le_down (d.hi * 1000) (1000 - b.shrink.lo) x (by omega)).1 (by unfold mouldHi at hx1; omega)
    unfold becomes
    exact ⟨(le_down (by omega)).2 (by omega), (up_le (by omega)).2 (by dsimp only; omega)⟩
  · have := (@lt_up (d.lo * 1000) (1000 - b.shrink.hi) (mouldLo b d - 1) (by omega)).1 (by unfold mouldLo; omega)
    omega
  · by_cases h : mouldHi b d = 2000
    · exact .inl h
    right
    have := (@down_lt (d.hi * 1000) (1000 - b.shrink.lo) (mouldHi b d + 1) (by omega)).1 (by unfold mouldHi at *; omega)
    omega

theorem becomes_in {w l : Rg} {x s : Int} (h0 : 0 ≤ w.lo) (h1 : w.lo ≤ x) (h2 : x ≤ w.hi) (h3 : 0 ≤ l.lo) (h4 : l.lo ≤ s) (h5 : s ≤ l.hi) (h6 : l.hi ≤ 1000) :
    1000 * (becomes w l).lo ≤ x * (1000 - s) ∧ x * (1000 - s) ≤ 1000 * (becomes w l).hi ∧
    w.lo * (1000 - l.hi) < 1000 * ((becomes w l).lo + 1) ∧ 1000 * ((becomes w l).hi - 1) < w.hi * (1000 - l.lo) := by
  have a := Int.mul_le_mul h1 (show 1000 - l.hi ≤ 1000 - s by omega) (by omega) (by omega)
  have b := Int.mul_le_mul h2 (show 1000 - s ≤ 1000 - l.lo by omega) (by omega) (by omega)
  unfold becomes up
  dsimp only
  omega
theorem fired_shOk {s : Sh} {b : Bo} (hs : shOk s = true) (hb : boOk b = true) : shOk (fired s b).1 = true ∧ (fired s b).2 = 0 := by
  have b1 := boOk_iff.1 hb
  have s1 := shOk_iff.1 hs
  have e : fired s b = (⟨s.id, becomes s.wide b.shrink, becomes s.deep b.shrink, becomes s.high b.shrink, s.nest * (1000 - b.shrink.hi) / 1000, becomes s.weight b.loss, s.bears⟩, 0) := by simp [fired, hs, hb]
  rw [e]
  refine ⟨shOk_iff.2 ?_, rfl⟩
  have c1 := becomes_bd (w := s.wide) (l := b.shrink) (m := 2000) (by omega) (by omega) (by omega) (by omega) (by omega) (by omega)
  have c2 := becomes_bd (w := s.deep) (l := b.shrink) (m := 2000) (by omega) (by omega) (by omega) (by omega) (by omega) (by omega)
  have c3 := becomes_bd (w := s.high) (l := b.shrink) (m := 2000) (by omega) (by omega) (by omega) (by omega) (by omega) (by omega)
  have c4 := becomes_bd (w := s.weight) (l := b.loss) (m := 100000) (by omega) (by omega) (by omega) (by omega) (by omega) (by omega)
  dsimp only
  refine ⟨by omega, c1, c2, c3, ⟨?_, ?_⟩, c4, by omega⟩
  · have := mul_bd s.nest (1000 - b.shrink.hi) 2000 1000 (by omega) (by omega) (by omega) (by omega)
    exact Int.ediv_nonneg this.1 (by omega)
  · unfold becomes
    dsimp only
    exact Int.ediv_le_ediv (by omega) (Int.mul_le_mul_of_nonneg_right (by omega) (by omega))
end Go.Pb.Ware
