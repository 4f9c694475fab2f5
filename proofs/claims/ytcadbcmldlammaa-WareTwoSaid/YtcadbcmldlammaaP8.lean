/- Lists of sources, and the walk that leaves out. -/
import Derived.Test.YtcadbcmldlammaaP7
namespace Go.Pb.Ware
set_option linter.unusedVariables false
open Go.Pb Go.Lib
/-- Numbers of a list, rising from above a bound. -/
def goodB (all : List Int) : Int → List Int → Bool
  | _, [] => true
  | last, s :: b => decide (last < s) && (all.contains s && goodB all s b)
theorem good_no1 {all by' : List Int} {last : Int} {k : Nat} {X : Bool} (hk : k < by'.length) (h : goodB all last (by'.drop k) = X) (hs : by'[k] ≤ last) : X = false := by
  rw [← List.getElem_cons_drop hk, goodB, decide_eq_false (by omega)] at h
  rw [← h]; rfl
theorem good_no2 {all by' : List Int} {last : Int} {k : Nat} {X : Bool} (hk : k < by'.length) (h : goodB all last (by'.drop k) = X) (hs : all.contains by'[k] = false) : X = false := by
  rw [← List.getElem_cons_drop hk, goodB, hs] at h
  rw [← h]; simp
theorem good_yes {all by' : List Int} {last : Int} {k : Nat} {X : Bool} (hk : k < by'.length) (h : goodB all last (by'.drop k) = X) (h1 : ¬ by'[k] ≤ last) (h2 : all.contains by'[k] = true) : goodB all by'[k] (by'.drop (k + 1)) = X := by
  rw [← List.getElem_cons_drop hk, goodB, decide_eq_true (by omega), h2] at h
  rw [← h]; rfl
theorem good_end {all by' : List Int} {last : Int} {k : Nat} {X : Bool} (hk : ¬ k < by'.length) (h : goodB all last (by'.drop k) = X) : X = true := by
  rw [List.drop_eq_nil_of_le (by omega)] at h
  rw [← h]; rfl
theorem good_iff {all by' : List Int} : ∀ {last : Int}, goodB all last by' = true ↔ (last :: by').Pairwise (· < ·) ∧ ∀ x ∈ by', x ∈ all := by
  induction by' with
  | nil => intro last; simp [goodB]
  | cons s b ih =>
    intro last
    rw [goodB, Bool.and_eq_true, Bool.and_eq_true, ih, decide_eq_true_eq, List.contains_eq_mem, decide_eq_true_eq]
    constructor
    · rintro ⟨h1, h2, h3, h4⟩
      refine ⟨List.pairwise_cons.2 ⟨fun x hx => ?_, h3⟩, fun x hx => ?_⟩
      · rcases List.mem_cons.1 hx with rfl | hx
        · exact h1
        · exact Int.lt_trans h1 ((List.pairwise_cons.1 h3).1 x hx)
      · rcases List.mem_cons.1 hx with rfl | hx
        · exact h2
        · exact h4 x hx
    · rintro ⟨h1, h2⟩
      have h3 := List.pairwise_cons.1 h1
      exact ⟨h3.1 s List.mem_cons_self, h2 s List.mem_cons_self, h3.2, fun x hx => h2 x (List.mem_cons_of_mem _ hx)⟩
/-- From place i down each number is left out that need not stay. -/
def leave (bad : List Int → Bool) : Nat → List Int → List Int
  | 0, b => b
  | i + 1, b => leave bad i (if bad (b.eraseIdx i) then b.eraseIdx i else b)
theorem leave_yes {bad : List Int → Bool} {i : Nat} {b : List Int} (h : bad (b.eraseIdx i) = true) : leave bad (i + 1) b = leave bad i (b.eraseIdx i) := by rw [leave, if_pos h]
theorem leave_no {bad : List Int → Bool} {i : Nat} {b : List Int} (h : bad (b.eraseIdx i) = false) : leave bad (i + 1) b = leave bad i b := by rw [leave, if_neg (by rw [h]; simp)]
/-- No number can be left out. -/
def stays (bad : List Int → Bool) (b : List Int) : Bool := (List.range b.length).all fun j => !bad (b.eraseIdx j)
theorem stays_no {bad : List Int → Bool} {b : List Int} {k : Nat} (hk : k < b.length) (h : bad (b.eraseIdx k) = true) : stays bad b = false := by
  unfold stays
  rw [Bool.eq_false_iff]
  intro hh
  have := List.all_eq_true.1 hh k (List.mem_range.2 hk)
  rw [h] at this; cases this
theorem stays_yes {bad : List Int → Bool} {b : List Int} (h : ∀ j, j < b.length → bad (b.eraseIdx j) = false) : stays bad b = true := by
  unfold stays
  exact List.all_eq_true.2 fun j hj => by rw [h j (List.mem_range.1 hj)]; rfl
/-- What CheckClash answers. -/
def ckC (bad : List Int → Bool) (all b : List Int) : Int := if goodB all 0 b && (bad b && stays bad b) then 0 else 15
theorem ckC_good {bad : List Int → Bool} {all b : List Int} {z : Int} (hz : ckC bad all b = z) (h : goodB all 0 b = false) : 15 = z := by rw [← hz]; unfold ckC; rw [h]; rfl
theorem ckC_bad {bad : List Int → Bool} {all b : List Int} {z : Int} (hz : ckC bad all b = z) (h : bad b = false) : 15 = z := by rw [← hz]; unfold ckC; rw [h]; simp
theorem ckC_no {bad : List Int → Bool} {all b : List Int} {z : Int} (hz : ckC bad all b = z) {k : Nat} (hk : k < b.length) (h : bad (b.eraseIdx k) = true) : 15 = z := by rw [← hz]; unfold ckC; rw [stays_no hk h]; simp
theorem ckC_yes {bad : List Int → Bool} {all b : List Int} {z : Int} (hz : ckC bad all b = z) (h1 : goodB all 0 b = true) (h2 : bad b = true) (h : ∀ j, j < b.length → bad (b.eraseIdx j) = false) : 0 = z := by rw [← hz]; unfold ckC; rw [h1, h2, stays_yes h]; rfl
theorem sub_length : ∀ {b all : List Int}, b.Nodup → (∀ x ∈ b, x ∈ all) → b.length ≤ all.length
  | [], _, _, _ => Nat.zero_le _
  | s :: b, all, hn, h => by
    have hs := h s List.mem_cons_self
    have h1 := List.nodup_cons.1 hn
    have := sub_length (b := b) (all := all.erase s) h1.2 fun x hx => (List.mem_erase_of_ne (fun e : x = s => h1.1 (by rw [← e]; exact hx))).2 (h x (List.mem_cons_of_mem _ hx))
    rw [List.length_erase_of_mem hs] at this
    have h0 : 0 < all.length := List.length_pos_of_mem hs
    simp only [List.length_cons]; omega
theorem good_length {all b : List Int} (h : goodB all 0 b = true) : b.length ≤ all.length := by
  obtain ⟨h1, h2⟩ := good_iff.1 h
  exact sub_length (((List.pairwise_cons.1 h1).2).imp fun h => by omega) h2
end Go.Pb.Ware
