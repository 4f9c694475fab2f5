/- Sources, sorted and each once. -/
import Derived.Test.YtcadbcmldlammaaP6
import Derived.Sort.OwnSortedInts
import Derived.Lib.RowBridge
namespace Go.Pb.Ware
set_option linter.unusedVariables false
open Go.Pb Go.Lib
theorem compact_step (zs : List Int) (hs : zs.Pairwise (· ≤ ·)) : ∀ m, m ≤ zs.length → (compactUpTo zs.toArray m).Pairwise (· < ·) ∧ (∀ x, x ∈ compactUpTo zs.toArray m ↔ x ∈ zs.take m)
  | 0, _ => by simp [compactUpTo]
  | m + 1, hm => by
    obtain ⟨h1, h2⟩ := compact_step zs hs m (by omega)
    have hlt : m < zs.length := by omega
    have hd : (zs.toArray)[m]! = zs[m] := by simp [hlt]
    rw [compactUpTo_succ, hd, List.take_succ_eq_append_getElem hlt]
    by_cases hk : keeps zs.toArray m = true
    · rw [if_pos hk]
      refine ⟨?_, fun x => by simp only [List.mem_append, h2 x]⟩
      refine List.pairwise_append.2 ⟨h1, by simp, fun x hx y hy => ?_⟩
      rw [List.mem_singleton] at hy
      subst hy
      have hx2 := (h2 x).1 hx
      obtain ⟨j, hj⟩ := List.getElem?_of_mem hx2
      have hjm : j < m := by
        have := (List.getElem?_eq_some_iff.1 hj).1
        rw [List.length_take] at this; omega
      have hm0 : m ≠ 0 := by omega
      have hne : zs[m] ≠ zs[m - 1] := by
        have := of_decide_eq_true hk
        rcases this with h | h
        · exact absurd h hm0
        · rw [hd] at h
          have : (zs.toArray)[m - 1]! = zs[m - 1] := by simp [show m - 1 < zs.length by omega]
          rw [this] at h; exact h
      have hxj : zs[j] = x := by
        rw [List.getElem?_take, if_pos hjm] at hj
        exact (List.getElem?_eq_some_iff.1 hj).2
      have hp := List.pairwise_iff_getElem.1 hs
      have a1 : zs[j] ≤ zs[m - 1] := by
        rcases Nat.lt_or_ge j (m - 1) with h | h
        · exact hp j (m - 1) (by omega) (by omega) h
        · have : j = m - 1 := by omega
          subst this; exact Int.le_refl _
      have a2 : zs[m - 1] ≤ zs[m] := hp (m - 1) m (by omega) hlt (by omega)
      omega
    · rw [if_neg hk, List.append_nil]
      refine ⟨h1, fun x => ?_⟩
      rw [h2 x, List.mem_append, List.mem_singleton]
      refine ⟨.inl, fun h => ?_⟩
      rcases h with h | h
      · exact h
      · subst h
        have hk' : ¬ (m = 0 ∨ (zs.toArray)[m]! ≠ (zs.toArray)[m - 1]!) := fun h => hk (decide_eq_true h)
        have hm0 : m ≠ 0 := fun h => hk' (.inl h)
        have he : zs[m] = zs[m - 1] := by
          have h3 : (zs.toArray)[m]! = (zs.toArray)[m - 1]! := by
            by_cases h4 : (zs.toArray)[m]! = (zs.toArray)[m - 1]!
            · exact h4
            · exact absurd (.inr h4) hk'
          rw [hd] at h3
          have : (zs.toArray)[m - 1]! = zs[m - 1] := by simp [show m - 1 < zs.length by omega]
          rw [this] at h3; exact h3
        rw [he]
        refine List.mem_of_getElem? (i := m - 1) ?_
        rw [List.getElem?_take, if_pos (by omega)]
        exact List.getElem?_eq_getElem (by omega)
theorem compact_sorted {zs : List Int} (hs : zs.Pairwise (· ≤ ·)) : (compact zs).Pairwise (· < ·) ∧ ∀ x, x ∈ compact zs ↔ x ∈ zs := by
  have := compact_step zs hs zs.length (Nat.le_refl _)
  rw [List.take_length] at this
  exact this
def sorted (zs : List Int) : List Int := zs.mergeSort fun x y => decide (x ≤ y)
/-- The sources of trials, rising, each once. -/
def srcs (ts : List TT) : List Int := compact (sorted (ts.map src))
theorem sorted_le (zs : List Int) : (sorted zs).Pairwise (· ≤ ·) := by
  have := List.pairwise_mergeSort (le := fun x y : Int => decide (x ≤ y)) (fun a b c h1 h2 => by simp at *; omega) (fun a b => by simp; omega) zs
  exact this.imp (fun h => by simpa using h)
theorem mem_sorted {zs : List Int} {x : Int} : x ∈ sorted zs ↔ x ∈ zs := by unfold sorted; exact List.mem_mergeSort
theorem sorted_length (zs : List Int) : (sorted zs).length = zs.length := by unfold sorted; exact List.length_mergeSort zs
theorem srcs_lt (ts : List TT) : (srcs ts).Pairwise (· < ·) := (compact_sorted (sorted_le _)).1
theorem mem_srcs {ts : List TT} {x : Int} : x ∈ srcs ts ↔ ∃ t ∈ ts, src t = x := by
  unfold srcs
  rw [(compact_sorted (sorted_le _)).2, mem_sorted, List.mem_map]
theorem srcs_length (ts : List TT) : (srcs ts).length ≤ ts.length := by
  have h1 := compact_length_le (sorted (ts.map src))
  rw [sorted_length, List.length_map] at h1
  exact h1
/-- Two rising lists with the same members are one. -/
theorem rising_ext : ∀ {l m : List Int}, l.Pairwise (· < ·) → m.Pairwise (· < ·) → (∀ x, x ∈ l ↔ x ∈ m) → l = m
  | [], [], _, _, _ => rfl
  | [], y :: m, _, _, h => by have := (h y).2 (by simp); cases this
  | x :: l, [], _, _, h => by have := (h x).1 (by simp); cases this
  | x :: l, y :: m, h1, h2, h => by
    rw [List.pairwise_cons] at h1 h2
    have hxy : x = y := by
      rcases List.mem_cons.1 ((h x).1 (by simp)) with e | e
      · exact e
      · rcases List.mem_cons.1 ((h y).2 (by simp)) with e2 | e2
        · exact e2.symm
        · have := h1.1 y e2; have := h2.1 x e; omega
    subst hxy
    rw [rising_ext h1.2 h2.2 fun z => ?_]
    have hz := h z
    simp only [List.mem_cons] at hz
    constructor
    · intro hm
      rcases hz.1 (.inr hm) with e | e
      · subst e; have := h1.1 z hm; omega
      · exact e
    · intro hm
      rcases hz.2 (.inr hm) with e | e
      · subst e; have := h2.1 z hm; omega
      · exact e
end Go.Pb.Ware
