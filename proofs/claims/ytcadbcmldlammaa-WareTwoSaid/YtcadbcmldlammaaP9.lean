/- The reference's lists of sources. -/
import Derived.Test.YtcadbcmldlammaaP8
namespace Go.Pb.Ware
set_option linter.unusedVariables false
open Go.Pb
/-- A list without a number. -/
def lessL (n : Int) (zs : List Int) : List Int := zs.filter fun z => z != n
theorem less_no {n : Int} {zs : List Int} {k : Nat} (hk : k < zs.length) (h : zs[k] = n) : lessL n (zs.take (k + 1)) = lessL n (zs.take k) := by
  have hb : (zs[k] != n) = false := by simp [h]
  rw [List.take_succ_eq_append_getElem hk, lessL, List.filter_append, List.filter_cons, if_neg (by rw [hb]; simp)]; simp [lessL]
theorem less_yes {n : Int} {zs : List Int} {k : Nat} (hk : k < zs.length) (h : ¬ zs[k] = n) : lessL n (zs.take (k + 1)) = lessL n (zs.take k) ++ [zs[k]] := by
  have hb : (zs[k] != n) = true := by simp [h]
  rw [List.take_succ_eq_append_getElem hk, lessL, List.filter_append, List.filter_cons, if_pos hb]; rfl
theorem less_le (n : Int) (zs : List Int) (k : Nat) : (lessL n (zs.take k)).length ≤ k := Nat.le_trans (List.length_filter_le _ _) (by rw [List.length_take]; omega)
theorem less_mem {n x : Int} {zs : List Int} (h : x ∈ lessL n zs) : x ∈ zs := (List.mem_filter.1 h).1
theorem less_erase : ∀ {zs : List Int}, zs.Pairwise (· < ·) → ∀ {i : Nat} (h : i < zs.length), lessL zs[i] zs = zs.eraseIdx i
  | z :: zs, hp, 0, _ => by
    have h1 := (List.pairwise_cons.1 hp).1
    simp only [lessL, List.getElem_cons_zero, List.eraseIdx_cons_zero, List.filter_cons, bne_self_eq_false, Bool.false_eq_true, if_false]
    exact List.filter_eq_self.2 fun x hx => by have := h1 x hx; simp; omega
  | z :: zs, hp, i + 1, h => by
    have h1 := List.pairwise_cons.1 hp
    have hi : i < zs.length := by simpa using h
    have := h1.1 zs[i] (List.getElem_mem hi)
    have h2 := less_erase h1.2 hi
    simp only [lessL] at h2 ⊢
    simp only [List.getElem_cons_succ, List.eraseIdx_cons_succ, List.filter_cons, h2]
    rw [if_pos (by simp; omega)]
/-- A step of adding to a rising list. -/
def addStep (n : Int) (p : List Int × Bool) (z : Int) : List Int × Bool := if p.2 = false ∧ n < z then (p.1 ++ [n] ++ [z], true) else (p.1 ++ [z], p.2)
def addTo (n : Int) (zs : List Int) : List Int × Bool := zs.foldl (addStep n) ([], false)
/-- A rising list with a number. -/
def addL (n : Int) (zs : List Int) : List Int := if zs.contains n then zs else if (addTo n zs).2 then (addTo n zs).1 else (addTo n zs).1 ++ [n]
theorem addTo_succ {n : Int} {zs : List Int} {k : Nat} (hk : k < zs.length) : addTo n (zs.take (k + 1)) = addStep n (addTo n (zs.take k)) zs[k] := by
  rw [List.take_succ_eq_append_getElem hk]; unfold addTo; rw [List.foldl_append]; rfl
theorem addTo_snoc {n z : Int} {zs : List Int} : addTo n (zs ++ [z]) = addStep n (addTo n zs) z := by unfold addTo; rw [List.foldl_append]; rfl
theorem add_no {n : Int} {zs : List Int} {k : Nat} {acc : List Int} {d : Bool} (hk : k < zs.length) (h : addTo n (zs.take k) = (acc, d)) (hc : ¬ (d = false ∧ n < zs[k])) : addTo n (zs.take (k + 1)) = (acc ++ [zs[k]], d) := by
  rw [addTo_succ hk, h, addStep, if_neg hc]
theorem add_yes {n : Int} {zs : List Int} {k : Nat} {acc : List Int} (hk : k < zs.length) (h : addTo n (zs.take k) = (acc, false)) (hc : n < zs[k]) : addTo n (zs.take (k + 1)) = (acc ++ [n] ++ [zs[k]], true) := by
  rw [addTo_succ hk, h, addStep, if_pos ⟨rfl, hc⟩]
theorem add_has {n : Int} {zs : List Int} (h : zs.contains n = true) : addL n zs = zs := by rw [addL, if_pos h]
theorem add_end {n : Int} {zs acc : List Int} {d : Bool} (h : zs.contains n = false) (h2 : addTo n zs = (acc, d)) : addL n zs = if d then acc else acc ++ [n] := by
  rw [addL, h, h2]; simp
theorem addTo_len (n : Int) (zs : List Int) : ∀ k, k ≤ zs.length → (addTo n (zs.take k)).1.length ≤ k + (if (addTo n (zs.take k)).2 then 1 else 0)
  | 0, _ => by simp [addTo]
  | k + 1, hk => by
    have ih := addTo_len n zs k (by omega)
    rw [addTo_succ (by omega), addStep]
    split
    · rename_i h
      rw [h.1] at ih
      simp at ih ⊢; omega
    · simp at ih ⊢; omega
theorem add_bd {n : Int} {zs acc : List Int} {d : Bool} {k : Nat} (hk : k ≤ zs.length) (h : addTo n (zs.take k) = (acc, d)) : acc.length ≤ k + 1 ∧ (d = false → acc.length ≤ k) := by
  have := addTo_len n zs k hk
  rw [h] at this
  dsimp only at this
  cases d <;> simp at this ⊢ <;> omega
theorem add_i64 {n : Int} {zs : List Int} (hz : ∀ z ∈ zs, I64 z) (hn : I64 n) {k : Nat} {acc : List Int} {d : Bool} (h : addTo n (zs.take k) = (acc, d)) : ∀ z ∈ acc, I64 z := by
  have key : ∀ k, ∀ z ∈ (addTo n (zs.take k)).1, I64 z := by
    intro k
    induction k with
    | zero => intro z hz; simp [addTo] at hz
    | succ k ih =>
      by_cases hk : k < zs.length
      · rw [addTo_succ hk, addStep]
        have h1 := hz zs[k] (List.getElem_mem hk)
        split
        · intro z hz; simp only [List.mem_append, List.mem_singleton] at hz
          rcases hz with (h | rfl) | rfl
          · exact ih z h
          · exact hn
          · exact h1
        · intro z hz; simp only [List.mem_append, List.mem_singleton] at hz
          rcases hz with h | rfl
          · exact ih z h
          · exact h1
      · rw [List.take_of_length_le (by omega)] at ih ⊢; exact ih
  have := key k
  rw [h] at this; exact this
/-- The sources of trials, added one by one. -/
def addAll (ts : List TT) : List Int := ts.foldl (fun b t => addL (src t) b) []
theorem addAll_succ {ts : List TT} {k : Nat} (hk : k < ts.length) : addAll (ts.take (k + 1)) = addL (src ts[k]) (addAll (ts.take k)) := by
  rw [List.take_succ_eq_append_getElem hk]; unfold addAll; rw [List.foldl_append]; rfl
theorem addTo_shape {n : Int} {zs : List Int} (hp : zs.Pairwise (· < ·)) : ∀ k, k ≤ zs.length → (∀ x ∈ zs.take k, x ≠ n) →
    (addTo n (zs.take k)).1.Pairwise (· < ·) ∧ (∀ x, x ∈ (addTo n (zs.take k)).1 ↔ x ∈ zs.take k ∨ ((addTo n (zs.take k)).2 = true ∧ x = n)) ∧ ((addTo n (zs.take k)).2 = true → ∃ x ∈ zs.take k, n < x) ∧ ((addTo n (zs.take k)).2 = false → ∀ x ∈ zs.take k, x < n)
  | 0, _, _ => by simp [addTo]
  | k + 1, hk, hne => by
    have hlt : k < zs.length := by omega
    have htk := List.take_succ_eq_append_getElem hlt
    have hsub : ∀ x ∈ zs.take k, x ≠ n := fun x hx => hne x (by rw [htk]; exact List.mem_append_left _ hx)
    have hkn : zs[k] ≠ n := hne _ (by rw [htk]; exact List.mem_append_right _ (List.mem_singleton.2 rfl))
    have hbefore : ∀ x ∈ zs.take k, x < zs[k] := by
      intro x hx
      have h2 : (zs.take (k + 1)).Pairwise (· < ·) := hp.sublist (List.take_sublist _ _)
      rw [htk] at h2
      exact (List.pairwise_append.1 h2).2.2 x hx _ (by simp)
    obtain ⟨i1, i2, i3, i4⟩ := addTo_shape hp k (by omega) hsub
    rw [addTo_succ hlt, addStep, htk]
    split
    · rename_i h
      obtain ⟨h1, h2⟩ := h
      have hall := i4 h1
      have hm : ∀ x, x ∈ (addTo n (zs.take k)).1 ↔ x ∈ zs.take k := fun x => by rw [i2 x, h1]; simp
      refine ⟨?_, fun x => ?_, fun _ => ⟨zs[k], List.mem_append_right _ (List.mem_singleton.2 rfl), h2⟩, fun h => by cases h⟩
      · refine List.pairwise_append.2 ⟨List.pairwise_append.2 ⟨i1, by simp, fun x hx y hy => ?_⟩, by simp, fun x hx y hy => ?_⟩
        · rw [List.mem_singleton.1 hy]; exact hall x ((hm x).1 hx)
        · rw [List.mem_singleton.1 hy]
          rcases List.mem_append.1 hx with h | h
          · exact hbefore x ((hm x).1 h)
          · rw [List.mem_singleton.1 h]; exact h2
      · simp only [List.mem_append, List.mem_singleton, hm x, true_and]
        constructor
        · rintro ((h | h) | h)
          · exact .inl (.inl h)
          · exact .inr h
          · exact .inl (.inr h)
        · rintro ((h | h) | h)
          · exact .inl (.inl h)
          · exact .inr h
          · exact .inl (.inr h)
    · rename_i h
      refine ⟨?_, fun x => ?_, fun hd => ?_, fun hd => ?_⟩
      · refine List.pairwise_append.2 ⟨i1, by simp, fun x hx y hy => ?_⟩
        rw [List.mem_singleton.1 hy]
        rcases (i2 x).1 hx with h3 | ⟨h3, rfl⟩
        · exact hbefore x h3
        · obtain ⟨y, hy1, hy2⟩ := i3 h3
          exact Int.lt_trans hy2 (hbefore y hy1)
      · simp only [List.mem_append, List.mem_singleton, i2 x]
        constructor
        · rintro ((h | h) | h)
          · exact .inl (.inl h)
          · exact .inr h
          · exact .inl (.inr h)
        · rintro ((h | h) | h)
          · exact .inl (.inl h)
          · exact .inr h
          · exact .inl (.inr h)
      · obtain ⟨x, hx, hx2⟩ := i3 hd
        exact ⟨x, List.mem_append_left _ hx, hx2⟩
      · intro x hx
        rcases List.mem_append.1 hx with h3 | h3
        · exact i4 hd x h3
        · rw [List.mem_singleton.1 h3]
          have : ¬ n < zs[k] := fun h4 => h ⟨hd, h4⟩
          omega
theorem addL_shape {n : Int} {zs : List Int} (hp : zs.Pairwise (· < ·)) : (addL n zs).Pairwise (· < ·) ∧ ∀ x, x ∈ addL n zs ↔ x ∈ zs ∨ x = n := by
  unfold addL
  cases hc : zs.contains n
  · have hne : ∀ x ∈ zs.take zs.length, x ≠ n := fun x hx e => by
      rw [List.take_length] at hx
      rw [List.contains_eq_mem, decide_eq_false_iff_not] at hc
      exact hc (e ▸ hx)
    obtain ⟨i1, i2, i3, i4⟩ := addTo_shape hp zs.length (Nat.le_refl _) hne
    rw [List.take_length] at i1 i2 i3 i4
    simp only [Bool.false_eq_true, if_false]
    cases hd : (addTo n zs).2
    · rw [hd] at i2
      simp only [Bool.false_eq_true, if_false]
      refine ⟨List.pairwise_append.2 ⟨i1, by simp, fun x hx y hy => ?_⟩, fun x => ?_⟩
      · rw [List.mem_singleton.1 hy]
        exact i4 hd x (by simpa using (i2 x).1 hx)
      · simp only [List.mem_append, List.mem_singleton, i2 x]; simp
    · rw [hd] at i2
      simp only [if_true]
      exact ⟨i1, fun x => by rw [i2 x]; simp⟩
  · simp only [if_true]
    rw [List.contains_eq_mem, decide_eq_true_eq] at hc
    exact ⟨hp, fun x => ⟨.inl, fun h => h.elim id (fun e => e ▸ hc)⟩⟩
theorem addAll_shape : ∀ k (ts : List TT), (addAll (ts.take k)).Pairwise (· < ·) ∧ ∀ x, x ∈ addAll (ts.take k) ↔ ∃ t ∈ ts.take k, src t = x
  | 0, ts => by simp [addAll]
  | k + 1, ts => by
    obtain ⟨h1, h2⟩ := addAll_shape k ts
    by_cases hk : k < ts.length
    · rw [addAll_succ hk]
      obtain ⟨h3, h4⟩ := addL_shape (n := src ts[k]) h1
      refine ⟨h3, fun x => ?_⟩
      rw [h4 x, h2 x, List.take_succ_eq_append_getElem hk]
      constructor
      · rintro (⟨t, ht, rfl⟩ | rfl)
        · exact ⟨t, List.mem_append_left _ ht, rfl⟩
        · exact ⟨_, List.mem_append_right _ (by simp), rfl⟩
      · rintro ⟨t, ht, rfl⟩
        rcases List.mem_append.1 ht with h | h
        · exact .inl ⟨t, h, rfl⟩
        · rw [List.mem_singleton.1 h]; exact .inr rfl
    · rw [List.take_of_length_le (by omega)] at h1 h2 ⊢; exact ⟨h1, h2⟩
theorem addAll_srcs {ts : List TT} : addAll ts = srcs ts := by
  have h := addAll_shape ts.length ts
  rw [List.take_length] at h
  exact rising_ext h.1 (srcs_lt ts) fun x => by rw [h.2 x, mem_srcs]
theorem addAll_len (ts : List TT) : (addAll ts).length ≤ ts.length := by rw [addAll_srcs]; exact srcs_length ts
theorem NumsAt.nil {w : World} : NumsAt w (.slice none 0 0) [] := .inl ⟨rfl, rfl⟩
theorem told_tol {R : Rg} (t : TT) (h1 : 0 ≤ R.lo) (h2 : R.hi ≤ 200) : common R (toldR t.1) = common R (tol t) := by
  unfold tol common; dsimp only
  rw [show max R.lo (max 0 (toldR t.1).lo) = max R.lo (toldR t.1).lo by omega, show min R.hi (min 200 (toldR t.1).hi) = min R.hi (toldR t.1).hi by omega]
theorem common_bd (R S : Rg) : R.lo ≤ (common R S).lo ∧ (common R S).hi ≤ R.hi := by unfold common; dsimp only; omega
theorem acc_take {ts : List TT} {r : Rg} {k : Nat} (hk : k < ts.length) : accR (ts.take (k + 1)) r = common (accR (ts.take k) r) (tol ts[k]) := by
  rw [List.take_succ_eq_append_getElem hk, accR_snoc]
end Go.Pb.Ware
