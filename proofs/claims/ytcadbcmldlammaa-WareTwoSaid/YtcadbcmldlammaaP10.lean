/- Trials that contradict one another are two at most: the mathematics of WareTwo. -/
import Derived.Test.YtcadbcmldlammaaP9
namespace Go.Pb.Ware
set_option linter.unusedVariables false
open Go.Pb
/-- What is left out can be put back: leaving out keeps a part. -/
theorem leave_sub {bad : List Int → Bool} : ∀ (i : Nat) (b : List Int), (leave bad i b).Sublist b
  | 0, b => by rw [leave]; exact List.Sublist.refl _
  | i + 1, b => by
    cases h : bad (b.eraseIdx i)
    · rw [leave_no h]; exact leave_sub i b
    · rw [leave_yes h]; exact (leave_sub i _).trans (List.eraseIdx_sublist _ _)
theorem leave_bad {bad : List Int → Bool} : ∀ (i : Nat) (b : List Int), bad b = true → bad (leave bad i b) = true
  | 0, b, h => by rw [leave]; exact h
  | i + 1, b, h => by
    cases h2 : bad (b.eraseIdx i)
    · rw [leave_no h2]; exact leave_bad i b h
    · rw [leave_yes h2]; exact leave_bad i _ h2
theorem erase_erase {b : List Int} {i j : Nat} (h : i ≤ j) : ((b.eraseIdx i).eraseIdx j).Sublist (b.eraseIdx (j + 1)) := by
  induction b generalizing i j with
  | nil => simp
  | cons x b ih =>
    cases i with
    | zero => simp only [List.eraseIdx_cons_zero, List.eraseIdx_cons_succ]; exact List.sublist_cons_self _ _
    | succ i =>
      cases j with
      | zero => omega
      | succ j =>
        simp only [List.eraseIdx_cons_succ]
        exact (ih (by omega)).cons_cons x
theorem leave_stays {bad : List Int → Bool} (mono : ∀ a b : List Int, a.Sublist b → bad a = true → bad b = true) : ∀ (i : Nat) (b : List Int), (∀ j, i ≤ j → j < b.length → bad (b.eraseIdx j) = false) →
    ∀ j, j < (leave bad i b).length → bad ((leave bad i b).eraseIdx j) = false
  | 0, b, h => by rw [leave]; exact fun j hj => h j (Nat.zero_le _) hj
  | i + 1, b, h => by
    cases h2 : bad (b.eraseIdx i)
    · rw [leave_no h2]
      refine leave_stays mono i b fun j hj hl => ?_
      rcases Nat.lt_or_ge i j with h3 | h3
      · exact h j h3 hl
      · rw [show j = i by omega]; exact h2
    · rw [leave_yes h2]
      refine leave_stays mono i _ fun j hj hl => ?_
      have hl2 : j + 1 < b.length ∨ b.length ≤ j + 1 := by omega
      have hle := List.length_eraseIdx_le b i
      rcases hl2 with h3 | h3
      · cases h4 : bad ((b.eraseIdx i).eraseIdx j)
        · rfl
        · have := mono _ _ (erase_erase hj) h4
          rw [h (j + 1) (by omega) h3] at this; cases this
      · exfalso
        have hi : i < b.length := by omega
        rw [List.length_eraseIdx_of_lt hi] at hl
        omega
theorem only_sub {a b : List Int} (h : ∀ x ∈ a, x ∈ b) (ts : List TT) : (only a ts).Sublist (only b ts) := by
  induction ts with
  | nil => exact List.nil_sublist _
  | cons t ts ih =>
    unfold only at ih ⊢
    rw [List.filter_cons, List.filter_cons]
    by_cases ha : a.contains (src t) = true
    · have hb : b.contains (src t) = true := by
        simp only [List.contains_eq_mem, decide_eq_true_eq] at ha ⊢; exact h _ ha
      rw [if_pos ha, if_pos hb]; exact ih.cons_cons _
    · rw [if_neg ha]
      split
      · exact ih.cons _
      · exact ih
/-- The ends of what trials leave are ends of the body's range or of one of them. -/
theorem acc_lo : ∀ (ts : List TT) (r : Rg), (accR ts r).lo = r.lo ∨ ∃ t ∈ ts, (accR ts r).lo = (tol t).lo
  | [], r => .inl rfl
  | t :: ts, r => by
    have e : accR (t :: ts) r = accR ts (common r (tol t)) := rfl
    rw [e]
    rcases acc_lo ts (common r (tol t)) with h | ⟨x, hx, h⟩
    · have h2 : (common r (tol t)).lo = r.lo ∨ (common r (tol t)).lo = (tol t).lo := by unfold common; dsimp only; omega
      rcases h2 with h2 | h2
      · exact .inl (h.trans h2)
      · exact .inr ⟨t, by simp, h.trans h2⟩
    · exact .inr ⟨x, by simp [hx], h⟩
theorem acc_hi : ∀ (ts : List TT) (r : Rg), (accR ts r).hi = r.hi ∨ ∃ t ∈ ts, (accR ts r).hi = (tol t).hi
  | [], r => .inl rfl
  | t :: ts, r => by
    have e : accR (t :: ts) r = accR ts (common r (tol t)) := rfl
    rw [e]
    rcases acc_hi ts (common r (tol t)) with h | ⟨x, hx, h⟩
    · have h2 : (common r (tol t)).hi = r.hi ∨ (common r (tol t)).hi = (tol t).hi := by unfold common; dsimp only; omega
      rcases h2 with h2 | h2
      · exact .inl (h.trans h2)
      · exact .inr ⟨t, by simp, h.trans h2⟩
    · exact .inr ⟨x, by simp [hx], h⟩
theorem acc_mem : ∀ {ts : List TT} {r : Rg} {t : TT}, t ∈ ts → (tol t).lo ≤ (accR ts r).lo ∧ (accR ts r).hi ≤ (tol t).hi
  | x :: ts, r, t, h => by
    have e : accR (x :: ts) r = accR ts (common r (tol x)) := rfl
    rw [e]
    rcases List.mem_cons.1 h with rfl | h
    · have := acc_in ts (common r (tol t))
      unfold common at this ⊢
      dsimp only at this
      omega
    · exact acc_mem h
theorem emptyB_iff {r : Rg} : emptyB r = true ↔ r.hi < r.lo := by simp [emptyB]
theorem empty_two {a b : TT} {r : Rg} : emptyB (accR [a, b] r) = emptyB (accR [b, a] r) := by
  have e1 : accR [a, b] r = common (common r (tol a)) (tol b) := rfl
  have e2 : accR [b, a] r = common (common r (tol b)) (tol a) := rfl
  rw [e1, e2, Bool.eq_iff_iff, emptyB_iff, emptyB_iff]
  unfold common; dsimp only; omega
/-- Where trials leave nothing, two of them do (Helly's theorem of a line). -/
theorem helly {ts : List TT} {r : Rg} (hr : r.lo ≤ r.hi) (h : emptyB (accR ts r) = true) : ∃ a ∈ ts, ∃ b ∈ ts, emptyB (accR [a, b] r) = true := by
  rw [emptyB_iff] at h
  have key : ∀ a b : TT, a ∈ ts → b ∈ ts → (accR ts r).lo ≤ max r.lo (max (tol a).lo (tol b).lo) → min r.hi (min (tol a).hi (tol b).hi) ≤ (accR ts r).hi → emptyB (accR [a, b] r) = true := by
    intro a b _ _ h1 h2
    have e1 : accR [a, b] r = common (common r (tol a)) (tol b) := rfl
    rw [e1, emptyB_iff]; unfold common; dsimp only; omega
  rcases acc_lo ts r with h1 | ⟨a, ha, h1⟩ <;> rcases acc_hi ts r with h2 | ⟨b, hb, h2⟩
  · omega
  · exact ⟨b, hb, b, hb, key b b hb hb (by omega) (by omega)⟩
  · exact ⟨a, ha, a, ha, key a a ha ha (by omega) (by omega)⟩
  · exact ⟨a, ha, b, hb, key a b ha hb (by omega) (by omega)⟩
theorem helly_of {ts : List TT} {r : Rg} {a b : TT} (ha : a ∈ ts) (hb : b ∈ ts) (h : emptyB (accR [a, b] r) = true) : emptyB (accR ts r) = true := by
  have e1 : accR [a, b] r = common (common r (tol a)) (tol b) := rfl
  rw [e1, emptyB_iff] at h
  rw [emptyB_iff]
  have h1 := acc_mem (r := r) ha
  have h2 := acc_mem (r := r) hb
  have h3 := acc_in ts r
  unfold common at h; dsimp only at h; omega
theorem acc_sub {a b : List TT} {r : Rg} (hr : r.lo ≤ r.hi) (h : a.Sublist b) (he : emptyB (accR a r) = true) : emptyB (accR b r) = true := by
  obtain ⟨x, hx, y, hy, h2⟩ := helly hr he
  exact helly_of (h.subset hx) (h.subset hy) h2
/-- What two of the trials leave: pairs k, i with k not behind i. -/
def pairB (ts : List TT) (r : Rg) (i k : Nat) : Bool := match ts[k]?, ts[i]? with
  | some a, some b => emptyB (accR [a, b] r)
  | _, _ => false
theorem pairB_eq {ts : List TT} {r : Rg} {i k : Nat} (hi : i < ts.length) (hk : k < ts.length) : pairB ts r i k = emptyB (accR [ts[k], ts[i]] r) := by
  simp [pairB, List.getElem?_eq_getElem hi, List.getElem?_eq_getElem hk]
def rowB (ts : List TT) (r : Rg) (i : Nat) : Nat → Bool
  | 0 => false
  | k + 1 => rowB ts r i k || pairB ts r i k
def twoB (ts : List TT) (r : Rg) : Nat → Bool
  | 0 => false
  | i + 1 => twoB ts r i || rowB ts r i (i + 1)
theorem rowB_iff {ts : List TT} {r : Rg} {i : Nat} : ∀ {n : Nat}, rowB ts r i n = true ↔ ∃ k, k < n ∧ pairB ts r i k = true
  | 0 => by simp [rowB]
  | n + 1 => by
    rw [rowB, Bool.or_eq_true, rowB_iff]
    constructor
    · rintro (⟨k, h1, h2⟩ | h)
      · exact ⟨k, by omega, h2⟩
      · exact ⟨n, by omega, h⟩
    · rintro ⟨k, h1, h2⟩
      rcases Nat.lt_or_ge k n with h | h
      · exact .inl ⟨k, h, h2⟩
      · rw [show k = n by omega] at h2; exact .inr h2
theorem twoB_iff {ts : List TT} {r : Rg} : ∀ {n : Nat}, twoB ts r n = true ↔ ∃ i k, i < n ∧ k ≤ i ∧ pairB ts r i k = true
  | 0 => by simp [twoB]
  | n + 1 => by
    rw [twoB, Bool.or_eq_true, twoB_iff, rowB_iff]
    constructor
    · rintro (⟨i, k, h1, h2, h3⟩ | ⟨k, h1, h2⟩)
      · exact ⟨i, k, by omega, h2, h3⟩
      · exact ⟨n, k, by omega, by omega, h2⟩
    · rintro ⟨i, k, h1, h2, h3⟩
      rcases Nat.lt_or_ge i n with h | h
      · exact .inl ⟨i, k, h, h2, h3⟩
      · rw [show i = n by omega] at h2 h3; exact .inr ⟨k, by omega, h3⟩
/-- Two of the trials leave nothing exactly if all together do. -/
theorem two_all {ts : List TT} {r : Rg} (hr : r.lo ≤ r.hi) : twoB ts r ts.length = emptyB (accR ts r) := by
  rw [Bool.eq_iff_iff, twoB_iff]
  constructor
  · rintro ⟨i, k, h1, h2, h3⟩
    rw [pairB_eq h1 (by omega)] at h3
    exact helly_of (List.getElem_mem _) (List.getElem_mem _) h3
  · intro h
    obtain ⟨a, ha, b, hb, h2⟩ := helly hr h
    obtain ⟨i, hi, rfl⟩ := List.getElem_of_mem ha
    obtain ⟨k, hk, rfl⟩ := List.getElem_of_mem hb
    rcases Nat.lt_or_ge i k with h3 | h3
    · exact ⟨k, i, hk, by omega, by rw [pairB_eq hk hi]; exact h2⟩
    · exact ⟨i, k, hi, h3, by rw [pairB_eq hi hk, empty_two]; exact h2⟩
theorem only_all {ts : List TT} : only (srcs ts) ts = ts := by
  unfold only
  refine List.filter_eq_self.2 fun t ht => ?_
  simp only [List.contains_eq_mem, decide_eq_true_eq]
  exact mem_srcs.2 ⟨t, ht, rfl⟩
theorem src_pos (t : TT) : 1 ≤ src t := (trOk_iff.1 t.2).1.1
/-- What is named: at most two sources, and accepted. -/
theorem leave_two {ts : List TT} {r : Rg} (hr : r.lo ≤ r.hi) (h : emptyB (accR ts r) = true) :
    1 ≤ (leave (fun b => clashB ts b r) (srcs ts).length (srcs ts)).length ∧ (leave (fun b => clashB ts b r) (srcs ts).length (srcs ts)).length ≤ 2 ∧
    ckC (fun b => clashB ts b r) (srcs ts) (leave (fun b => clashB ts b r) (srcs ts).length (srcs ts)) = 0 := by
  have mono : ∀ a b : List Int, a.Sublist b → clashB ts a r = true → clashB ts b r = true := fun a b hs ha => acc_sub hr (only_sub (fun x hx => hs.subset hx) ts) ha
  have hst := leave_stays (bad := fun b => clashB ts b r) mono (srcs ts).length (srcs ts) (fun j h1 h2 => by omega)
  have hbad := leave_bad (bad := fun b => clashB ts b r) (srcs ts).length (srcs ts) (by show emptyB (accR (only (srcs ts) ts) r) = true; rw [only_all]; exact h)
  have hsub := leave_sub (bad := fun b => clashB ts b r) (srcs ts).length (srcs ts)
  generalize leave (fun b => clashB ts b r) (srcs ts).length (srcs ts) = by' at hst hbad hsub ⊢
  have hrise : by'.Pairwise (· < ·) := (srcs_lt ts).sublist hsub
  have hgood : goodB (srcs ts) 0 by' = true := good_iff.2 ⟨List.pairwise_cons.2 ⟨fun x hx => by
    obtain ⟨t, _, rfl⟩ := mem_srcs.1 (hsub.subset hx)
    have := src_pos t; omega, hrise⟩, fun x hx => hsub.subset hx⟩
  refine ⟨?_, ?_, ckC_yes rfl hgood hbad hst |>.symm⟩
  · cases by' with
    | nil =>
      exfalso
      have : emptyB r = true := by
        have h2 : clashB ts [] r = true := hbad
        unfold clashB at h2
        rw [show only [] ts = [] from by unfold only; exact List.filter_eq_nil_iff.2 fun t _ => by simp] at h2
        exact h2
      rw [emptyB_iff] at this; omega
    | cons x l => simp
  · have h2 : emptyB (accR (only by' ts) r) = true := hbad
    obtain ⟨a, ha, b, hb, h3⟩ := helly hr h2
    have ha2 := List.mem_filter.1 ha
    have hb2 := List.mem_filter.1 hb
    simp only [List.contains_eq_mem, decide_eq_true_eq] at ha2 hb2
    have hall : ∀ x ∈ by', x ∈ [src a, src b] := by
      intro x hx
      obtain ⟨j, hj, rfl⟩ := List.getElem_of_mem hx
      by_cases hc : by'[j] ∈ [src a, src b]
      · exact hc
      · exfalso
        simp only [List.mem_cons, List.not_mem_nil, or_false, not_or] at hc
        have hin : ∀ y ∈ by', y ≠ by'[j] → y ∈ by'.eraseIdx j := by
          intro y hy hne
          rw [← less_erase hrise hj]
          exact List.mem_filter.2 ⟨hy, by simpa using hne⟩
        have h4 := hst j hj
        have h5 : clashB ts (by'.eraseIdx j) r = true := by
          refine helly_of (a := a) (b := b) ?_ ?_ h3
          · exact List.mem_filter.2 ⟨ha2.1, by simp only [List.contains_eq_mem, decide_eq_true_eq]; exact hin _ ha2.2 (fun e => hc.1 e.symm)⟩
          · exact List.mem_filter.2 ⟨hb2.1, by simp only [List.contains_eq_mem, decide_eq_true_eq]; exact hin _ hb2.2 (fun e => hc.2 e.symm)⟩
        have h6 : clashB ts (by'.eraseIdx j) r = false := h4
        rw [h5] at h6; cases h6
    have := sub_length (b := by') (all := [src a, src b]) (hrise.imp fun h => by omega) hall
    simpa using this
/-- A trial of another source. -/
def reN (i : Nat) (t : TT) : TT := if h : i < 99999 then ⟨⟨1 + (i : Int), t.1.wet, t.1.dry⟩, by
  have := trOk_iff.1 t.2
  exact trOk_iff.2 (by dsimp only; omega)⟩ else t
theorem cells_reN {i : Nat} {t : TT} (h : i < 99999) : cellsT (reN i t) = [.int .i64 (1 + (i : Int)), .int .i64 t.1.wet.lo, .int .i64 t.1.wet.hi, .int .i64 t.1.dry.lo, .int .i64 t.1.dry.hi] := by
  simp [reN, h, cellsT]
/-- Trials of which the first i are numbered anew. -/
def cur (ts : List TT) (i : Nat) : List TT := (ts.take i).mapIdx reN ++ ts.drop i
theorem cur_0 (ts : List TT) : cur ts 0 = ts := by simp [cur]
theorem cur_length (ts : List TT) {i : Nat} (h : i ≤ ts.length) : (cur ts i).length = ts.length := by simp [cur]; omega
theorem cur_take {ts : List TT} {i : Nat} (h : i ≤ ts.length) : (cur ts i).take i = (ts.take i).mapIdx reN := by
  unfold cur
  rw [List.take_append_of_le_length (by simp; omega), List.take_of_length_le (by simp; omega)]
theorem cur_at {ts : List TT} {i : Nat} (h : i < ts.length) : (cur ts i)[i]'(by rw [cur_length ts (by omega)]; exact h) = ts[i] := by
  have e : (cur ts i)[i]? = some ts[i] := by
    unfold cur
    rw [List.getElem?_append_right (by simp; omega)]
    simp [List.length_take, Nat.min_eq_left (Nat.le_of_lt h)]
  obtain ⟨_, h2⟩ := List.getElem?_eq_some_iff.1 e
  exact h2
theorem cur_drop {ts : List TT} {i : Nat} (h : i < ts.length) : (cur ts i).drop (i + 1) = ts.drop (i + 1) := by
  unfold cur
  rw [List.drop_append, List.drop_of_length_le (by simp; omega)]
  simp only [List.length_mapIdx, List.length_take, Nat.min_eq_left (Nat.le_of_lt h), List.nil_append, List.drop_drop]
  congr 1; omega
theorem cur_succ {ts : List TT} {i : Nat} (h : i < ts.length) : cur ts (i + 1) = (cur ts i).take i ++ [reN i ts[i]] ++ (cur ts i).drop (i + 1) := by
  rw [cur_take (by omega), cur_drop h]
  unfold cur
  rw [List.take_succ_eq_append_getElem h, List.mapIdx_append]
  simp [List.length_take, Nat.min_eq_left (Nat.le_of_lt h)]
end Go.Pb.Ware
namespace Go.Pb.Ware
theorem cur_cells {ts : List TT} {k : Nat} (h : k < ts.length) (h2 : k < 99999) :
    (((cur ts k).drop 0).take k).flatMap cellsT ++ [.int .i64 (1 + (k : Int)), .int .i64 ts[k].1.wet.lo, .int .i64 ts[k].1.wet.hi, .int .i64 ts[k].1.dry.lo, .int .i64 ts[k].1.dry.hi] ++ (((cur ts k).drop (k + 1)).take (ts.length - (k + 1))).flatMap cellsT = (cur ts (k + 1)).flatMap cellsT := by
  rw [cur_succ h, List.flatMap_append, List.flatMap_append, List.drop_zero, List.flatMap_singleton, cells_reN h2]
  congr 2
  exact List.take_of_length_le (by rw [List.length_drop, cur_length ts (by omega)]; omega)
end Go.Pb.Ware
