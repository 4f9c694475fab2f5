/- Plain words on trials: what lists of them tell, what is left of a body; bars that are true of one shrinkage. -/
import Derived.Test.YtcadbcmldlammaaRf
import Derived.Test.YtcadbcmldlammaaP2
namespace Go.Pb.Ware
set_option linter.unusedVariables false
open Go.Pb
def ckTs (rows : List (List Int)) : Int := if 30 < (rows.length : Int) then 2 else if rows.all okT = true then 0 else 13
def ckA (b : Bo) (rows : List (List Int)) : Int := if boOk b = true then if ckTs rows = 0 then 0 else 13 else 11
theorem ckTs_long {rows : List (List Int)} (h : 30 < (rows.length : Int)) : ckTs rows = 2 := by simp [ckTs, h]
theorem ckTs_all {rows : List (List Int)} (h : (rows.length : Int) ≤ 30) (x : Bool) (hx : rows.all okT = x) : ckTs rows = if x = true then 0 else 13 := by
  simp [ckTs, show ¬ 30 < (rows.length : Int) by omega, hx]
theorem ckTs_map {ts : List TT} (h : ts.length ≤ 30) : ckTs (ts.map rowT) = 0 := by
  have h2 : (ts.map rowT).all okT = true := List.all_eq_true.2 fun r hr => by
    obtain ⟨t, _, rfl⟩ := List.mem_map.1 hr
    exact t.2
  have h3 : ¬ (30 < ((ts.map rowT).length : Int)) := by rw [List.length_map]; omega
  simp [ckTs, h2]; omega
theorem ckA_0 {b : Bo} {rows : List (List Int)} (h : ckA b rows = 0) : boOk b = true ∧ ckTs rows = 0 := by
  unfold ckA at h
  split at h
  · rename_i hb
    split at h
    · rename_i ht; exact ⟨hb, ht⟩
    · cases h
  · cases h
theorem ckA_in {b : Bo} {rows : List (List Int)} (h : boOk b = true) (h2 : ckTs rows = 0) : ckA b rows = 0 := by simp [ckA, h, h2]
theorem ckTs_0 {rows : List (List Int)} (h : ckTs rows = 0) : rows.length ≤ 30 ∧ rows.all okT = true := by
  unfold ckTs at h
  split at h
  · cases h
  · split at h
    · rename_i h1 h2; exact ⟨by omega, h2⟩
    · cases h
theorem all_drop {rows : List (List Int)} {k : Nat} (hk : k < rows.length) : (rows.drop k).all okT = (okT rows[k] && (rows.drop (k + 1)).all okT) := by
  rw [drop_row hk]; rfl

/-- Within a range. -/
def Inr (s : Int) (r : Rg) : Prop := r.lo ≤ s ∧ s ≤ r.hi
theorem inr_common {s : Int} {a b : Rg} (h1 : Inr s a) (h2 : Inr s b) : Inr s (common a b) := by unfold Inr common at *; dsimp only; omega
theorem inr_acc {s : Int} : ∀ (ts : List TT) (r : Rg), Inr s r → (∀ t ∈ ts, Inr s (tol t)) → Inr s (accR ts r)
  | [], r, h, _ => h
  | t :: ts, r, h, h2 => by
    have := inr_acc ts (common r (tol t)) (inr_common h (h2 t (by simp))) (fun x hx => h2 x (by simp [hx]))
    simpa [accR] using this
theorem inr_full {s : Int} {r : Rg} (h : Inr s r) : emptyB r = false := by
  unfold Inr at h; unfold emptyB; exact decide_eq_false (by omega)
theorem acc_in : ∀ (ts : List TT) (r : Rg), r.lo ≤ (accR ts r).lo ∧ (accR ts r).hi ≤ r.hi
  | [], r => ⟨Int.le_refl _, Int.le_refl _⟩
  | t :: ts, r => by
    have := acc_in ts (common r (tol t))
    have e : accR (t :: ts) r = accR ts (common r (tol t)) := rfl
    rw [e]
    unfold common at this ⊢
    dsimp only at this
    omega
theorem acc_add (ts : List TT) (t : TT) (r : Rg) : (accR ts r).lo ≤ (accR (ts ++ [t]) r).lo ∧ (accR (ts ++ [t]) r).hi ≤ (accR ts r).hi := by
  rw [accR_snoc]; unfold common; dsimp only; omega

/-- A bar that is true of the shrinkage s: its trial is valid, and allows s. -/
theorem bar_ok {so wet off k s : Int} (h0 : 1 ≤ so) (h1 : so ≤ 99999) (h2 : 1 ≤ wet) (h3 : wet ≤ 900) (h4 : 0 ≤ off) (h5 : off ≤ 3) (h6 : 0 ≤ k) (h7 : k ≤ 2) (h8 : 0 ≤ s) (h9 : s ≤ 200) :
    trOk ⟨so, ⟨max (wet - off) 1, wet + off⟩, ⟨max (wet * (1000 - s) / 1000 - k) 0, up (wet * (1000 - s)) 1000⟩⟩ = true ∧
    Inr s (common ⟨0, 200⟩ (toldR ⟨so, ⟨max (wet - off) 1, wet + off⟩, ⟨max (wet * (1000 - s) / 1000 - k) 0, up (wet * (1000 - s)) 1000⟩⟩)) := by
  have m := mul_bd wet (1000 - s) 900 1000 (by omega) h3 (by omega) (by omega)
  have u1 : up (wet * (1000 - s)) 1000 ≤ 900 := (up_le (by omega)).2 (by omega)
  have u2 : wet * (1000 - s) ≤ up (wet * (1000 - s)) 1000 * 1000 := (up_le (by omega)).1 (Int.le_refl _)
  have d0 : wet * (1000 - s) / 1000 * 1000 ≤ wet * (1000 - s) := (le_down (by omega)).1 (Int.le_refl _)
  refine ⟨trOk_iff.2 ?_, ?_⟩
  · dsimp only; omega
  · apply inr_common
    · exact ⟨h8, h9⟩
    · have w1 : max (wet - off) 1 * (1000 - s) ≤ wet * (1000 - s) := Int.mul_le_mul_of_nonneg_right (by omega) (by omega)
      have w2 : wet * (1000 - s) ≤ (wet + off) * (1000 - s) := Int.mul_le_mul_of_nonneg_right (by omega) (by omega)
      have c1 : 1000 - s ≤ up (wet * (1000 - s)) 1000 * 1000 / max (wet - off) 1 := (le_down (by omega)).2 (by rw [Int.mul_comm (1000 - s)]; omega)
      have c2 : up (max (wet * (1000 - s) / 1000 - k) 0 * 1000) (wet + off) ≤ 1000 - s := (up_le (by omega)).2 (by rw [Int.mul_comm (1000 - s)]; omega)
      unfold Inr toldR
      dsimp only
      omega
/-- A bar of the body itself tells nothing new. -/
theorem bar_self {wet : Int} {r : Rg} (h2 : 1 ≤ wet) (h3 : wet ≤ 900) (h4 : 0 ≤ r.lo) (h5 : r.lo ≤ r.hi) (h6 : r.hi ≤ 200) :
    trOk ⟨99, ⟨wet, wet⟩, becomes ⟨wet, wet⟩ r⟩ = true ∧ common r (common ⟨0, 200⟩ (toldR ⟨99, ⟨wet, wet⟩, becomes ⟨wet, wet⟩ r⟩)) = r := by
  have b := becomes_bd (w := ⟨wet, wet⟩) (l := r) (m := 900) (by dsimp only; omega) (by dsimp only; omega) h3 h4 h5 (by omega)
  have m1 := mul_bd wet (1000 - r.lo) 900 1000 (by omega) h3 (by omega) (by omega)
  have u2 : wet * (1000 - r.lo) ≤ up (wet * (1000 - r.lo)) 1000 * 1000 := (up_le (by omega)).1 (Int.le_refl _)
  have d0 : wet * (1000 - r.hi) / 1000 * 1000 ≤ wet * (1000 - r.hi) := (le_down (by omega)).1 (Int.le_refl _)
  have c1 : 1000 - r.lo ≤ up (wet * (1000 - r.lo)) 1000 * 1000 / wet := (le_down (by omega)).2 (by rw [Int.mul_comm (1000 - r.lo)]; omega)
  have c2 : up (wet * (1000 - r.hi) / 1000 * 1000) wet ≤ 1000 - r.hi := (up_le (by omega)).2 (by rw [Int.mul_comm (1000 - r.hi)]; omega)
  refine ⟨trOk_iff.2 ?_, ?_⟩
  · dsimp only; omega
  · have e : becomes ⟨wet, wet⟩ r = ⟨wet * (1000 - r.hi) / 1000, up (wet * (1000 - r.lo)) 1000⟩ := rfl
    rw [e]
    obtain ⟨lo, hi⟩ := r
    dsimp only at *
    unfold common toldR
    dsimp only
    congr 1 <;> omega
end Go.Pb.Ware
namespace Go.Pb
/-- Rows that the call has appended read as rows. -/
theorem rowsAt_of_owns {w : World} {base n : Nat} {e : TypeId} {v : Value} {rows : List (List Int)} (hr : ∀ r ∈ rows, r.length = n) (h : w.ownsRow base e n v rows.length (rows.flatten.map (Value.int .i64))) (hi : ∀ r ∈ rows, ∀ z ∈ r, I64 z) : RowsAt n w v rows := by
  obtain ⟨hl, h⟩ := h
  rcases h with ⟨h1, h2⟩ | ⟨g, cap, cur, h1, h2, h3, h4, h5, h6, h7⟩
  · exact .inl ⟨h1, List.length_eq_zero_iff.1 h2⟩
  · refine .inr ⟨_, cap, h1, h4, by unfold maxLen at h5; omega, fun k r hk => ?_⟩
    have hm := List.mem_of_getElem? hk
    refine ⟨hr r hm, fun j z hz => ⟨?_, hi r hm z (List.mem_of_getElem? hz)⟩⟩
    have hkl : k < rows.length := (List.getElem?_eq_some_iff.1 hk).1
    have hjl : j < n := by rw [← hr r hm]; exact (List.getElem?_eq_some_iff.1 hz).1
    have key : ∀ (rows : List (List Int)) (k : Nat), (∀ r ∈ rows, r.length = n) → rows[k]? = some r → rows.flatten[k * n + j]? = some z := by
      intro rows
      induction rows with
      | nil => intro k _ hk; simp at hk
      | cons x xs ih =>
        intro k hx hk
        have hxl := hx x (by simp)
        rw [List.flatten_cons]
        cases k with
        | zero =>
          simp at hk; subst hk
          rw [List.getElem?_append_left (by omega), Nat.zero_mul, Nat.zero_add]; exact hz
        | succ k =>
          simp at hk
          rw [List.getElem?_append_right (by rw [hxl, Nat.succ_mul]; omega), hxl, show (k + 1) * n + j - n = k * n + j by rw [Nat.succ_mul]; omega]
          exact ih k (fun y hy => hx y (by simp [hy])) hk
    have h8 := key rows k hr hk
    have hlt : k * n + j < rows.length * n := by
      have : (k + 1) * n ≤ rows.length * n := Nat.mul_le_mul_right n hkl
      rw [Nat.succ_mul] at this; omega
    have h9 : (cur.toList.take (rows.length * n))[k * n + j]? = some (.int .i64 z) := by rw [h7, List.getElem?_map, h8]; rfl
    rw [List.getElem?_take, if_pos hlt] at h9
    show w.cell? ((⟨g, 0, none⟩ : Addr).add (k * n + j)) = _
    rw [Go.WideShapes.add_plain]
    simp only [World.cell?, h3, Nat.zero_add]
    simpa using h9
end Go.Pb
namespace Go.Pb
open Go.RowKit
theorem owns_below {w w' : World} {base size n : Nat} {e : TypeId} {v : Value} {xs : List Value} (h : w.ownsRow base e size v n xs) (hb : Below w.heap.size w w') : w'.ownsRow base e size v n xs := by
  refine ⟨h.1, ?_⟩
  rcases h.2 with hn | ⟨g, cap, cur, h1, h2, h3, h4⟩
  · exact .inl hn
  · exact .inr ⟨g, cap, cur, h1, h2, (hb.block g (Array.getElem?_eq_some_iff.1 h3).1).trans h3, h4⟩
theorem owns_not {w : World} {base size n : Nat} {e : TypeId} {v : Value} {xs : List Value} (h : w.ownsRow base e size v n xs) {B : Nat} (hB : B < base) : some B ≠ v.ownBlock := by
  rcases h.2 with ⟨h1, _⟩ | ⟨g, cap, cur, h1, h2, _⟩
  · subst h1; simp [Value.ownBlock]
  · subst h1; simp [Value.ownBlock]; omega
theorem owns_set {w : World} {base size n : Nat} {e : TypeId} {v : Value} {xs : List Value} (h : w.ownsRow base e size v n xs) {B o : Nat} (hB : B < base) (u : Value) : (w.setCell ⟨B, o, none⟩ u).ownsRow base e size v n xs := by
  refine ⟨h.1, ?_⟩
  rcases h.2 with hn | ⟨g, cap, cur, h1, h2, h3, h4⟩
  · exact .inl hn
  · exact .inr ⟨g, cap, cur, h1, h2, (Below.heap_setCell _ _ _ g (by simp; omega)).trans h3, h4⟩
/-- A slice of the call's own, shown. -/
theorem owns_shape {w : World} {base size n : Nat} {e : TypeId} {v : Value} {xs : List Value} (h : w.ownsRow base e size v n xs) : ∃ (a : Option Addr) (cap : Nat), v = .slice a n cap ∧ n ≤ 9223372036854775807 := by
  rcases h.2 with ⟨h1, h2⟩ | ⟨g, cap, cur, h1, h2, h3, h4, h5, _⟩
  · subst h2; exact ⟨none, 0, h1, by omega⟩
  · exact ⟨_, cap, h1, by unfold maxLen at h5; omega⟩
theorem grown_kept {w w' : World} {row : Option Nat} (hg : w.grownBy w' row) {B o : Nat} {u : Value} (h : w.cell? ⟨B, o, none⟩ = some u) (hne : some B ≠ row) : w'.cell? ⟨B, o, none⟩ = some u := hg.cell (a := ⟨B, o, none⟩) h hne
theorem grown_free {w w' : World} {row : Option Nat} (hg : w.grownBy w' row) {B o : Nat} {u : Value} (h : w.cell? ⟨B, o, none⟩ = some u) (hf : w.frozen? ⟨B, o, none⟩ = false) (hne : some B ≠ row) : w'.frozen? ⟨B, o, none⟩ = false :=
  (World.frozen?_of_block (a := ⟨B, o, none⟩) (hg.block B (World.block_lt_of_cell? w _ h) hne)).trans hf
theorem below_grown {B : Nat} {a w w' : World} {base size n : Nat} {e : TypeId} {v : Value} {xs : List Value} (h : Below B a w) (hg : w.grownBy w' v.ownBlock) (ho : w.ownsRow base e size v n xs) (hB : B ≤ w.heap.size) (hb : B ≤ base) : Below B a w' := by
  refine h.grown hg hB fun k hk => ?_
  rcases ho.2 with ⟨h1, _⟩ | ⟨g, cap, cur, h1, h2, _⟩
  · subst h1; simp [Value.ownBlock] at hk
  · subst h1; simp [Value.ownBlock] at hk; omega
end Go.Pb
namespace Go.Pb.Ware
theorem i64T {t : TT} : ∀ z ∈ rowT t, Go.Pb.I64 z := by
  intro z hz
  have h := trOk_iff.1 t.2
  simp only [rowT, List.mem_cons, List.not_mem_nil, or_false] at hz
  rcases hz with rfl | rfl | rfl | rfl | rfl <;> exact Go.Pb.I64.mk (by omega) (by omega)
/-- Trials that the call has appended read as trials. -/
theorem trialsAt_of_owns {w : Go.World} {base : Nat} {e : Go.TypeId} {v : Go.Value} {ts : List TT} (h : w.ownsRow base e 5 v ts.length (ts.flatMap cellsT)) : Go.Pb.RowsAt 5 w v (ts.map rowT) := by
  refine Go.Pb.rowsAt_of_owns (e := e) (base := base) (fun r hr => ?_) ?_ (fun r hr z hz => ?_)
  · obtain ⟨t, _, rfl⟩ := List.mem_map.1 hr; rfl
  · rw [List.length_map]
    have e1 : (ts.map rowT).flatten.map (Go.Value.int .i64) = ts.flatMap cellsT := by
      induction ts with
      | nil => rfl
      | cons t ts ih =>
        have : ∀ (l : List TT), (l.map rowT).flatten.map (Go.Value.int .i64) = l.flatMap cellsT := by
          intro l
          induction l with
          | nil => rfl
          | cons x l ih => simp only [List.map_cons, List.flatten_cons, List.map_append, List.flatMap_cons, ih]; rfl
        exact this _
    rw [e1]; exact h
  · obtain ⟨t, _, rfl⟩ := List.mem_map.1 hr
    exact i64T z hz
theorem len3 {r : List Int} (h : r.length = 3) : ∃ a0 a1 a2, r = [a0, a1, a2] := by
  match r, h with
  | [a0, a1, a2], _ => exact ⟨_, _, _, rfl⟩
end Go.Pb.Ware
namespace Go.Pb.Ware
open Go.Pb Go.RowKit
theorem one_cellsT {t : TT} : ∀ u ∈ cellsT t, u.oneCell' = true := by
  intro u hu
  simp only [cellsT, List.mem_cons, List.not_mem_nil, or_false] at hu
  rcases hu with rfl | rfl | rfl | rfl | rfl <;> rfl
theorem new_cellsT (w : World) (t : TT) (ty : TypeId) : ∀ j u, (cellsT t)[j]? = some u → (w.alloc (.cells (cellsT t).toArray ty)).cell? ((⟨w.heap.size, 0, none⟩ : Addr).add j) = some u := by
  intro j u hu
  rw [Go.WideShapes.add_plain, Nat.zero_add]
  exact (CellsAt.new w (cellsT t) ty j u hu).1
theorem flatMap_snoc (ts : List TT) (x : TT) : ts.flatMap cellsT ++ cellsT x = (ts ++ [x]).flatMap cellsT := by simp
end Go.Pb.Ware
namespace Go.Pb.Ware
open Go.Pb Go.RowKit
theorem trialAt_one (w : World) (y : TT) (ty : TypeId) : RowsAt 5 (w.alloc (.cells (cellsT y).toArray ty)) (.slice (some ⟨w.heap.size, 0, none⟩) 1 1) ([y].map rowT) := by
  refine .inr ⟨_, 1, rfl, Nat.le_refl _, by omega, fun k r hk => ?_⟩
  cases k with
  | zero =>
    simp at hk; subst hk
    refine ⟨rfl, fun j z hz => ⟨?_, i64T z (List.mem_of_getElem? hz)⟩⟩
    rw [Nat.zero_mul, Nat.zero_add]
    refine new_cellsT w y ty j _ ?_
    rw [show cellsT y = (rowT y).map (Value.int .i64) from rfl, List.getElem?_map, hz]; rfl
  | succ k => simp at hk
theorem acc_one (y : TT) (r : Rg) : accR [y] r = common r (tol y) := rfl
end Go.Pb.Ware
