/- Loads and answers of courses, by plain maths; what a round must keep. -/
import Derived.Test.YtnchhleokdkejaaKScb
import Derived.Test.YtnchhleokdkejaaKLibb
import Derived.Test.YtnchhleokdkejaaKSfb
import Derived.Sort.CutIn
import Derived.RangeFuncNested
import Derived.RangeFuncBound
import Derived.RangeFuncCalls
import Derived.RangeFuncLeaves
import Derived.Shelf.RegionOpen
import Derived.OwnWalkIn
import Derived.TacticsInMore
import Derived.LoopNIn
import Derived.LoopIn
import Derived.WalkMore
import Derived.Sort.LotA
import Derived.Shelf.SlSortCmp.Kit1
namespace Go.Pb.Bung
open Go Go.Pb Go.Pb.Ware Go.RowKit
set_option linter.unusedVariables false
set_option linter.unusedSimpArgs false
/-- The blocks of which p says so lie as they lay. -/
def KeepP (p : Nat → Prop) (W W' : World) : Prop := W.heap.size ≤ W'.heap.size ∧ ∀ k, p k → k < W.heap.size → W'.heap[k]? = W.heap[k]?
theorem KeepP.refl {p : Nat → Prop} {W : World} : KeepP p W W := ⟨Nat.le_refl _, fun _ _ _ => rfl⟩
theorem KeepP.trans {p : Nat → Prop} {A B C : World} (h : KeepP p A B) (k : KeepP p B C) : KeepP p A C := ⟨Nat.le_trans h.1 k.1, fun i hp hi => (k.2 i hp (Nat.lt_of_lt_of_le hi h.1)).trans (h.2 i hp hi)⟩
theorem KeepP.of_below {p : Nat → Prop} {W W' : World} (h : Below W.heap.size W W') : KeepP p W W' := ⟨h.size, fun k _ hk => h.block k hk⟩
theorem KeepP.set {p : Nat → Prop} {W : World} {a : Addr} {v : Value} (h : ¬ p a.block) : KeepP p W (W.setCell a v) := ⟨(KeepsWalks.setCell W _ v).size, fun k h1 _ => Below.heap_setCell _ _ _ k (fun e => h (e ▸ h1))⟩
theorem KeepP.put {p : Nat → Prop} {W : World} {l : Nat} {o' : Obj} (h : ¬ p l) : KeepP p W (W.putObj l o') := ⟨by rw [World.putObj_size]; exact Nat.le_refl _, fun k h1 _ => World.putObj_heap_other (fun e => h (e ▸ h1))⟩
theorem KeepP.cell {p : Nat → Prop} {W W' : World} (h : KeepP p W W') {a : Addr} (hp : p a.block) {v : Value} (hv : W.cell? a = some v) : W'.cell? a = some v := by
  have hlt := World.block_lt_of_cell? W a hv
  unfold World.cell? at hv ⊢
  rw [h.2 _ hp hlt]
  exact hv
/-- Of a slice's memory p says so. -/
def InP (p : Nat → Prop) (v : Value) : Prop := ∀ a n c, v = .slice (some a) n c → p a.block
theorem rows_keepP {p : Nat → Prop} {n : Nat} {W W' : World} {v : Value} {rows : List (List Int)} (h : RowsAt n W v rows) (hp : rows ≠ [] → InP p v) (hk : KeepP p W W') : RowsAt n W' v rows := by
  rcases h with h | ⟨a, cap, h1, h2, h3, h4⟩
  · exact .inl h
  · exact .inr ⟨a, cap, h1, h2, h3, fun k r hr => ⟨(h4 k r hr).1, fun j z hz => ⟨hk.cell (a := a.add (k * n + j)) (by
      have : (a.add (k * n + j)).block = a.block := by unfold Addr.add; split <;> rfl
      rw [this]; exact hp (fun e => by rw [e] at hr; simp at hr) a _ cap h1) ((h4 k r hr).2 j z hz).1, ((h4 k r hr).2 j z hz).2⟩⟩⟩
def sgV (s : Sg) : Value := .agg (cellsG s).toArray
/-- What stands on the course i weighs. -/
def loadL (l : List Sg) (i : Nat) : Int := ((l.drop (i + 1)).map (·.wl)).sum
def loadH (l : List Sg) (i : Nat) : Int := ((l.drop (i + 1)).map (·.wh)).sum
def ansS (s : Sg) (lo hi : Int) : Int := if hi ≤ s.bl then 1 else if lo > s.bh then 0 else 2
def ansL (l : List Sg) (i : Nat) : Int := ansS (l.getD i default) (loadL l i) (loadH l i)
theorem load_small {l : List Sg} (h : ∀ s ∈ l, 0 ≤ s.wl ∧ s.wl ≤ 10000000 ∧ 0 ≤ s.wh ∧ s.wh ≤ 10000000) (i : Nat) : 0 ≤ loadL l i ∧ loadL l i ≤ 10000000 * l.length ∧ 0 ≤ loadH l i ∧ loadH l i ≤ 10000000 * l.length := by
  have key : ∀ (f : Sg → Int) (m : List Sg), (∀ s ∈ m, 0 ≤ f s ∧ f s ≤ 10000000) → 0 ≤ (m.map f).sum ∧ (m.map f).sum ≤ 10000000 * m.length := by
    intro f m hm
    induction m with
    | nil => simp
    | cons s m ih =>
      have h1 := hm s (List.mem_cons_self ..)
      have h2 := ih fun x hx => hm x (List.mem_cons_of_mem _ hx)
      rw [List.map_cons, List.sum_cons, List.length_cons]
      omega
  have hd : ∀ s ∈ l.drop (i + 1), s ∈ l := fun s hs => List.mem_of_mem_drop hs
  have hl : (l.drop (i + 1)).length ≤ l.length := by rw [List.length_drop]; omega
  have h1 := key (·.wl) _ fun s hs => ⟨(h s (hd s hs)).1, (h s (hd s hs)).2.1⟩
  have h2 := key (·.wh) _ fun s hs => ⟨(h s (hd s hs)).2.2.1, (h s (hd s hs)).2.2.2⟩
  unfold loadL loadH
  omega
def accL (l : List Sg) (k : Nat) : Int := ((l.drop (l.length - k)).map (·.wl)).sum
def accH (l : List Sg) (k : Nat) : Int := ((l.drop (l.length - k)).map (·.wh)).sum
theorem acc_load {l : List Sg} {i k : Nat} (h : i + k + 1 = l.length) : loadL l i = accL l k ∧ loadH l i = accH l k := by
  unfold loadL loadH accL accH
  rw [show l.length - k = i + 1 by omega]; exact ⟨rfl, rfl⟩
theorem acc_step {l : List Sg} {i k : Nat} {s : Sg} (h : i + k + 1 = l.length) (hs : l[i]? = some s) : accL l (k + 1) = accL l k + s.wl ∧ accH l (k + 1) = accH l k + s.wh := by
  obtain ⟨hk, rfl⟩ := List.getElem?_eq_some_iff.1 hs
  unfold accL accH
  rw [show l.length - k = i + 1 by omega, show l.length - (k + 1) = i by omega, List.drop_eq_getElem_cons hk, List.map_cons, List.map_cons, List.sum_cons, List.sum_cons]
  constructor <;> omega
theorem acc_zero {l : List Sg} : accL l 0 = 0 ∧ accH l 0 = 0 := by
  unfold accL accH; rw [Nat.sub_zero, List.drop_length]; exact ⟨rfl, rfl⟩
theorem cells_keepA {W W' : World} {B n0 : Nat} {v : Value} {vs : List Value} (h : CellsAt W B (v :: vs)) (hk : KeepsAll n0 W W') (hB : n0 ≤ B) : CellsAt W' B (v :: vs) := by
  have hlt : B < W.heap.size := World.block_lt_of_cell? W ⟨B, 0, none⟩ (h 0 v rfl).1
  intro o u hu
  obtain ⟨h1, h2⟩ := h o u hu
  have e := hk.same B hB hlt
  refine ⟨?_, ?_⟩
  · unfold World.cell? at h1 ⊢; rw [e]; exact h1
  · unfold World.frozen? at h2 ⊢; rw [e]; exact h2
theorem roundIn_wide {a b : Nat} {P : Program} {l k : Nat} {f : FuncId} {tmps : Array Value} {assign body : Code} {w : World} {R : Ending → World → Prop} (h : RoundIn Fence.wide a P l f tmps assign body w R) : RoundIn (Fence.wide.inRound k) b P l f tmps assign body w R := ⟨h.1, fun c cs _ => h.2 c cs (room_wide _)⟩
def encL (l : List Sg) (i : Nat) : Array Value := #[.int .i64 (i : Int), .agg #[.int .i64 (loadL l i), .int .i64 (loadH l i)]]
theorem inP_rows {w : World} {v : Value} {l : List Sg} (h : RowsAt 8 w v (l.map rowG)) (hne : l ≠ []) : InP (fun k => k < w.heap.size) v := by
  rintro a n c rfl
  rcases h with ⟨h1, _⟩ | ⟨b, cap, h1, h2, h3, h4⟩
  · cases h1
  · injection h1 with h1 _ _
    injection h1 with h1
    subst h1
    obtain ⟨s, l', rfl⟩ := List.exists_cons_of_ne_nil hne
    have h5 := (h4 0 (rowG s) rfl).2 0 s.id rfl
    have h6 := World.block_lt_of_cell? w _ h5.1
    have : (a.add (0 * 8 + 0)).block = a.block := by unfold Addr.add; split <;> rfl
    rwa [this] at h6
/-- What all courses answer. -/
def stA (l : List Sg) : Int := if (List.range l.length).any (fun i => decide (ansL l i = 0)) then 0 else if (List.range l.length).any (fun i => decide (ansL l i = 2)) then 2 else 1
/-- Of the k upper courses none answers No. -/
def noneUp (l : List Sg) (k : Nat) : Prop := ∀ i, i < l.length → l.length ≤ i + k → ansL l i ≠ 0
def allUp (l : List Sg) (k : Nat) : Int := if ∃ i, i < l.length ∧ l.length ≤ i + k ∧ ansL l i = 2 then 2 else 1
theorem stA_no {l : List Sg} {i : Nat} (hi : i < l.length) (h : ansL l i = 0) : stA l = 0 := by
  unfold stA
  rw [if_pos (List.any_eq_true.2 ⟨i, List.mem_range.2 hi, decide_eq_true h⟩)]
theorem stA_end {l : List Sg} (h : noneUp l l.length) : stA l = allUp l l.length := by
  unfold stA allUp
  rw [if_neg (by
    rw [List.any_eq_true]
    rintro ⟨i, hi, h2⟩
    exact h i (List.mem_range.1 hi) (by omega) (of_decide_eq_true h2))]
  by_cases h2 : ∃ i, i < l.length ∧ l.length ≤ i + l.length ∧ ansL l i = 2
  · rw [if_pos h2]
    obtain ⟨i, h3, -, h4⟩ := h2
    rw [if_pos (List.any_eq_true.2 ⟨i, List.mem_range.2 h3, decide_eq_true h4⟩)]
  · rw [if_neg h2, if_neg (by
      rw [List.any_eq_true]
      rintro ⟨i, hi, h3⟩
      exact h2 ⟨i, List.mem_range.1 hi, by omega, of_decide_eq_true h3⟩)]
theorem noneUp_zero {l : List Sg} : noneUp l 0 := fun i h1 h2 => by omega
theorem allUp_zero {l : List Sg} : allUp l 0 = 1 := by
  unfold allUp; rw [if_neg]; rintro ⟨i, h1, h2, -⟩; omega
theorem noneUp_next {l : List Sg} {i k : Nat} (h : noneUp l k) (hi : i + k + 1 = l.length) (h0 : ansL l i ≠ 0) : noneUp l (k + 1) := fun j h1 h2 => by
  by_cases e : j = i
  · subst e; exact h0
  · exact h j h1 (by omega)
theorem allUp_two {l : List Sg} {i k : Nat} (hi : i + k + 1 = l.length) (h0 : ansL l i = 2) : allUp l (k + 1) = 2 := by
  unfold allUp; rw [if_pos ⟨i, by omega, by omega, h0⟩]
theorem allUp_same {l : List Sg} {i k : Nat} (hi : i + k + 1 = l.length) (h0 : ansL l i ≠ 2) : allUp l (k + 1) = allUp l k := by
  unfold allUp
  congr 1
  refine propext ⟨?_, ?_⟩
  · rintro ⟨j, h1, h2, h3⟩
    refine ⟨j, h1, ?_, h3⟩
    by_cases e : j = i
    · subst e; exact absurd h3 h0
    · omega
  · rintro ⟨j, h1, h2, h3⟩
    exact ⟨j, h1, by omega, h3⟩
theorem ansS_three (s : Sg) (lo hi : Int) : ansS s lo hi = 0 ∨ ansS s lo hi = 1 ∨ ansS s lo hi = 2 := by
  unfold ansS; split
  · exact .inr (.inl rfl)
  · split
    · exact .inl rfl
    · exact .inr (.inr rfl)
/-- How high k saggars are, with wads between them. -/
def hgtL (l : List Sg) (lo : Int) (k : Nat) : Int := ((l.take k).map (·.hl)).sum + ((k - 1 : Nat) : Int) * lo
def hgtH (l : List Sg) (hi : Int) (k : Nat) : Int := ((l.take k).map (·.hh)).sum + ((k - 1 : Nat) : Int) * hi
theorem hgt_zero {l : List Sg} {lo hi : Int} : hgtL l lo 0 = 0 ∧ hgtH l hi 0 = 0 := by unfold hgtL hgtH; simp
theorem hgt_first {l : List Sg} {lo hi : Int} {s : Sg} (h : l[0]? = some s) : hgtL l lo 1 = hgtL l lo 0 + s.hl ∧ hgtH l hi 1 = hgtH l hi 0 + s.hh := by
  unfold hgtL hgtH; rw [List.take_add_one, h]; simp
theorem hgt_next {l : List Sg} {lo hi : Int} {s : Sg} {k : Nat} (h : l[k + 1]? = some s) : hgtL l lo (k + 2) = hgtL l lo (k + 1) + lo + s.hl ∧ hgtH l hi (k + 2) = hgtH l hi (k + 1) + hi + s.hh := by
  unfold hgtL hgtH
  have e : l.take (k + 2) = l.take (k + 1) ++ [s] := by
    have e1 := List.take_add_one (i := k + 1) (l := l)
    rw [h] at e1
    exact e1
  rw [e, show k + 2 - 1 = (k + 1 - 1) + 1 by omega]
  simp only [List.map_append, List.sum_append, List.map_cons, List.map_nil, List.sum_cons, List.sum_nil]
  push_cast
  rw [Int.add_mul, Int.add_mul]
  constructor <;> omega
theorem hgt_small {l : List Sg} {lo hi : Int} (hs : ∀ s ∈ l, 0 ≤ s.hl ∧ s.hl ≤ 10000 ∧ 0 ≤ s.hh ∧ s.hh ≤ 10000) (h1 : 0 ≤ lo ∧ lo ≤ 200) (h2 : 0 ≤ hi ∧ hi ≤ 200) (k : Nat) : 0 ≤ hgtL l lo k ∧ hgtL l lo k ≤ 10200 * k ∧ 0 ≤ hgtH l hi k ∧ hgtH l hi k ≤ 10200 * k := by
  have key : ∀ (f : Sg → Int) (m : List Sg), (∀ s ∈ m, 0 ≤ f s ∧ f s ≤ 10000) → 0 ≤ (m.map f).sum ∧ (m.map f).sum ≤ 10000 * m.length := by
    intro f m hm
    induction m with
    | nil => simp
    | cons s m ih =>
      have h1 := hm s (List.mem_cons_self ..)
      have h2 := ih fun x hx => hm x (List.mem_cons_of_mem _ hx)
      rw [List.map_cons, List.sum_cons, List.length_cons]
      omega
  have ht : ∀ s ∈ l.take k, s ∈ l := fun s h => List.mem_of_mem_take h
  have hl : (l.take k).length ≤ k := by rw [List.length_take]; omega
  have a1 := key (·.hl) _ fun s h => ⟨(hs s (ht s h)).1, (hs s (ht s h)).2.1⟩
  have a2 := key (·.hh) _ fun s h => ⟨(hs s (ht s h)).2.2.1, (hs s (ht s h)).2.2.2⟩
  have m1 : 0 ≤ ((k - 1 : Nat) : Int) * lo ∧ ((k - 1 : Nat) : Int) * lo ≤ ((k - 1 : Nat) : Int) * 200 := ⟨Int.mul_nonneg (by omega) h1.1, Int.mul_le_mul_of_nonneg_left h1.2 (by omega)⟩
  have m2 : 0 ≤ ((k - 1 : Nat) : Int) * hi ∧ ((k - 1 : Nat) : Int) * hi ≤ ((k - 1 : Nat) : Int) * 200 := ⟨Int.mul_nonneg (by omega) h2.1, Int.mul_le_mul_of_nonneg_left h2.2 (by omega)⟩
  unfold hgtL hgtH
  omega
/-- The answers of the k upper courses, in a slice that was made. -/
def MadeN (M n : Nat) (f : Nat → Int) (k : Nat) (W : World) : Prop := ∀ i, i < n → W.cell? ⟨M, i, none⟩ = some (.int .i64 (if n ≤ i + k then f i else 0)) ∧ W.frozen? ⟨M, i, none⟩ = false
theorem MadeN.start {M n : Nat} {f : Nat → Int} {W : World} (h : ∀ i, i < n → W.cell? ⟨M, i, none⟩ = some (.int .i64 0) ∧ W.frozen? ⟨M, i, none⟩ = false) : MadeN M n f 0 W := fun i hi => by
  rw [if_neg (by omega)]; exact h i hi
theorem MadeN.below {M n k : Nat} {f : Nat → Int} {W W' : World} (h : MadeN M n f k W) (hb : Below W.heap.size W W') : MadeN M n f k W' := fun i hi => ⟨bkeep hb (h i hi).1, bfree hb (h i hi).1 (h i hi).2⟩
theorem MadeN.low {M n k n0 : Nat} {f : Nat → Int} {W W' : World} (h : MadeN M n f k W) (hb : Below n0 W W') (hM : M < n0) : MadeN M n f k W' := fun i hi => by
  obtain ⟨h1, h2⟩ := h i hi
  have e := hb.block M hM
  exact ⟨by unfold World.cell? at h1 ⊢; rw [e]; exact h1, by unfold World.frozen? at h2 ⊢; rw [e]; exact h2⟩
theorem MadeN.kept {M n k : Nat} {f : Nat → Int} {W W' : World} {row : Option Nat} (h : MadeN M n f k W) (hg : W.grownBy W' row) (hr : ∀ r, row = some r → ∃ o : Obj, W.heap[r]? = some o ∧ o.isCells = false) : MadeN M n f k W' := fun i hi => by
  obtain ⟨h1, h2⟩ := h i hi
  have hne : some M ≠ row := fun e => by
    obtain ⟨o, ho, hc⟩ := hr M e.symm
    unfold World.cell? at h1
    dsimp only at h1
    rw [ho] at h1
    cases o <;> simp_all [Obj.isCells]
  exact ⟨hg.cell (a := ⟨M, i, none⟩) h1 hne, grown_free hg h1 h2 hne⟩
theorem MadeN.put {M n k i : Nat} {f : Nat → Int} {W : World} (h : MadeN M n f k W) (hi : i + k + 1 = n) : MadeN M n f (k + 1) (W.setCell ⟨M, i, none⟩ (.int .i64 (f i))) := by
  intro j hj
  obtain ⟨h1, h2⟩ := h j hj
  by_cases e : j = i
  · subst e
    refine ⟨?_, by simpa [go_sem] using h2⟩
    rw [World.cell?_setCell_same _ _ _ h1, if_pos (by omega)]
  · refine ⟨?_, by simpa [go_sem] using h2⟩
    rw [World.cell?_setCell_other _ _ _ _ (by intro e2; injection e2 with _ e3; exact e e3.symm), h1]
    by_cases h3 : n ≤ j + k
    · rw [if_pos h3, if_pos (by omega)]
    · rw [if_neg h3, if_neg (by omega)]
theorem MadeN.nums {M n : Nat} {f : Nat → Int} {W : World} (h : MadeN M n f n W) (hn : n ≤ 1000) (hi : ∀ i, i < n → I64 (f i)) : NumsAt W (.slice (some ⟨M, 0, none⟩) n n) ((List.range n).map f) := by
  refine .inr ⟨⟨M, 0, none⟩, n, by simp, by simp, by omega, fun k z hk => ?_⟩
  rw [List.getElem?_map] at hk
  obtain ⟨j, hj, rfl⟩ := Option.map_eq_some_iff.1 hk
  obtain ⟨hj1, hj2⟩ := List.getElem?_eq_some_iff.1 hj
  rw [List.getElem_range] at hj2
  subst hj2
  have hk2 : k < n := by simpa using hj1
  refine ⟨?_, hi k hk2⟩
  have h1 := (h k hk2).1
  rw [if_pos (by omega)] at h1
  rw [Go.WideShapes.add_plain, Nat.zero_add]
  exact h1
end Go.Pb.Bung

/- Sums of ranges, a course's answer, saggars from the top. -/
namespace Go.Proofs.Ytnchhleokdkejaa
open Go.RowKit Go.Pb Go.Pb.Ware Go.Pb.Sag
set_option linter.unusedVariables false
set_option linter.unusedSimpArgs false

open Go.Shelf Go.Pb.Bung
attribute [local go_sem] Oper.semAt_some
set_option maxRecDepth 100000 in
set_option maxHeartbeats 400000 in
theorem ans_any {w : World} {sid swl swh sbl sbh shl shh sti lo hi r : Int} (hr : ansS ⟨sid, swl, swh, sbl, sbh, shl, shh, sti⟩ lo hi = r) :
    Calls Try.prog 127 #[.agg #[.int .i64 sid, .int .i64 swl, .int .i64 swh, .int .i64 sbl, .int .i64 sbh, .int .i64 shl, .int .i64 shh, .int .i64 sti], .agg #[.int .i64 lo, .int .i64 hi]] w (Ret w (.int .i64 r)) := by
  unfold Ret
  have HR := hid hr; clear hr
  by_cases h1 : hi ≤ sbl
  · obtain rfl : r = 1 := by rw [← HR.out]; unfold ansS; rw [if_pos h1]
    go_enter Try.func127, Try.ntmps127
    go_wp2_with fail
    go_ret
    exact ⟨rfl, by go_grown⟩
  · by_cases h2 : lo > sbh
    · obtain rfl : r = 0 := by rw [← HR.out]; unfold ansS; rw [if_neg h1, if_pos h2]
      go_enter Try.func127, Try.ntmps127
      go_wp2_with fail
      go_ret
      exact ⟨rfl, by go_grown⟩
    · obtain rfl : r = 2 := by rw [← HR.out]; unfold ansS; rw [if_neg h1, if_neg h2]
      go_enter Try.func127, Try.ntmps127
      go_wp2_with fail
      go_ret
      exact ⟨rfl, by go_grown⟩

theorem two_other {W : World} {B C : Nat} {vs : List Value} (h : CellsAt W B vs) (hne : B ≠ C) (x y : Value) : CellsAt ((W.setCell ⟨C, 0, none⟩ x).setCell ⟨C, 1, none⟩ y) B vs := (h.other hne _).other hne _
theorem acc_put {W : World} {B : Nat} {u v : Value} (h : CellsAt W B [u, v]) (o : Obj) (x y : Value) : CellsAt (((W.alloc o).setCell ⟨B, 0, none⟩ x).setCell ⟨B, 1, none⟩ y) B [x, y] := cells_store (o := 1) (u := y) (cells_store (o := 0) (u := x) (h.alloc o))
theorem acc_below {n0 B : Nat} {w0 W : World} (h : Below n0 w0 W) (o : Obj) (x y : Value) (hB : n0 ≤ B ∧ n0 ≤ W.heap.size) : Below n0 w0 (((W.alloc o).setCell ⟨B, 0, none⟩ x).setCell ⟨B, 1, none⟩ y) := ((h.alloc hB.2 o).setCell (p := ⟨B, 0, none⟩) hB.1 _).setCell (p := ⟨B, 1, none⟩) hB.1 _

set_option maxRecDepth 100000 in
set_option maxHeartbeats 1000000 in
theorem sum2_any {w : World} {a b c d : Int} {g : Nat} (h0 : w.cell? ⟨g, 0, none⟩ = some (.int .i64 a)) (h1 : w.cell? ⟨g, 1, none⟩ = some (.int .i64 b)) (h2 : w.cell? ⟨g, 2, none⟩ = some (.int .i64 c)) (h3 : w.cell? ⟨g, 3, none⟩ = some (.int .i64 d)) (hb : (0 ≤ a ∧ a ≤ 1000000000) ∧ (0 ≤ b ∧ b ≤ 1000000000) ∧ (0 ≤ c ∧ c ≤ 1000000000) ∧ 0 ≤ d ∧ d ≤ 1000000000) :
    Calls Try.prog 126 #[.slice (some ⟨g, 0, none⟩) 2 2] w (Ret w (.agg #[.int .i64 (a + c), .int .i64 (b + d)])) := by
  unfold Ret
  have H0 := hid h0
  have H1 := hid h1
  have H2 := hid h2
  have H3 := hid h3
  go_enter Try.func126, Try.ntmps126
  go_upto_region 2 with fail
  generalize hW : World.alloc (World.alloc w _) _ = v1
  have hB1 : Below w.heap.size w v1 := by rw [← hW]; exact ((Below.refl _ w).alloc (Nat.le_refl _) _).alloc (by simp) _
  have hz1 : v1.heap.size = w.heap.size + 2 := by rw [← hW]; simp
  have b0 : CellsAt v1 w.heap.size [.int .i64 0, .int .i64 0] := by rw [← hW]; exact (CellsAt.new w _ 23).alloc _
  have b1 : CellsAt v1 (w.heap.size + 1) [.int .i64 0, .int .i64 0] := by rw [← hW]; have h := CellsAt.new (w.alloc (.cells #[.int .i64 0, .int .i64 0] 23)) [.int .i64 0, .int .i64 0] 23; rwa [World.size_alloc] at h
  have e0 := bkeep hB1 h0
  have e1 := bkeep hB1 h1
  have e2 := bkeep hB1 h2
  have e3 := bkeep hB1 h3
  have HZ := hid hz1; clear hW hz1 h0 h1 h2 h3
  go_wp2_with fail
  go_loopg [8] 2 (fun gk iv wr => ∃ k : Nat, k ≤ 2 ∧ gk = 2 - k ∧ iv = .int .i64 k ∧ CellsAt wr w.heap.size [.int .i64 0, .int .i64 0] ∧ CellsAt wr (w.heap.size + 1) [.int .i64 (if k = 0 then 0 else if k = 1 then a else a + c), .int .i64 (if k = 0 then 0 else if k = 1 then b else b + d)] ∧ Below w.heap.size w wr ∧ w.heap.size + 2 ≤ wr.heap.size)
  case atStart => exact ⟨0, by omega, rfl, rfl, b0, b1, hB1, by have := HZ.out; omega⟩
  case round =>
    clear b0 b1 e0 e1 e2 e3 hB1
    obtain ⟨k, hk, hgk, rfl, b0, b1, hB, hz⟩ := hrel
    have HGK := hid hgk; clear hgk
    have e0 := bkeep hB H0.out
    have e1 := bkeep hB H1.out
    have e2 := bkeep hB H2.out
    have e3 := bkeep hB H3.out
    have q0 := (b1 0 _ rfl).1
    have f0 := (b1 0 _ rfl).2
    have q1 := (b1 1 _ rfl).1
    have f1 := (b1 1 _ rfl).2
    have p0 := (b0 0 _ rfl).1
    have g0 := (b0 0 _ rfl).2
    have p1 := (b0 1 _ rfl).1
    have g1 := (b0 1 _ rfl).2
    rcases (show k = 0 ∨ k = 1 ∨ k = 2 by omega) with rfl | rfl | rfl
    · simp at q0 q1
      go_wp2_with fail
      go_roundg 1
      case measure => have h := HGK.out; omega
      case rel => exact ⟨1, by omega, rfl, by first | rfl | go_num, two_other (b0.alloc _) (by omega) _ _, by simpa using acc_put b1 _ _ _, acc_below hB _ _ _ (by omega), by simp; omega⟩
    · simp at q0 q1
      go_wp2_with fail
      go_roundg 0
      case measure => have h := HGK.out; omega
      case rel => exact ⟨2, by omega, rfl, by first | rfl | go_num, two_other (b0.alloc _) (by omega) _ _, by simpa using acc_put b1 _ _ _, acc_below hB _ _ _ (by omega), by simp; omega⟩
    · simp at q0 q1
      go_wp2_with fail
      exact bodyPost_ret (v := .agg #[.int .i64 (a + c), .int .i64 (b + d)]) (by simp [results, Try.results126, go_sem, *]) rfl ⟨rfl, (hB.setCell (p := ⟨w.heap.size, 0, none⟩) (Nat.le_refl _) _).setCell (p := ⟨w.heap.size, 1, none⟩) (Nat.le_refl _) _⟩

/-- What is handed over for the course i: its index and its saggar. -/
def encB (l : List Sg) (i : Nat) : Array Value := #[.int .i64 (i : Int), sgV (l.getD i default)]
def NxB (n : Nat) (pre : List Nat) (i : Nat) : Prop := i + pre.length + 1 = n
theorem encB_at {l : List Sg} {i : Nat} {sid swl swh sbl sbh shl shh sti : Int} (h : l[i]? = some ⟨sid, swl, swh, sbl, sbh, shl, shh, sti⟩) : encB l i = #[.int .i64 (i : Int), .agg #[.int .i64 sid, .int .i64 swl, .int .i64 swh, .int .i64 sbl, .int .i64 sbh, .int .i64 shl, .int .i64 shh, .int .i64 sti]] := by
  unfold encB
  rw [show l.getD i default = (⟨sid, swl, swh, sbl, sbh, shl, shh, sti⟩ : Sg) by rw [List.getD, h]; rfl]; rfl

set_option maxRecDepth 100000 in
set_option maxHeartbeats 2000000 in
theorem back_n {m : Nat} (hm : 1 ≤ m) {w : World} {b : Nat} {v : Value} {l : List Sg} {p : Nat → Prop} (c0 : w.cell? ⟨b, 0, none⟩ = some v) (h : RowsAt 8 w v (l.map rowG)) (hl : l.length ≤ 1000) (hpb : p b) (hpv : l ≠ [] → InP p v) :
    SeqN Fence.wide m Try.prog 140 #[.pointer (some ⟨b, 0, none⟩)] (encB l) (KeepP p) (fun _ _ => True) (NxB l.length) (fun xs => xs.length = l.length) (fun _ => True) w := fun lr J Jx W hW hJ hJx hJl hJxl hY hj0 => by
  have hWs := hW.size
  have c1 := bkeep hW c0
  have hr1 := h.below hW
  clear c0 h
  obtain ⟨a, cap, rfl, hll⟩ := hr1.shape
  rw [List.length_map] at c1 hr1 hll hpv
  obtain ⟨n, hn⟩ : ∃ n, l.length = n := ⟨_, rfl⟩
  rw [hn] at c1 hr1 hll hl hpv hY ⊢
  have HN := hid hn; clear hn
  have HPV := hid hpv; have HPB := hid hpb; clear hpv hpb
  refine callsIn_of_wp Try.func140 rfl trivial ?_ rfl
  simp only [Try.ntmps140, List.size_toArray, List.length_cons, List.length_nil, Nat.reduceAdd, Nat.reduceSub, Array.replicate_succ, Array.replicate_zero, List.push_toArray, List.append_toArray, List.nil_append, List.cons_append]
  gi_wp2
  gi_loopw [3] (fun iv wr => ∃ (j : Nat) (z : Int), z + 1 = j ∧ j ≤ n ∧ iv = .int .i64 z ∧ (∃ pre : List Nat, pre.length + j = n ∧ J pre wr) ∧ wr.cell? ⟨b, 0, none⟩ = some (.slice a n cap) ∧ RowsAt 8 wr (.slice a n cap) (l.map rowG) ∧ W.heap.size ≤ wr.heap.size) (fun iv _ => (intOf iv + 1).toNat)
  case atStart => exact ⟨n, (n : Int) - 1, by omega, Nat.le_refl _, by go_num, ⟨[], by simp, hj0⟩, c1, hr1, Nat.le_refl _⟩
  case round =>
    clear c1 hr1 hj0
    obtain ⟨j, z, hzj, hjn, rfl, ⟨pre, hpre, hJk⟩, c1, hr1, hz1⟩ := hrel
    by_cases hlt : 0 ≤ z
    · obtain ⟨i, rfl⟩ : ∃ i : Nat, z = (i : Int) := ⟨z.toNat, by omega⟩
      obtain rfl : j = i + 1 := by omega
      have hil : i < n := by omega
      have hii : (i : Int) < (n : Int) := by omega
      have hil2 : i < l.length := by rw [HN.out]; exact hil
      obtain ⟨s, hs⟩ : ∃ s, l[i]? = some s := ⟨_, List.getElem?_eq_getElem hil2⟩
      obtain ⟨a', ha, r0, hc, -⟩ := sg_row (by rw [HN.out]; exact hr1) hs
      subst ha
      obtain ⟨sid, swl, swh, sbl, sbh, shl, shh, sti⟩ := s
      dsimp only at r0
      have r1 := hc 1 _ (by decide) rfl
      have r2 := hc 2 _ (by decide) rfl
      have r3 := hc 3 _ (by decide) rfl
      have r4 := hc 4 _ (by decide) rfl
      have r5 := hc 5 _ (by decide) rfl
      have r6 := hc 6 _ (by decide) rfl
      have r7 := hc 7 _ (by decide) rfl
      dsimp only at r1 r2 r3 r4 r5 r6 r7
      clear hc
      obtain ⟨fn, tmps, assign, body, hyy, hR⟩ := hY pre i _ hJk trivial (show i + pre.length + 1 = n by omega) hz1
      rw [encB_at hs] at hyy
      clear hs hil2
      have HR := hid hr1; have C1 := hid c1; clear hr1 hzj hjn
      have hwr : wrap64 ((i : Int) - 1) = (i : Int) - 1 := IntWalk.wrap64_in _ (by omega)
      have HPR := hid hpre; clear hpre
      have c1 := C1.out
      gi_wp2
      refine RoundIn.mono hR ?_
      rintro e W3 (⟨rfl, hJ5, hk5, hka⟩ | ⟨rfl, hJx5, hka⟩)
      · gi_wp2
        go_roundw
        case rel => exact ⟨i, (i : Int) - 1, by omega, by omega, by first | rfl | go_num, ⟨pre ++ [i], by rw [List.length_append, List.length_singleton]; have := HPR.out; omega, hJ5⟩, hk5.cell HPB.out C1.out, rows_keepP HR.out (fun hne => HPV.out (fun e => hne (by rw [e]; rfl))) hk5, by have := hka.size; omega⟩
        case measure => first | (simp [intOf]; done) | (simp [intOf]; omega)
      · gi_wp2
        refine bodyPost_ret (results_none rfl _ _ _) rfl ?_
        exact ⟨⟨_, rfl⟩, .inr ⟨_, trivial, hJx5⟩⟩
    · obtain rfl : j = 0 := by omega
      gi_wp2
      go_end0
      exact ⟨⟨_, rfl⟩, .inl ⟨pre, by omega, hJk⟩⟩

set_option maxRecDepth 100000 in
set_option maxHeartbeats 400000 in
theorem back_any {w : World} {a : Option Addr} {n c : Nat} :
    Calls Try.prog 125 #[.slice a n c] w (fun e w' => e = .returned (.func (.func 140) #[] #[.pointer (some ⟨w.heap.size, 0, none⟩)]) ∧ w'.cell? ⟨w.heap.size, 0, none⟩ = some (.slice a n c) ∧ Below w.heap.size w w' ∧ w.heap.size < w'.heap.size) := by
  go_enter Try.func125, Try.ntmps125
  go_wp2
  go_ret
  exact ⟨rfl, by simp [go_sem], by go_grown, by simp⟩

end Go.Proofs.Ytnchhleokdkejaa

/- The loads of courses, from the top down. -/
namespace Go.Proofs.Ytnchhleokdkejaa
open Go.RowKit Go.Pb Go.Pb.Ware Go.Pb.Sag
set_option linter.unusedVariables false
set_option linter.unusedSimpArgs false

open Go.Shelf Go.Pb.Bung
attribute [local go_sem] Oper.semAt_some
theorem cells_low {A C : World} {B n0 : Nat} {v : Value} {vs : List Value} (h : CellsAt A B (v :: vs)) (hb : Below n0 A C) (hB : B < n0) : CellsAt C B (v :: vs) := by
  intro o u hu
  obtain ⟨h1, h2⟩ := h o u hu
  have e := hb.block B hB
  refine ⟨?_, ?_⟩
  · unfold World.cell? at h1 ⊢; rw [e]; exact h1
  · unfold World.frozen? at h2 ⊢; rw [e]; exact h2
theorem np {p : Nat → Prop} {w W W2 : World} (h : ∀ k, p k → k < w.heap.size) (h2 : W2.heap.size = W.heap.size + 2) (hs : w.heap.size ≤ W.heap.size) {o : Nat} : ¬ (fun k => p k ∨ k = W2.heap.size) (⟨W.heap.size + 1, o, none⟩ : Addr).block := by
  rintro (hp | hp)
  · have := h _ hp; dsimp only at this; omega
  · dsimp only at hp; omega

set_option maxRecDepth 100000 in
set_option maxHeartbeats 2000000 in
theorem loads_n {m : Nat} (hm : 2 ≤ m) {w : World} {b : Nat} {v : Value} {l : List Sg} {p : Nat → Prop} (c0 : w.cell? ⟨b, 0, none⟩ = some v) (h : RowsAt 8 w v (l.map rowG)) (hl : l.length ≤ 30) (hs : ∀ s ∈ l, 0 ≤ s.wl ∧ s.wl ≤ 10000000 ∧ 0 ≤ s.wh ∧ s.wh ≤ 10000000) (hpb : p b) (hpv : l ≠ [] → InP p v) (hpw : ∀ k, p k → k < w.heap.size) :
    SeqN Fence.wide m Try.prog 124 #[.pointer (some ⟨b, 0, none⟩)] (encL l) (KeepP p) (fun _ _ => True) (NxB l.length) (fun xs => xs.length = l.length) (fun _ => True) w := fun lr J Jx W hW hJ hJx hJl hJxl hY hj0 => by
  have hm1 : 1 ≤ m := by omega
  have hWs := hW.size
  have c1 := bkeep hW c0
  have hr1 := h.below hW
  clear c0 h
  obtain ⟨a, cap, rfl, hll⟩ := hr1.shape
  rw [List.length_map] at c1 hr1 hll hpv
  obtain ⟨n, hn⟩ : ∃ n, l.length = n := ⟨_, rfl⟩
  rw [hn] at c1 hr1 hll hpv hY hl ⊢
  have HN := hid hn; clear hn
  have HPV := hid hpv; have HPB := hid hpb; have HPW := hid hpw; have HS := hid hs; clear hpv hpb hpw hs
  refine callsIn_of_wp_marks Try.func124 rfl trivial ?_ rfl
  simp only [Try.ntmps124, List.size_toArray, List.length_cons, List.length_nil, Nat.reduceAdd, Nat.reduceSub, Array.replicate_succ, Array.replicate_zero, List.push_toArray, List.append_toArray, List.nil_append, List.cons_append]
  gi_upto_region 2 with (fail)
  generalize hW2 : World.alloc (World.alloc W _) _ = W2
  have y2 : CellsAt W2 W.heap.size [.func (.yield lr) #[] #[]] := by rw [← hW2]; exact (CellsAt.new W _ 160).alloc _
  have y3 : CellsAt W2 (W.heap.size + 1) [.int .i64 0, .int .i64 0] := by rw [← hW2]; have h := CellsAt.new (W.alloc (.cells #[.func (.yield lr) #[] #[]] 160)) [.int .i64 0, .int .i64 0] 23; rwa [World.size_alloc] at h
  have hB2 : Below W.heap.size W W2 := by rw [← hW2]; exact ((Below.refl _ W).alloc (Nat.le_refl _) _).alloc (by simp) _
  have HZ2 := hid (show W2.heap.size = W.heap.size + 2 by rw [← hW2]; simp)
  clear hW2
  replace c1 := bkeep hB2 c1
  replace hr1 := hr1.below hB2
  gi_wp2_with (refine ⟨trivial, ?_⟩; gi_at_call 125; refine (callsIn_wide.2 back_any).mono ?_; rintro e w4 ⟨rfl, c4, hb4, hz4⟩)
  have hB4 : Below W.heap.size W w4 := hB2.trans (hb4.mono (by have := HZ2.out; omega))
  have hr4 := hr1.below hb4
  replace y2 := y2.below hb4
  replace y3 := y3.below hb4
  have hj4 := hJl _ _ _ hj0 hB4
  have HZ4 := hid hz4; clear hr1 c1 hb4 hB2 hj0 hz4
  refine wpIn_rangeFunc_n (F := Fence.wide) (n := m) rfl (by omega) (gf := 140) (lb := #[.pointer (some ⟨W2.heap.size, 0, none⟩)]) rfl trivial (enters_of Try.func140 (by kernel_rfl) rfl) (back_n (m := m - 1) (by omega) (p := (fun k => p k ∨ k = W2.heap.size)) c4 hr4 (by rw [HN.out]; omega) (Or.inr rfl) (fun hne a n c e => Or.inl (HPV.out hne a n c e))) (fun h k => h.trans k) (fun V q o o' hq _ _ _ => KeepP.put (fun hp => by have := HZ4.out; have := HZ2.out; rcases hp with hp | rfl; have := HPW.out _ hp; omega; omega)) (Below.refl _ _) (fun _ => rfl)
    (fun (pre : List Nat) V => J pre V ∧ CellsAt V W.heap.size [.func (.yield lr) #[] #[]] ∧ CellsAt V (W.heap.size + 1) [.int .i64 (accL l pre.length), .int .i64 (accH l pre.length)] ∧ w4.heap.size ≤ V.heap.size) (fun c (pre : List Nat) V => c = .ret ∧ Jx pre V) ?own ?ownx ?low ?lowx (fun _ _ _ _ hs _ _ => hs) ?start
    (fun x a' V => ∃ Bx, w4.heap.size ≤ Bx ∧ CellsAt V Bx (cellsG (l.getD x default)) ∧ a' = { tmps := #[.func (.yield lr) #[] #[], .pointer (some ⟨b, 0, none⟩), .pointer (some ⟨W.heap.size, 0, none⟩), .pointer (some ⟨W.heap.size + 1, 0, none⟩), .int .i64 (x : Int), .pointer (some ⟨Bx, 0, none⟩), .slice a n cap, .func (.func 140) #[] #[.pointer (some ⟨W2.heap.size, 0, none⟩)], .int .i64 (x : Int), sgV (l.getD x default), undef, undef, undef, undef, undef, undef, undef, undef, undef, undef], defers := [] })
    (fun x a' _ X Y row hs hg hr => by obtain ⟨Bx, h1, h2, h3⟩ := hs; exact ⟨Bx, h1, h2.kept hg (fun r e => (hr r e).2), h3⟩)
    ?assign ?body ?done ?stop
  case own => rintro s X Y row ⟨h1, h2, h3, h4⟩ hg hr; exact ⟨hJ s X Y row h1 hg (fun r e => ⟨by have := (hr r e).1; have := HZ4.out; have := HZ2.out; omega, (hr r e).2⟩), h2.kept hg (fun r e => (hr r e).2), h3.kept hg (fun r e => (hr r e).2), by have := hg.size; omega⟩
  case ownx => rintro c s X Y row ⟨h1, h2⟩ hg hr; exact ⟨h1, hJx s X Y row h2 hg (fun r e => ⟨by have := (hr r e).1; have := HZ4.out; have := HZ2.out; omega, (hr r e).2⟩)⟩
  case low => rintro s X Y ⟨h1, h2, h3, h4⟩ hb; exact ⟨hJl s X Y h1 (hb.mono (by have := HZ4.out; have := HZ2.out; omega)), cells_low h2 hb (by have := HZ4.out; have := HZ2.out; omega), cells_low h3 hb (by have := HZ4.out; have := HZ2.out; omega), by have := hb.size; omega⟩
  case lowx => rintro c s X Y ⟨h1, h2⟩ hb; exact ⟨h1, hJxl s X Y h2 (hb.mono (by have := HZ4.out; have := HZ2.out; omega))⟩
  case start => exact ⟨hj4, y2, by have h := acc_zero (l := l); rw [List.length_nil, h.1, h.2]; exact y3, Nat.le_refl _⟩
  case assign =>
    rintro q pre x V K2 ⟨h1, h2, h3, h4⟩ - hK2
    obtain ⟨s, hs⟩ : ∃ s, l.getD x default = s := ⟨_, rfl⟩
    unfold encB
    rw [hs]
    obtain ⟨sid, swl, swh, sbl, sbh, shl, shh, sti⟩ := s
    have HS3 := hid hs; clear hs
    simp only [sgV, cellsG, rowG, List.map_cons, List.map_nil]
    gi_wp2
    exact hK2 _ _ (KeepsAll.of_below ((Below.refl _ _).alloc (Nat.le_refl _) _)) (KeepP.of_below ((Below.refl _ _).alloc (Nat.le_refl _) _)) ⟨hJl _ _ _ h1 ((Below.refl _ _).alloc (by have := hB4.size; omega) _), h2.alloc _, h3.alloc _, by simp; omega⟩ trivial ⟨V.heap.size, h4, by rw [HS3.out]; exact CellsAt.new V _ 33, by rw [HS3.out]; rfl⟩
  case body =>
    rintro q pre i a' V hq1 hq2 ⟨hj, y2, y3, hzv⟩ - ⟨Bx, hBx, bX, rfl⟩ hNx
    have hNX := hNx
    unfold NxB at hNX
    have hil : i < l.length := by omega
    obtain ⟨s, hs⟩ : ∃ s, l[i]? = some s := ⟨_, List.getElem?_eq_getElem hil⟩
    have hgd : l.getD i default = s := by rw [List.getD, hs]; rfl
    have hsm := HS.out s (List.mem_of_getElem? hs)
    obtain ⟨hl1, hl2⟩ := acc_load (l := l) (i := i) (k := pre.length) (by omega)
    obtain ⟨hs1, hs2⟩ := acc_step (l := l) (i := i) (k := pre.length) (by omega) hs
    obtain ⟨hb1, hb2, hb3, hb4⟩ := load_small HS.out i
    rw [hl1] at hb1 hb2; rw [hl2] at hb3 hb4
    rw [HN.out] at hb2 hb4
    rw [hgd] at bX ⊢
    obtain ⟨sid, swl, swh, sbl, sbh, shl, shh, sti⟩ := s
    dsimp only at hs1 hs2 hsm
    obtain ⟨fn, tmps, assign, body, hyy, hR⟩ := hY pre i V hj trivial (HN.out ▸ hNx) (by have := hB4.size; omega)
    unfold encL at hyy
    rw [hl1, hl2] at hyy
    obtain ⟨x, hx⟩ : ∃ x, accL l pre.length = x := ⟨_, rfl⟩
    obtain ⟨y, hy⟩ : ∃ y, accH l pre.length = y := ⟨_, rfl⟩
    rw [hx] at y3 hyy hb1 hb2 hs1; rw [hy] at y3 hyy hb3 hb4 hs2
    have HX1 := hid hs1; have HX2 := hid hs2; have HXX := hid hx; have HYY := hid hy; have HNX := hid hNX; clear hs1 hs2 hl1 hl2 hs hgd hx hy hNx hNX hil
    have q0 := (y2 0 _ rfl).1; have q1 := (y3 0 _ rfl).1; have q2 := (y3 1 _ rfl).1
    gi_wp2
    refine ⟨fun h => (by cases h), RoundIn.mono (roundIn_wide hR) ?_⟩
    rintro e V3 (⟨rfl, hJ5, hk5, hka⟩ | ⟨rfl, hJx5, hka⟩)
    · replace y2 := cells_keepA y2 hka (Nat.le_refl _)
      replace y3 := cells_keepA y3 hka (Nat.le_succ _)
      replace bX := cells_keepA bX hka (by have := hB4.size; omega)
      clear q0 q1 q2 hyy hR
      have q1 := (y3 0 _ rfl).1; have q2 := (y3 1 _ rfl).1; have g1 := (y3 0 _ rfl).2; have g2 := (y3 1 _ rfl).2
      have r1 := (bX 1 _ rfl).1; have r2 := (bX 2 _ rfl).1
      have hk3 := hka.size
      gi_wp2_with (refine ⟨trivial, fun h => (by cases h), ?_⟩; gi_at_call 126; refine (callsIn_wide.2 (sum2_any (a := x) (b := y) (c := swl) (d := swh) (by simp [go_sem]) (by simp [go_sem]) (by simp [go_sem]) (by simp [go_sem]) (by omega))).mono ?_; rintro e w6 ⟨rfl, hb6⟩; have hb7 : Below V3.heap.size V3 w6 := ((Below.refl _ V3).alloc (Nat.le_refl _) _).trans (hb6.mono (by simp)); replace y2 := y2.below hb7; replace y3 := y3.below hb7; replace q1 := (y3 0 _ rfl).1; replace q2 := (y3 1 _ rfl).1; replace g1 := (y3 0 _ rfl).2; replace g2 := (y3 1 _ rfl).2; clear hb6)
      have hs6 := hb7.size
      refine ⟨((hka.mono (by have := hB4.size; omega)).trans (KeepsAll.of_below hb7)).trans ((KeepsAll.set (by have := HZ4.out; have := HZ2.out; show W.heap.size + 1 < _; omega)).trans (KeepsAll.set (by have := HZ4.out; have := HZ2.out; show W.heap.size + 1 < _; omega))), ?_, ?_⟩
      · refine KeepP.trans ⟨hk3, fun k hp hk => ?_⟩ ((KeepP.of_below hb7).trans ((KeepP.set (np HPW.out HZ2.out hWs)).trans (KeepP.set (np HPW.out HZ2.out hWs))))
        rcases hp with hp | rfl
        · exact hk5.2 k hp hk
        · exact hka.same _ (by have := HZ2.out; omega) hk
      · refine ⟨hJl _ _ _ hJ5 ?_, two_other y2 (by omega) _ _, ?_, by simp; omega⟩
        · exact ((hb7.mono (by have := hB4.size; omega)).setCell (p := ⟨W.heap.size + 1, 0, none⟩) (Nat.le_succ _) _).setCell (p := ⟨W.heap.size + 1, 1, none⟩) (Nat.le_succ _) _
        · rw [List.length_append, List.length_singleton, HX1.out, HX2.out]; exact cells_store (o := 1) (cells_store (o := 0) y3)
    · gi_wp2
      exact ⟨hka.mono (by have := hB4.size; omega), rfl, hJx5⟩
  case done =>
    rintro D xs V hD hS ⟨hj, y2, y3, hzv⟩ hK2
    gi_wp2
    refine ⟨by simp, .inl ⟨_, _, rfl, run_takeDeferred hK2, ?_⟩⟩
    exact ⟨.tuple #[], by simp [results, Try.results124, go_sem], ⟨_, rfl⟩, .inl ⟨xs, by rw [← HN.out]; exact hS, hJ.putObj _ hj (by have := hB4.size; omega) hK2 rfl⟩⟩
  case stop =>
    rintro D c pre V hD hpre ⟨rfl, hj⟩ hK2
    gi_wp2
    refine ⟨by simp, .inl ⟨_, _, rfl, run_takeDeferred hK2, ?_⟩⟩
    exact ⟨.tuple #[], by simp [results, Try.results124, go_sem], ⟨_, rfl⟩, .inr ⟨pre, trivial, hJx.putObj _ hj (by have := hB4.size; omega) hK2 rfl⟩⟩

set_option maxRecDepth 100000 in
set_option maxHeartbeats 400000 in
theorem loads_any {w : World} {a : Option Addr} {n c : Nat} :
    Calls Try.prog 84 #[.slice a n c] w (fun e w' => e = .returned (.func (.func 124) #[] #[.pointer (some ⟨w.heap.size, 0, none⟩)]) ∧ w'.cell? ⟨w.heap.size, 0, none⟩ = some (.slice a n c) ∧ Below w.heap.size w w' ∧ w.heap.size < w'.heap.size) := by
  go_enter Try.func84, Try.ntmps84
  go_wp2
  go_ret
  exact ⟨rfl, by simp [go_sem], by go_grown, by simp⟩

end Go.Proofs.Ytnchhleokdkejaa

/- Whether saggars stand. -/
namespace Go.Proofs.Ytnchhleokdkejaa
open Go.RowKit Go.Pb Go.Pb.Ware Go.Pb.Sag
set_option linter.unusedVariables false
set_option linter.unusedSimpArgs false

open Go.Shelf Go.Pb.Bung
attribute [local go_sem] Oper.semAt_some
set_option maxRecDepth 100000 in
set_option maxHeartbeats 2000000 in
theorem stands_any {w : World} {v : Value} {l : List Sg} (h : RowsAt 8 w v (l.map rowG)) (hl : l.length ≤ 30) (hs : ∀ s ∈ l, 0 ≤ s.wl ∧ s.wl ≤ 10000000 ∧ 0 ≤ s.wh ∧ s.wh ≤ 10000000) :
    Calls Try.prog 88 #[v] w (Ret w (.int .i64 (stA l))) := by
  unfold Ret
  obtain ⟨a, cap, rfl, hll⟩ := h.shape
  rw [List.length_map] at h hll ⊢
  obtain ⟨n, hn⟩ : ∃ n, l.length = n := ⟨_, rfl⟩
  have HPV0 := hid (fun hne => inP_rows h hne : l ≠ [] → InP (fun k => k < w.heap.size) (.slice a l.length cap))
  rw [hn] at h hll HPV0 ⊢
  have HN := hid hn; have HS := hid hs; clear hn hs
  refine (callsIn_wide (n := 8)).1 ?_
  refine callsIn_of_wp_marks Try.func88 rfl trivial ?_ rfl
  simp only [Try.ntmps88, List.size_toArray, List.length_cons, List.length_nil, Nat.reduceAdd, Nat.reduceSub, Array.replicate_succ, Array.replicate_zero, List.push_toArray, List.append_toArray, List.nil_append, List.cons_append]
  refine (wpIn_wide (n := 8)).2 ?_
  go_upto_region 2 with fail
  generalize hW : World.alloc (World.alloc (World.alloc w _) _) _ = v1
  have y0 : CellsAt v1 w.heap.size [.slice a n cap] := by rw [← hW]; exact ((CellsAt.new w [.slice a n cap] 24).alloc _).alloc _
  have y1 : CellsAt v1 (w.heap.size + 1) [.int .i64 0] := by rw [← hW]; have h := (CellsAt.new (w.alloc (.cells #[.slice a n cap] 24)) [.int .i64 0] 3).alloc (.cells #[.int .i64 1] 3); rwa [World.size_alloc] at h
  have y2 : CellsAt v1 (w.heap.size + 2) [.int .i64 1] := by rw [← hW]; have h := CellsAt.new ((w.alloc (.cells #[.slice a n cap] 24)).alloc (.cells #[.int .i64 0] 3)) [.int .i64 1] 3; rwa [World.size_alloc, World.size_alloc] at h
  have hB1 : Below w.heap.size w v1 := by rw [← hW]; exact (((Below.refl _ w).alloc (Nat.le_refl _) _).alloc (by simp) _).alloc (by simp; omega) _
  have HZ1 := hid (show v1.heap.size = w.heap.size + 3 by rw [← hW]; simp)
  clear hW
  have q0 := (y0 0 _ rfl).1
  have h1 := h.below hB1
  go_wp2_with fail
  refine loads_any.mono ?_
  rintro e w4 ⟨rfl, c4, hb, hz4⟩
  have hB4 := hB1.trans (hb.mono (by have := HZ1.out; omega))
  replace y0 := y0.below hb; replace y1 := y1.below hb; replace y2 := y2.below hb
  have h4 := h1.below hb
  have HZ4 := hid hz4
  clear q0 hb h1 hz4
  go_wp2_with fail
  refine (wpIn_wide (n := 8)).1 ?_
  refine wpIn_rangeFunc_n (F := Fence.wide) (n := 8) rfl (by omega) (gf := 124) (lb := #[.pointer (some ⟨v1.heap.size, 0, none⟩)]) rfl trivial (enters_of Try.func124 (by kernel_rfl) rfl) (loads_n (m := 7) (by omega) (p := (fun k => k ≠ w.heap.size + 1 ∧ k ≠ w.heap.size + 2 ∧ k < w4.heap.size)) c4 h4 hl HS.out (by have := HZ4.out; have := HZ1.out; exact ⟨by omega, by omega, by omega⟩) (fun hne a n c e => by have h1 := HPV0.out hne a n c e; have := HZ4.out; have := HZ1.out; dsimp only at h1; exact ⟨by omega, by omega, by omega⟩) (fun k hk => hk.2.2)) (fun h k => h.trans k) (fun V q o o' hq _ _ _ => KeepP.put (fun hp => by have := hp.2.2; omega)) (Below.refl _ _) (fun _ => rfl)
    (fun (pre : List Nat) V => Below w.heap.size w V ∧ CellsAt V (w.heap.size + 1) [.int .i64 0] ∧ CellsAt V (w.heap.size + 2) [.int .i64 (allUp l pre.length)] ∧ CellsAt V w.heap.size [.slice a n cap] ∧ noneUp l pre.length ∧ w4.heap.size ≤ V.heap.size) (fun c (pre : List Nat) V => c = .ret ∧ Below w.heap.size w V ∧ CellsAt V (w.heap.size + 1) [.int .i64 0] ∧ stA l = 0 ∧ w4.heap.size ≤ V.heap.size) ?own ?ownx ?low ?lowx (fun _ _ _ _ hs _ _ => hs) ?start
    (fun x a' V => ∃ Bx, w4.heap.size ≤ Bx ∧ CellsAt V Bx [.int .i64 (loadL l x), .int .i64 (loadH l x)] ∧ a' = { tmps := #[.slice a n cap, .pointer (some ⟨w.heap.size, 0, none⟩), .pointer (some ⟨w.heap.size + 1, 0, none⟩), .pointer (some ⟨w.heap.size + 1 + 1, 0, none⟩), .int .i64 (x : Int), .pointer (some ⟨Bx, 0, none⟩), .slice a n cap, .func (.func 124) #[] #[.pointer (some ⟨v1.heap.size, 0, none⟩)], .int .i64 (x : Int), .agg #[.int .i64 (loadL l x), .int .i64 (loadH l x)], undef, undef, undef, undef, undef, undef, undef, undef, undef, undef, undef], defers := [] })
    (fun x a' _ X Y row hs hg hr => by obtain ⟨Bx, h1, h2, h3⟩ := hs; exact ⟨Bx, h1, h2.kept hg (fun r e => (hr r e).2), h3⟩)
    ?assign ?body ?done ?stop
  case own => rintro s X Y row ⟨h1, h2, h3, h4, h5, h6⟩ hg hr; exact ⟨h1.grown hg (Nat.le_trans (Nat.le_refl _) h1.size) (fun k e => by have := (hr k e).1; have := HZ4.out; have := HZ1.out; omega), h2.kept hg (fun r e => (hr r e).2), h3.kept hg (fun r e => (hr r e).2), h4.kept hg (fun r e => (hr r e).2), h5, by have := hg.size; omega⟩
  case ownx => rintro c s X Y row ⟨h0, h1, h2, h3, h4⟩ hg hr; exact ⟨h0, h1.grown hg (Nat.le_trans (Nat.le_refl _) h1.size) (fun k e => by have := (hr k e).1; have := HZ4.out; have := HZ1.out; omega), h2.kept hg (fun r e => (hr r e).2), h3, by have := hg.size; omega⟩
  case low => rintro s X Y ⟨h1, h2, h3, h4, h5, h6⟩ hb; exact ⟨h1.trans (hb.mono (by have := HZ4.out; have := HZ1.out; omega)), cells_low h2 hb (by have := HZ4.out; have := HZ1.out; omega), cells_low h3 hb (by have := HZ4.out; have := HZ1.out; omega), cells_low h4 hb (by have := HZ4.out; have := HZ1.out; omega), h5, by have := hb.size; omega⟩
  case lowx => rintro c s X Y ⟨h0, h1, h2, h3, h4⟩ hb; exact ⟨h0, h1.trans (hb.mono (by have := HZ4.out; have := HZ1.out; omega)), cells_low h2 hb (by have := HZ4.out; have := HZ1.out; omega), h3, by have := hb.size; omega⟩
  case start => exact ⟨hB4, y1, by rw [List.length_nil, allUp_zero]; exact y2, y0, noneUp_zero, Nat.le_refl _⟩
  case assign =>
    rintro q pre x V K2 ⟨h1, h2, h3, h4, h5, h6⟩ - hK2
    unfold encL
    gi_wp2
    exact hK2 _ _ (KeepsAll.of_below ((Below.refl _ _).alloc (Nat.le_refl _) _)) (KeepP.of_below ((Below.refl _ _).alloc (Nat.le_refl _) _)) ⟨h1.alloc h1.size _, h2.alloc _, h3.alloc _, h4.alloc _, h5, by simp; omega⟩ trivial ⟨V.heap.size, h6, CellsAt.new V [.int .i64 (loadL l x), .int .i64 (loadH l x)] 23, rfl⟩
  case body =>
    rintro q pre i a' V hq1 hq2 ⟨h1, y1, y2, y0, hnu, hzv⟩ - ⟨Bx, hBx, bX, rfl⟩ hNx
    unfold NxB at hNx
    have hil : i < l.length := by omega
    obtain ⟨s, hs⟩ : ∃ s, l[i]? = some s := ⟨_, List.getElem?_eq_getElem hil⟩
    have hgd : l.getD i default = s := by rw [List.getD, hs]; rfl
    have hil2 : (i : Int) < (n : Int) := by have := HN.out; omega
    obtain ⟨a', ha, r0, hc, -⟩ := sg_row (by rw [HN.out]; exact h.below h1) hs
    subst ha
    obtain ⟨lo, hlo⟩ : ∃ x, loadL l i = x := ⟨_, rfl⟩
    obtain ⟨hi, hhi⟩ : ∃ x, loadH l i = x := ⟨_, rfl⟩
    obtain ⟨r, hr⟩ : ∃ r, ansL l i = r := ⟨_, rfl⟩
    have hr2 : ansS s lo hi = r := by rw [← hr, ← hlo, ← hhi]; unfold ansL; rw [hgd]
    have h3 := ansS_three s lo hi
    rw [hr2] at h3
    rw [hlo, hhi] at bX ⊢
    obtain ⟨sid, swl, swh, sbl, sbh, shl, shh, sti⟩ := s
    dsimp only at r0
    have r1 := hc 1 _ (by decide) rfl
    have r2 := hc 2 _ (by decide) rfl
    have r3 := hc 3 _ (by decide) rfl
    have r4 := hc 4 _ (by decide) rfl
    have r5 := hc 5 _ (by decide) rfl
    have r6 := hc 6 _ (by decide) rfl
    have r7 := hc 7 _ (by decide) rfl
    dsimp only at r1 r2 r3 r4 r5 r6 r7
    have q0 := (y0 0 _ rfl).1; have p0 := (bX 0 _ rfl).1; have p1 := (bX 1 _ rfl).1
    have HR := hid hr2; have HA := hid hr; have HNX := hid hNx; have HNU := hid hnu; clear hc hr2 hr hNx hnu hs hgd hlo hhi hil
    gi_upto_region 5 with (fail)
    refine wpIn_region_F (by kernel_rfl) [] (by kernel_rfl) [(5, fun v _ => v = .int .i64 r)] [0, 1, 2, 3, 4, 5] 0 (by kernel_rfl) rfl (by simp only [List.forall_mem_cons]; exact ⟨keeps_eq, fun _ h => by cases h⟩) (by kernel_rfl) ?_
    simp only [numbered, List.filterMap_cons, List.filterMap_nil, List.getElem?_toArray, List.getElem?_cons_succ, List.getElem?_cons_zero, Option.map_some]
    show wpS _ _ _ _ _ _ _ [(_, _), (_, _), (_, _), (_, _), (_, _), (_, _)] _ _
    (refine wpS_quiet rfl rfl ?_; intro K hK inst hx; have s0 := fun x => (fun _ => bkeep (BQ.below x) r0) (hx x); have s1 := fun x => (fun _ => bkeep (BQ.below x) r1) (hx x); have s2 := fun x => (fun _ => bkeep (BQ.below x) r2) (hx x); have s3 := fun x => (fun _ => bkeep (BQ.below x) r3) (hx x); have s4 := fun x => (fun _ => bkeep (BQ.below x) r4) (hx x); have s5 := fun x => (fun _ => bkeep (BQ.below x) r5) (hx x); have s6 := fun x => (fun _ => bkeep (BQ.below x) r6) (hx x); have s7 := fun x => (fun _ => bkeep (BQ.below x) r7) (hx x); have u0 := fun x => (fun _ => bkeep (BQ.below x) q0) (hx x); have u1 := fun x => (fun _ => bkeep (BQ.below x) p0) (hx x); have u2 := fun x => (fun _ => bkeep (BQ.below x) p1) (hx x); go_big_quiet_op; (first | go_big_quiet_on | (refine ⟨_, fun _ => rfl, ?_⟩; go_big_quiet_on)); clear hx inst)
    (refine wpS_quiet rfl rfl ?_; intro K hK inst hx; have s0 := fun x => (fun _ => bkeep (BQ.below x) r0) (hx x); have s1 := fun x => (fun _ => bkeep (BQ.below x) r1) (hx x); have s2 := fun x => (fun _ => bkeep (BQ.below x) r2) (hx x); have s3 := fun x => (fun _ => bkeep (BQ.below x) r3) (hx x); have s4 := fun x => (fun _ => bkeep (BQ.below x) r4) (hx x); have s5 := fun x => (fun _ => bkeep (BQ.below x) r5) (hx x); have s6 := fun x => (fun _ => bkeep (BQ.below x) r6) (hx x); have s7 := fun x => (fun _ => bkeep (BQ.below x) r7) (hx x); have u0 := fun x => (fun _ => bkeep (BQ.below x) q0) (hx x); have u1 := fun x => (fun _ => bkeep (BQ.below x) p0) (hx x); have u2 := fun x => (fun _ => bkeep (BQ.below x) p1) (hx x); go_big_quiet_op; (first | go_big_quiet_on | (refine ⟨_, fun _ => rfl, ?_⟩; go_big_quiet_on)); clear hx inst)
    (refine wpS_quiet rfl rfl ?_; intro K hK inst hx; have s0 := fun x => (fun _ => bkeep (BQ.below x) r0) (hx x); have s1 := fun x => (fun _ => bkeep (BQ.below x) r1) (hx x); have s2 := fun x => (fun _ => bkeep (BQ.below x) r2) (hx x); have s3 := fun x => (fun _ => bkeep (BQ.below x) r3) (hx x); have s4 := fun x => (fun _ => bkeep (BQ.below x) r4) (hx x); have s5 := fun x => (fun _ => bkeep (BQ.below x) r5) (hx x); have s6 := fun x => (fun _ => bkeep (BQ.below x) r6) (hx x); have s7 := fun x => (fun _ => bkeep (BQ.below x) r7) (hx x); have u0 := fun x => (fun _ => bkeep (BQ.below x) q0) (hx x); have u1 := fun x => (fun _ => bkeep (BQ.below x) p0) (hx x); have u2 := fun x => (fun _ => bkeep (BQ.below x) p1) (hx x); go_big_quiet_op; (first | go_big_quiet_on | (refine ⟨_, fun _ => rfl, ?_⟩; go_big_quiet_on)); clear hx inst)
    (refine wpS_quiet rfl rfl ?_; intro K hK inst hx; have s0 := fun x => (fun _ => bkeep (BQ.below x) r0) (hx x); have s1 := fun x => (fun _ => bkeep (BQ.below x) r1) (hx x); have s2 := fun x => (fun _ => bkeep (BQ.below x) r2) (hx x); have s3 := fun x => (fun _ => bkeep (BQ.below x) r3) (hx x); have s4 := fun x => (fun _ => bkeep (BQ.below x) r4) (hx x); have s5 := fun x => (fun _ => bkeep (BQ.below x) r5) (hx x); have s6 := fun x => (fun _ => bkeep (BQ.below x) r6) (hx x); have s7 := fun x => (fun _ => bkeep (BQ.below x) r7) (hx x); have u0 := fun x => (fun _ => bkeep (BQ.below x) q0) (hx x); have u1 := fun x => (fun _ => bkeep (BQ.below x) p0) (hx x); have u2 := fun x => (fun _ => bkeep (BQ.below x) p1) (hx x); go_big_quiet_op; (first | go_big_quiet_on | (refine ⟨_, fun _ => rfl, ?_⟩; go_big_quiet_on)); clear hx inst)
    (refine wpS_quiet rfl rfl ?_; intro K hK inst hx; have s0 := fun x => (fun _ => bkeep (BQ.below x) r0) (hx x); have s1 := fun x => (fun _ => bkeep (BQ.below x) r1) (hx x); have s2 := fun x => (fun _ => bkeep (BQ.below x) r2) (hx x); have s3 := fun x => (fun _ => bkeep (BQ.below x) r3) (hx x); have s4 := fun x => (fun _ => bkeep (BQ.below x) r4) (hx x); have s5 := fun x => (fun _ => bkeep (BQ.below x) r5) (hx x); have s6 := fun x => (fun _ => bkeep (BQ.below x) r6) (hx x); have s7 := fun x => (fun _ => bkeep (BQ.below x) r7) (hx x); have u0 := fun x => (fun _ => bkeep (BQ.below x) q0) (hx x); have u1 := fun x => (fun _ => bkeep (BQ.below x) p0) (hx x); have u2 := fun x => (fun _ => bkeep (BQ.below x) p1) (hx x); go_big_quiet_op; (first | go_big_quiet_on | (refine ⟨_, fun _ => rfl, ?_⟩; go_big_quiet_on)); clear hx inst)
    refine wpS_fresh rfl rfl (fun w' hb hF => ?_) ?_
    · change freshAt _ _ _ (fun v _ => v = .int .i64 r) _; unfold freshAt; go_simp; exact ans_any HR.out
    intro v W hv; simp only [pOf, List.lookup_cons, Nat.reduceBEq, beq_self_eq_true] at hv; subst hv
    simp only [Act.put, List.setIfInBounds_toArray, List.set_cons_succ, List.set_cons_zero]
    refine wpS_nil ?_
    intro V2 hall
    have hb := hall.1
    clear hall
    replace y0 := y0.below hb; replace y1 := y1.below hb; replace y2 := y2.below hb
    have hb2 := h1.trans (hb.mono h1.size)
    have hz2 := hb.size
    clear r0 r1 r2 r3 r4 r5 r6 r7 q0 p0 p1 bX
    refine wpAny_done (by kernel_rfl) ?_ _
    refine ⟨rfl, ?_⟩
    have e1 := (y1 0 _ rfl).1; have f1 := (y1 0 _ rfl).2; have e2 := (y2 0 _ rfl).1; have f2 := (y2 0 _ rfl).2
    rcases h3 with rfl | rfl | rfl
    · gi_wp2
      exact ⟨(KeepsAll.of_below hb).trans (KeepsAll.set (by have := HZ4.out; have := HZ1.out; show w.heap.size + 1 < _; omega)), rfl, hb2.setCell (p := ⟨w.heap.size + 1, 0, none⟩) (Nat.le_succ _) _, cells_store (o := 0) y1, stA_no (by have := HNX.out; omega) HA.out, by simp; omega⟩
    · gi_wp2
      exact ⟨(KeepsAll.of_below hb), (KeepP.of_below hb), hb2, y1, by rw [List.length_append, List.length_singleton, allUp_same HNX.out (by rw [HA.out]; decide)]; exact y2, y0, by rw [List.length_append, List.length_singleton]; exact noneUp_next HNU.out HNX.out (by rw [HA.out]; decide), by omega⟩
    · gi_wp2
      exact ⟨(KeepsAll.of_below hb).trans (KeepsAll.set (by have := HZ4.out; have := HZ1.out; show w.heap.size + 2 < _; omega)), (KeepP.of_below hb).trans (KeepP.set (fun hp => hp.2.1 rfl)), hb2.setCell (p := ⟨w.heap.size + 2, 0, none⟩) (by show w.heap.size ≤ w.heap.size + 2; omega) _, y1.other (by omega) _, by rw [List.length_append, List.length_singleton, allUp_two HNX.out HA.out]; exact cells_store (o := 0) y2, y0.other (by omega) _, by rw [List.length_append, List.length_singleton]; exact noneUp_next HNU.out HNX.out (by rw [HA.out]; decide), by simp; omega⟩
  case done =>
    rintro D xs V hD hS ⟨h1, y1, y2, y0, hnu, hzv⟩ hK2
    rw [hS] at y2 hnu
    have hres := stA_end hnu
    obtain ⟨u, hu⟩ : ∃ u, allUp l l.length = u := ⟨_, rfl⟩
    rw [hu] at y2 hres
    have HU := hid hres; clear hres hu hS hnu
    have e1 := (y1 0 _ rfl).1; have f1 := (y1 0 _ rfl).2; have e2 := (y2 0 _ rfl).1
    go_wp2_with fail
    have y3 := cells_store (o := 0) (u := .int .i64 u) y1
    have hB3 := h1.setCell (p := ⟨w.heap.size + 1, 0, none⟩) (Nat.le_succ _) (.int .i64 u)
    have hK3 := (KeepsOthers.setCell V ⟨w.heap.size + 1, 0, none⟩ (.int .i64 u)).same D _ hK2 rfl
    refine ⟨by simp, .inl ⟨_, _, rfl, run_takeDeferred hK3, ?_⟩⟩
    have d1 := (CellsAt.kept y3 (grownBy_putObj' _ D (.deferred none)) (fun r e => by cases e; exact ⟨_, hK3, rfl⟩) 0 _ rfl).1
    exact ⟨.int .i64 u, by simp [results, Try.results88, d1, go_sem], ⟨by rw [HU.out], Below.trans hB3 (belowK_b (w := w) (Nat.le_refl _) _ D _ (.deferred none) (by have := hB4.size; omega) hK3 rfl rfl)⟩⟩
  case stop =>
    rintro D c pre V hD hpre ⟨rfl, h1, y1, h3, hzv⟩ hK2
    gi_wp2
    refine ⟨by simp, .inl ⟨_, _, rfl, run_takeDeferred hK2, ?_⟩⟩
    have d1 := (CellsAt.kept y1 (grownBy_putObj' _ D (.deferred none)) (fun r e => by cases e; exact ⟨_, hK2, rfl⟩) 0 _ rfl).1
    exact ⟨.int .i64 0, by simp [results, Try.results88, d1, go_sem], ⟨by rw [h3], Below.trans h1 (belowK_b (w := w) (Nat.le_refl _) _ D _ (.deferred none) (by have := hB4.size; omega) hK2 rfl rfl)⟩⟩

end Go.Proofs.Ytnchhleokdkejaa

/- What each course answers. -/
namespace Go.Proofs.Ytnchhleokdkejaa
open Go.RowKit Go.Pb Go.Pb.Ware Go.Pb.Sag
set_option linter.unusedVariables false
set_option linter.unusedSimpArgs false

open Go.Shelf Go.Pb.Bung
attribute [local go_sem] Oper.semAt_some
theorem Try.infoInt : (Try.prog.info? 3).map (fun i => (i.zero, i.size, i.bytes)) = some (some (.int .i64 0), 1, 8) := by kernel_rfl
theorem ans_i64 (s : Sg) (lo hi : Int) : I64 (ansS s lo hi) := by rcases ansS_three s lo hi with h | h | h <;> rw [h] <;> unfold I64 <;> decide
set_option maxRecDepth 100000 in
set_option maxHeartbeats 2000000 in
theorem courses_any {w : World} {v : Value} {l : List Sg} (h : RowsAt 8 w v (l.map rowG)) (hl : l.length ≤ 30) (hs : ∀ s ∈ l, 0 ≤ s.wl ∧ s.wl ≤ 10000000 ∧ 0 ≤ s.wh ∧ s.wh ≤ 10000000) :
    Calls Try.prog 86 #[v] w (fun e w' => ∃ u, e = .returned u ∧ Below w.heap.size w w' ∧ NumsAt w' u ((List.range l.length).map (ansL l))) := by
  obtain ⟨i0, hi0, hz0, hz1, hz2⟩ := info_parts Try.infoInt
  obtain ⟨a, cap, rfl, hll⟩ := h.shape
  rw [List.length_map] at h hll ⊢
  obtain ⟨n, hn⟩ : ∃ n, l.length = n := ⟨_, rfl⟩
  have HPV0 := hid (fun hne => inP_rows h hne : l ≠ [] → InP (fun k => k < w.heap.size) (.slice a l.length cap))
  rw [hn] at h hll hl HPV0 ⊢
  have HN := hid hn; have HS := hid hs; clear hn hs
  refine (callsIn_wide (n := 8)).1 ?_
  refine callsIn_of_wp_marks Try.func86 rfl trivial ?_ rfl
  simp only [Try.ntmps86, List.size_toArray, List.length_cons, List.length_nil, Nat.reduceAdd, Nat.reduceSub, Array.replicate_succ, Array.replicate_zero, List.push_toArray, List.append_toArray, List.nil_append, List.cons_append]
  refine (wpIn_wide (n := 8)).2 ?_
  go_upto_region 2 with (at_make; refine wpList_make_full _ rfl _ _ 41 rfl (w.heap.size + 1) 3 i0 (.int .i64 0) 1 Try.underlying41 hi0 hz0 hz1 .i64 .i64 _ _ n rfl rfl rfl rfl (by rw [hz2]; omega) (by unfold maxLen; omega) (by simp) ?_; intro w5 ho5 hg5)
  simp only [World.size_alloc] at ho5
  have hm5 := made_at (B := w.heap.size + 1) rfl ho5
  have hb5 : Below (w.alloc (.cells #[.slice a n cap] 24)).heap.size (w.alloc (.cells #[.slice a n cap] 24)) w5 := (Below.refl _ _).grown hg5 (Nat.le_refl _) (fun k h => by cases h)
  have hz5 : w.heap.size + 1 < w5.heap.size := by have := (World.ownsRow.lt ho5 (w.heap.size + 1) (by simp [Value.ownBlock])).2; exact this
  have hB5 : Below w.heap.size w w5 := ((Below.refl w.heap.size w).alloc (Nat.le_refl _) _).trans (hb5.mono (by simp))
  have y05 : CellsAt w5 w.heap.size [.slice a n cap] := (CellsAt.new w [.slice a n cap] 24).below hb5
  have m5 : MadeN (w.heap.size + 1) n (ansL l) 0 w5 := MadeN.start hm5
  generalize hW : World.alloc w5 _ = v1
  have hb6 : Below w5.heap.size w5 v1 := by rw [← hW]; exact (Below.refl _ _).alloc (Nat.le_refl _) _
  have y2 : CellsAt v1 w5.heap.size [.slice (some ⟨w.heap.size + 1, 0, none⟩) n n] := by rw [← hW]; exact CellsAt.new w5 _ 41
  have HZ1 := hid (show v1.heap.size = w5.heap.size + 1 by rw [← hW]; simp)
  have y0 := y05.below hb6; have m1 := m5.below hb6
  have hB1 := hB5.trans (hb6.mono hB5.size)
  have HZ5 := hid hz5
  clear hW hb5 hb6 hB5 y05 m5 hm5 ho5 hg5 hz5 hi0 hz0 hz1 hz2
  have q0 := (y0 0 _ rfl).1
  have h1 := h.below hB1
  go_wp2_with fail
  refine loads_any.mono ?_
  rintro e w4 ⟨rfl, c4, hb, hz4⟩
  have hB4 := hB1.trans (hb.mono (by have := HZ1.out; have := HZ5.out; omega))
  replace y0 := y0.below hb; replace y2 := y2.below hb; replace m1 := m1.below hb
  have h4 := h1.below hb
  have HZ4 := hid hz4
  clear q0 hb h1 hz4
  go_wp2_with fail
  refine (wpIn_wide (n := 8)).1 ?_
  refine wpIn_rangeFunc_n (F := Fence.wide) (n := 8) rfl (by omega) (gf := 124) (lb := #[.pointer (some ⟨v1.heap.size, 0, none⟩)]) rfl trivial (enters_of Try.func124 (by kernel_rfl) rfl) (loads_n (m := 7) (by omega) (p := (fun k => k ≠ w.heap.size + 1 ∧ k < w4.heap.size)) c4 h4 (by rw [HN.out]; exact hl) HS.out (by have := HZ4.out; have := HZ1.out; have := HZ5.out; exact ⟨by omega, by omega⟩) (fun hne a n c e => by have h1 := HPV0.out hne a n c e; have := HZ4.out; have := HZ1.out; have := HZ5.out; dsimp only at h1; exact ⟨by omega, by omega⟩) (fun k hk => hk.2)) (fun h k => h.trans k) (fun V q o o' hq _ _ _ => KeepP.put (fun hp => by have := hp.2; omega)) (Below.refl _ _) (fun _ => rfl)
    (fun (pre : List Nat) V => Below w.heap.size w V ∧ CellsAt V w.heap.size [.slice a n cap] ∧ CellsAt V w5.heap.size [.slice (some ⟨w.heap.size + 1, 0, none⟩) n n] ∧ MadeN (w.heap.size + 1) n (ansL l) pre.length V ∧ w4.heap.size ≤ V.heap.size) (fun c (pre : List Nat) V => False) ?own ?ownx ?low ?lowx (fun _ _ _ _ hs _ _ => hs) ?start
    (fun x a' V => ∃ Bx, w4.heap.size ≤ Bx ∧ CellsAt V Bx [.int .i64 (loadL l x), .int .i64 (loadH l x)] ∧ a' = { tmps := #[.slice a n cap, .pointer (some ⟨w.heap.size, 0, none⟩), .slice none 0 0, .pointer (some ⟨w5.heap.size, 0, none⟩), .int .i64 (x : Int), .pointer (some ⟨Bx, 0, none⟩), .slice a n cap, .int .i64 (n : Int), .slice (some ⟨w.heap.size + 1, 0, none⟩) n n, .slice a n cap, .func (.func 124) #[] #[.pointer (some ⟨v1.heap.size, 0, none⟩)], .int .i64 (x : Int), .agg #[.int .i64 (loadL l x), .int .i64 (loadH l x)], undef, undef, undef, undef, undef, undef, undef, undef, undef, undef], defers := [] })
    (fun x a' _ X Y row hs hg hr => by obtain ⟨Bx, h1, h2, h3⟩ := hs; exact ⟨Bx, h1, h2.kept hg (fun r e => (hr r e).2), h3⟩)
    ?assign ?body ?done ?stop
  case own => rintro s X Y row ⟨h1, h2, h3, h4, h5⟩ hg hr; exact ⟨h1.grown hg (Nat.le_trans (Nat.le_refl _) h1.size) (fun k e => by have := (hr k e).1; have := HZ4.out; have := HZ1.out; have := HZ5.out; omega), h2.kept hg (fun r e => (hr r e).2), h3.kept hg (fun r e => (hr r e).2), h4.kept hg (fun r e => (hr r e).2), by have := hg.size; omega⟩
  case ownx => exact fun c s X Y row hs _ _ => hs
  case low => rintro s X Y ⟨h1, h2, h3, h4, h5⟩ hb; exact ⟨h1.trans (hb.mono (by have := HZ4.out; have := HZ1.out; have := HZ5.out; omega)), cells_low h2 hb (by have := HZ4.out; have := HZ1.out; have := HZ5.out; omega), cells_low h3 hb (by have := HZ4.out; have := HZ1.out; have := HZ5.out; omega), h4.low hb (by have := HZ4.out; have := HZ1.out; have := HZ5.out; omega), by have := hb.size; omega⟩
  case lowx => exact fun c s X Y hs _ => hs
  case start => exact ⟨hB4, y0, y2, m1, Nat.le_refl _⟩
  case assign =>
    rintro q pre x V K2 ⟨h1, h2, h3, h4, h5⟩ - hK2
    unfold encL
    gi_wp2
    exact hK2 _ _ (KeepsAll.of_below ((Below.refl _ _).alloc (Nat.le_refl _) _)) (KeepP.of_below ((Below.refl _ _).alloc (Nat.le_refl _) _)) ⟨h1.alloc h1.size _, h2.alloc _, h3.alloc _, h4.below ((Below.refl _ _).alloc (Nat.le_refl _) _), by simp; omega⟩ trivial ⟨V.heap.size, h5, CellsAt.new V [.int .i64 (loadL l x), .int .i64 (loadH l x)] 23, rfl⟩
  case body =>
    rintro q pre i a' V hq1 hq2 ⟨h1, y0, y2, hm, hzv⟩ - ⟨Bx, hBx, bX, rfl⟩ hNx
    unfold NxB at hNx
    have hil : i < l.length := by omega
    obtain ⟨s, hs⟩ : ∃ s, l[i]? = some s := ⟨_, List.getElem?_eq_getElem hil⟩
    have hgd : l.getD i default = s := by rw [List.getD, hs]; rfl
    have hin : i < n := by have := HN.out; omega
    have hil2 : (i : Int) < (n : Int) := by omega
    obtain ⟨a', ha, r0, hc, -⟩ := sg_row (by rw [HN.out]; exact h.below h1) hs
    subst ha
    obtain ⟨lo, hlo⟩ : ∃ x, loadL l i = x := ⟨_, rfl⟩
    obtain ⟨hi, hhi⟩ : ∃ x, loadH l i = x := ⟨_, rfl⟩
    obtain ⟨r, hr⟩ : ∃ r, ansL l i = r := ⟨_, rfl⟩
    have hr2 : ansS s lo hi = r := by rw [← hr, ← hlo, ← hhi]; unfold ansL; rw [hgd]
    rw [hlo, hhi] at bX ⊢
    obtain ⟨sid, swl, swh, sbl, sbh, shl, shh, sti⟩ := s
    dsimp only at r0
    have r1 := hc 1 _ (by decide) rfl
    have r2 := hc 2 _ (by decide) rfl
    have r3 := hc 3 _ (by decide) rfl
    have r4 := hc 4 _ (by decide) rfl
    have r5 := hc 5 _ (by decide) rfl
    have r6 := hc 6 _ (by decide) rfl
    have r7 := hc 7 _ (by decide) rfl
    dsimp only at r1 r2 r3 r4 r5 r6 r7
    have q0 := (y0 0 _ rfl).1; have p0 := (bX 0 _ rfl).1; have p1 := (bX 1 _ rfl).1; have q1 := (y2 0 _ rfl).1
    have HR := hid hr2; have HA := hid hr; have HNX := hid hNx; clear hc hr2 hr hNx hs hgd hlo hhi hil
    gi_upto_region 5 with (fail)
    refine wpIn_region_F (by kernel_rfl) [] (by kernel_rfl) [(7, fun v _ => v = .int .i64 r)] [0, 1, 2, 3, 4, 5, 6, 7, 8] 1 (by kernel_rfl) rfl (by simp only [List.forall_mem_cons]; exact ⟨keeps_eq, fun _ h => by cases h⟩) (by kernel_rfl) ?_
    simp only [numbered, List.filterMap_cons, List.filterMap_nil, List.getElem?_toArray, List.getElem?_cons_succ, List.getElem?_cons_zero, Option.map_some]
    show wpS _ _ _ _ _ _ _ [(_, _), (_, _), (_, _), (_, _), (_, _), (_, _), (_, _), (_, _), (_, _)] _ _
    (refine wpS_quiet rfl rfl ?_; intro K hK inst hx; have s0 := fun x => (fun _ => bkeep (BQ.below x) r0) (hx x); have s1 := fun x => (fun _ => bkeep (BQ.below x) r1) (hx x); have s2 := fun x => (fun _ => bkeep (BQ.below x) r2) (hx x); have s3 := fun x => (fun _ => bkeep (BQ.below x) r3) (hx x); have s4 := fun x => (fun _ => bkeep (BQ.below x) r4) (hx x); have s5 := fun x => (fun _ => bkeep (BQ.below x) r5) (hx x); have s6 := fun x => (fun _ => bkeep (BQ.below x) r6) (hx x); have s7 := fun x => (fun _ => bkeep (BQ.below x) r7) (hx x); have u0 := fun x => (fun _ => bkeep (BQ.below x) q0) (hx x); have u1 := fun x => (fun _ => bkeep (BQ.below x) p0) (hx x); have u2 := fun x => (fun _ => bkeep (BQ.below x) p1) (hx x); have u3 := fun x => (fun _ => bkeep (BQ.below x) q1) (hx x); go_big_quiet_op; (first | go_big_quiet_on | (refine ⟨_, fun _ => rfl, ?_⟩; go_big_quiet_on)); clear hx inst)
    (refine wpS_quiet rfl rfl ?_; intro K hK inst hx; have s0 := fun x => (fun _ => bkeep (BQ.below x) r0) (hx x); have s1 := fun x => (fun _ => bkeep (BQ.below x) r1) (hx x); have s2 := fun x => (fun _ => bkeep (BQ.below x) r2) (hx x); have s3 := fun x => (fun _ => bkeep (BQ.below x) r3) (hx x); have s4 := fun x => (fun _ => bkeep (BQ.below x) r4) (hx x); have s5 := fun x => (fun _ => bkeep (BQ.below x) r5) (hx x); have s6 := fun x => (fun _ => bkeep (BQ.below x) r6) (hx x); have s7 := fun x => (fun _ => bkeep (BQ.below x) r7) (hx x); have u0 := fun x => (fun _ => bkeep (BQ.below x) q0) (hx x); have u1 := fun x => (fun _ => bkeep (BQ.below x) p0) (hx x); have u2 := fun x => (fun _ => bkeep (BQ.below x) p1) (hx x); have u3 := fun x => (fun _ => bkeep (BQ.below x) q1) (hx x); go_big_quiet_op; (first | go_big_quiet_on | (refine ⟨_, fun _ => rfl, ?_⟩; go_big_quiet_on)); clear hx inst)
    (refine wpS_quiet rfl rfl ?_; intro K hK inst hx; have s0 := fun x => (fun _ => bkeep (BQ.below x) r0) (hx x); have s1 := fun x => (fun _ => bkeep (BQ.below x) r1) (hx x); have s2 := fun x => (fun _ => bkeep (BQ.below x) r2) (hx x); have s3 := fun x => (fun _ => bkeep (BQ.below x) r3) (hx x); have s4 := fun x => (fun _ => bkeep (BQ.below x) r4) (hx x); have s5 := fun x => (fun _ => bkeep (BQ.below x) r5) (hx x); have s6 := fun x => (fun _ => bkeep (BQ.below x) r6) (hx x); have s7 := fun x => (fun _ => bkeep (BQ.below x) r7) (hx x); have u0 := fun x => (fun _ => bkeep (BQ.below x) q0) (hx x); have u1 := fun x => (fun _ => bkeep (BQ.below x) p0) (hx x); have u2 := fun x => (fun _ => bkeep (BQ.below x) p1) (hx x); have u3 := fun x => (fun _ => bkeep (BQ.below x) q1) (hx x); go_big_quiet_op; (first | go_big_quiet_on | (refine ⟨_, fun _ => rfl, ?_⟩; go_big_quiet_on)); clear hx inst)
    (refine wpS_quiet rfl rfl ?_; intro K hK inst hx; have s0 := fun x => (fun _ => bkeep (BQ.below x) r0) (hx x); have s1 := fun x => (fun _ => bkeep (BQ.below x) r1) (hx x); have s2 := fun x => (fun _ => bkeep (BQ.below x) r2) (hx x); have s3 := fun x => (fun _ => bkeep (BQ.below x) r3) (hx x); have s4 := fun x => (fun _ => bkeep (BQ.below x) r4) (hx x); have s5 := fun x => (fun _ => bkeep (BQ.below x) r5) (hx x); have s6 := fun x => (fun _ => bkeep (BQ.below x) r6) (hx x); have s7 := fun x => (fun _ => bkeep (BQ.below x) r7) (hx x); have u0 := fun x => (fun _ => bkeep (BQ.below x) q0) (hx x); have u1 := fun x => (fun _ => bkeep (BQ.below x) p0) (hx x); have u2 := fun x => (fun _ => bkeep (BQ.below x) p1) (hx x); have u3 := fun x => (fun _ => bkeep (BQ.below x) q1) (hx x); go_big_quiet_op; (first | go_big_quiet_on | (refine ⟨_, fun _ => rfl, ?_⟩; go_big_quiet_on)); clear hx inst)
    (refine wpS_quiet rfl rfl ?_; intro K hK inst hx; have s0 := fun x => (fun _ => bkeep (BQ.below x) r0) (hx x); have s1 := fun x => (fun _ => bkeep (BQ.below x) r1) (hx x); have s2 := fun x => (fun _ => bkeep (BQ.below x) r2) (hx x); have s3 := fun x => (fun _ => bkeep (BQ.below x) r3) (hx x); have s4 := fun x => (fun _ => bkeep (BQ.below x) r4) (hx x); have s5 := fun x => (fun _ => bkeep (BQ.below x) r5) (hx x); have s6 := fun x => (fun _ => bkeep (BQ.below x) r6) (hx x); have s7 := fun x => (fun _ => bkeep (BQ.below x) r7) (hx x); have u0 := fun x => (fun _ => bkeep (BQ.below x) q0) (hx x); have u1 := fun x => (fun _ => bkeep (BQ.below x) p0) (hx x); have u2 := fun x => (fun _ => bkeep (BQ.below x) p1) (hx x); have u3 := fun x => (fun _ => bkeep (BQ.below x) q1) (hx x); go_big_quiet_op; (first | go_big_quiet_on | (refine ⟨_, fun _ => rfl, ?_⟩; go_big_quiet_on)); clear hx inst)
    (refine wpS_quiet rfl rfl ?_; intro K hK inst hx; have s0 := fun x => (fun _ => bkeep (BQ.below x) r0) (hx x); have s1 := fun x => (fun _ => bkeep (BQ.below x) r1) (hx x); have s2 := fun x => (fun _ => bkeep (BQ.below x) r2) (hx x); have s3 := fun x => (fun _ => bkeep (BQ.below x) r3) (hx x); have s4 := fun x => (fun _ => bkeep (BQ.below x) r4) (hx x); have s5 := fun x => (fun _ => bkeep (BQ.below x) r5) (hx x); have s6 := fun x => (fun _ => bkeep (BQ.below x) r6) (hx x); have s7 := fun x => (fun _ => bkeep (BQ.below x) r7) (hx x); have u0 := fun x => (fun _ => bkeep (BQ.below x) q0) (hx x); have u1 := fun x => (fun _ => bkeep (BQ.below x) p0) (hx x); have u2 := fun x => (fun _ => bkeep (BQ.below x) p1) (hx x); have u3 := fun x => (fun _ => bkeep (BQ.below x) q1) (hx x); go_big_quiet_op; (first | go_big_quiet_on | (refine ⟨_, fun _ => rfl, ?_⟩; go_big_quiet_on)); clear hx inst)
    (refine wpS_quiet rfl rfl ?_; intro K hK inst hx; have s0 := fun x => (fun _ => bkeep (BQ.below x) r0) (hx x); have s1 := fun x => (fun _ => bkeep (BQ.below x) r1) (hx x); have s2 := fun x => (fun _ => bkeep (BQ.below x) r2) (hx x); have s3 := fun x => (fun _ => bkeep (BQ.below x) r3) (hx x); have s4 := fun x => (fun _ => bkeep (BQ.below x) r4) (hx x); have s5 := fun x => (fun _ => bkeep (BQ.below x) r5) (hx x); have s6 := fun x => (fun _ => bkeep (BQ.below x) r6) (hx x); have s7 := fun x => (fun _ => bkeep (BQ.below x) r7) (hx x); have u0 := fun x => (fun _ => bkeep (BQ.below x) q0) (hx x); have u1 := fun x => (fun _ => bkeep (BQ.below x) p0) (hx x); have u2 := fun x => (fun _ => bkeep (BQ.below x) p1) (hx x); have u3 := fun x => (fun _ => bkeep (BQ.below x) q1) (hx x); go_big_quiet_op; (first | go_big_quiet_on | (refine ⟨_, fun _ => rfl, ?_⟩; go_big_quiet_on)); clear hx inst)
    refine wpS_fresh rfl rfl (fun w' hb hF => ?_) ?_
    · change freshAt _ _ _ (fun v _ => v = .int .i64 r) _; unfold freshAt; go_simp; exact ans_any HR.out
    intro v W hv; simp only [pOf, List.lookup_cons, Nat.reduceBEq, beq_self_eq_true] at hv; subst hv
    simp only [Act.put, List.setIfInBounds_toArray, List.set_cons_succ, List.set_cons_zero]
    (refine wpS_quiet rfl rfl ?_; intro K hK inst hx; have s0 := fun x => (fun _ => bkeep (BQ.below x) r0) (hx x); have s1 := fun x => (fun _ => bkeep (BQ.below x) r1) (hx x); have s2 := fun x => (fun _ => bkeep (BQ.below x) r2) (hx x); have s3 := fun x => (fun _ => bkeep (BQ.below x) r3) (hx x); have s4 := fun x => (fun _ => bkeep (BQ.below x) r4) (hx x); have s5 := fun x => (fun _ => bkeep (BQ.below x) r5) (hx x); have s6 := fun x => (fun _ => bkeep (BQ.below x) r6) (hx x); have s7 := fun x => (fun _ => bkeep (BQ.below x) r7) (hx x); have u0 := fun x => (fun _ => bkeep (BQ.below x) q0) (hx x); have u1 := fun x => (fun _ => bkeep (BQ.below x) p0) (hx x); have u2 := fun x => (fun _ => bkeep (BQ.below x) p1) (hx x); have u3 := fun x => (fun _ => bkeep (BQ.below x) q1) (hx x); go_big_quiet_op; (first | go_big_quiet_on | (refine ⟨_, fun _ => rfl, ?_⟩; go_big_quiet_on)); clear hx inst)
    refine wpS_nil ?_
    intro V2 hall
    have hb := hall.1
    clear hall
    replace y0 := y0.below hb; replace y2 := y2.below hb; replace hm := hm.below hb
    have hb2 := h1.trans (hb.mono h1.size)
    have hz2 := hb.size
    clear r0 r1 r2 r3 r4 r5 r6 r7 q0 q1 p0 p1 bX
    obtain ⟨e1, f1⟩ := hm i hin
    refine wpAny_ready (rs := [9]) (by kernel_rfl) (by simp) ?_
    refine AllReady.cons rfl (fun K hK => ?_) AllReady.nil
    go_simp
    refine hK _ _ ?_; clear hK K
    refine wpAny_done (by kernel_rfl) ?_ _
    refine ⟨rfl, ?_⟩
    exact ⟨(KeepsAll.of_below hb).trans (KeepsAll.set (by have := HZ4.out; have := HZ1.out; have := HZ5.out; show w.heap.size + 1 < _; omega)), (KeepP.of_below hb).trans (KeepP.set (fun hp => hp.1 rfl)), hb2.setCell (p := ⟨w.heap.size + 1, i, none⟩) (Nat.le_succ _) _, y0.other (by omega) _, y2.other (by have := HZ4.out; have := HZ1.out; have := HZ5.out; omega) _, by rw [List.length_append, List.length_singleton, ← HA.out]; exact hm.put (by have := HNX.out; have := HN.out; omega), by simp; omega⟩
  case done =>
    rintro D xs V hD hS ⟨h1, y0, y2, hm, hzv⟩ hK2
    rw [hS, HN.out] at hm
    have e2 := (y2 0 _ rfl).1
    go_wp2_with fail
    refine ⟨by simp, .inl ⟨_, _, rfl, run_takeDeferred hK2, ?_⟩⟩
    have m2 := hm.kept (grownBy_putObj' V D (.deferred none)) (fun r e => by cases e; exact ⟨_, hK2, rfl⟩)
    exact ⟨.slice (some ⟨w.heap.size + 1, 0, none⟩) n n, by simp [results, Try.results86, go_sem], ⟨_, rfl, Below.trans h1 (belowK_b (w := w) (Nat.le_refl _) _ D _ (.deferred none) (by have := hB4.size; omega) hK2 rfl rfl), m2.nums (by omega) (fun i _ => ans_i64 _ _ _)⟩⟩
  case stop => exact fun D c pre V hD hpre hs hK2 => hs.elim

end Go.Proofs.Ytnchhleokdkejaa

/- The loads of courses, in a slice that was made. -/
namespace Go.Pb.Bung
open Go Go.Pb Go.Pb.Ware Go.RowKit
set_option linter.unusedVariables false
set_option linter.unusedSimpArgs false
theorem made_two {w : World} {base n B : Nat} {T : TypeId} {z : Value} {x y : Value} (hz : z.cells = #[x, y]) (h : w.ownsRow base T 2 (.slice (some ⟨B, 0, none⟩) n n) n (madeCells z.cells (n * 2)).toList) : ∀ i, i < n → (w.cell? ⟨B, i * 2, none⟩ = some x ∧ w.frozen? ⟨B, i * 2, none⟩ = false) ∧ w.cell? ⟨B, i * 2 + 1, none⟩ = some y ∧ w.frozen? ⟨B, i * 2 + 1, none⟩ = false := by
  obtain ⟨_, h⟩ := h
  rcases h with ⟨h1, _⟩ | ⟨g, cap, cur, h1, h2, h3, h4, h5, h6, h7⟩
  · cases h1
  injection h1 with e1 _ e2
  injection e1 with e1
  injection e1 with e1
  subst e1; subst e2
  have key : ∀ j, j < n * 2 → cur[j]? = some ((#[x, y] : Array Value)[j % 2]!) := by
    intro j hj
    have h8 : (cur.toList.take (n * 2))[j]? = some ((#[x, y] : Array Value)[j % 2]!) := by
      rw [h7, Array.getElem?_toList]
      unfold madeCells
      rw [Array.getElem?_map, Array.getElem?_range, if_pos hj, hz]
      rfl
    rw [List.getElem?_take, if_pos hj] at h8
    simpa using h8
  intro i hi
  have k0 := key (i * 2) (by omega)
  have k1 := key (i * 2 + 1) (by omega)
  rw [show i * 2 % 2 = 0 by omega] at k0
  rw [show (i * 2 + 1) % 2 = 1 by omega] at k1
  refine ⟨⟨?_, ?_⟩, ?_, ?_⟩
  · simp only [World.cell?, h3]; exact k0
  · simp [World.frozen?, h3]
  · simp only [World.cell?, h3]; exact k1
  · simp [World.frozen?, h3]
/-- The k upper ranges, in a slice that was made. -/
def MadeR (M n : Nat) (f g : Nat → Int) (k : Nat) (W : World) : Prop := ∀ i, i < n → (W.cell? ⟨M, i * 2, none⟩ = some (.int .i64 (if n ≤ i + k then f i else 0)) ∧ W.frozen? ⟨M, i * 2, none⟩ = false) ∧ W.cell? ⟨M, i * 2 + 1, none⟩ = some (.int .i64 (if n ≤ i + k then g i else 0)) ∧ W.frozen? ⟨M, i * 2 + 1, none⟩ = false
theorem MadeR.start {M n : Nat} {f g : Nat → Int} {W : World} (h : ∀ i, i < n → (W.cell? ⟨M, i * 2, none⟩ = some (.int .i64 0) ∧ W.frozen? ⟨M, i * 2, none⟩ = false) ∧ W.cell? ⟨M, i * 2 + 1, none⟩ = some (.int .i64 0) ∧ W.frozen? ⟨M, i * 2 + 1, none⟩ = false) : MadeR M n f g 0 W := fun i hi => by
  rw [if_neg (by omega), if_neg (by omega)]; exact h i hi
theorem MadeR.low {M n k n0 : Nat} {f g : Nat → Int} {W W' : World} (h : MadeR M n f g k W) (hb : Below n0 W W') (hM : M < n0) : MadeR M n f g k W' := fun i hi => by
  obtain ⟨⟨h1, h2⟩, h3, h4⟩ := h i hi
  have e := hb.block M hM
  exact ⟨⟨by unfold World.cell? at h1 ⊢; rw [e]; exact h1, by unfold World.frozen? at h2 ⊢; rw [e]; exact h2⟩, by unfold World.cell? at h3 ⊢; rw [e]; exact h3, by unfold World.frozen? at h4 ⊢; rw [e]; exact h4⟩
theorem MadeR.below {M n k : Nat} {f g : Nat → Int} {W W' : World} (h : MadeR M n f g k W) (hb : Below W.heap.size W W') : MadeR M n f g k W' := fun i hi => by
  obtain ⟨⟨h1, h2⟩, h3, h4⟩ := h i hi
  exact ⟨⟨bkeep hb h1, bfree hb h1 h2⟩, bkeep hb h3, bfree hb h3 h4⟩
theorem MadeR.kept {M n k : Nat} {f g : Nat → Int} {W W' : World} {row : Option Nat} (h : MadeR M n f g k W) (hg : W.grownBy W' row) (hr : ∀ r, row = some r → ∃ o : Obj, W.heap[r]? = some o ∧ o.isCells = false) : MadeR M n f g k W' := fun i hi => by
  obtain ⟨⟨h1, h2⟩, h3, h4⟩ := h i hi
  have hne : some M ≠ row := fun e => by
    obtain ⟨o, ho, hc⟩ := hr M e.symm
    unfold World.cell? at h1
    dsimp only at h1
    rw [ho] at h1
    cases o <;> simp_all [Obj.isCells]
  exact ⟨⟨hg.cell (a := ⟨M, i * 2, none⟩) h1 hne, grown_free hg h1 h2 hne⟩, hg.cell (a := ⟨M, i * 2 + 1, none⟩) h3 hne, grown_free hg h3 h4 hne⟩
theorem MadeR.put {M n k i : Nat} {f g : Nat → Int} {W : World} (h : MadeR M n f g k W) (hi : i + k + 1 = n) : MadeR M n f g (k + 1) ((W.setCell ⟨M, i * 2, none⟩ (.int .i64 (f i))).setCell ⟨M, i * 2 + 1, none⟩ (.int .i64 (g i))) := by
  intro j hj
  obtain ⟨⟨h1, h2⟩, h3, h4⟩ := h j hj
  have ad : ∀ {x y : Nat}, x ≠ y → (⟨M, x, none⟩ : Addr) ≠ ⟨M, y, none⟩ := fun hxy e => by injection e with _ e; exact hxy e
  by_cases e : j = i
  · subst e
    refine ⟨⟨?_, by simpa [go_sem] using h2⟩, ?_, by simpa [go_sem] using h4⟩
    · rw [World.cell?_setCell_other _ _ _ _ (ad (by omega)), World.cell?_setCell_same _ _ _ h1, if_pos (by omega)]
    · have h5 := (World.cell?_setCell_other W ⟨M, j * 2, none⟩ ⟨M, j * 2 + 1, none⟩ (.int .i64 (f j)) (ad (by omega))).trans h3
      rw [World.cell?_setCell_same _ _ _ h5, if_pos (by omega)]
  · refine ⟨⟨?_, by simpa [go_sem] using h2⟩, ?_, by simpa [go_sem] using h4⟩
    · rw [World.cell?_setCell_other _ _ _ _ (ad (by omega)), World.cell?_setCell_other _ _ _ _ (ad (by omega)), h1]
      by_cases h5 : n ≤ j + k
      · rw [if_pos h5, if_pos (by omega)]
      · rw [if_neg h5, if_neg (by omega)]
    · rw [World.cell?_setCell_other _ _ _ _ (ad (by omega)), World.cell?_setCell_other _ _ _ _ (ad (by omega)), h3]
      by_cases h5 : n ≤ j + k
      · rw [if_pos h5, if_pos (by omega)]
      · rw [if_neg h5, if_neg (by omega)]
theorem MadeR.rows {M n : Nat} {f g : Nat → Int} {W : World} (h : MadeR M n f g n W) (hn : n ≤ 1000) (hi : ∀ i, i < n → I64 (f i) ∧ I64 (g i)) : RowsAt 2 W (.slice (some ⟨M, 0, none⟩) n n) ((List.range n).map fun i => [f i, g i]) := by
  refine .inr ⟨⟨M, 0, none⟩, n, by simp, by simp, by omega, fun k r hk => ?_⟩
  rw [List.getElem?_map] at hk
  obtain ⟨j, hj, rfl⟩ := Option.map_eq_some_iff.1 hk
  obtain ⟨hj1, hj2⟩ := List.getElem?_eq_some_iff.1 hj
  rw [List.getElem_range] at hj2
  subst hj2
  have hk2 : k < n := by simpa using hj1
  refine ⟨rfl, fun o z hz => ?_⟩
  obtain ⟨⟨h1, -⟩, h3, -⟩ := h k hk2
  rw [if_pos (by omega)] at h1 h3
  rw [Go.WideShapes.add_plain, Nat.zero_add]
  match o, hz with
  | 0, hz => injection hz with hz; subst hz; exact ⟨h1, (hi k hk2).1⟩
  | 1, hz => injection hz with hz; subst hz; exact ⟨h3, (hi k hk2).2⟩
  | o + 2, hz => simp at hz
end Go.Pb.Bung

/- What each course bears. -/
namespace Go.Proofs.Ytnchhleokdkejaa
open Go.RowKit Go.Pb Go.Pb.Ware Go.Pb.Sag
set_option linter.unusedVariables false
set_option linter.unusedSimpArgs false

open Go.Shelf Go.Pb.Bung
attribute [local go_sem] Oper.semAt_some
theorem Try.infoRng : (Try.prog.info? 23).map (fun i => (i.zero, i.size, i.bytes)) = some (some (.agg #[.int .i64 0, .int .i64 0]), 2, 16) := by kernel_rfl
theorem bungOk_list {lo hi : Int} {l : List Sg} (h : bungOk lo hi l = true) : listOk l = true := by unfold bungOk at h; simp only [Bool.and_eq_true] at h; exact h.2
theorem bungOk_len {lo hi : Int} {l : List Sg} (h : bungOk lo hi l = true) : l.length ≤ 30 := by
  have h1 := bungOk_list h
  unfold listOk at h1
  rw [Bool.and_eq_true, decide_eq_true_eq] at h1
  exact h1.1
theorem okUp_all {l : List Sg} : ∀ k, okUp l k = true → ∀ s ∈ l.take k, sgOk s = true
  | 0, _, s, hs => by simp at hs
  | k + 1, h, s, hs => by
    rw [okUp, Bool.and_eq_true] at h
    rw [List.take_add_one] at hs
    rcases List.mem_append.1 hs with hs | hs
    · exact okUp_all k h.1 s hs
    · cases hk : l[k]? with
      | none => rw [hk] at hs; simp at hs
      | some y =>
        rw [hk] at hs h
        simp at hs
        subst hs
        have h2 := h.2
        simp only [Bool.and_eq_true] at h2
        exact h2.1
theorem listOk_all {l : List Sg} (h : listOk l = true) : ∀ s ∈ l, sgOk s = true := by
  unfold listOk at h
  rw [Bool.and_eq_true] at h
  have := okUp_all l.length h.2
  rwa [List.take_length] at this
theorem sg_bounds {l : List Sg} (h : listOk l = true) : ∀ s ∈ l, 0 ≤ s.wl ∧ s.wl ≤ 10000000 ∧ 0 ≤ s.wh ∧ s.wh ≤ 10000000 := fun s hs => by
  have h1 := listOk_all h s hs
  unfold sgOk rgOk at h1
  simp only [Bool.and_eq_true, decide_eq_true_eq] at h1
  omega
theorem load_i64 {l : List Sg} (h : ∀ s ∈ l, 0 ≤ s.wl ∧ s.wl ≤ 10000000 ∧ 0 ≤ s.wh ∧ s.wh ≤ 10000000) (hl : l.length ≤ 30) (i : Nat) : I64 (loadL l i) ∧ I64 (loadH l i) := by
  obtain ⟨h1, h2, h3, h4⟩ := load_small h i
  exact ⟨I64.mk (by omega) (by omega), I64.mk (by omega) (by omega)⟩

set_option maxRecDepth 100000 in
set_option maxHeartbeats 2000000 in
theorem Loads_good {w : World} {v : Value} {l : List Sg} {wl wh : Int} (h : RowsAt 8 w v (l.map rowG)) (hb : bungOk wl wh l = true) :
    Calls Try.prog 28 #[.agg #[.int .i64 wl, .int .i64 wh, v]] w (fun e w' => ∃ u, e = .returned (.tuple #[u, .int .i64 0]) ∧ Below w.heap.size w w' ∧ RowsAt 2 w' u ((List.range l.length).map fun i => [loadL l i, loadH l i])) := by
  obtain ⟨i0, hi0, hz0, hz1, hz2⟩ := info_parts Try.infoRng
  obtain ⟨a, cap, rfl, hll⟩ := h.shape
  rw [List.length_map] at h hll ⊢
  obtain ⟨n, hn⟩ : ∃ n, l.length = n := ⟨_, rfl⟩
  have HPV0 := hid (fun hne => inP_rows h hne : l ≠ [] → InP (fun k => k < w.heap.size) (.slice a l.length cap))
  rw [hn] at h hll HPV0 ⊢
  have HN := hid hn; clear hn
  have hcb : ckBg wl wh l = 0 := by unfold ckBg; rw [if_pos hb]
  have HCB := hid hcb; have HS := hid (sg_bounds (bungOk_list hb)); have hl : n ≤ 30 := by rw [← HN.out]; exact (bungOk_len hb)
  clear hcb
  refine (callsIn_wide (n := 8)).1 ?_
  refine callsIn_of_wp_marks Try.func28 rfl trivial ?_ rfl
  simp only [Try.ntmps28, List.size_toArray, List.length_cons, List.length_nil, Nat.reduceAdd, Nat.reduceSub, Array.replicate_succ, Array.replicate_zero, List.push_toArray, List.append_toArray, List.nil_append, List.cons_append]
  refine (wpIn_wide (n := 8)).2 ?_
  go_upto_region 1 with fail
  generalize hW0 : World.alloc w _ = wa
  have ya : CellsAt wa w.heap.size [.int .i64 wl, .int .i64 wh, .slice a n cap] := by rw [← hW0]; exact CellsAt.new w _ 26
  have hBa : Below w.heap.size w wa := by rw [← hW0]; exact (Below.refl _ _).alloc (Nat.le_refl _) _
  have HZa := hid (show wa.heap.size = w.heap.size + 1 by rw [← hW0]; simp)
  have ha1 := h.below hBa
  clear hW0
  have q0 := (ya 0 _ rfl).1; have q1 := (ya 1 _ rfl).1; have q2 := (ya 2 _ rfl).1
  go_wp2_with fail
  refine (ckBg_any ha1 HCB.out).mono ?_
  rintro e wc ⟨rfl, hbc⟩
  replace ya := ya.below hbc
  have hBc := hBa.trans (hbc.mono (by have := HZa.out; omega))
  have hzc : w.heap.size + 1 ≤ wc.heap.size := by have := HZa.out; have := hbc.size; omega
  clear ha1 hbc q0 q1 q2
  have q0 := (ya 0 _ rfl).1; have q1 := (ya 1 _ rfl).1; have q2 := (ya 2 _ rfl).1
  go_upto_region 5 with (at_make; refine wpList_make_full _ rfl _ _ 38 rfl wc.heap.size 23 i0 (.agg #[.int .i64 0, .int .i64 0]) 2 Try.underlying38 hi0 hz0 hz1 .i64 .i64 _ _ n rfl rfl rfl rfl (by rw [hz2]; omega) (by unfold maxLen; omega) (Nat.le_refl _) ?_; intro w5 ho5 hg5)
  have hm5 := made_two (B := wc.heap.size) rfl ho5
  have hb5 : Below wc.heap.size wc w5 := (Below.refl _ _).grown hg5 (Nat.le_refl _) (fun k h => by cases h)
  have hz5 : wc.heap.size < w5.heap.size := by have := (World.ownsRow.lt ho5 wc.heap.size (by simp [Value.ownBlock])).2; exact this
  have hB5 : Below w.heap.size w w5 := hBc.trans (hb5.mono hBc.size)
  have y05 := ya.below hb5
  have m5 : MadeR wc.heap.size n (loadL l) (loadH l) 0 w5 := MadeR.start hm5
  clear ya q0 q1 q2
  generalize hW : World.alloc w5 _ = v1
  have hb6 : Below w5.heap.size w5 v1 := by rw [← hW]; exact (Below.refl _ _).alloc (Nat.le_refl _) _
  have y2 : CellsAt v1 w5.heap.size [.slice (some ⟨wc.heap.size, 0, none⟩) n n] := by rw [← hW]; exact CellsAt.new w5 _ 38
  have HZ1 := hid (show v1.heap.size = w5.heap.size + 1 by rw [← hW]; simp)
  have y0 := y05.below hb6; have m1 := m5.below hb6
  have hB1 := hB5.trans (hb6.mono hB5.size)
  have HZ5 := hid hz5
  have HZC := hid hzc; clear hW hb5 hb6 hB5 y05 m5 hm5 ho5 hg5 hz5 hi0 hz0 hz1 hz2 hzc
  have q0 := (y0 0 _ rfl).1; have q1 := (y0 1 _ rfl).1; have q2 := (y0 2 _ rfl).1
  have h1 := h.below hB1
  go_wp2_with fail
  refine loads_any.mono ?_
  rintro e w4 ⟨rfl, c4, hb, hz4⟩
  have hB4 := hB1.trans (hb.mono hB1.size)
  replace y0 := y0.below hb; replace y2 := y2.below hb; replace m1 := m1.below hb
  have h4 := h1.below hb
  have HZ4 := hid hz4
  clear q0 q1 q2 hb h1 hz4
  go_wp2_with fail
  refine (wpIn_wide (n := 8)).1 ?_
  refine wpIn_rangeFunc_n (F := Fence.wide) (n := 8) rfl (by omega) (gf := 124) (lb := #[.pointer (some ⟨v1.heap.size, 0, none⟩)]) rfl trivial (enters_of Try.func124 (by kernel_rfl) rfl) (loads_n (m := 7) (by omega) (p := (fun k => k ≠ wc.heap.size ∧ k < w4.heap.size)) c4 h4 (by rw [HN.out]; exact hl) HS.out (by have := HZ4.out; have := HZ1.out; have := HZ5.out; have := HZC.out; exact ⟨by omega, by omega⟩) (fun hne a n c e => by have h1 := HPV0.out hne a n c e; have := HZ4.out; have := HZ1.out; have := HZ5.out; have := HZC.out; dsimp only at h1; exact ⟨by omega, by omega⟩) (fun k hk => hk.2)) (fun h k => h.trans k) (fun V q o o' hq _ _ _ => KeepP.put (fun hp => by have := hp.2; omega)) (Below.refl _ _) (fun _ => rfl)
    (fun (pre : List Nat) V => Below w.heap.size w V ∧ CellsAt V w.heap.size [.int .i64 wl, .int .i64 wh, .slice a n cap] ∧ CellsAt V w5.heap.size [.slice (some ⟨wc.heap.size, 0, none⟩) n n] ∧ MadeR wc.heap.size n (loadL l) (loadH l) pre.length V ∧ w4.heap.size ≤ V.heap.size) (fun c (pre : List Nat) V => False) ?own ?ownx ?low ?lowx (fun _ _ _ _ hs _ _ => hs) ?start
    (fun x a' V => ∃ Bx, w4.heap.size ≤ Bx ∧ CellsAt V Bx [.int .i64 (loadL l x), .int .i64 (loadH l x)] ∧ a' = { tmps := #[.agg #[.int .i64 wl, .int .i64 wh, .slice a n cap], .pointer (some ⟨w.heap.size, 0, none⟩), .slice none 0 0, .int .i64 0, .int .i64 0, .pointer (some ⟨w5.heap.size, 0, none⟩), .int .i64 (x : Int), .pointer (some ⟨Bx, 0, none⟩), .agg #[.int .i64 wl, .int .i64 wh, .slice a n cap], .int .i64 0, .int .i64 0, .bool false, undef, .pointer (some ⟨w.heap.size, 2, none⟩), .slice a n cap, .int .i64 (n : Int), .slice (some ⟨wc.heap.size, 0, none⟩) n n, .pointer (some ⟨w.heap.size, 2, none⟩), .slice a n cap, .func (.func 124) #[] #[.pointer (some ⟨v1.heap.size, 0, none⟩)], .int .i64 (x : Int), .agg #[.int .i64 (loadL l x), .int .i64 (loadH l x)], undef, undef, undef, undef, undef], defers := [] })
    (fun x a' _ X Y row hs hg hr => by obtain ⟨Bx, h1, h2, h3⟩ := hs; exact ⟨Bx, h1, h2.kept hg (fun r e => (hr r e).2), h3⟩)
    ?assign ?body ?done ?stop
  case own => rintro s X Y row ⟨h1, h2, h3, h4, h5⟩ hg hr; exact ⟨h1.grown hg (Nat.le_trans (Nat.le_refl _) h1.size) (fun k e => by have := (hr k e).1; have := HZ4.out; have := HZ1.out; have := HZ5.out; have := HZC.out; omega), h2.kept hg (fun r e => (hr r e).2), h3.kept hg (fun r e => (hr r e).2), h4.kept hg (fun r e => (hr r e).2), by have := hg.size; omega⟩
  case ownx => exact fun c s X Y row hs _ _ => hs
  case low => rintro s X Y ⟨h1, h2, h3, h4, h5⟩ hb; exact ⟨h1.trans (hb.mono (by have := HZ4.out; have := HZ1.out; have := HZ5.out; have := HZC.out; omega)), cells_low h2 hb (by have := HZ4.out; have := HZ1.out; have := HZ5.out; have := HZC.out; omega), cells_low h3 hb (by have := HZ4.out; have := HZ1.out; have := HZ5.out; have := HZC.out; omega), h4.low hb (by have := HZ4.out; have := HZ1.out; have := HZ5.out; have := HZC.out; omega), by have := hb.size; omega⟩
  case lowx => exact fun c s X Y hs _ => hs
  case start => exact ⟨hB4, y0, y2, m1, Nat.le_refl _⟩
  case assign =>
    rintro q pre x V K2 ⟨h1, h2, h3, h4, h5⟩ - hK2
    unfold encL
    gi_wp2
    exact hK2 _ _ (KeepsAll.of_below ((Below.refl _ _).alloc (Nat.le_refl _) _)) (KeepP.of_below ((Below.refl _ _).alloc (Nat.le_refl _) _)) ⟨h1.alloc h1.size _, h2.alloc _, h3.alloc _, h4.below ((Below.refl _ _).alloc (Nat.le_refl _) _), by simp; omega⟩ trivial ⟨V.heap.size, h5, CellsAt.new V [.int .i64 (loadL l x), .int .i64 (loadH l x)] 23, rfl⟩
  case body =>
    rintro q pre i a' V hq1 hq2 ⟨h1, y0, y2, hm, hzv⟩ - ⟨Bx, hBx, bX, rfl⟩ hNx
    unfold NxB at hNx
    have hin : i < n := by have := HN.out; omega
    have hil2 : (i : Int) < (n : Int) := by omega
    have p0 := (bX 0 _ rfl).1; have p1 := (bX 1 _ rfl).1; have q1 := (y2 0 _ rfl).1
    obtain ⟨⟨e1, f1⟩, e2, f2⟩ := hm i hin
    have hm2 := hm.put (i := i) (by have := HN.out; omega)
    have HM := hid hm2; clear hm hm2 hNx
    gi_wp2
    exact ⟨(KeepsAll.set (by have := HZ4.out; have := HZ1.out; have := HZ5.out; have := HZC.out; show wc.heap.size < _; omega)).trans (KeepsAll.set (by have := HZ4.out; have := HZ1.out; have := HZ5.out; have := HZC.out; show wc.heap.size < _; omega)), (KeepP.set (fun hp => hp.1 rfl)).trans (KeepP.set (fun hp => hp.1 rfl)), (h1.setCell (p := ⟨wc.heap.size, i * 2, none⟩) (by have := HZ4.out; have := HZ1.out; have := HZ5.out; have := HZC.out; show w.heap.size ≤ wc.heap.size; omega) _).setCell (p := ⟨wc.heap.size, i * 2 + 1, none⟩) (by have := HZ4.out; have := HZ1.out; have := HZ5.out; have := HZC.out; show w.heap.size ≤ wc.heap.size; omega) _, (y0.other (by have := HZ4.out; have := HZ1.out; have := HZ5.out; have := HZC.out; omega) _).other (by have := HZ4.out; have := HZ1.out; have := HZ5.out; have := HZC.out; omega) _, (y2.other (by have := HZ4.out; have := HZ1.out; have := HZ5.out; have := HZC.out; omega) _).other (by have := HZ4.out; have := HZ1.out; have := HZ5.out; have := HZC.out; omega) _, by rw [List.length_append, List.length_singleton]; exact HM.out, by simp; omega⟩
  case done =>
    rintro D xs V hD hS ⟨h1, y0, y2, hm, hzv⟩ hK2
    rw [hS, HN.out] at hm
    have e2 := (y2 0 _ rfl).1
    go_wp2_with fail
    refine ⟨by simp, .inl ⟨_, _, rfl, run_takeDeferred hK2, ?_⟩⟩
    have m2 := hm.kept (grownBy_putObj' V D (.deferred none)) (fun r e => by cases e; exact ⟨_, hK2, rfl⟩)
    exact ⟨.tuple #[.slice (some ⟨wc.heap.size, 0, none⟩) n n, .int .i64 0], by simp [results, Try.results28, go_sem], ⟨_, rfl, Below.trans h1 (belowK_b (w := w) (Nat.le_refl _) _ D _ (.deferred none) (by have := hB4.size; omega) hK2 rfl rfl), m2.rows (by omega) (fun i _ => load_i64 HS.out (by rw [HN.out]; exact hl) i)⟩⟩
  case stop => exact fun D c pre V hD hpre hs hK2 => hs.elim

end Go.Proofs.Ytnchhleokdkejaa

/- How high saggars are. -/
namespace Go.Proofs.Ytnchhleokdkejaa
open Go.RowKit Go.Pb Go.Pb.Ware Go.Pb.Sag
set_option linter.unusedVariables false
set_option linter.unusedSimpArgs false

open Go.Pb.Bung
theorem ne_blk {a b : Nat} (h : a ≠ b) (o p : Nat) : (⟨a, o, none⟩ : Addr) ≠ ⟨b, p, none⟩ := by intro e; injection e with e _; exact h e
set_option maxRecDepth 100000 in
set_option maxHeartbeats 2000000 in
theorem height_any {w : World} {v : Value} {l : List Sg} {lo hi : Int} (h : RowsAt 8 w v (l.map rowG)) (hl : l.length ≤ 30) (hs : ∀ s ∈ l, 0 ≤ s.hl ∧ s.hl ≤ 10000 ∧ 0 ≤ s.hh ∧ s.hh ≤ 10000) (h1 : 0 ≤ lo ∧ lo ≤ 200) (h2 : 0 ≤ hi ∧ hi ≤ 200) :
    Calls Try.prog 90 #[.agg #[.int .i64 lo, .int .i64 hi], v] w (Ret w (.agg #[.int .i64 (hgtL l lo l.length), .int .i64 (hgtH l hi l.length)])) := by
  unfold Ret
  obtain ⟨a, cap, rfl, hll⟩ := h.shape
  rw [List.length_map] at h hll ⊢
  obtain ⟨n, hn⟩ : ∃ n, l.length = n := ⟨_, rfl⟩
  have HN := hid hn
  rw [hn] at h hll hl ⊢
  have HS := hid hs; have HL1 := hid h1; have HL2 := hid h2; clear hn hs h1 h2
  go_enter Try.func90, Try.ntmps90
  go_upto_region 2 with fail
  generalize hW : World.alloc (World.alloc (World.alloc w _) _) _ = v1
  have y0 : CellsAt v1 w.heap.size [.int .i64 lo, .int .i64 hi] := by rw [← hW]; exact ((CellsAt.new w [.int .i64 lo, .int .i64 hi] 23).alloc _).alloc _
  have y1 : CellsAt v1 (w.heap.size + 1) [.int .i64 0, .int .i64 0] := by rw [← hW]; have h := (CellsAt.new (w.alloc (.cells #[.int .i64 lo, .int .i64 hi] 23)) [.int .i64 0, .int .i64 0] 23).alloc (.cells #[.int .i64 0, .int .i64 0] 23); rwa [World.size_alloc] at h
  have y2 : CellsAt v1 (w.heap.size + 2) [.int .i64 0, .int .i64 0] := by rw [← hW]; have h := CellsAt.new ((w.alloc (.cells #[.int .i64 lo, .int .i64 hi] 23)).alloc (.cells #[.int .i64 0, .int .i64 0] 23)) [.int .i64 0, .int .i64 0] 23; rwa [World.size_alloc, World.size_alloc] at h
  have hB1 : Below w.heap.size w v1 := by rw [← hW]; exact (((Below.refl _ w).alloc (Nat.le_refl _) _).alloc (by simp) _).alloc (by simp; omega) _
  have hz1 : w.heap.size + 3 ≤ v1.heap.size := by rw [← hW]; simp
  have HZ := hid hz1
  clear hW hz1
  go_wp2_with fail
  go_loopg [10] n (fun gk iv wr => ∃ k : Nat, k ≤ n ∧ gk = n - k ∧ iv = .int .i64 k ∧ CellsAt wr w.heap.size [.int .i64 lo, .int .i64 hi] ∧ CellsAt wr (w.heap.size + 1) [.int .i64 0, .int .i64 0] ∧ CellsAt wr (w.heap.size + 2) [.int .i64 (hgtL l lo k), .int .i64 (hgtH l hi k)] ∧ Below w.heap.size w wr ∧ w.heap.size + 3 ≤ wr.heap.size)
  case atStart => exact ⟨0, Nat.zero_le _, rfl, rfl, y0, y1, by rw [(hgt_zero (l := l) (lo := lo) (hi := hi)).1, (hgt_zero (l := l) (lo := lo) (hi := hi)).2]; exact y2, hB1, HZ.out⟩
  case round =>
    clear y0 y1 y2 hB1
    obtain ⟨k, hk, hgk, rfl, y0, y1, y2, hB, hz⟩ := hrel
    have HGK := hid hgk; clear hgk
    by_cases hlt : k < n
    · have hki : (k : Int) < (n : Int) := by omega
      have hkl : k < l.length := by rw [HN.out]; exact hlt
      obtain ⟨s, hs⟩ : ∃ s, l[k]? = some s := ⟨_, List.getElem?_eq_getElem hkl⟩
      have hsm := HS.out s (List.mem_of_getElem? hs)
      obtain ⟨a', ha, r0, hc, hi8⟩ := sg_row (by rw [HN.out]; exact h.below hB) hs
      subst ha
      have hsmall := hgt_small HS.out HL1.out HL2.out k
      obtain ⟨x, hx⟩ : ∃ x, hgtL l lo k = x := ⟨_, rfl⟩
      obtain ⟨y, hy⟩ : ∃ y, hgtH l hi k = y := ⟨_, rfl⟩
      rw [hx] at y2 hsmall; rw [hy] at y2 hsmall
      have hL1 := HL1.out; have hL2 := HL2.out
      have HS1 := hid hs; have HX := hid hx; have HY := hid hy; clear hs hx hy hkl
      obtain ⟨sid, swl, swh, sbl, sbh, shl, shh, sti⟩ := s
      dsimp only at r0 hsm
      have r1 := hc 1 _ (by decide) rfl
      have r2 := hc 2 _ (by decide) rfl
      have r3 := hc 3 _ (by decide) rfl
      have r4 := hc 4 _ (by decide) rfl
      have r5 := hc 5 _ (by decide) rfl
      have r6 := hc 6 _ (by decide) rfl
      have r7 := hc 7 _ (by decide) rfl
      dsimp only at r1 r2 r3 r4 r5 r6 r7
      clear hc hi8
      obtain ⟨v3, hv3⟩ : ∃ v, v = wr := ⟨_, rfl⟩
      subst hv3
      go_upto_region 5 with fail
      generalize hW : World.alloc v3 _ = v5
      have t5 : v5.cell? ⟨v3.heap.size, 5, none⟩ = some (.int .i64 shl) := by rw [← hW]; simp [go_sem]
      have t6 : v5.cell? ⟨v3.heap.size, 6, none⟩ = some (.int .i64 shh) := by rw [← hW]; simp [go_sem]
      have hb5 : Below v3.heap.size v3 v5 := by rw [← hW]; exact (Below.refl _ _).alloc (Nat.le_refl _) _
      replace hB := hB.trans (hb5.mono hB.size)
      replace y0 := y0.below hb5; replace y1 := y1.below hb5; replace y2 := y2.below hb5
      have hz5 := hb5.size
      have hlt3 : v3.heap.size < v5.heap.size := by rw [← hW]; simp
      clear hW hb5 r0 r1 r2 r3 r4 r5 r6 r7
      by_cases hk0 : k = 0
      · subst hk0
        have q0 := (y2 0 _ rfl).1; have q1 := (y2 1 _ rfl).1; have f0 := (y2 0 _ rfl).2; have f1 := (y2 1 _ rfl).2; have p0 := (y0 0 _ rfl).1; have p1 := (y0 1 _ rfl).1
        go_wp2_with (go_at_call 126; refine (sum2_any (a := x) (b := y) (c := shl) (d := shh) (by simp [go_sem]) (by simp [go_sem]) (by simp [go_sem]) (by simp [go_sem]) (by omega)).mono ?_; rintro e w6 ⟨rfl, hb6⟩; have hb7 : Below v5.heap.size v5 w6 := ((Below.refl _ _).alloc (Nat.le_refl _) _).trans (hb6.mono (by simp)); have hz7 := hb7.size; replace y0 := y0.below hb7; replace y1 := y1.below hb7; replace y2 := y2.below hb7; replace t5 := bkeep hb7 t5; replace t6 := bkeep hb7 t6; replace hB := hB.trans (hb7.mono hB.size); clear hb6 hb7; replace q0 := (y2 0 _ rfl).1; replace q1 := (y2 1 _ rfl).1; replace f0 := (y2 0 _ rfl).2; replace f1 := (y2 1 _ rfl).2)
        obtain ⟨e1, e2⟩ := hgt_first (lo := lo) (hi := hi) HS1.out
        go_roundg (n - (0 + 1))
        case measure => have h := HGK.out; omega
        case rel => exact ⟨0 + 1, by omega, rfl, by go_num, two_other y0 (by omega) _ _, two_other y1 (by omega) _ _, by rw [e1, e2, HX.out, HY.out]; exact cells_store (o := 1) (cells_store (o := 0) y2), (hB.setCell (p := ⟨w.heap.size + 2, 0, none⟩) (by show w.heap.size ≤ w.heap.size + 2; omega) _).setCell (p := ⟨w.heap.size + 2, 1, none⟩) (by show w.heap.size ≤ w.heap.size + 2; omega) _, by simp; omega⟩
      · obtain ⟨j, rfl⟩ : ∃ j, k = j + 1 := ⟨k - 1, by omega⟩
        obtain ⟨kk, hkk⟩ : ∃ kk, kk = j + 1 := ⟨_, rfl⟩
        have HKK := hid hkk
        rw [← hkk] at hk hlt hki HGK HS1 HX HY hsmall ⊢
        clear hkk hk0
        have hkp : (0 : Int) < (kk : Int) := by have := HKK.out; omega
        have q0 := (y2 0 _ rfl).1; have q1 := (y2 1 _ rfl).1; have f0 := (y2 0 _ rfl).2; have f1 := (y2 1 _ rfl).2; have p0 := (y0 0 _ rfl).1; have p1 := (y0 1 _ rfl).1
        go_upto_region 7 with (go_at_call 126; refine (sum2_any (a := x) (b := y) (c := lo) (d := hi) (by simp [go_sem]) (by simp [go_sem]) (by simp [go_sem]) (by simp [go_sem]) (by omega)).mono ?_; rintro e w6 ⟨rfl, hb6⟩; have hb7 : Below v5.heap.size v5 w6 := ((Below.refl _ _).alloc (Nat.le_refl _) _).trans (hb6.mono (by simp)); have hz7 := hb7.size; replace y0 := y0.below hb7; replace y1 := y1.below hb7; replace y2 := y2.below hb7; replace t5 := bkeep hb7 t5; replace t6 := bkeep hb7 t6; replace hB := hB.trans (hb7.mono hB.size); clear hb6 hb7; replace q0 := (y2 0 _ rfl).1; replace q1 := (y2 1 _ rfl).1; replace f0 := (y2 0 _ rfl).2; replace f1 := (y2 1 _ rfl).2)
        generalize hW8 : World.setCell _ _ _ = v8
        have hz8 : v8.heap.size = w6.heap.size := by rw [← hW8]; simp
        have z0 : CellsAt v8 w.heap.size [.int .i64 lo, .int .i64 hi] := by rw [← hW8]; exact two_other y0 (by omega) _ _
        have z1 : CellsAt v8 (w.heap.size + 1) [.int .i64 0, .int .i64 0] := by rw [← hW8]; exact two_other y1 (by omega) _ _
        have z2 : CellsAt v8 (w.heap.size + 2) [.int .i64 (x + lo), .int .i64 (y + hi)] := by rw [← hW8]; exact cells_store (o := 1) (cells_store (o := 0) y2)
        have hB8 : Below w.heap.size w v8 := by rw [← hW8]; exact (hB.setCell (p := ⟨w.heap.size + 2, 0, none⟩) (by show w.heap.size ≤ w.heap.size + 2; omega) _).setCell (p := ⟨w.heap.size + 2, 1, none⟩) (by show w.heap.size ≤ w.heap.size + 2; omega) _
        have t58 : v8.cell? ⟨v3.heap.size, 5, none⟩ = some (.int .i64 shl) := by rw [← hW8]; simp only [World.cell?_setCell_other _ _ _ _ (ne_blk (show w.heap.size + 2 ≠ v3.heap.size by omega) _ _)]; exact t5
        have t68 : v8.cell? ⟨v3.heap.size, 6, none⟩ = some (.int .i64 shh) := by rw [← hW8]; simp only [World.cell?_setCell_other _ _ _ _ (ne_blk (show w.heap.size + 2 ≠ v3.heap.size by omega) _ _)]; exact t6
        have hg8 : w.heap.size + 3 ≤ v8.heap.size := by omega
        clear hz8 hW8 y0 y1 y2 t5 t6 q0 q1 f0 f1 p0 p1 hB
        have y0 := z0; have y1 := z1; have y2 := z2; have hB := hB8; have t5 := t58; have t6 := t68; clear z0 z1 z2 hB8 t58 t68
        have q0 := (y2 0 _ rfl).1; have q1 := (y2 1 _ rfl).1; have f0 := (y2 0 _ rfl).2; have f1 := (y2 1 _ rfl).2; have p0 := (y0 0 _ rfl).1; have p1 := (y0 1 _ rfl).1
        go_wp2_with (go_at_call 126; refine (sum2_any (a := (x + lo)) (b := (y + hi)) (c := shl) (d := shh) (by simp [go_sem]) (by simp [go_sem]) (by simp [go_sem]) (by simp [go_sem]) (by omega)).mono ?_; rintro e w6 ⟨rfl, hb6⟩; have hb7 : Below v8.heap.size v8 w6 := ((Below.refl _ _).alloc (Nat.le_refl _) _).trans (hb6.mono (by simp)); have hz7 := hb7.size; replace y0 := y0.below hb7; replace y1 := y1.below hb7; replace y2 := y2.below hb7; replace t5 := bkeep hb7 t5; replace t6 := bkeep hb7 t6; replace hB := hB.trans (hb7.mono hB.size); clear hb6 hb7; replace q0 := (y2 0 _ rfl).1; replace q1 := (y2 1 _ rfl).1; replace f0 := (y2 0 _ rfl).2; replace f1 := (y2 1 _ rfl).2)
        obtain ⟨e1, e2⟩ := hgt_next (lo := lo) (hi := hi) (k := j) (by rw [← HKK.out]; exact HS1.out)
        go_roundg (n - (kk + 1))
        case measure => have h := HGK.out; omega
        case rel => exact ⟨kk + 1, by omega, rfl, by go_num, two_other y0 (by omega) _ _, two_other y1 (by omega) _ _, by rw [show kk + 1 = j + 2 by have := HKK.out; omega, e1, e2, ← HKK.out, HX.out, HY.out]; exact cells_store (o := 1) (cells_store (o := 0) y2), (hB.setCell (p := ⟨w.heap.size + 2, 0, none⟩) (by show w.heap.size ≤ w.heap.size + 2; omega) _).setCell (p := ⟨w.heap.size + 2, 1, none⟩) (by show w.heap.size ≤ w.heap.size + 2; omega) _, by simp; omega⟩
    · obtain rfl : k = n := by omega
      have HE := hid HN.out
      have q0 := (y2 0 _ rfl).1; have q1 := (y2 1 _ rfl).1
      have g0 := (y1 0 _ rfl).1; have g1 := (y1 1 _ rfl).1; have f0 := (y1 0 _ rfl).2; have f1 := (y1 1 _ rfl).2
      go_wp2_with fail
      have z1 := cells_store (o := 1) (u := .int .i64 (hgtH l hi k)) (cells_store (o := 0) (u := .int .i64 (hgtL l lo k)) y1)
      have d0 := (z1 0 _ rfl).1; have d1 := (z1 1 _ rfl).1
      exact bodyPost_ret (v := .agg #[.int .i64 (hgtL l lo k), .int .i64 (hgtH l hi k)]) (by simp [results, Try.results90, go_sem, *]) rfl ⟨by first | rfl | rw [HE.out], (hB.setCell (p := ⟨w.heap.size + 1, 0, none⟩) (Nat.le_succ _) _).setCell (p := ⟨w.heap.size + 1, 1, none⟩) (Nat.le_succ _) _⟩

end Go.Proofs.Ytnchhleokdkejaa

/- Whether bungs stand, and how high they are. -/
namespace Go.Proofs.Ytnchhleokdkejaa
open Go.RowKit Go.Pb Go.Pb.Ware Go.Pb.Sag
set_option linter.unusedVariables false
set_option linter.unusedSimpArgs false

open Go.Pb.Bung
theorem sg_highs {l : List Sg} (h : listOk l = true) : ∀ s ∈ l, 0 ≤ s.hl ∧ s.hl ≤ 10000 ∧ 0 ≤ s.hh ∧ s.hh ≤ 10000 := fun s hs => by
  have h1 := listOk_all h s hs
  unfold sgOk rgOk at h1
  simp only [Bool.and_eq_true, decide_eq_true_eq] at h1
  omega
theorem wad_bounds {lo hi : Int} {l : List Sg} (h : bungOk lo hi l = true) : (0 ≤ lo ∧ lo ≤ 200) ∧ 0 ≤ hi ∧ hi ≤ 200 := by
  unfold bungOk wadOk rgOk at h
  simp only [Bool.and_eq_true, decide_eq_true_eq] at h
  omega

set_option maxRecDepth 100000 in
set_option maxHeartbeats 800000 in
theorem Stands_any {w : World} {v : Value} {l : List Sg} {wl wh : Int} (h : RowsAt 8 w v (l.map rowG)) {r : Int × Int} (hr : (if bungOk wl wh l = true then (stA l, 0) else (0, 31)) = r) :
    Calls Try.prog 32 #[.agg #[.int .i64 wl, .int .i64 wh, v]] w (Ret w (.tuple #[.int .i64 r.1, .int .i64 r.2])) := by
  unfold Ret
  obtain ⟨a, cap, rfl, hll⟩ := h.shape
  rw [List.length_map] at hll ⊢
  obtain ⟨n, hn⟩ : ∃ n, l.length = n := ⟨_, rfl⟩
  have HN := hid hn
  rw [List.length_map] at h
  rw [hn] at h hll ⊢
  clear hn
  obtain ⟨b, hb⟩ : ∃ b, bungOk wl wh l = b := ⟨_, rfl⟩
  have hcb : ckBg wl wh l = if b = true then 0 else 31 := by unfold ckBg; rw [hb]
  have hr2 : r = if b = true then (stA l, 0) else (0, 31) := by rw [← hr, hb]
  clear hr
  cases b
  · rw [if_neg (by simp)] at hcb hr2
    subst hr2
    have HC := hid hcb; clear hcb
    go_enter Try.func32, Try.ntmps32
    go_wp2_with fail
    refine (ckBg_any (h.below (by go_grown)) HC.out).mono ?_
    rintro e w1 ⟨rfl, hb⟩
    replace hb0 := bnext (w := w) (by go_grown) hb; have hz := hb.size; (try simp only [World.size_alloc, World.size_setCell] at hz); replace q0 : w1.cell? ⟨w.heap.size, 0, none⟩ = some (.int .i64 wl) := bkeep hb (by first | (with_reducible exact q0) | (with_reducible exact akeep q0) | simp [*, go_sem]); replace q1 : w1.cell? ⟨w.heap.size, 1, none⟩ = some (.int .i64 wh) := bkeep hb (by first | (with_reducible exact q1) | (with_reducible exact akeep q1) | simp [*, go_sem]); replace q2 : w1.cell? ⟨w.heap.size, 2, none⟩ = some (.slice a n cap) := bkeep hb (by first | (with_reducible exact q2) | (with_reducible exact akeep q2) | simp [*, go_sem]); skip
    clear hb
    go_wp2_with fail
    go_ret2
    exact ⟨rfl, by first | exact hb0 | go_grown⟩
  · rw [if_pos rfl] at hcb hr2
    subst hr2
    have HC := hid hcb; have HL := hid (bungOk_len hb); have HK := hid (bungOk_list hb); have HW := hid (wad_bounds hb); clear hcb hb
    go_enter Try.func32, Try.ntmps32
    go_wp2_with fail
    refine (ckBg_any (h.below (by go_grown)) HC.out).mono ?_
    rintro e w1 ⟨rfl, hb⟩
    replace hb0 := bnext (w := w) (by go_grown) hb; have hz := hb.size; (try simp only [World.size_alloc, World.size_setCell] at hz); replace q0 : w1.cell? ⟨w.heap.size, 0, none⟩ = some (.int .i64 wl) := bkeep hb (by first | (with_reducible exact q0) | (with_reducible exact akeep q0) | simp [*, go_sem]); replace q1 : w1.cell? ⟨w.heap.size, 1, none⟩ = some (.int .i64 wh) := bkeep hb (by first | (with_reducible exact q1) | (with_reducible exact akeep q1) | simp [*, go_sem]); replace q2 : w1.cell? ⟨w.heap.size, 2, none⟩ = some (.slice a n cap) := bkeep hb (by first | (with_reducible exact q2) | (with_reducible exact akeep q2) | simp [*, go_sem]); skip
    clear hb
    go_wp2_with fail
    refine (stands_any (h.below (by go_grown)) HL.out (sg_bounds HK.out)).mono ?_
    rintro e w1 ⟨rfl, hb⟩
    replace hb0 := bnext (w := w) (by go_grown) hb; have hz := hb.size; (try simp only [World.size_alloc, World.size_setCell] at hz); replace q0 : w1.cell? ⟨w.heap.size, 0, none⟩ = some (.int .i64 wl) := bkeep hb (by first | (with_reducible exact q0) | (with_reducible exact akeep q0) | simp [*, go_sem]); replace q1 : w1.cell? ⟨w.heap.size, 1, none⟩ = some (.int .i64 wh) := bkeep hb (by first | (with_reducible exact q1) | (with_reducible exact akeep q1) | simp [*, go_sem]); replace q2 : w1.cell? ⟨w.heap.size, 2, none⟩ = some (.slice a n cap) := bkeep hb (by first | (with_reducible exact q2) | (with_reducible exact akeep q2) | simp [*, go_sem]); skip
    clear hb
    go_wp2_with fail
    go_ret2
    exact ⟨rfl, by first | exact hb0 | go_grown⟩

end Go.Proofs.Ytnchhleokdkejaa

/- By how much a bung leans, by plain maths. -/
namespace Go.Pb.Bung
open Go Go.Pb Go.Pb.Ware Go.RowKit
set_option linter.unusedVariables false
set_option linter.unusedSimpArgs false
theorem rows_tail {w : World} {a : Addr} {cap k n : Nat} {l : List Sg} (h : RowsAt 8 w (.slice (some a) n cap) (l.map rowG)) (hn : l.length = n) (hk : k < n) : RowsAt 8 w (.slice (some (a.add (k * 8))) (n - k) (cap - k)) ((l.drop k).map rowG) := by
  rcases h with ⟨h1, _⟩ | ⟨b, c, h1, h2, h3, h4⟩
  · cases h1
  · injection h1 with e1 e2 e3
    injection e1 with e1
    subst e1; subst e3
    rw [List.length_map] at h2
    refine .inr ⟨a.add (k * 8), cap - k, by rw [List.length_map, List.length_drop, hn], by rw [List.length_map, List.length_drop]; omega, by omega, fun j r hr => ?_⟩
    rw [List.map_drop, List.getElem?_drop] at hr
    obtain ⟨h5, h6⟩ := h4 (k + j) r hr
    refine ⟨h5, fun o z hz => ?_⟩
    have h7 := h6 o z hz
    rw [Go.Deep.add_add, show k * 8 + (j * 8 + o) = (k + j) * 8 + o by omega]
    exact h7
/-- What the courses from 1 to k - 1 let the top stand off, in thousandths. -/
def offL (l : List Sg) (hi : Int) : Nat → Int
  | 0 => 0
  | k + 1 => offL l hi k + (if k = 0 then 0 else (l.getD k default).ti * hgtH (l.drop k) hi (l.drop k).length)
def lnA (l : List Sg) (hi : Int) : Int := (offL l hi l.length + 999) / 1000
theorem off_first {l : List Sg} {hi : Int} : offL l hi (0 + 1) = offL l hi 0 := by show offL l hi 0 + (if (0 : Nat) = 0 then (0 : Int) else _) = _; rw [if_pos rfl, Int.add_zero]
theorem off_next {l : List Sg} {hi : Int} {k : Nat} {s : Sg} (hk : l[k]? = some s) (h0 : k ≠ 0) : offL l hi (k + 1) = offL l hi k + s.ti * hgtH (l.drop k) hi (l.drop k).length := by
  rw [offL, if_neg h0, show l.getD k default = s by rw [List.getD, hk]; rfl]
theorem mul_small {a b : Int} (h1 : 0 ≤ a ∧ a ≤ 200) (h2 : 0 ≤ b ∧ b ≤ 400000) : 0 ≤ a * b ∧ a * b ≤ 80000000 := by
  refine ⟨Int.mul_nonneg h1.1 h2.1, ?_⟩
  have e1 := Int.mul_le_mul_of_nonneg_right h1.2 h2.1
  omega
end Go.Pb.Bung

/- By how much bungs lean. -/
namespace Go.Proofs.Ytnchhleokdkejaa
open Go.RowKit Go.Pb Go.Pb.Ware Go.Pb.Sag
set_option linter.unusedVariables false
set_option linter.unusedSimpArgs false

open Go.Pb.Bung
theorem height_eq {w : World} {v : Value} {l : List Sg} {lo hi x y : Int} (h : RowsAt 8 w v (l.map rowG)) (hl : l.length ≤ 30) (hs : ∀ s ∈ l, 0 ≤ s.hl ∧ s.hl ≤ 10000 ∧ 0 ≤ s.hh ∧ s.hh ≤ 10000) (h1 : 0 ≤ lo ∧ lo ≤ 200) (h2 : 0 ≤ hi ∧ hi ≤ 200) (hx : hgtL l lo l.length = x) (hy : hgtH l hi l.length = y) : Calls Try.prog 90 #[.agg #[.int .i64 lo, .int .i64 hi], v] w (Ret w (.agg #[.int .i64 x, .int .i64 y])) := by
  subst hx; subst hy; exact height_any h hl hs h1 h2
set_option maxRecDepth 100000 in
set_option maxHeartbeats 1000000 in
theorem lean_any {w : World} {v : Value} {l : List Sg} {lo hi : Int} (h : RowsAt 8 w v (l.map rowG)) (hl : l.length ≤ 30) (hs : ∀ s ∈ l, 0 ≤ s.hl ∧ s.hl ≤ 10000 ∧ 0 ≤ s.hh ∧ s.hh ≤ 10000) (ht : ∀ s ∈ l, 0 ≤ s.ti ∧ s.ti ≤ 200) (h1 : 0 ≤ lo ∧ lo ≤ 200) (h2 : 0 ≤ hi ∧ hi ≤ 200) :
    Calls Try.prog 92 #[.agg #[.int .i64 lo, .int .i64 hi, v]] w (Ret w (.int .i64 (lnA l hi))) := by
  unfold Ret
  obtain ⟨a, cap, rfl, hll⟩ := h.shape
  rw [List.length_map] at h hll ⊢
  obtain ⟨n, hn⟩ : ∃ n, l.length = n := ⟨_, rfl⟩
  have hcap := RowsAt.caps h
  rw [List.length_map] at hcap
  have HN := hid hn
  rw [hn] at h hll hl hcap ⊢
  obtain ⟨hcap1, hcap2⟩ := hcap
  have HS := hid hs; have HT := hid ht; have HL1 := hid h1; have HL2 := hid h2; clear hn hs ht h1 h2
  obtain ⟨z, hz⟩ : ∃ z, lnA l hi = z := ⟨_, rfl⟩
  rw [hz]
  have HZ := hid hz; clear hz
  go_enter Try.func92, Try.ntmps92
  go_upto_region 2 with fail
  generalize hW : World.alloc w _ = v1
  have y0 : CellsAt v1 w.heap.size [.int .i64 lo, .int .i64 hi, .slice a n cap] := by rw [← hW]; exact CellsAt.new w _ 26
  have hB1 : Below w.heap.size w v1 := by rw [← hW]; exact (Below.refl _ w).alloc (Nat.le_refl _) _
  clear hW
  have q2 := (y0 2 _ rfl).1
  go_wp2_with fail
  go_loopg [3, 9] n (fun gk ov iv wr => ∃ k : Nat, k ≤ n ∧ gk = n - k ∧ ov = .int .i64 (offL l hi k) ∧ iv = .int .i64 k ∧ (0 ≤ offL l hi k ∧ offL l hi k ≤ 80000000 * k) ∧ CellsAt wr w.heap.size [.int .i64 lo, .int .i64 hi, .slice a n cap] ∧ Below w.heap.size w wr)
  case atStart => exact ⟨0, Nat.zero_le _, rfl, rfl, rfl, by simp [offL], y0, hB1⟩
  case round =>
    clear y0 hB1 q2
    obtain ⟨k, hk, hgk, rfl, rfl, hof, y0, hB⟩ := hrel
    have HGK := hid hgk; clear hgk
    by_cases hlt : k < n
    · have hki : (k : Int) < (n : Int) := by omega
      have hkl : k < l.length := by rw [HN.out]; exact hlt
      obtain ⟨s, hs⟩ : ∃ s, l[k]? = some s := ⟨_, List.getElem?_eq_getElem hkl⟩
      have hti := HT.out s (List.mem_of_getElem? hs)
      obtain ⟨a', ha, r0, hc, hi8⟩ := sg_row (by rw [HN.out]; exact h.below hB) hs
      subst ha
      obtain ⟨x, hx⟩ : ∃ x, offL l hi k = x := ⟨_, rfl⟩
      rw [hx] at hof ⊢
      have HS1 := hid hs; have HX := hid hx; clear hs hx hkl
      obtain ⟨sid, swl, swh, sbl, sbh, shl, shh, sti⟩ := s
      dsimp only at r0 hti
      have r1 := hc 1 _ (by decide) rfl
      have r2 := hc 2 _ (by decide) rfl
      have r3 := hc 3 _ (by decide) rfl
      have r4 := hc 4 _ (by decide) rfl
      have r5 := hc 5 _ (by decide) rfl
      have r6 := hc 6 _ (by decide) rfl
      have r7 := hc 7 _ (by decide) rfl
      dsimp only at r1 r2 r3 r4 r5 r6 r7
      clear hc hi8
      obtain ⟨v3, hv3⟩ : ∃ v, v = wr := ⟨_, rfl⟩
      subst hv3
      go_upto_region 5 with fail
      generalize hW : World.alloc v3 _ = v5
      have t7 : v5.cell? ⟨v3.heap.size, 7, none⟩ = some (.int .i64 sti) := by rw [← hW]; simp [go_sem]
      have hb5 : Below v3.heap.size v3 v5 := by rw [← hW]; exact (Below.refl _ _).alloc (Nat.le_refl _) _
      replace hB := hB.trans (hb5.mono hB.size)
      replace y0 := y0.below hb5
      clear hW hb5 r0 r1 r2 r3 r4 r5 r6 r7
      by_cases hk0 : k = 0
      · subst hk0
        go_wp2_with fail
        go_roundg (n - (0 + 1))
        case measure => have h := HGK.out; omega
        case rel => exact ⟨0 + 1, by omega, rfl, by rw [off_first, HX.out], by go_num, by rw [off_first, HX.out]; omega, y0, hB⟩
      · have hkp : (0 : Int) < (k : Int) := by omega
        have hkc : (k : Int) ≤ (cap : Int) := by omega
        have hkn : (k : Int) ≤ (n : Int) := by omega
        have T := rows_tail (k := k) (h.below hB) HN.out hlt
        have hld : (l.drop k).length = n - k := by rw [List.length_drop, HN.out]
        have hsd : ∀ s ∈ l.drop k, 0 ≤ s.hl ∧ s.hl ≤ 10000 ∧ 0 ≤ s.hh ∧ s.hh ≤ 10000 := fun s hm => HS.out s (List.mem_of_mem_drop hm)
        have hsm := (hgt_small hsd HL1.out HL2.out (l.drop k).length).2.2
        obtain ⟨H, hH⟩ : ∃ H, hgtH (l.drop k) hi (l.drop k).length = H := ⟨_, rfl⟩
        obtain ⟨H2, hH2⟩ : ∃ H2, hgtL (l.drop k) lo (l.drop k).length = H2 := ⟨_, rfl⟩
        rw [hH] at hsm
        have hHb : 0 ≤ H ∧ H ≤ 400000 := by rw [hld] at hsm; omega
        have hmul := mul_small hti hHb
        have hnx := off_next (hi := hi) HS1.out hk0
        dsimp only at hnx
        rw [hH, HX.out] at hnx
        obtain ⟨pr, hpr⟩ : ∃ pr, sti * H = pr := ⟨_, rfl⟩
        rw [hpr] at hmul hnx
        have HNX := hid hnx; have HSD := hid hsd; have HHH := hid hH; have HH2 := hid hH2; have HLD := hid hld; have T1 := hid T
        have hw1 : IntKind.i64.wrap pr = pr := IntWalk.i64_in _ (by omega)
        have hw2 : IntKind.i64.wrap (x + pr) = x + pr := IntWalk.i64_in _ (by omega)
        clear hnx hsd hH hH2 hld T hsm
        have q0 := (y0 0 _ rfl).1; have q1 := (y0 1 _ rfl).1; have q2 := (y0 2 _ rfl).1
        go_upto_region 6 with fail
        refine wp_region_Rs [(9, fun v _ => v = .agg #[.int .i64 H2, .int .i64 H]), (10, fun v _ => v = .int .i64 H), (11, fun v _ => v = .int .i64 pr), (12, fun v _ => v = .int .i64 (x + pr))] [0, 1, 2, 3, 4, 5, 6, 7, 8, 9, 10, 11, 12, 13] 0 (by kernel_rfl) rfl (by simp only [List.forall_mem_cons]; exact ⟨keeps_eq, keeps_eq, keeps_eq, keeps_eq, fun _ h => by cases h⟩) (by kernel_rfl) ?_
        simp only [numbered, List.filterMap_cons, List.filterMap_nil, List.getElem?_toArray, List.getElem?_cons_succ, List.getElem?_cons_zero, Option.map_some]
        show wpS _ _ _ _ _ _ _ [(_, _), (_, _), (_, _), (_, _), (_, _), (_, _), (_, _), (_, _), (_, _), (_, _), (_, _), (_, _), (_, _), (_, _)] _ _
        (refine wpS_quiet rfl rfl ?_; intro K hK inst hx; have s0 := fun x => (fun _ => bkeep (BQ.below x) q0) (hx x); have s1 := fun x => (fun _ => bkeep (BQ.below x) q1) (hx x); have s2 := fun x => (fun _ => bkeep (BQ.below x) q2) (hx x); have s3 := fun x => (fun _ => bkeep (BQ.below x) t7) (hx x); go_big_quiet_op; (first | go_big_quiet_on | (refine ⟨_, fun _ => rfl, ?_⟩; go_big_quiet_on)); clear hx inst)
        (refine wpS_quiet rfl rfl ?_; intro K hK inst hx; have s0 := fun x => (fun _ => bkeep (BQ.below x) q0) (hx x); have s1 := fun x => (fun _ => bkeep (BQ.below x) q1) (hx x); have s2 := fun x => (fun _ => bkeep (BQ.below x) q2) (hx x); have s3 := fun x => (fun _ => bkeep (BQ.below x) t7) (hx x); go_big_quiet_op; (first | go_big_quiet_on | (refine ⟨_, fun _ => rfl, ?_⟩; go_big_quiet_on)); clear hx inst)
        (refine wpS_quiet rfl rfl ?_; intro K hK inst hx; have s0 := fun x => (fun _ => bkeep (BQ.below x) q0) (hx x); have s1 := fun x => (fun _ => bkeep (BQ.below x) q1) (hx x); have s2 := fun x => (fun _ => bkeep (BQ.below x) q2) (hx x); have s3 := fun x => (fun _ => bkeep (BQ.below x) t7) (hx x); go_big_quiet_op; (first | go_big_quiet_on | (refine ⟨_, fun _ => rfl, ?_⟩; go_big_quiet_on)); clear hx inst)
        (refine wpS_quiet rfl rfl ?_; intro K hK inst hx; have s0 := fun x => (fun _ => bkeep (BQ.below x) q0) (hx x); have s1 := fun x => (fun _ => bkeep (BQ.below x) q1) (hx x); have s2 := fun x => (fun _ => bkeep (BQ.below x) q2) (hx x); have s3 := fun x => (fun _ => bkeep (BQ.below x) t7) (hx x); go_big_quiet_op; (first | go_big_quiet_on | (refine ⟨_, fun _ => rfl, ?_⟩; go_big_quiet_on)); clear hx inst)
        (refine wpS_quiet rfl rfl ?_; intro K hK inst hx; have s0 := fun x => (fun _ => bkeep (BQ.below x) q0) (hx x); have s1 := fun x => (fun _ => bkeep (BQ.below x) q1) (hx x); have s2 := fun x => (fun _ => bkeep (BQ.below x) q2) (hx x); have s3 := fun x => (fun _ => bkeep (BQ.below x) t7) (hx x); go_big_quiet_op; (first | go_big_quiet_on | (refine ⟨_, fun _ => rfl, ?_⟩; go_big_quiet_on)); clear hx inst)
        (refine wpS_quiet rfl rfl ?_; intro K hK inst hx; have s0 := fun x => (fun _ => bkeep (BQ.below x) q0) (hx x); have s1 := fun x => (fun _ => bkeep (BQ.below x) q1) (hx x); have s2 := fun x => (fun _ => bkeep (BQ.below x) q2) (hx x); have s3 := fun x => (fun _ => bkeep (BQ.below x) t7) (hx x); go_big_quiet_op; (first | go_big_quiet_on | (refine ⟨_, fun _ => rfl, ?_⟩; go_big_quiet_on)); clear hx inst)
        (refine wpS_quiet rfl rfl ?_; intro K hK inst hx; have s0 := fun x => (fun _ => bkeep (BQ.below x) q0) (hx x); have s1 := fun x => (fun _ => bkeep (BQ.below x) q1) (hx x); have s2 := fun x => (fun _ => bkeep (BQ.below x) q2) (hx x); have s3 := fun x => (fun _ => bkeep (BQ.below x) t7) (hx x); go_big_quiet_op; (first | go_big_quiet_on | (refine ⟨_, fun _ => rfl, ?_⟩; go_big_quiet_on)); clear hx inst)
        (refine wpS_quiet rfl rfl ?_; intro K hK inst hx; have s0 := fun x => (fun _ => bkeep (BQ.below x) q0) (hx x); have s1 := fun x => (fun _ => bkeep (BQ.below x) q1) (hx x); have s2 := fun x => (fun _ => bkeep (BQ.below x) q2) (hx x); have s3 := fun x => (fun _ => bkeep (BQ.below x) t7) (hx x); go_big_quiet_op; (first | go_big_quiet_on | (refine ⟨_, fun _ => rfl, ?_⟩; go_big_quiet_on)); clear hx inst)
        (refine wpS_quiet rfl rfl ?_; intro K hK inst hx; have s0 := fun x => (fun _ => bkeep (BQ.below x) q0) (hx x); have s1 := fun x => (fun _ => bkeep (BQ.below x) q1) (hx x); have s2 := fun x => (fun _ => bkeep (BQ.below x) q2) (hx x); have s3 := fun x => (fun _ => bkeep (BQ.below x) t7) (hx x); go_big_quiet_op; (first | go_big_quiet_on | (refine ⟨_, fun _ => rfl, ?_⟩; go_big_quiet_on)); clear hx inst)
        refine wpS_fresh rfl rfl (fun w' hb hF => ?_) ?_
        · change freshAt _ _ _ (fun v _ => v = .agg #[.int .i64 H2, .int .i64 H]) _; unfold freshAt; go_simp; exact height_eq (T1.out.below hb) (by rw [HLD.out]; omega) HSD.out HL1.out HL2.out HH2.out HHH.out
        intro v W hv; simp only [pOf, List.lookup_cons, Nat.reduceBEq, beq_self_eq_true] at hv; subst hv
        simp only [Act.put, List.setIfInBounds_toArray, List.set_cons_succ, List.set_cons_zero]
        refine wpS_fresh rfl rfl (fun w' hb hF => ?_) ?_
        · change freshAt _ _ _ (fun v _ => v = .int .i64 H) _; unfold freshAt; go_simp; (first | exact Below.refl _ _ | exact ⟨Below.refl _ _, rfl⟩ | simp [*, Below.refl])
        intro v W hv; simp only [pOf, List.lookup_cons, Nat.reduceBEq, beq_self_eq_true] at hv; subst hv
        simp only [Act.put, List.setIfInBounds_toArray, List.set_cons_succ, List.set_cons_zero]
        refine wpS_fresh rfl rfl (fun w' hb hF => ?_) ?_
        · change freshAt _ _ _ (fun v _ => v = .int .i64 pr) _; unfold freshAt; go_simp; (first | exact Below.refl _ _ | exact ⟨Below.refl _ _, rfl⟩ | simp [*, Below.refl])
        intro v W hv; simp only [pOf, List.lookup_cons, Nat.reduceBEq, beq_self_eq_true] at hv; subst hv
        simp only [Act.put, List.setIfInBounds_toArray, List.set_cons_succ, List.set_cons_zero]
        refine wpS_fresh rfl rfl (fun w' hb hF => ?_) ?_
        · change freshAt _ _ _ (fun v _ => v = .int .i64 (x + pr)) _; unfold freshAt; go_simp; (first | exact Below.refl _ _ | exact ⟨Below.refl _ _, rfl⟩ | simp [*, Below.refl])
        intro v W hv; simp only [pOf, List.lookup_cons, Nat.reduceBEq, beq_self_eq_true] at hv; subst hv
        simp only [Act.put, List.setIfInBounds_toArray, List.set_cons_succ, List.set_cons_zero]
        (refine wpS_quiet rfl rfl ?_; intro K hK inst hx; have s0 := fun x => (fun _ => bkeep (BQ.below x) q0) (hx x); have s1 := fun x => (fun _ => bkeep (BQ.below x) q1) (hx x); have s2 := fun x => (fun _ => bkeep (BQ.below x) q2) (hx x); have s3 := fun x => (fun _ => bkeep (BQ.below x) t7) (hx x); go_big_quiet_op; (first | go_big_quiet_on | (refine ⟨_, fun _ => rfl, ?_⟩; go_big_quiet_on)); clear hx inst)
        refine wpS_nil ?_
        intro w9 hall
        have hb := hall.1
        clear hall
        refine wpAny_done (by kernel_rfl) ?_ _
        replace y0 := y0.below hb
        replace hB := hB.trans (hb.mono hB.size)
        clear q0 q1 q2 t7 hb
        go_wp2_with fail
        go_roundg (n - (k + 1))
        case measure => have h := HGK.out; omega
        case rel => exact ⟨k + 1, by omega, rfl, by rw [HNX.out], by go_num, by rw [HNX.out]; omega, y0, hB⟩
    · obtain rfl : k = n := by omega
      obtain ⟨x, hx⟩ : ∃ x, offL l hi k = x := ⟨_, rfl⟩
      have hzz : z = (x + 999) / 1000 := by rw [← HZ.out]; unfold lnA; rw [HN.out, hx]
      rw [hx] at hof ⊢
      have HZZ := hid hzz; clear hx hzz
      have hd : (x + 999).tdiv 1000 = (x + 999) / 1000 := Int.tdiv_eq_ediv_of_nonneg (by omega)
      have hge : 0 ≤ (x + 999) / 1000 := Int.ediv_nonneg (by omega) (by decide)
      go_wp2_with fail
      go_ret
      refine ⟨?_, hB⟩
      rw [HZZ.out]
      simp [hd]

end Go.Proofs.Ytnchhleokdkejaa

/- By how much bungs lean; the bung of an order. -/
namespace Go.Proofs.Ytnchhleokdkejaa
open Go.RowKit Go.Pb Go.Pb.Ware Go.Pb.Sag
set_option linter.unusedVariables false
set_option linter.unusedSimpArgs false

open Go.Pb.Bung
theorem sg_tilts {l : List Sg} (h : listOk l = true) : ∀ s ∈ l, 0 ≤ s.ti ∧ s.ti ≤ 200 := fun s hs => by
  have h1 := listOk_all h s hs
  unfold sgOk at h1
  simp only [Bool.and_eq_true, btw_iff] at h1
  omega

set_option maxRecDepth 100000 in
set_option maxHeartbeats 800000 in
theorem Lean_any {w : World} {v : Value} {l : List Sg} {wl wh : Int} (h : RowsAt 8 w v (l.map rowG)) {r : Int × Int} (hr : (if bungOk wl wh l = true then (lnA l wh, 0) else (0, 31)) = r) :
    Calls Try.prog 36 #[.agg #[.int .i64 wl, .int .i64 wh, v]] w (Ret w (.tuple #[.int .i64 r.1, .int .i64 r.2])) := by
  unfold Ret
  obtain ⟨a, cap, rfl, hll⟩ := h.shape
  rw [List.length_map] at hll ⊢
  obtain ⟨n, hn⟩ : ∃ n, l.length = n := ⟨_, rfl⟩
  have HN := hid hn
  rw [List.length_map] at h
  rw [hn] at h hll ⊢
  clear hn
  obtain ⟨b, hb⟩ : ∃ b, bungOk wl wh l = b := ⟨_, rfl⟩
  have hcb : ckBg wl wh l = if b = true then 0 else 31 := by unfold ckBg; rw [hb]
  have hr2 : r = if b = true then (lnA l wh, 0) else (0, 31) := by rw [← hr, hb]
  clear hr
  cases b
  · rw [if_neg (by simp)] at hcb hr2
    subst hr2
    have HC := hid hcb; clear hcb
    go_enter Try.func36, Try.ntmps36
    go_wp2_with fail
    refine (ckBg_any (h.below (by go_grown)) HC.out).mono ?_
    rintro e w1 ⟨rfl, hb⟩
    replace hb0 := bnext (w := w) (by go_grown) hb; have hz := hb.size; (try simp only [World.size_alloc, World.size_setCell] at hz); replace q0 : w1.cell? ⟨w.heap.size, 0, none⟩ = some (.int .i64 wl) := bkeep hb (by first | (with_reducible exact q0) | (with_reducible exact akeep q0) | simp [*, go_sem]); replace q1 : w1.cell? ⟨w.heap.size, 1, none⟩ = some (.int .i64 wh) := bkeep hb (by first | (with_reducible exact q1) | (with_reducible exact akeep q1) | simp [*, go_sem]); replace q2 : w1.cell? ⟨w.heap.size, 2, none⟩ = some (.slice a n cap) := bkeep hb (by first | (with_reducible exact q2) | (with_reducible exact akeep q2) | simp [*, go_sem]); skip
    clear hb
    go_wp2_with fail
    go_ret2
    exact ⟨rfl, by first | exact hb0 | go_grown⟩
  · rw [if_pos rfl] at hcb hr2
    subst hr2
    have HC := hid hcb; have HL := hid (bungOk_len hb); have HK := hid (bungOk_list hb); have HW := hid (wad_bounds hb); clear hcb hb
    go_enter Try.func36, Try.ntmps36
    go_wp2_with fail
    refine (ckBg_any (h.below (by go_grown)) HC.out).mono ?_
    rintro e w1 ⟨rfl, hb⟩
    replace hb0 := bnext (w := w) (by go_grown) hb; have hz := hb.size; (try simp only [World.size_alloc, World.size_setCell] at hz); replace q0 : w1.cell? ⟨w.heap.size, 0, none⟩ = some (.int .i64 wl) := bkeep hb (by first | (with_reducible exact q0) | (with_reducible exact akeep q0) | simp [*, go_sem]); replace q1 : w1.cell? ⟨w.heap.size, 1, none⟩ = some (.int .i64 wh) := bkeep hb (by first | (with_reducible exact q1) | (with_reducible exact akeep q1) | simp [*, go_sem]); replace q2 : w1.cell? ⟨w.heap.size, 2, none⟩ = some (.slice a n cap) := bkeep hb (by first | (with_reducible exact q2) | (with_reducible exact akeep q2) | simp [*, go_sem]); skip
    clear hb
    go_wp2_with fail
    refine (lean_any (h.below (by go_grown)) HL.out (sg_highs HK.out) (sg_tilts HK.out) HW.out.1 HW.out.2).mono ?_
    rintro e w1 ⟨rfl, hb⟩
    replace hb0 := bnext (w := w) (by go_grown) hb; have hz := hb.size; (try simp only [World.size_alloc, World.size_setCell] at hz); replace q0 : w1.cell? ⟨w.heap.size, 0, none⟩ = some (.int .i64 wl) := bkeep hb (by first | (with_reducible exact q0) | (with_reducible exact akeep q0) | simp [*, go_sem]); replace q1 : w1.cell? ⟨w.heap.size, 1, none⟩ = some (.int .i64 wh) := bkeep hb (by first | (with_reducible exact q1) | (with_reducible exact akeep q1) | simp [*, go_sem]); replace q2 : w1.cell? ⟨w.heap.size, 2, none⟩ = some (.slice a n cap) := bkeep hb (by first | (with_reducible exact q2) | (with_reducible exact akeep q2) | simp [*, go_sem]); skip
    clear hb
    go_wp2_with fail
    go_ret2
    exact ⟨rfl, by first | exact hb0 | go_grown⟩

theorem wad_of {lo hi : Int} {b : Bool} (h : wadOk lo hi = b) : ckWd lo hi = if b = true then 0 else 32 := by unfold ckWd; rw [h]
theorem ckLs_of {l : List Sg} {b : Bool} (h : listOk l = b) : ckLs l = if b = true then 0 else 30 := by unfold ckLs; rw [h]
theorem listOk_len {l : List Sg} (h : listOk l = true) : l.length ≤ 30 := by
  unfold listOk at h
  rw [Bool.and_eq_true, decide_eq_true_eq] at h
  exact h.1
theorem own_set {W : World} {B T s n b o : Nat} {v u : Value} {xs : List Value} (h : W.ownsRow B T s v n xs) (hb : b < B) : (W.setCell ⟨b, o, none⟩ u).ownsRow B T s v n xs :=
  h.kept (row := some b) ⟨rfl, rfl, rfl, (KeepsWalks.setCell W _ u).size, fun k _ hk => Below.heap_setCell _ _ _ k (fun e => hk (by rw [e]))⟩ (.inr fun e => by have := (World.ownsRow.lt h b e).1; omega)
/-- A bung of these saggars, or none. -/
def SetRes (T : TypeId) (r : List Sg × Int) (lo hi : Int) (W : World) (e : Ending) (w' : World) : Prop := ∃ v, e = .returned (.tuple #[.agg #[.int .i64 lo, .int .i64 hi, v], .int .i64 r.2]) ∧ Below W.heap.size W w' ∧ w'.ownsRow W.heap.size T 8 v r.1.length (r.1.flatMap cellsG) ∧ RowsAt 8 w' v (r.1.map rowG)

set_option maxRecDepth 100000 in
set_option maxHeartbeats 1000000 in
theorem Set_good {w : World} {v u : Value} {l : List Sg} {zs : List Int} {lo hi : Int} (h : RowsAt 8 w v (l.map rowG)) (hz : NumsAt w u zs) (hw : wadOk lo hi = true) (hl : listOk l = true) (hzn : zs.length ≤ 1000) (hi0 : idxOk zs l.length = true) (hne : zs ≠ []) :
    Calls Try.prog 50 #[.agg #[.int .i64 lo, .int .i64 hi], v, u] w (SetRes 33 (chosenG l zs, 0) lo hi w) := by
  unfold SetRes
  obtain ⟨a, cap, rfl, hll⟩ := h.shape
  rw [List.length_map] at h hll ⊢
  obtain ⟨b, cb, rfl, hb1, hb2⟩ := hz.shape
  obtain ⟨n, hn⟩ : ∃ n, l.length = n := ⟨_, rfl⟩
  have hn30 := listOk_len hl
  have hin := idxOk_in hi0
  have hi64 := i64_rows h
  have HN := hid hn
  rw [hn] at h hll hi0 hn30 ⊢
  have HW := hid ((wad_of hw).trans (if_pos rfl)); have HL := hid ((ckLs_of hl).trans (if_pos rfl)); have HI := hid hi0; have HIN := hid hin; have H64 := hid hi64; clear hw hl hi0 hn hin hi64
  have hz0 : (0 : Int) < (zs.length : Int) := by cases zs with | nil => exact absurd rfl hne | cons x y => simp
  have hz1 : ((zs.length : Int) == 0) = false := beq_eq_false_iff_ne.mpr (by omega)
  go_enter Try.func50, Try.ntmps50
  go_upto_region 1 with fail
  generalize hW0 : World.alloc (World.alloc w _) _ = v1
  have y0 : CellsAt v1 w.heap.size [.int .i64 lo, .int .i64 hi] := by rw [← hW0]; exact (CellsAt.new w [.int .i64 lo, .int .i64 hi] 23).alloc _
  have y1 : CellsAt v1 (w.heap.size + 1) [.int .i64 0, .int .i64 0, .slice none 0 0] := by rw [← hW0]; have h := CellsAt.new (w.alloc (.cells #[.int .i64 lo, .int .i64 hi] 23)) [.int .i64 0, .int .i64 0, .slice none 0 0] 26; rwa [World.size_alloc] at h
  have hB : Below w.heap.size w v1 := by rw [← hW0]; exact ((Below.refl _ w).alloc (Nat.le_refl _) _).alloc (by simp) _
  clear hW0
  have q0 := (y0 0 _ rfl).1; have q1 := (y0 1 _ rfl).1
  go_wp2_with fail
  refine (ckWd_any HW.out).mono ?_
  rintro e v2 ⟨rfl, hb⟩
  replace hB := hB.trans (hb.mono hB.size)
  replace y0 := y0.below hb; replace y1 := y1.below hb
  clear q0 q1 hb
  have q0 := (y0 0 _ rfl).1; have q1 := (y0 1 _ rfl).1
  go_wp2_with fail
  refine (ckLs_any (h.below hB) HL.out).mono ?_
  rintro e v3 ⟨rfl, hb⟩
  replace hB := hB.trans (hb.mono hB.size)
  replace y0 := y0.below hb; replace y1 := y1.below hb
  clear q0 q1 hb
  have q0 := (y0 0 _ rfl).1; have q1 := (y0 1 _ rfl).1
  go_wp2_with fail
  refine (idx_any (hz.below hB) (by omega) HI.out).mono ?_
  rintro e v4 ⟨rfl, hb⟩
  replace hB := hB.trans (hb.mono hB.size)
  replace y0 := y0.below hb; replace y1 := y1.below hb
  clear q0 q1 hb
  have q0 := (y0 0 _ rfl).1; have q1 := (y0 1 _ rfl).1
  have hlt4 : w.heap.size + 1 < v4.heap.size := World.block_lt_of_cell? v4 ⟨w.heap.size + 1, 0, none⟩ (y1 0 _ rfl).1
  have f0 := (y1 0 _ rfl).2; have f1 := (y1 1 _ rfl).2; have f2 := (y1 2 _ rfl).2; have p0 := (y1 0 _ rfl).1; have p1 := (y1 1 _ rfl).1; have p2 := (y1 2 _ rfl).1
  go_upto_region 9 with fail
  refine wp_region_Rs [(3, fun v W => W.ownsRow v4.heap.size 33 8 v (chosenG l zs).length ((chosenG l zs).flatMap cellsG))] [0, 1, 2, 3, 4] 2 (by kernel_rfl) rfl (by simp only [List.forall_mem_cons]; exact ⟨keeps_owns, fun _ h => by cases h⟩) (by kernel_rfl) ?_
  simp only [numbered, List.filterMap_cons, List.filterMap_nil, List.getElem?_toArray, List.getElem?_cons_succ, List.getElem?_cons_zero, Option.map_some]
  show wpS _ _ _ _ _ _ _ [(_, _), (_, _), (_, _), (_, _), (_, _)] _ _
  (refine wpS_quiet rfl rfl ?_; intro K hK inst hx; have s0 := fun x => (fun _ => bkeep (BQ.below x) q0) (hx x); have s1 := fun x => (fun _ => bkeep (BQ.below x) q1) (hx x); go_big_quiet_op; (first | go_big_quiet_on | (refine ⟨_, fun _ => rfl, ?_⟩; go_big_quiet_on)); clear hx inst)
  (refine wpS_quiet rfl rfl ?_; intro K hK inst hx; have s0 := fun x => (fun _ => bkeep (BQ.below x) q0) (hx x); have s1 := fun x => (fun _ => bkeep (BQ.below x) q1) (hx x); go_big_quiet_op; (first | go_big_quiet_on | (refine ⟨_, fun _ => rfl, ?_⟩; go_big_quiet_on)); clear hx inst)
  (refine wpS_quiet rfl rfl ?_; intro K hK inst hx; have s0 := fun x => (fun _ => bkeep (BQ.below x) q0) (hx x); have s1 := fun x => (fun _ => bkeep (BQ.below x) q1) (hx x); go_big_quiet_op; (first | go_big_quiet_on | (refine ⟨_, fun _ => rfl, ?_⟩; go_big_quiet_on)); clear hx inst)
  refine wpS_fresh rfl rfl (fun w' hb hF => ?_) ?_
  · change freshAt _ _ _ (fun v W => W.ownsRow v4.heap.size 33 8 v (chosenG l zs).length ((chosenG l zs).flatMap cellsG)) _; unfold freshAt; go_simp; exact (chosenG_any (h.below (hB.trans (hb.mono hB.size))) (by rw [HN.out]; omega) (hz.below (hB.trans (hb.mono hB.size))) hzn (fun z hz => by have h1 := HIN.out z hz; rw [HN.out] at h1 ⊢; exact h1)).mono (fun e W' ⟨v, he, hb', ho⟩ => ⟨v, he, hb', owns_base hb.size ho⟩)
  intro v W hv; simp only [pOf, List.lookup_cons, Nat.reduceBEq, beq_self_eq_true] at hv; obtain ⟨ga, gc, rfl, -⟩ := owns_shape hv
  simp only [Act.put, List.setIfInBounds_toArray, List.set_cons_succ, List.set_cons_zero]
  (refine wpS_quiet rfl rfl ?_; intro K hK inst hx; have s0 := fun x => (fun _ => bkeep (BQ.below x) q0) (hx x); have s1 := fun x => (fun _ => bkeep (BQ.below x) q1) (hx x); go_big_quiet_op; (first | go_big_quiet_on | (refine ⟨_, fun _ => rfl, ?_⟩; go_big_quiet_on)); clear hx inst)
  refine wpS_nil ?_
  intro v5 hall
  have hb := hall.1
  have ho : v5.ownsRow v4.heap.size 33 8 _ (chosenG l zs).length ((chosenG l zs).flatMap cellsG) := hall.2 3 _ rfl
  clear hall
  replace hB := hB.trans (hb.mono hB.size)
  replace y1 := y1.below hb
  replace f0 := (y1 0 _ rfl).2; replace f1 := (y1 1 _ rfl).2; replace f2 := (y1 2 _ rfl).2; replace p0 := (y1 0 _ rfl).1; replace p1 := (y1 1 _ rfl).1; replace p2 := (y1 2 _ rfl).1
  refine wpAny_ready (rs := [5]) (by kernel_rfl) (by simp) ?_
  refine AllReady.cons rfl (fun K hK => ?_) AllReady.nil
  go_simp
  refine hK _ _ ?_; clear hK K
  refine wpAny_ready (rs := [6]) (by kernel_rfl) (by simp) ?_
  refine AllReady.cons rfl (fun K hK => ?_) AllReady.nil
  go_simp
  refine hK _ _ ?_; clear hK K
  refine wpAny_done (by kernel_rfl) ?_ _
  have z1 := cells_store (o := 2) (u := .slice ga (chosenG l zs).length gc) (cells_store (o := 1) (u := .int .i64 hi) (cells_store (o := 0) (u := .int .i64 lo) y1))
  have hB9 : Below w.heap.size w _ := ((hB.setCell (p := ⟨w.heap.size + 1, 0, none⟩) (Nat.le_succ _) (.int .i64 lo)).setCell (p := ⟨w.heap.size + 1, 1, none⟩) (Nat.le_succ _) (.int .i64 hi)).setCell (p := ⟨w.heap.size + 1, 2, none⟩) (Nat.le_succ _) (.slice ga (chosenG l zs).length gc)
  have o9 := own_set (o := 2) (u := .slice ga (chosenG l zs).length gc) (own_set (o := 1) (u := .int .i64 hi) (own_set (o := 0) (u := .int .i64 lo) ho hlt4) hlt4) hlt4
  have r9 := rows_of_owns o9 (i64_chosen H64.out)
  clear y1 f0 f1 f2 p0 p1 p2 ho
  generalize World.setCell _ _ _ = v9 at *
  have d0 := (z1 0 _ rfl).1; have d1 := (z1 1 _ rfl).1; have d2 := (z1 2 _ rfl).1
  go_wp2_with fail
  exact bodyPost_ret (v := .tuple #[.agg #[.int .i64 lo, .int .i64 hi, .slice ga (chosenG l zs).length gc], .int .i64 0]) (by simp [results, Try.results50, go_sem, *]) rfl ⟨_, rfl, hB9, owns_base (by omega) o9, r9⟩

end Go.Proofs.Ytnchhleokdkejaa

/- Whether bungs do for a spot. -/
namespace Go.Proofs.Ytnchhleokdkejaa
open Go.RowKit Go.Pb Go.Pb.Ware Go.Pb.Sag
set_option linter.unusedVariables false
set_option linter.unusedSimpArgs false

open Go.Pb.Bung
/-- The answer for a spot. -/
def fitA (lo hi : Int) (l : List Sg) (cr le : Int) : Int := if hgtL l lo l.length > cr ∨ stA l = 0 then 0 else if hgtH l hi l.length ≤ cr ∧ lnA l hi ≤ le ∧ stA l = 1 then 1 else 2
theorem stA_three (l : List Sg) : stA l = 0 ∨ stA l = 1 ∨ stA l = 2 := by
  unfold stA
  split
  · exact .inl rfl
  · split
    · exact .inr (.inr rfl)
    · exact .inr (.inl rfl)

theorem height_at {w : World} {v : Value} {l : List Sg} {lo hi : Int} (h : RowsAt 8 w v (l.map rowG)) (hl : l.length ≤ 30) (hk : listOk l = true) (h1 : 0 ≤ lo ∧ lo ≤ 200) (h2 : 0 ≤ hi ∧ hi ≤ 200) {x y : Int} (hx : hgtL l lo l.length = x) (hy : hgtH l hi l.length = y) : Calls Try.prog 90 #[.agg #[.int .i64 lo, .int .i64 hi], v] w (Ret w (.agg #[.int .i64 x, .int .i64 y])) := by
  subst hx; subst hy; exact height_any h hl (sg_highs hk) h1 h2
theorem stands_at {w : World} {v : Value} {l : List Sg} {lo hi : Int} (h : RowsAt 8 w v (l.map rowG)) (hl : l.length ≤ 30) (hk : listOk l = true) (h1 : 0 ≤ lo ∧ lo ≤ 200) (h2 : 0 ≤ hi ∧ hi ≤ 200) {x : Int} (hx : stA l = x) : Calls Try.prog 88 #[v] w (Ret w (.int .i64 x)) := by
  subst hx; exact stands_any h hl (sg_bounds hk)
theorem lean_at {w : World} {v : Value} {l : List Sg} {lo hi : Int} (h : RowsAt 8 w v (l.map rowG)) (hl : l.length ≤ 30) (hk : listOk l = true) (h1 : 0 ≤ lo ∧ lo ≤ 200) (h2 : 0 ≤ hi ∧ hi ≤ 200) {x : Int} (hx : lnA l hi = x) : Calls Try.prog 92 #[.agg #[.int .i64 lo, .int .i64 hi, v]] w (Ret w (.int .i64 x)) := by
  subst hx; exact lean_any h hl (sg_highs hk) (sg_tilts hk) h1 h2
set_option maxRecDepth 100000 in
set_option maxHeartbeats 1000000 in
theorem fits_any {w : World} {v : Value} {l : List Sg} {lo hi : Int} (h : RowsAt 8 w v (l.map rowG)) (hl : l.length ≤ 30) (hk : listOk l = true) (h1 : 0 ≤ lo ∧ lo ≤ 200) (h2 : 0 ≤ hi ∧ hi ≤ 200) {cr le r : Int} (hr : fitA lo hi l cr le = r) :
    Calls Try.prog 94 #[.agg #[.int .i64 lo, .int .i64 hi, v], .agg #[.int .i64 cr, .int .i64 le]] w (Ret w (.int .i64 r)) := by
  unfold Ret
  obtain ⟨a, cap, rfl, hll⟩ := h.shape
  rw [List.length_map] at h hll ⊢
  obtain ⟨n, hn⟩ : ∃ n, l.length = n := ⟨_, rfl⟩
  obtain ⟨x, hx⟩ : ∃ x, hgtL l lo l.length = x := ⟨_, rfl⟩
  obtain ⟨y, hy⟩ : ∃ y, hgtH l hi l.length = y := ⟨_, rfl⟩
  obtain ⟨st, hst⟩ : ∃ y, stA l = y := ⟨_, rfl⟩
  obtain ⟨ln, hln⟩ : ∃ y, lnA l hi = y := ⟨_, rfl⟩
  have h3 := stA_three l
  rw [hst] at h3
  have hr2 : (if x > cr ∨ st = 0 then 0 else if y ≤ cr ∧ ln ≤ le ∧ st = 1 then 1 else 2) = r := by rw [← hr]; unfold fitA; rw [hx, hy, hst, hln]
  have HX := hid hx; have HY := hid hy; have HST := hid hst; have HLN := hid hln; have HLE := hid hl; have HK := hid hk; have HL1 := hid h1; have HL2 := hid h2; have HR := hid hr2; clear hx hy hst hln hl hk h1 h2 hr hr2
  rw [hn] at h hll ⊢
  clear hn
  go_enter Try.func94, Try.ntmps94
  go_upto_region 1 with fail
  generalize hW : World.alloc (World.alloc w _) _ = v1
  have y0 : CellsAt v1 w.heap.size [.int .i64 lo, .int .i64 hi, .slice a n cap] := by rw [← hW]; exact (CellsAt.new w [.int .i64 lo, .int .i64 hi, .slice a n cap] 26).alloc _
  have y1 : CellsAt v1 (w.heap.size + 1) [.int .i64 cr, .int .i64 le] := by rw [← hW]; have h := CellsAt.new (w.alloc (.cells #[.int .i64 lo, .int .i64 hi, .slice a n cap] 26)) [.int .i64 cr, .int .i64 le] 28; rwa [World.size_alloc] at h
  have hB : Below w.heap.size w v1 := by rw [← hW]; exact ((Below.refl _ w).alloc (Nat.le_refl _) _).alloc (by simp) _
  have hzv : w.heap.size + 2 ≤ v1.heap.size := by rw [← hW]; simp
  clear hW
  have q0 := (y0 0 _ rfl).1; have q1 := (y0 1 _ rfl).1; have q2 := (y0 2 _ rfl).1
  refine wp_region_Rs [(4, fun v _ => v = .agg #[.int .i64 x, .int .i64 y]), (7, fun v _ => v = .int .i64 st), (8, NewCells v1.heap.size [.int .i64 0, .int .i64 0])] [0, 1, 2, 3, 4, 5, 6, 7, 8] 2 (by kernel_rfl) rfl (by simp only [List.forall_mem_cons]; exact ⟨keeps_eq, keeps_eq, keeps_new, fun _ h => by cases h⟩) (by kernel_rfl) ?_
  simp only [numbered, List.filterMap_cons, List.filterMap_nil, List.getElem?_toArray, List.getElem?_cons_succ, List.getElem?_cons_zero, Option.map_some]
  show wpS _ _ _ _ _ _ _ [(_, _), (_, _), (_, _), (_, _), (_, _), (_, _), (_, _), (_, _), (_, _)] _ _
  (refine wpS_quiet rfl rfl ?_; intro K hK inst hx; have s0 := fun x => (fun _ => bkeep (BQ.below x) q0) (hx x); have s1 := fun x => (fun _ => bkeep (BQ.below x) q1) (hx x); have s2 := fun x => (fun _ => bkeep (BQ.below x) q2) (hx x); go_big_quiet_op; (first | go_big_quiet_on | (refine ⟨_, fun _ => rfl, ?_⟩; go_big_quiet_on)); clear hx inst)
  (refine wpS_quiet rfl rfl ?_; intro K hK inst hx; have s0 := fun x => (fun _ => bkeep (BQ.below x) q0) (hx x); have s1 := fun x => (fun _ => bkeep (BQ.below x) q1) (hx x); have s2 := fun x => (fun _ => bkeep (BQ.below x) q2) (hx x); go_big_quiet_op; (first | go_big_quiet_on | (refine ⟨_, fun _ => rfl, ?_⟩; go_big_quiet_on)); clear hx inst)
  (refine wpS_quiet rfl rfl ?_; intro K hK inst hx; have s0 := fun x => (fun _ => bkeep (BQ.below x) q0) (hx x); have s1 := fun x => (fun _ => bkeep (BQ.below x) q1) (hx x); have s2 := fun x => (fun _ => bkeep (BQ.below x) q2) (hx x); go_big_quiet_op; (first | go_big_quiet_on | (refine ⟨_, fun _ => rfl, ?_⟩; go_big_quiet_on)); clear hx inst)
  (refine wpS_quiet rfl rfl ?_; intro K hK inst hx; have s0 := fun x => (fun _ => bkeep (BQ.below x) q0) (hx x); have s1 := fun x => (fun _ => bkeep (BQ.below x) q1) (hx x); have s2 := fun x => (fun _ => bkeep (BQ.below x) q2) (hx x); go_big_quiet_op; (first | go_big_quiet_on | (refine ⟨_, fun _ => rfl, ?_⟩; go_big_quiet_on)); clear hx inst)
  refine wpS_fresh rfl rfl (fun w' hb hF => ?_) ?_
  · change freshAt _ _ _ (fun v _ => v = .agg #[.int .i64 x, .int .i64 y]) _; unfold freshAt; go_simp; exact height_at (h.below (hB.trans (hb.mono hB.size))) HLE.out HK.out HL1.out HL2.out HX.out HY.out
  intro v W hv; simp only [pOf, List.lookup_cons, Nat.reduceBEq, beq_self_eq_true] at hv; subst hv
  simp only [Act.put, List.setIfInBounds_toArray, List.set_cons_succ, List.set_cons_zero]
  (refine wpS_quiet rfl rfl ?_; intro K hK inst hx; have s0 := fun x => (fun _ => bkeep (BQ.below x) q0) (hx x); have s1 := fun x => (fun _ => bkeep (BQ.below x) q1) (hx x); have s2 := fun x => (fun _ => bkeep (BQ.below x) q2) (hx x); go_big_quiet_op; (first | go_big_quiet_on | (refine ⟨_, fun _ => rfl, ?_⟩; go_big_quiet_on)); clear hx inst)
  (refine wpS_quiet rfl rfl ?_; intro K hK inst hx; have s0 := fun x => (fun _ => bkeep (BQ.below x) q0) (hx x); have s1 := fun x => (fun _ => bkeep (BQ.below x) q1) (hx x); have s2 := fun x => (fun _ => bkeep (BQ.below x) q2) (hx x); go_big_quiet_op; (first | go_big_quiet_on | (refine ⟨_, fun _ => rfl, ?_⟩; go_big_quiet_on)); clear hx inst)
  refine wpS_fresh rfl rfl (fun w' hb hF => ?_) ?_
  · change freshAt _ _ _ (fun v _ => v = .int .i64 st) _; unfold freshAt; go_simp; exact stands_at (h.below (hB.trans (hb.mono hB.size))) HLE.out HK.out HL1.out HL2.out HST.out
  intro v W hv; simp only [pOf, List.lookup_cons, Nat.reduceBEq, beq_self_eq_true] at hv; subst hv
  simp only [Act.put, List.setIfInBounds_toArray, List.set_cons_succ, List.set_cons_zero]
  refine wpS_fresh rfl rfl (fun w' hb hF => ?_) ?_
  · change freshAt _ _ _ (NewCells v1.heap.size [.int .i64 0, .int .i64 0]) _; unfold freshAt; go_simp; exact new_of hb
  intro v W hv; simp only [pOf, List.lookup_cons, Nat.reduceBEq, beq_self_eq_true] at hv; obtain ⟨B8, hB8, rfl, _⟩ := hv
  simp only [Act.put, List.setIfInBounds_toArray, List.set_cons_succ, List.set_cons_zero]
  refine wpS_nil ?_
  intro v2 hall
  have hb := hall.1
  have hN : NewCells v1.heap.size [.int .i64 0, .int .i64 0] (.pointer (some ⟨B8, 0, none⟩)) v2 := hall.2 8 _ rfl
  obtain ⟨B', hB', hv', hn⟩ := hN
  obtain rfl : B8 = B' := by simpa using hv'
  have nB80 := (hn 0 _ rfl).1
  have mB80 := (hn 0 _ rfl).2
  have nB81 := (hn 1 _ rfl).1
  have mB81 := (hn 1 _ rfl).2
  clear hn hv'
  clear hall
  have yb : CellsAt v2 B8 [.int .i64 0, .int .i64 0] := (fun o u hu => by match o, hu with | 0, hu => (injection hu with hu; subst hu; exact ⟨nB80, mB80⟩) | 1, hu => (injection hu with hu; subst hu; exact ⟨nB81, mB81⟩) | o + 2, hu => simp at hu)
  replace y0 := y0.below hb; replace y1 := y1.below hb
  replace hB := hB.trans (hb.mono hB.size)
  clear q0 q1 q2 hb
  refine wpAny_ready (rs := [9]) (by kernel_rfl) (by simp) ?_
  refine AllReady.cons rfl (fun K hK => ?_) AllReady.nil
  go_simp
  refine hK _ _ ?_; clear hK K
  refine wpAny_ready (rs := [10]) (by kernel_rfl) (by simp) ?_
  refine AllReady.cons rfl (fun K hK => ?_) AllReady.nil
  go_simp
  refine hK _ _ ?_; clear hK K
  refine wpAny_done (by kernel_rfl) ?_ _
  have zb := cells_store (o := 1) (u := .int .i64 y) (cells_store (o := 0) (u := .int .i64 x) yb)
  replace y0 := two_other y0 (show w.heap.size ≠ B8 by omega) (.int .i64 x) (.int .i64 y)
  replace y1 := two_other y1 (show w.heap.size + 1 ≠ B8 by omega) (.int .i64 x) (.int .i64 y)
  replace hB := (hB.setCell (p := ⟨B8, 0, none⟩) (by show w.heap.size ≤ B8; omega) (.int .i64 x)).setCell (p := ⟨B8, 1, none⟩) (by show w.heap.size ≤ B8; omega) (.int .i64 y)
  clear yb nB80 nB81 mB80 mB81
  generalize World.setCell _ _ _ = v3 at *
  have q0 := (y0 0 _ rfl).1; have q1 := (y0 1 _ rfl).1; have q2 := (y0 2 _ rfl).1; have p0 := (y1 0 _ rfl).1; have p1 := (y1 1 _ rfl).1; have t0 := (zb 0 _ rfl).1; have t1 := (zb 1 _ rfl).1
  by_cases hxc : x > cr
  · have HV := hid (show r = 0 by rw [← HR.out]; rw [if_pos (.inl hxc)])
    have hxd : x > cr := hxc
    have hxl : cr < x := hxc
    go_wp2_with fail
    have hv := HV.out
    subst hv
    go_ret
    exact ⟨rfl, hB⟩
  · have hxl : ¬ cr < x := hxc
    rcases h3 with hs0 | hs12
    · subst hs0
      have HV := hid (show r = 0 by rw [← HR.out]; rw [if_pos (.inr rfl)])
      go_wp2_with fail
      have hv := HV.out
      subst hv
      go_ret
      exact ⟨rfl, hB⟩
    · have hsn : ¬ st = 0 := by omega
      have hsb : (st == 0) = false := beq_eq_false_iff_ne.mpr hsn
      have HIF := hid (HR.out.symm.trans (if_neg (show ¬ (x > cr ∨ st = 0) from fun e => e.elim hxc hsn)))
      have h0 := h.below hB
      by_cases hyc : y ≤ cr
      · have hyd : decide (y ≤ cr) = true := decide_eq_true hyc
        by_cases hle : ln ≤ le
        · have hld : decide (ln ≤ le) = true := decide_eq_true hle
          by_cases hs1 : st = 1
          · subst hs1
            have HV := hid (show r = 1 by rw [HIF.out]; rw [if_pos ⟨hyc, hle, rfl⟩])
            go_upto_region 4 with fail
            have x0 := fun z : BW v3 => bkeep z.below q0
            have x1 := fun z : BW v3 => bkeep z.below q1
            have x2 := fun z : BW v3 => bkeep z.below q2
            have x3 := fun z : BW v3 => bkeep z.below p0
            have x4 := fun z : BW v3 => bkeep z.below p1
            have x5 := fun z : BW v3 => bkeep z.below t0
            have x6 := fun z : BW v3 => bkeep z.below t1
            refine wp_region_qb (by kernel_rfl) (by kernel_rfl) fun hc => ?_
            repeat (go_big_quiet_step ((go_at_call 92; exact BW.call _ (lean_at (h0.below (BW.below _)) HLE.out HK.out HL1.out HL2.out HLN.out))))
            refine wpQuiet_nil ?_
            intro v4 hb
            replace hB := hB.trans (hb.mono hB.size)
            go_wp2_with fail
            have hv := HV.out
            subst hv
            go_ret
            exact ⟨rfl, hB⟩
          · have hs1b : (st == 1) = false := beq_eq_false_iff_ne.mpr hs1
            have HV := hid (show r = 2 by rw [HIF.out]; rw [if_neg (fun e => hs1 e.2.2)])
            go_upto_region 4 with fail
            have x0 := fun z : BW v3 => bkeep z.below q0
            have x1 := fun z : BW v3 => bkeep z.below q1
            have x2 := fun z : BW v3 => bkeep z.below q2
            have x3 := fun z : BW v3 => bkeep z.below p0
            have x4 := fun z : BW v3 => bkeep z.below p1
            have x5 := fun z : BW v3 => bkeep z.below t0
            have x6 := fun z : BW v3 => bkeep z.below t1
            refine wp_region_qb (by kernel_rfl) (by kernel_rfl) fun hc => ?_
            repeat (go_big_quiet_step ((go_at_call 92; exact BW.call _ (lean_at (h0.below (BW.below _)) HLE.out HK.out HL1.out HL2.out HLN.out))))
            refine wpQuiet_nil ?_
            intro v4 hb
            replace hB := hB.trans (hb.mono hB.size)
            go_wp2_with fail
            have hv := HV.out
            subst hv
            go_ret
            exact ⟨rfl, hB⟩
        · have hld : decide (ln ≤ le) = false := decide_eq_false hle
          have HV := hid (show r = 2 by rw [HIF.out]; rw [if_neg (fun e => hle e.2.1)])
          go_upto_region 4 with fail
          have x0 := fun z : BW v3 => bkeep z.below q0
          have x1 := fun z : BW v3 => bkeep z.below q1
          have x2 := fun z : BW v3 => bkeep z.below q2
          have x3 := fun z : BW v3 => bkeep z.below p0
          have x4 := fun z : BW v3 => bkeep z.below p1
          have x5 := fun z : BW v3 => bkeep z.below t0
          have x6 := fun z : BW v3 => bkeep z.below t1
          refine wp_region_qb (by kernel_rfl) (by kernel_rfl) fun hc => ?_
          repeat (go_big_quiet_step ((go_at_call 92; exact BW.call _ (lean_at (h0.below (BW.below _)) HLE.out HK.out HL1.out HL2.out HLN.out))))
          refine wpQuiet_nil ?_
          intro v4 hb
          replace hB := hB.trans (hb.mono hB.size)
          go_wp2_with fail
          have hv := HV.out
          subst hv
          go_ret
          exact ⟨rfl, hB⟩
      · have hyd : decide (y ≤ cr) = false := decide_eq_false hyc
        have HV := hid (show r = 2 by rw [HIF.out]; rw [if_neg (fun e => hyc e.1)])
        go_upto_region 4 with fail
        have x0 := fun z : BW v3 => bkeep z.below q0
        have x1 := fun z : BW v3 => bkeep z.below q1
        have x2 := fun z : BW v3 => bkeep z.below q2
        have x3 := fun z : BW v3 => bkeep z.below p0
        have x4 := fun z : BW v3 => bkeep z.below p1
        have x5 := fun z : BW v3 => bkeep z.below t0
        have x6 := fun z : BW v3 => bkeep z.below t1
        refine wp_region_qb (by kernel_rfl) (by kernel_rfl) fun hc => ?_
        repeat (go_big_quiet_step ((go_at_call 92; exact BW.call _ (lean_at (h0.below (BW.below _)) HLE.out HK.out HL1.out HL2.out HLN.out))))
        refine wpQuiet_nil ?_
        intro v4 hb
        replace hB := hB.trans (hb.mono hB.size)
        go_wp2_with fail
        have hv := HV.out
        subst hv
        go_ret
        exact ⟨rfl, hB⟩

end Go.Proofs.Ytnchhleokdkejaa

/- Numbers modulo others; a wad that numbers make; numbers that choose. -/
namespace Go.Proofs.Ytnchhleokdkejaa
open Go.RowKit Go.Pb Go.Pb.Ware Go.Pb.Sag
set_option linter.unusedVariables false
set_option linter.unusedSimpArgs false

open Go.Pb.Bung
theorem modB {n m p : Int} {w : World} (hp : n % m = p) (h1 : 1 ≤ m) (h2 : m ≤ 140737488355328) :
    Calls Try.prog 69 #[.int .i64 n, .int .i64 m] w fun e w' => e = .returned (.int .i64 p) ∧ w = w' := by
  obtain ⟨e1, e2, e3⟩ := mod_eq n m (by omega)
  have E : Hid ((n.tmod m + m) % m = p) := hid (by rw [← hp, ← Int.tmod_eq_emod_of_nonneg (by omega)]; exact e1)
  clear e1 hp
  go_enter Try.func69, Try.ntmps69
  go_wp2
  all_goals go_ret
  all_goals exact ⟨ret_int E, rfl⟩
theorem modBR {n m p : Int} {w : World} (hp : n % m = p) (h1 : 1 ≤ m) (h2 : m ≤ 140737488355328) : Calls Try.prog 69 #[.int .i64 n, .int .i64 m] w (Ret w (.int .i64 p)) :=
  (modB hp h1 h2).mono fun e w' ⟨h3, h4⟩ => ⟨h3, h4 ▸ Below.refl _ _⟩
theorem mod_in {n m p : Int} (hp : n % m = p) (h1 : 1 ≤ m) : 0 ≤ p ∧ p < m := by subst hp; exact ⟨Int.emod_nonneg _ (by omega), Int.emod_lt_of_pos _ (by omega)⟩

set_option maxRecDepth 100000 in
set_option maxHeartbeats 400000 in
theorem rWadM {w : World} {n0 n1 : Int} :
    Calls Try.prog 72 #[.agg #[.int .i64 n0, .int .i64 n1]] w (Ret w (.agg #[.int .i64 (n0 % 15), .int .i64 (n0 % 15 + n1 % 10)])) := by
  unfold Ret
  obtain ⟨p0, h0⟩ : ∃ p, n0 % 15 = p := ⟨_, rfl⟩
  obtain ⟨p1, h1⟩ : ∃ p, n1 % 10 = p := ⟨_, rfl⟩
  have m0 := mod_in h0 (by decide); have m1 := mod_in h1 (by decide)
  have H0 : Hid _ := hid h0; have H1 : Hid _ := hid h1
  rw [h0, h1]
  clear h0 h1
  go_enter Try.func72, Try.ntmps72
  go_wp2_with fail
  refine (modBR H0.out (by decide) (by decide)).mono ?_
  rintro e w1 ⟨rfl, hb⟩
  replace hb0 := bnext (w := w) (by go_grown) hb; have hz := hb.size; (try simp only [World.size_alloc, World.size_setCell] at hz); replace q0 : w1.cell? ⟨w.heap.size, 0, none⟩ = some (.int .i64 n0) := bkeep hb (by first | (with_reducible exact q0) | (with_reducible exact akeep q0) | simp [*, go_sem]); replace q1 : w1.cell? ⟨w.heap.size, 1, none⟩ = some (.int .i64 n1) := bkeep hb (by first | (with_reducible exact q1) | (with_reducible exact akeep q1) | simp [*, go_sem]); replace f2 : w1.frozen? ⟨w.heap.size + 1, 0, none⟩ = false := bfree (v := .int .i64 0) hb (by first | (with_reducible exact q2) | (with_reducible exact akeep q2) | simp [*, go_sem]) (by first | (with_reducible exact f2) | (with_reducible exact afree q2 f2) | simp [*, go_sem]); replace q2 : w1.cell? ⟨w.heap.size + 1, 0, none⟩ = some (.int .i64 0) := bkeep hb (by first | (with_reducible exact q2) | (with_reducible exact akeep q2) | simp [*, go_sem]); replace f3 : w1.frozen? ⟨w.heap.size + 1, 1, none⟩ = false := bfree (v := .int .i64 0) hb (by first | (with_reducible exact q3) | (with_reducible exact akeep q3) | simp [*, go_sem]) (by first | (with_reducible exact f3) | (with_reducible exact afree q3 f3) | simp [*, go_sem]); replace q3 : w1.cell? ⟨w.heap.size + 1, 1, none⟩ = some (.int .i64 0) := bkeep hb (by first | (with_reducible exact q3) | (with_reducible exact akeep q3) | simp [*, go_sem]); skip
  clear hb
  go_wp2_with fail
  refine (modBR H1.out (by decide) (by decide)).mono ?_
  rintro e w1 ⟨rfl, hb⟩
  replace hb0 := bnext (w := w) (by go_grown) hb; have hz := hb.size; (try simp only [World.size_alloc, World.size_setCell] at hz); replace q0 : w1.cell? ⟨w.heap.size, 0, none⟩ = some (.int .i64 n0) := bkeep hb (by first | (with_reducible exact q0) | (with_reducible exact akeep q0) | simp [*, go_sem]); replace q1 : w1.cell? ⟨w.heap.size, 1, none⟩ = some (.int .i64 n1) := bkeep hb (by first | (with_reducible exact q1) | (with_reducible exact akeep q1) | simp [*, go_sem]); replace f2 : w1.frozen? ⟨w.heap.size + 1, 0, none⟩ = false := bfree (v := .int .i64 0) hb (by first | (with_reducible exact q2) | (with_reducible exact akeep q2) | simp [*, go_sem]) (by first | (with_reducible exact f2) | (with_reducible exact afree q2 f2) | simp [*, go_sem]); replace q2 : w1.cell? ⟨w.heap.size + 1, 0, none⟩ = some (.int .i64 0) := bkeep hb (by first | (with_reducible exact q2) | (with_reducible exact akeep q2) | simp [*, go_sem]); replace f3 : w1.frozen? ⟨w.heap.size + 1, 1, none⟩ = false := bfree (v := .int .i64 0) hb (by first | (with_reducible exact q3) | (with_reducible exact akeep q3) | simp [*, go_sem]) (by first | (with_reducible exact f3) | (with_reducible exact afree q3 f3) | simp [*, go_sem]); replace q3 : w1.cell? ⟨w.heap.size + 1, 1, none⟩ = some (.int .i64 0) := bkeep hb (by first | (with_reducible exact q3) | (with_reducible exact akeep q3) | simp [*, go_sem]); skip
  clear hb
  go_wp2_with fail
  exact bodyPost_ret (v := .agg #[.int .i64 p0, .int .i64 (p0 + p1)]) (by simp [results, Try.results72, go_sem, *]) rfl ⟨rfl, by go_grown⟩

/-- What lies in a range. -/
def InRg (lo hi : Int) (v : Value) (W : World) : Prop := ∃ z, v = .int .i64 z ∧ lo ≤ z ∧ z ≤ hi
theorem keeps_inRg {lo hi : Int} : Keeps (InRg lo hi) := fun _ _ _ h _ => h
def IsI64 (v : Value) (W : World) : Prop := ∃ z, v = .int .i64 z ∧ I64 z
theorem keeps_isI64 : Keeps IsI64 := fun _ _ _ h _ => h
set_option maxRecDepth 100000 in
set_option maxHeartbeats 400000 in
theorem one_any {w : World} {lo hi n : Int} (h0 : 0 ≤ lo) (h1 : lo ≤ hi) (h2 : hi ≤ 1000000000) :
    Calls Try.prog 67 #[.agg #[.int .i64 lo, .int .i64 hi], .int .i64 n] w (fun e w' => ∃ v, e = .returned v ∧ Below w.heap.size w w' ∧ InRg lo hi v w') := by
  obtain ⟨m, hm⟩ : ∃ m, hi - lo + 1 = m := ⟨_, rfl⟩
  obtain ⟨p, hp⟩ : ∃ p, n % m = p := ⟨_, rfl⟩
  have hb := mod_in hp (by omega)
  have HP : Hid _ := hid hp; clear hp
  have hw1 : IntKind.i64.wrap (hi - lo) = hi - lo := IntWalk.i64_in _ (by omega)
  have hw2 : IntKind.i64.wrap (hi - lo + 1) = m := (IntWalk.i64_in _ (by omega)).trans hm
  have hw3 : IntKind.i64.wrap (lo + p) = lo + p := IntWalk.i64_in _ (by omega)
  go_enter Try.func67, Try.ntmps67
  go_upto_region 1 with fail
  refine wp_region_qb (by kernel_rfl) (by kernel_rfl) fun hc => ?_
  repeat (go_big_quiet_step ((go_at_call 69; exact BW.call _ (modBR HP.out (by omega) (by omega)))))
  refine wpQuiet_nil ?_
  intro w1 hb1
  have hB : Below w.heap.size w w1 := bnext (w := w) (by go_grown) hb1
  go_wp2_with fail
  go_ret
  exact ⟨_, rfl, hB, _, rfl, by omega, by omega⟩

set_option maxRecDepth 100000 in
set_option maxHeartbeats 400000 in
theorem at_any {w : World} {v : Value} {zs : List Int} {i : Nat} (hi : NumsAt w v zs) (hb : i ≤ 1000000) :
    Calls Try.prog 68 #[v, .int .i64 (i : Int)] w (fun e w' => ∃ v, e = .returned v ∧ Below w.heap.size w w' ∧ IsI64 v w') := by
  obtain ⟨a, cap, rfl, hl1, hl2⟩ := hi.shape
  have hi64 := hi.i64
  obtain ⟨n, hn⟩ : ∃ n, zs.length = n := ⟨_, rfl⟩
  have HN : Hid (zs.length = n) := hn
  have HI : Hid (∀ z ∈ zs, I64 z) := hi64
  rw [hn] at hi hl1 ⊢
  clear hn hi64
  by_cases h0 : n = 0
  · subst h0
    go_enter Try.func68, Try.ntmps68
    go_wp2_with fail
    go_ret
    exact ⟨_, rfl, Below.refl _ _, _, rfl, I64.mk (by omega) (by omega)⟩
  · obtain ⟨k, hk⟩ : ∃ k, i % n = k := ⟨_, rfl⟩
    have hkn : k < n := by subst hk; exact Nat.mod_lt _ (by omega)
    obtain ⟨a', ha, r0⟩ := (show NumsAt w (.slice a zs.length cap) zs by rw [HN.out]; exact hi).elem (k := k) (by rw [HN.out]; exact hkn)
    subst ha
    obtain ⟨z, hz⟩ : ∃ z, zs[k]'(by rw [HN.out]; exact hkn) = z := ⟨_, rfl⟩
    have HZ : Hid (I64 z) := hid (by rw [← hz]; exact HI.out _ (List.getElem_mem _))
    rw [hz] at r0
    clear hz
    have hki : (k : Int) < (n : Int) := by omega
    have hk0 : (0 : Int) ≤ (k : Int) := by omega
    have hmod : IntKind.i64.wrap ((i : Int).tmod (n : Int)) = (k : Int) := by rw [Int.tmod_eq_emod_of_nonneg (by omega), ← Int.natCast_emod, hk]; exact IntWalk.i64_in _ (by omega)
    have hmod2 : ((i : Int).tmod (n : Int)) = (k : Int) := by rw [Int.tmod_eq_emod_of_nonneg (by omega), ← Int.natCast_emod, hk]
    have hnb : ((n : Int) == 0) = false := beq_eq_false_iff_ne.mpr (by omega)
    have hnz : ¬ (n : Int) = 0 := by omega
    clear hk
    go_enter Try.func68, Try.ntmps68
    go_wp2_with fail
    go_ret
    exact ⟨_, rfl, Below.refl _ _, _, rfl, HZ.out⟩

end Go.Proofs.Ytnchhleokdkejaa

/- The setter's rule, by plain maths; sorting indices. -/
namespace Go.Pb.Bung
open Go Go.Pb Go.Pb.Ware Go.RowKit Go.Proofs Go.Sort
set_option linter.unusedVariables false
set_option linter.unusedSimpArgs false
def atG (l : List Sg) (i : Nat) : Sg := l.getD i default
def keyG (s : Sg) : Int := s.wh + s.bl
/-- a stands lower than b. -/
def lowB (a b : Sg) : Bool := decide (keyG b < keyG a) || (decide (keyG a = keyG b) && decide (a.id < b.id))
theorem lowB_iff {a b : Sg} : lowB a b = true ↔ keyG b < keyG a ∨ keyG a = keyG b ∧ a.id < b.id := by unfold lowB; simp
theorem lowB_no {a b : Sg} : lowB a b = false ↔ ¬ (keyG b < keyG a ∨ keyG a = keyG b ∧ a.id < b.id) := by rw [← lowB_iff]; simp
def insR (l : List Sg) (i : Nat) : List Nat → List Nat
  | [] => [i]
  | j :: t => if lowB (atG l j) (atG l i) = true then j :: insR l i t else i :: j :: t
def ruleUp (l : List Sg) : Nat → List Nat
  | 0 => []
  | k + 1 => insR l k (ruleUp l k)
def ruleN (l : List Sg) : List Nat := ruleUp l l.length
def ruleL (l : List Sg) : List Int := (ruleN l).map fun n : Nat => (n : Int)
/-- Saggars in the order of the rule. -/
def ruledL (l : List Sg) : List Sg := chosenG l (ruleL l)
theorem insR_perm (l : List Sg) (i : Nat) : ∀ t, (insR l i t).Perm (i :: t)
  | [] => List.Perm.refl _
  | j :: t => by
    unfold insR
    split
    · exact ((insR_perm l i t).cons j).trans (List.Perm.swap ..)
    · exact List.Perm.refl _
theorem ruleUp_perm (l : List Sg) : ∀ k, (ruleUp l k).Perm (List.range k)
  | 0 => List.Perm.refl _
  | k + 1 => by
    rw [ruleUp, List.range_succ]
    exact (insR_perm l k _).trans (((ruleUp_perm l k).cons k).trans (List.perm_append_singleton k (List.range k)).symm)
theorem ruleN_perm (l : List Sg) : (ruleN l).Perm (List.range l.length) := ruleUp_perm l _
theorem ruleN_length (l : List Sg) : (ruleN l).length = l.length := by rw [(ruleN_perm l).length_eq, List.length_range]
theorem ruleL_length (l : List Sg) : (ruleL l).length = l.length := by unfold ruleL; rw [List.length_map, ruleN_length]
theorem ruleL_in (l : List Sg) : ∀ z ∈ ruleL l, 0 ≤ z ∧ z < (l.length : Int) := by
  intro z hz
  unfold ruleL at hz
  obtain ⟨n, hn, rfl⟩ := List.mem_map.1 hz
  have := List.mem_range.1 ((ruleN_perm l).mem_iff.1 hn)
  omega
/-- No later one stands lower than an earlier one. -/
def NotLow (l : List Sg) (i j : Nat) : Prop := lowB (atG l j) (atG l i) = false
theorem insR_sorted {l : List Sg} {i : Nat} : ∀ {t : List Nat}, t.Pairwise (NotLow l) → (insR l i t).Pairwise (NotLow l)
  | [], _ => List.pairwise_singleton _ _
  | j :: t, h => by
    obtain ⟨h1, h2⟩ := List.pairwise_cons.1 h
    unfold insR
    split
    · rename_i hl
      refine List.pairwise_cons.2 ⟨fun x hx => ?_, insR_sorted h2⟩
      rcases List.mem_cons.1 ((insR_perm l i t).mem_iff.1 hx) with rfl | hx
      · unfold NotLow; rw [lowB_no]; rw [lowB_iff] at hl; omega
      · exact h1 x hx
    · rename_i hl
      rw [Bool.not_eq_true] at hl
      refine List.pairwise_cons.2 ⟨fun x hx => ?_, h⟩
      rcases List.mem_cons.1 hx with rfl | hx
      · exact hl
      · have h3 := h1 x hx
        unfold NotLow at h3 ⊢
        rw [lowB_no] at *
        omega
theorem ruleUp_sorted (l : List Sg) : ∀ k, (ruleUp l k).Pairwise (NotLow l)
  | 0 => List.Pairwise.nil
  | k + 1 => insR_sorted (ruleUp_sorted l k)
/-- Each has an Id of its own. -/
def IdsN (l : List Sg) : Prop := (l.map (·.id)).Pairwise (· ≠ ·)
theorem ids_at {l : List Sg} (h : IdsN l) {i j : Nat} (hi : i < l.length) (hj : j < l.length) (e : (atG l i).id = (atG l j).id) : i = j := by
  unfold IdsN at h
  rw [List.pairwise_map, List.pairwise_iff_getElem] at h
  unfold atG at e
  rw [List.getD_eq_getElem?_getD, List.getD_eq_getElem?_getD, List.getElem?_eq_getElem hi, List.getElem?_eq_getElem hj] at e
  simp only [Option.getD_some] at e
  rcases Nat.lt_trichotomy i j with h1 | h1 | h1
  · exact absurd e (h i j hi hj h1)
  · exact h1
  · exact absurd e.symm (h j i hj hi h1)
theorem ids_of {l : List Sg} : ∀ {k : Nat}, k ≤ l.length → okUp l k = true → IdsN (l.take k)
  | 0, _, _ => List.Pairwise.nil
  | k + 1, hk, h => by
    rw [okUp, Bool.and_eq_true] at h
    have ih := ids_of (by omega) h.1
    have hk2 : k < l.length := by omega
    have h2 := h.2
    rw [List.getElem?_eq_getElem hk2] at h2
    simp only [Bool.and_eq_true, Bool.not_eq_true'] at h2
    unfold IdsN at ih ⊢
    rw [List.take_succ_eq_append_getElem hk2, List.map_append, List.pairwise_append]
    refine ⟨ih, List.pairwise_singleton _ _, fun a ha b hb => ?_⟩
    obtain ⟨s, hs, rfl⟩ := List.mem_map.1 ha
    have hb2 : b = l[k].id := by simpa using hb
    subst hb2
    intro e
    have h3 : hasL (l.take k) l[k].id = true := by unfold hasL; exact List.any_eq_true.2 ⟨s, hs, decide_eq_true e⟩
    rw [h2.2] at h3; cases h3
theorem listOk_ids {l : List Sg} (h : listOk l = true) : IdsN l := by
  unfold listOk at h
  rw [Bool.and_eq_true] at h
  have h1 := ids_of (Nat.le_refl _) h.2
  rwa [List.take_length] at h1
theorem ids_chosen {l : List Sg} {zs : List Int} (h : IdsN l) (hz : ∀ z ∈ zs, 0 ≤ z ∧ z < (l.length : Int)) (hd : zs.Pairwise (· ≠ ·)) : IdsN (chosenG l zs) := by
  unfold IdsN chosenG
  rw [List.map_map, List.pairwise_map]
  refine hd.imp_of_mem fun {a b} ha hb hab e => hab ?_
  have h1 := hz a ha
  have h2 := hz b hb
  have h3 := ids_at h (i := a.toNat) (j := b.toNat) (by omega) (by omega) e
  omega
theorem rule_unique {l : List Sg} (h : IdsN l) {t : List Nat} (hp : t.Perm (List.range l.length)) (hs : t.Pairwise (NotLow l)) : t = ruleN l := by
  refine List.Perm.eq_of_pairwise (le := NotLow l) (fun a b ha hb h1 h2 => ?_) hs (ruleUp_sorted l _) (hp.trans (ruleN_perm l).symm)
  have h3 := List.mem_range.1 (hp.mem_iff.1 ha)
  have h4 := List.mem_range.1 ((ruleN_perm l).mem_iff.1 hb)
  unfold NotLow at h1 h2
  rw [lowB_no] at h1 h2
  exact ids_at h h3 h4 (by omega)
theorem okUp_all {l : List Sg} : ∀ k, k ≤ l.length → okUp l k = true → ∀ s ∈ l.take k, sgOk s = true
  | 0, _, _, s, hs => by simp at hs
  | k + 1, hk, h, s, hs => by
    rw [okUp, Bool.and_eq_true] at h
    have hk2 : k < l.length := by omega
    have h2 := h.2
    rw [List.getElem?_eq_getElem hk2] at h2
    simp only [Bool.and_eq_true] at h2
    rw [List.take_succ_eq_append_getElem hk2] at hs
    rcases List.mem_append.1 hs with hs | hs
    · exact okUp_all k (by omega) h.1 s hs
    · have : s = l[k] := by simpa using hs
      subst this; exact h2.1
theorem okUp_of {l : List Sg} (ha : ∀ s ∈ l, sgOk s = true) (hi : IdsN l) : ∀ k, k ≤ l.length → okUp l k = true
  | 0, _ => rfl
  | k + 1, hk => by
    have hk2 : k < l.length := by omega
    refine okUp_next (okUp_of ha hi k (by omega)) (List.getElem?_eq_getElem hk2) (ha _ (List.getElem_mem hk2)) ?_
    unfold hasL
    rw [List.any_eq_false]
    intro s hs
    rw [decide_eq_true_iff]
    intro e
    obtain ⟨j, hj, hj2⟩ := List.mem_take_iff_getElem.1 hs
    have h1 : (atG l j).id = (atG l k).id := by
      unfold atG
      rw [List.getD_eq_getElem?_getD, List.getD_eq_getElem?_getD, List.getElem?_eq_getElem (by omega), List.getElem?_eq_getElem hk2, Option.getD_some, Option.getD_some, hj2]
      exact e
    have := ids_at hi (by omega) hk2 h1
    omega
theorem listOk_iff {l : List Sg} : listOk l = true ↔ l.length ≤ 30 ∧ (∀ s ∈ l, sgOk s = true) ∧ IdsN l := by
  constructor
  · intro h
    have h3 := listOk_ids h
    unfold listOk at h
    rw [Bool.and_eq_true, decide_eq_true_iff] at h
    have h1 := okUp_all l.length (Nat.le_refl _) h.2
    rw [List.take_length] at h1
    exact ⟨h.1, h1, h3⟩
  · intro h
    exact listOk_yes h.1 (okUp_of h.2.1 h.2.2 _ (Nat.le_refl _))
theorem chosen_mem {l : List Sg} {zs : List Int} (hz : ∀ z ∈ zs, 0 ≤ z ∧ z < (l.length : Int)) {s : Sg} (h : s ∈ chosenG l zs) : s ∈ l := by
  unfold chosenG at h
  obtain ⟨z, h1, rfl⟩ := List.mem_map.1 h
  have h2 := hz z h1
  rw [List.getD_eq_getElem?_getD, List.getElem?_eq_getElem (by omega), Option.getD_some]
  exact List.getElem_mem _
theorem chosen_length (l : List Sg) (zs : List Int) : (chosenG l zs).length = zs.length := by unfold chosenG; rw [List.length_map]
theorem listOk_chosen {l : List Sg} {zs : List Int} (h : listOk l = true) (hz : ∀ z ∈ zs, 0 ≤ z ∧ z < (l.length : Int)) (hd : zs.Pairwise (· ≠ ·)) (hn : zs.length ≤ 30) : listOk (chosenG l zs) = true := by
  rw [listOk_iff] at h ⊢
  exact ⟨by rw [chosen_length]; exact hn, fun s hs => h.2.1 s (chosen_mem hz hs), ids_chosen h.2.2 hz hd⟩
theorem ruleL_apart (l : List Sg) : (ruleL l).Pairwise (· ≠ ·) := by
  unfold ruleL
  rw [List.pairwise_map]
  have h := (ruleN_perm l).symm.nodup List.nodup_range
  exact h.imp fun {a b} hab e => hab (by have e2 : (a : Int) = (b : Int) := e; omega)
theorem listOk_ruled {l : List Sg} (h : listOk l = true) : listOk (ruledL l) = true := by
  have h1 := (listOk_iff.1 h).1
  exact listOk_chosen h (ruleL_in l) (ruleL_apart l) (by rw [ruleL_length]; exact h1)
/-! The sort. -/
abbrev Ix (n : Nat) := {i : Nat // i < n + 1}
instance (n : Nat) : Inhabited (Ix n) := ⟨⟨0, by omega⟩⟩
def encX {n : Nat} (i : Ix n) : Value := .int .i64 (i.1 : Int)
def cmpR (l : List Sg) (i j : Nat) : Int := if Lib.compareInt (keyG (atG l j)) (keyG (atG l i)) ≠ 0 then Lib.compareInt (keyG (atG l j)) (keyG (atG l i)) else Lib.compareInt (atG l i).id (atG l j).id
def cmpI (l : List Sg) {n : Nat} (x y : Ix n) : Int := cmpR l x.1 y.1
theorem cmpR_low (l : List Sg) (i j : Nat) : decide (cmpR l i j < 0) = lowB (atG l i) (atG l j) := by
  rw [Bool.eq_iff_iff, decide_eq_true_iff, lowB_iff]
  unfold cmpR Lib.compareInt
  split <;> split <;> (try split) <;> (try split) <;> (try split) <;> (try split) <;> omega
theorem cmpI_low (l : List Sg) {n : Nat} (x y : Ix n) : ltOf (cmpI l) x y = lowB (atG l x.1) (atG l y.1) := cmpR_low l x.1 y.1
theorem cmpI_swo (l : List Sg) (n : Nat) : SWO (ltOf (cmpI l (n := n))) where
  irrefl x := by rw [cmpI_low, lowB_no]; omega
  trans x y z h1 h2 := by rw [cmpI_low, lowB_iff] at *; omega
  ntrans x y z h1 h2 := by rw [cmpI_low, lowB_no] at *; omega
def valI (m : Nat) : Array (Ix m) := ((List.range (m + 1)).attachWith (· < m + 1) fun i hi => List.mem_range.1 hi).toArray
theorem valI_size (m : Nat) : (valI m).size = m + 1 := by simp [valI]
theorem valI_map (m : Nat) : (valI m).toList.map (·.1) = List.range (m + 1) := by unfold valI; simp
theorem valI_get {m i : Nat} (h : i < m + 1) : ((valI m)[i]!).1 = i := by
  have h2 : i < (valI m).size := by rw [valI_size]; exact h
  rw [getElem!_pos (valI m) i h2]
  have h1 : ((valI m).toList.map (·.1))[i]? = some i := by rw [valI_map, List.getElem?_range h]
  rw [List.getElem?_map, Array.getElem?_toList, Array.getElem?_eq_getElem h2] at h1
  simpa using h1
/-- What the library's sort leaves is the order of the rule. -/
theorem sorted_rule {l : List Sg} {m : Nat} (hm : l.length = m + 1) (h : IdsN l) {d : Array (Ix m)} (hp : PermIn 0 (valI m).size (valI m) d) (hs : SortedIn (ltOf (cmpI l)) 0 (valI m).size d) : d.size = m + 1 ∧ d.toList.map (·.1) = ruleN l := by
  obtain ⟨h1, _, h3⟩ := hp
  have e0 : (valI m).size = d.size := h1.symm
  rw [valI_size] at h1 hs
  refine ⟨h1, rule_unique h ?_ ?_⟩
  · have e1 : d.extract 0 (valI m).size = d := by rw [e0]; simp
    have e2 : (valI m).extract 0 (valI m).size = valI m := by simp
    rw [e1, e2] at h3
    have h4 := h3.map (fun x : Ix m => x.1)
    rw [valI_map] at h4
    rw [hm]
    exact h4
  · rw [List.pairwise_map, List.pairwise_iff_getElem]
    intro i j hi hj hij
    rw [Array.length_toList] at hi hj
    have h5 := hs i j (Nat.zero_le _) hij (by omega)
    rw [cmpI_low, getElem!_pos d j hj, getElem!_pos d i hi] at h5
    exact h5
/-- A slice that was made, of whose cells the first k hold their indices. -/
def UpN (M n k : Nat) (W : World) : Prop := ∀ i, i < n → W.cell? ⟨M, i, none⟩ = some (.int .i64 (if i < k then (i : Int) else 0)) ∧ W.frozen? ⟨M, i, none⟩ = false
theorem UpN.start {M n : Nat} {W : World} (h : ∀ i, i < n → W.cell? ⟨M, i, none⟩ = some (.int .i64 0) ∧ W.frozen? ⟨M, i, none⟩ = false) : UpN M n 0 W := fun i hi => by
  rw [if_neg (by omega)]; exact h i hi
theorem UpN.put {M n k : Nat} {W : World} (h : UpN M n k W) (hk : k < n) : UpN M n (k + 1) (W.setCell ⟨M, k, none⟩ (.int .i64 (k : Int))) := by
  intro j hj
  obtain ⟨h1, h2⟩ := h j hj
  by_cases e : j = k
  · subst e
    refine ⟨?_, by simpa [go_sem] using h2⟩
    rw [World.cell?_setCell_same _ _ _ h1, if_pos (by omega)]
  · refine ⟨?_, by simpa [go_sem] using h2⟩
    rw [World.cell?_setCell_other _ _ _ _ (by intro e2; injection e2 with _ e3; exact e e3.symm), h1]
    by_cases h3 : j < k
    · rw [if_pos h3, if_pos (by omega)]
    · rw [if_neg h3, if_neg (by omega)]
theorem holds_made {M n m : Nat} {W : World} (hm : n = m + 1) (h : UpN M n n W) : Holds encX W M 0 (valI m) := by
  subst hm
  intro j hj
  rw [valI_size] at hj
  obtain ⟨h1, h2⟩ := h j hj
  rw [if_pos hj] at h1
  rw [Nat.zero_add]
  refine ⟨?_, h2⟩
  unfold encX
  rw [valI_get hj]
  exact h1
theorem nums_holds {W : World} {b n : Nat} {m : Nat} {d : Array (Ix m)} (hn : d.size = n) (hm : n ≤ 1000) (hm2 : m ≤ 1000) (h : Holds encX W b 0 d) : NumsAt W (.slice (some ⟨b, 0, none⟩) n n) ((d.toList.map (fun x : Ix m => x.1)).map fun i : Nat => (i : Int)) := by
  subst hn
  refine .inr ⟨⟨b, 0, none⟩, d.size, by simp, by simp, by omega, fun k z hk => ?_⟩
  rw [List.getElem?_map, List.getElem?_map, Array.getElem?_toList] at hk
  have hlt : k < d.size := by
    rcases Nat.lt_or_ge k d.size with h1 | h1
    · exact h1
    · rw [Array.getElem?_eq_none h1] at hk; simp at hk
  rw [Array.getElem?_eq_getElem hlt] at hk
  have hk2 : ((d[k].1 : Nat) : Int) = z := by simpa using hk
  subst hk2
  have h1 := (h k hlt).1
  rw [getElem!_pos d k hlt, Nat.zero_add] at h1
  refine ⟨by rw [Go.WideShapes.add_plain, Nat.zero_add]; exact h1, ?_⟩
  have := d[k].2
  exact I64.mk (by omega) (by omega)
theorem below_sort {n : Nat} {w : World} {B b m : Nat} {d : Array (Ix n)} {os : Array Obj} (hb : B ≤ b) (hB : B ≤ w.heap.size) : Below B w (sortWorld encX w b 0 m d os) ∧ w.heap.size ≤ (sortWorld encX w b 0 m d os).heap.size := by
  have hz : w.heap.size ≤ (sortWorld encX w b 0 m d os).heap.size := by
    unfold sortWorld
    simp [grow, putRow, mapBlock, Sort.ahead]
  refine ⟨⟨rfl, rfl, rfl, hz, fun k hk => ?_⟩, hz⟩
  unfold sortWorld
  rw [heap_grow_old _ _ (by simp [putRow, mapBlock, Sort.ahead]; omega)]
  unfold putRow mapBlock
  rw [Array.getElem?_modify, if_neg (by omega)]
  rfl
end Go.Pb.Bung
