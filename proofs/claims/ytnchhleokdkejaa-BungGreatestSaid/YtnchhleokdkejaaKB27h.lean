/- The chapter's example is so. -/
import Derived.Test.YtnchhleokdkejaaKW7h
import Derived.Test.YtnchhleokdkejaaKSch
import Derived.Test.YtnchhleokdkejaaKB6h
import Derived.Test.YtnchhleokdkejaaKInRoundh
import Derived.Laws.AppendOwn
import Derived.OwnWalk
import Derived.Test.YtnchhleokdkejaaKCbh
import Derived.Test.YtnchhleokdkejaaKTdh
import Derived.Deep.LoopGhost
import Derived.Test.YtnchhleokdkejaaKLibh
namespace Go.Proofs.Ytnchhleokdkejaa
open Go.RowKit Go.Pb Go.Pb.Ware Go.Pb.Sag
set_option linter.unusedVariables false
set_option linter.unusedSimpArgs false

open Go.Proofs Go.Pb.Bung
theorem ex_new {w : World} : ExP (.slice (some ⟨w.heap.size, 0, none⟩) 3 3) (w.alloc (.cells #[.int .i64 1, .int .i64 100, .int .i64 120, .int .i64 300, .int .i64 350, .int .i64 200, .int .i64 210, .int .i64 5, .int .i64 2, .int .i64 80, .int .i64 90, .int .i64 150, .int .i64 200, .int .i64 200, .int .i64 210, .int .i64 10, .int .i64 3, .int .i64 60, .int .i64 60, .int .i64 50, .int .i64 60, .int .i64 100, .int .i64 100, .int .i64 0] 33)) := by
  have h := owns_new (w := w) (lo := 0) (T := 33) (n := 3) (size := 8) (xs := exG.flatMap cellsG) (by rfl) (by unfold maxLen; omega) (Nat.zero_le _)
  exact rows_of_owns (l := exG) h (exB_small ex_list)

set_option maxRecDepth 100000 in
set_option maxHeartbeats 400000 in
theorem example_any {w : World}  :
    Calls Try.prog 75 #[] w (fun e w' => ∃ u, e = .returned u ∧ Below w.heap.size w w' ∧ ExP u w') := by
  go_enter Try.func75, Try.ntmps75
  go_wp2_with fail
  go_ret
  exact ⟨_, rfl, (Below.refl _ _).alloc (Nat.le_refl _) _, ex_new⟩

set_option maxRecDepth 100000 in
set_option maxHeartbeats 400000 in
theorem set_b {w : World} {v u : Value} (h : ExP v w) (hz : NumP [0, 1, 2] u w) :
    Calls Try.prog 50 #[.agg #[.int .i64 5, .int .i64 10], v, u] w (fun e w' => ∃ u, e = .returned u ∧ Below w.heap.size w w' ∧ SetP w.heap.size exB u w') := by
  refine (Set_good (l := exG) (zs := [0, 1, 2]) h hz (by kernel_rfl) ex_list (by decide) (by kernel_rfl) (by decide)).mono ?_
  unfold SetRes
  rintro e w' ⟨v, rfl, hb, ho, hr⟩
  exact ⟨_, rfl, hb, v, rfl, ho, hr⟩

set_option maxRecDepth 100000 in
set_option maxHeartbeats 400000 in
theorem set_c {w : World} {v u : Value} (h : ExP v w) (hz : NumP [1, 0, 2] u w) :
    Calls Try.prog 50 #[.agg #[.int .i64 5, .int .i64 10], v, u] w (fun e w' => ∃ u, e = .returned u ∧ Below w.heap.size w w' ∧ SetP w.heap.size exC u w') := by
  refine (Set_good (l := exG) (zs := [1, 0, 2]) h hz (by kernel_rfl) ex_list (by decide) (by kernel_rfl) (by decide)).mono ?_
  unfold SetRes
  rintro e w' ⟨v, rfl, hb, ho, hr⟩
  exact ⟨_, rfl, hb, v, rfl, ho, hr⟩

theorem few_i64 : ∀ g ∈ ([[0, 2], [1]] : List (List Int)), ∀ z ∈ g, I64 z := by
  have h : ∀ g ∈ ([[0, 2], [1]] : List (List Int)), ∀ z ∈ g, -100000 ≤ z ∧ z ≤ 100000 := by decide
  exact fun g hg z hz => i64_small (h g hg z hz).1 (h g hg z hz).2
theorem exB_list : listOk exB = true := by kernel_rfl
theorem exC_list : listOk exC = true := by kernel_rfl
theorem setP_base {B B2 : Nat} {l : List Sg} {v : Value} {W : World} (hb : B2 ≤ B) (h : SetP B l v W) : SetP B2 l v W := by
  obtain ⟨u, h1, h2, h3⟩ := h
  exact ⟨u, h1, owns_base hb h2, h3⟩

set_option maxRecDepth 100000 in
set_option maxHeartbeats 400000 in
theorem few_c {w : World} {v : Value} (h : ExP v w) :
    Calls Try.prog 59 #[.agg #[.int .i64 5, .int .i64 10], v, .agg #[.int .i64 400, .int .i64 9]] w (fun e w' => ∃ u, e = .returned u ∧ Below w.heap.size w w' ∧ LstP [[0, 2], [1]] u w') := by
  refine (Fewest_any h ex_few).mono ?_
  unfold FewRes
  rintro e w' ⟨v, rfl, hb, hg⟩
  exact ⟨_, rfl, hb, v, rfl, groupsAt_lists hg few_i64⟩

theorem ranges_new {w : World} : RowsAt 2 (w.alloc (.cells #[.int .i64 140, .int .i64 150, .int .i64 60, .int .i64 60, .int .i64 0, .int .i64 0] 23)) (.slice (some ⟨w.heap.size, 0, none⟩) 3 3) [[140, 150], [60, 60], [0, 0]] := by
  have h := owns_new (w := w) (lo := 0) (T := 23) (n := 3) (size := 2) (xs := ([[140, 150], [60, 60], [0, 0]] : List (List Int)).flatten.map (Value.int .i64)) (by rfl) (by unfold maxLen; omega) (Nat.zero_le _)
  have hs : ∀ r ∈ ([[140, 150], [60, 60], [0, 0]] : List (List Int)), r.length = 2 ∧ ∀ z ∈ r, -100000 ≤ z ∧ z ≤ 100000 := by decide
  exact rowsAt_of_owns (e := 23) (base := 0) (fun r hr => (hs r hr).1) h (fun r hr z hz => i64_small ((hs r hr).2 z hz).1 ((hs r hr).2 z hz).2)

theorem lists_new2 {w1 : World} {T1 T2 T3 : TypeId} : ListsAt (.slice (some ⟨w1.heap.size + 1 + 1, 0, none⟩) 2 2) [[0, 2], [1]] (((w1.alloc (.cells #[.int .i64 0, .int .i64 2] T1)).alloc (.cells #[.int .i64 1] T2)).alloc (.cells #[.slice (some ⟨w1.heap.size, 0, none⟩) 2 2, .slice (some ⟨w1.heap.size + 1, 0, none⟩) 1 1] T3)) := by
  have e1 := nums_new (w := w1) (T := T1) (zs := [0, 2]) rfl (by decide) (by decide)
  have e2 := nums_new (w := w1.alloc (.cells #[.int .i64 0, .int .i64 2] T1)) (B := w1.heap.size + 1) (T := T2) (zs := [1]) (by simp) (by decide) (by decide)
  refine ⟨some ⟨w1.heap.size + 1 + 1, 0, none⟩, 2, rfl, fun k g hg => ?_⟩
  match k, hg with
  | 0, hg =>
    simp at hg
    subst hg
    exact ⟨_, rfl, .slice (some ⟨w1.heap.size, 0, none⟩) 2 2, by simp [go_sem], e1.below (((Below.refl _ _).alloc (Nat.le_refl _) _).alloc (by simp) _)⟩
  | 1, hg =>
    simp at hg
    subst hg
    exact ⟨_, rfl, .slice (some ⟨w1.heap.size + 1, 0, none⟩) 1 1, by simp [go_sem], e2.below ((Below.refl _ _).alloc (Nat.le_refl _) _)⟩
  | k + 2, hg => simp at hg

set_option maxRecDepth 100000 in
set_option maxHeartbeats 2000000 in
theorem sane_any {w : World}  :
    Calls Try.prog 19 #[] w (Ret w (.bool true)) := by
  unfold Ret
  go_enter Try.func19, Try.ntmps19
  go_upto_region 2 with fail
  generalize hW : World.alloc w _ = v1
  have y0 : CellsAt v1 w.heap.size [.int .i64 5, .int .i64 10] := by rw [← hW]; exact CellsAt.new w [.int .i64 5, .int .i64 10] 23
  have hb0 : Below w.heap.size w v1 := by rw [← hW]; exact (Below.refl _ _).alloc (Nat.le_refl _) _
  have hlt0 : w.heap.size < v1.heap.size := by rw [← hW]; simp
  clear hW
  have q0 := (y0 0 _ rfl).1; have q1 := (y0 1 _ rfl).1
  refine wp_region_Rl (l' := _) 8 6 rfl rfl rfl rfl rfl (by kernel_rfl) [(1, ExP), (2, NumP [0, 1, 2]), (3, SetP v1.heap.size exB), (7, NewT v1.heap.size 26 [.int .i64 0, .int .i64 0, .slice none 0 0])] [0, 1, 2, 3, 4, 5, 6, 7] 2 (by kernel_rfl) rfl (by simp only [List.forall_mem_cons]; exact ⟨keeps_ex, keeps_num, keeps_set, keeps_newT, fun _ h => by cases h⟩) (by kernel_rfl) ?_
  simp only [numbered, bound, List.set_cons_succ, List.set_cons_zero, List.filterMap_cons, List.filterMap_nil, List.getElem?_toArray, List.getElem?_cons_succ, List.getElem?_cons_zero, Option.map_some]
  show wpS _ _ _ _ _ _ _ [(_, _), (_, _), (_, _), (_, _), (_, _), (_, _), (_, _), (_, _)] _ _
  (refine wpS_quiet rfl rfl ?_; intro K hK inst hx; have s0 := fun x => (fun _ => bkeep (BQ.below x) q0) (hx x); have s1 := fun x => (fun _ => bkeep (BQ.below x) q1) (hx x); go_big_quiet_op; (first | go_big_quiet_on | (refine ⟨_, fun _ => rfl, ?_⟩; go_big_quiet_on)); clear hx inst)
  refine wpS_fresh rfl rfl (fun w' hb hF => ?_) ?_
  · change freshAt _ _ _ (ExP) _; unfold freshAt; go_simp; exact example_any
  intro v W hv; simp only [pOf, List.lookup_cons, Nat.reduceBEq, beq_self_eq_true] at hv; obtain ⟨ea, ec, rfl, -⟩ := RowsAt.shape hv
  simp only [Act.put, List.setIfInBounds_toArray, List.set_cons_succ, List.set_cons_zero]
  refine wpS_fresh rfl rfl (fun w' hb hF => ?_) ?_
  · change freshAt _ _ _ (NumP [0, 1, 2]) _; unfold freshAt; go_simp; exact ⟨(Below.refl _ _).alloc (Nat.le_refl _) _, nums_new (zs := [0, 1, 2]) rfl (by decide) (by decide)⟩
  intro v W hv; simp only [pOf, List.lookup_cons, Nat.reduceBEq, beq_self_eq_true] at hv; obtain ⟨ia, ic, rfl, -⟩ := NumsAt.shape hv
  simp only [Act.put, List.setIfInBounds_toArray, List.set_cons_succ, List.set_cons_zero]
  refine wpS_fresh rfl rfl (fun w' hb hF => ?_) ?_
  · change freshAt _ _ _ (SetP v1.heap.size exB) _; have h1 := hF 1 _ rfl (by kernel_rfl); have h2 := hF 2 _ rfl (by kernel_rfl); unfold freshAt; go_simp; exact (set_b h1 h2).mono fun e W2 ⟨u, he, hb2, hs⟩ => ⟨u, he, hb2, setP_base hb.size hs⟩
  intro v W hv; simp only [pOf, List.lookup_cons, Nat.reduceBEq, beq_self_eq_true] at hv; obtain ⟨u, rfl, hu1, -⟩ := hv; obtain ⟨ub, cb, rfl, -⟩ := owns_shape hu1; clear hu1
  simp only [Act.put, List.setIfInBounds_toArray, List.set_cons_succ, List.set_cons_zero]
  (refine wpS_quiet rfl rfl ?_; intro K hK inst hx; go_big_quiet_op; (first | go_big_quiet_on | (refine ⟨_, fun _ => rfl, ?_⟩; go_big_quiet_on)); clear hx inst)
  (refine wpS_quiet rfl rfl ?_; intro K hK inst hx; go_big_quiet_op; (first | go_big_quiet_on | (refine ⟨_, fun _ => rfl, ?_⟩; go_big_quiet_on)); clear hx inst)
  (refine wpS_quiet rfl rfl ?_; intro K hK inst hx; go_big_quiet_op; (first | go_big_quiet_on | (refine ⟨_, fun _ => rfl, ?_⟩; go_big_quiet_on)); clear hx inst)
  refine wpS_fresh rfl rfl (fun w' hb hF => ?_) ?_
  · change freshAt _ _ _ (NewT v1.heap.size 26 [.int .i64 0, .int .i64 0, .slice none 0 0]) _; unfold freshAt; go_simp; exact newT_of hb
  intro v W hv; simp only [pOf, List.lookup_cons, Nat.reduceBEq, beq_self_eq_true] at hv; obtain ⟨Bb, hBb, rfl, _⟩ := hv
  simp only [Act.put, List.setIfInBounds_toArray, List.set_cons_succ, List.set_cons_zero]
  refine wpS_nil ?_
  intro w2 hall
  have hb := hall.1
  obtain ⟨u', eu, ho, hrb⟩ : SetP v1.heap.size exB _ w2 := hall.2 3 _ rfl
  obtain rfl : _ = u' := by simpa using eu
  obtain ⟨B', hB', hv', hn⟩ : NewT v1.heap.size 26 [.int .i64 0, .int .i64 0, .slice none 0 0] (.pointer (some ⟨Bb, 0, none⟩)) w2 := hall.2 7 _ rfl
  obtain rfl : Bb = B' := by simpa using hv'
  have hap := newT_apart hn ho (by decide)
  have yt := newT_cells hn
  clear hall hn hv' eu hrb
  have n0 := (yt 0 _ rfl).1; have n1 := (yt 1 _ rfl).1; have n2 := (yt 2 _ rfl).1; have m0 := (yt 0 _ rfl).2; have m1 := (yt 1 _ rfl).2; have m2 := (yt 2 _ rfl).2
  refine wpAny_ready (rs := [8]) (by kernel_rfl) (by simp) ?_
  refine AllReady.cons rfl (fun K hK => ?_) AllReady.nil
  go_simp
  refine hK _ _ ?_; clear hK K
  refine wpAny_ready (rs := [9]) (by kernel_rfl) (by simp) ?_
  refine AllReady.cons rfl (fun K hK => ?_) AllReady.nil
  go_simp
  refine hK _ _ ?_; clear hK K
  refine wpAny_done (by kernel_rfl) ?_ _
  refine ⟨rfl, ?_⟩
  clear n0 n1 n2 m0 m1 m2
  have hN : Below v1.heap.size v1 (((w2.setCell ⟨Bb, 0, none⟩ (.int .i64 5)).setCell ⟨Bb, 1, none⟩ (.int .i64 10)).setCell ⟨Bb, 2, none⟩ (.slice ub exB.length cb)) := ((hb.setCell (p := ⟨Bb, 0, none⟩) hB' _).setCell (p := ⟨Bb, 1, none⟩) hB' _).setCell (p := ⟨Bb, 2, none⟩) hB' _
  have yb : CellsAt (((w2.setCell ⟨Bb, 0, none⟩ (.int .i64 5)).setCell ⟨Bb, 1, none⟩ (.int .i64 10)).setCell ⟨Bb, 2, none⟩ (.slice ub exB.length cb)) Bb [.int .i64 5, .int .i64 10, .slice ub exB.length cb] := cells_store (o := 2) (cells_store (o := 1) (cells_store (o := 0) yt))
  have ho2 := own_store (o := 2) (u := .slice ub exB.length cb) (own_store (o := 1) (u := .int .i64 10) (own_store (o := 0) (u := .int .i64 5) ho hap) hap) hap
  have hrb := rows_of_owns ho2 (exB_small exB_list)
  clear ho ho2 hap yt hb q0 q1
  generalize World.setCell _ _ _ = v2 at *
  replace y0 := y0.below hN
  replace hb0 := bnext (w := w) hb0 hN
  clear hN
  have q0 := (y0 0 _ rfl).1; have q1 := (y0 1 _ rfl).1
  go_upto_region 3 with fail
  refine wp_region_Rl (l' := _) 8 6 rfl rfl rfl rfl rfl (by kernel_rfl) [(1, ExP), (2, NumP [1, 0, 2]), (3, SetP v2.heap.size exC), (7, NewT v2.heap.size 26 [.int .i64 0, .int .i64 0, .slice none 0 0])] [0, 1, 2, 3, 4, 5, 6, 7] 2 (by kernel_rfl) rfl (by simp only [List.forall_mem_cons]; exact ⟨keeps_ex, keeps_num, keeps_set, keeps_newT, fun _ h => by cases h⟩) (by kernel_rfl) ?_
  simp only [numbered, bound, List.set_cons_succ, List.set_cons_zero, List.filterMap_cons, List.filterMap_nil, List.getElem?_toArray, List.getElem?_cons_succ, List.getElem?_cons_zero, Option.map_some]
  show wpS _ _ _ _ _ _ _ [(_, _), (_, _), (_, _), (_, _), (_, _), (_, _), (_, _), (_, _)] _ _
  (refine wpS_quiet rfl rfl ?_; intro K hK inst hx; have s0 := fun x => (fun _ => bkeep (BQ.below x) q0) (hx x); have s1 := fun x => (fun _ => bkeep (BQ.below x) q1) (hx x); go_big_quiet_op; (first | go_big_quiet_on | (refine ⟨_, fun _ => rfl, ?_⟩; go_big_quiet_on)); clear hx inst)
  refine wpS_fresh rfl rfl (fun w' hb hF => ?_) ?_
  · change freshAt _ _ _ (ExP) _; unfold freshAt; go_simp; exact example_any
  intro v W hv; simp only [pOf, List.lookup_cons, Nat.reduceBEq, beq_self_eq_true] at hv; obtain ⟨ea, ec, rfl, -⟩ := RowsAt.shape hv
  simp only [Act.put, List.setIfInBounds_toArray, List.set_cons_succ, List.set_cons_zero]
  refine wpS_fresh rfl rfl (fun w' hb hF => ?_) ?_
  · change freshAt _ _ _ (NumP [1, 0, 2]) _; unfold freshAt; go_simp; exact ⟨(Below.refl _ _).alloc (Nat.le_refl _) _, nums_new (zs := [1, 0, 2]) rfl (by decide) (by decide)⟩
  intro v W hv; simp only [pOf, List.lookup_cons, Nat.reduceBEq, beq_self_eq_true] at hv; obtain ⟨ia, ic, rfl, -⟩ := NumsAt.shape hv
  simp only [Act.put, List.setIfInBounds_toArray, List.set_cons_succ, List.set_cons_zero]
  refine wpS_fresh rfl rfl (fun w' hb hF => ?_) ?_
  · change freshAt _ _ _ (SetP v2.heap.size exC) _; have h1 := hF 1 _ rfl (by kernel_rfl); have h2 := hF 2 _ rfl (by kernel_rfl); unfold freshAt; go_simp; exact (set_c h1 h2).mono fun e W2 ⟨u, he, hb2, hs⟩ => ⟨u, he, hb2, setP_base hb.size hs⟩
  intro v W hv; simp only [pOf, List.lookup_cons, Nat.reduceBEq, beq_self_eq_true] at hv; obtain ⟨u, rfl, hu1, -⟩ := hv; obtain ⟨uc, cc, rfl, -⟩ := owns_shape hu1; clear hu1
  simp only [Act.put, List.setIfInBounds_toArray, List.set_cons_succ, List.set_cons_zero]
  (refine wpS_quiet rfl rfl ?_; intro K hK inst hx; go_big_quiet_op; (first | go_big_quiet_on | (refine ⟨_, fun _ => rfl, ?_⟩; go_big_quiet_on)); clear hx inst)
  (refine wpS_quiet rfl rfl ?_; intro K hK inst hx; go_big_quiet_op; (first | go_big_quiet_on | (refine ⟨_, fun _ => rfl, ?_⟩; go_big_quiet_on)); clear hx inst)
  (refine wpS_quiet rfl rfl ?_; intro K hK inst hx; go_big_quiet_op; (first | go_big_quiet_on | (refine ⟨_, fun _ => rfl, ?_⟩; go_big_quiet_on)); clear hx inst)
  refine wpS_fresh rfl rfl (fun w' hb hF => ?_) ?_
  · change freshAt _ _ _ (NewT v2.heap.size 26 [.int .i64 0, .int .i64 0, .slice none 0 0]) _; unfold freshAt; go_simp; exact newT_of hb
  intro v W hv; simp only [pOf, List.lookup_cons, Nat.reduceBEq, beq_self_eq_true] at hv; obtain ⟨Bc, hBc, rfl, _⟩ := hv
  simp only [Act.put, List.setIfInBounds_toArray, List.set_cons_succ, List.set_cons_zero]
  refine wpS_nil ?_
  intro w2 hall
  have hb := hall.1
  obtain ⟨u', eu, ho, hrc⟩ : SetP v2.heap.size exC _ w2 := hall.2 3 _ rfl
  obtain rfl : _ = u' := by simpa using eu
  obtain ⟨B', hB', hv', hn⟩ : NewT v2.heap.size 26 [.int .i64 0, .int .i64 0, .slice none 0 0] (.pointer (some ⟨Bc, 0, none⟩)) w2 := hall.2 7 _ rfl
  obtain rfl : Bc = B' := by simpa using hv'
  have hap := newT_apart hn ho (by decide)
  have yt := newT_cells hn
  clear hall hn hv' eu hrc
  have n0 := (yt 0 _ rfl).1; have n1 := (yt 1 _ rfl).1; have n2 := (yt 2 _ rfl).1; have m0 := (yt 0 _ rfl).2; have m1 := (yt 1 _ rfl).2; have m2 := (yt 2 _ rfl).2
  refine wpAny_ready (rs := [8]) (by kernel_rfl) (by simp) ?_
  refine AllReady.cons rfl (fun K hK => ?_) AllReady.nil
  go_simp
  refine hK _ _ ?_; clear hK K
  refine wpAny_ready (rs := [9]) (by kernel_rfl) (by simp) ?_
  refine AllReady.cons rfl (fun K hK => ?_) AllReady.nil
  go_simp
  refine hK _ _ ?_; clear hK K
  refine wpAny_done (by kernel_rfl) ?_ _
  refine ⟨rfl, ?_⟩
  clear n0 n1 n2 m0 m1 m2
  have hN : Below v2.heap.size v2 (((w2.setCell ⟨Bc, 0, none⟩ (.int .i64 5)).setCell ⟨Bc, 1, none⟩ (.int .i64 10)).setCell ⟨Bc, 2, none⟩ (.slice uc exC.length cc)) := ((hb.setCell (p := ⟨Bc, 0, none⟩) hB' _).setCell (p := ⟨Bc, 1, none⟩) hB' _).setCell (p := ⟨Bc, 2, none⟩) hB' _
  have yc : CellsAt (((w2.setCell ⟨Bc, 0, none⟩ (.int .i64 5)).setCell ⟨Bc, 1, none⟩ (.int .i64 10)).setCell ⟨Bc, 2, none⟩ (.slice uc exC.length cc)) Bc [.int .i64 5, .int .i64 10, .slice uc exC.length cc] := cells_store (o := 2) (cells_store (o := 1) (cells_store (o := 0) yt))
  have ho2 := own_store (o := 2) (u := .slice uc exC.length cc) (own_store (o := 1) (u := .int .i64 10) (own_store (o := 0) (u := .int .i64 5) ho hap) hap) hap
  have hrc := rows_of_owns ho2 (exB_small exC_list)
  clear ho ho2 hap yt hb q0 q1
  generalize World.setCell _ _ _ = v3 at *
  replace y0 := y0.below hN
  replace yb := yb.below hN
  replace hrb := hrb.below hN
  replace hb0 := bnext (w := w) hb0 hN
  clear hN
  have q0 := (yb 0 _ rfl).1; have q1 := (yb 1 _ rfl).1; have q2 := (yb 2 _ rfl).1
  go_wp2_with fail
  refine (Loads_good hrb ex_b).mono ?_
  rintro e w1 ⟨lv, rfl, hb, hlo⟩
  replace y0 := y0.below hb
  replace yb := yb.below hb
  replace hrb := hrb.below hb
  replace yc := yc.below hb
  replace hrc := hrc.below hb
  replace hb0 := bnext (w := w) hb0 hb
  clear hb q0 q1 q2
  rw [ex_loads] at hlo
  have q0 := (yb 0 _ rfl).1; have q1 := (yb 1 _ rfl).1; have q2 := (yb 2 _ rfl).1
  go_wp2_with fail
  refine (Stands_any (r := (1, 0)) hrb ex_st1).mono ?_
  rintro e w1 ⟨rfl, hb⟩
  replace y0 := y0.below hb
  replace yb := yb.below hb
  replace hrb := hrb.below hb
  replace yc := yc.below hb
  replace hrc := hrc.below hb
  replace hlo := hlo.below hb
  replace hb0 := bnext (w := w) hb0 hb
  clear hb q0 q1 q2
  have q0 := (yc 0 _ rfl).1; have q1 := (yc 1 _ rfl).1; have q2 := (yc 2 _ rfl).1
  go_wp2_with fail
  refine (Stands_any (r := (2, 0)) hrc ex_st2).mono ?_
  rintro e w1 ⟨rfl, hb⟩
  replace y0 := y0.below hb
  replace yb := yb.below hb
  replace hrb := hrb.below hb
  replace yc := yc.below hb
  replace hrc := hrc.below hb
  replace hlo := hlo.below hb
  replace hb0 := bnext (w := w) hb0 hb
  clear hb q0 q1 q2
  have q0 := (yb 0 _ rfl).1; have q1 := (yb 1 _ rfl).1; have q2 := (yb 2 _ rfl).1
  go_wp2_with fail
  refine (Lean_any (r := (4, 0)) hrb ex_lean).mono ?_
  rintro e w1 ⟨rfl, hb⟩
  replace y0 := y0.below hb
  replace yb := yb.below hb
  replace hrb := hrb.below hb
  replace yc := yc.below hb
  replace hrc := hrc.below hb
  replace hlo := hlo.below hb
  replace hb0 := bnext (w := w) hb0 hb
  clear hb q0 q1 q2
  have q0 := (yc 0 _ rfl).1; have q1 := (yc 1 _ rfl).1; have q2 := (yc 2 _ rfl).1
  go_wp2_with fail
  refine (Breaks_good hrc ex_c ex_first (by decide) ex_bl).mono ?_
  rintro e w1 ⟨xv, rfl, hb, hxw⟩
  replace y0 := y0.below hb
  replace yb := yb.below hb
  replace hrb := hrb.below hb
  replace yc := yc.below hb
  replace hrc := hrc.below hb
  replace hlo := hlo.below hb
  replace hb0 := bnext (w := w) hb0 hb
  clear hb q0 q1 q2
  rw [ex_wh] at hxw
  obtain ⟨xa, xc, rfl, -⟩ := hxw.shape
  obtain ⟨v4, hv4⟩ : ∃ v, v = w1 := ⟨_, rfl⟩
  subst hv4
  go_upto_region 9 with fail
  generalize hW : World.alloc _ _ = v5
  have hN : Below v4.heap.size v4 v5 := by rw [← hW]; exact (Below.refl _ _).alloc (Nat.le_refl _) _
  have yx : CellsAt v5 v4.heap.size [.int .i64 0, .int .i64 150, .slice xa 2 xc] := by rw [← hW]; exact CellsAt.new v4 [.int .i64 0, .int .i64 150, .slice xa 2 xc] 54
  clear hW
  replace y0 := y0.below hN
  replace yb := yb.below hN
  replace hrb := hrb.below hN
  replace yc := yc.below hN
  replace hrc := hrc.below hN
  replace hlo := hlo.below hN
  replace hxw := hxw.below hN
  replace hb0 := bnext (w := w) hb0 hN
  clear hN
  have q0 := (y0 0 _ rfl).1; have q1 := (y0 1 _ rfl).1
  refine wp_region_Rs [(1, ExP), (3, LstP [[0, 2], [1]])] [0, 1, 2, 3, 4, 5, 6, 7, 8] 0 (by kernel_rfl) rfl (by simp only [List.forall_mem_cons]; exact ⟨keeps_ex, keeps_lst, fun _ h => by cases h⟩) (by kernel_rfl) ?_
  simp only [numbered, List.filterMap_cons, List.filterMap_nil, List.getElem?_toArray, List.getElem?_cons_succ, List.getElem?_cons_zero, Option.map_some]
  show wpS _ _ _ _ _ _ _ [(_, _), (_, _), (_, _), (_, _), (_, _), (_, _), (_, _), (_, _), (_, _)] _ _
  (refine wpS_quiet rfl rfl ?_; intro K hK inst hx; have s0 := fun x => (fun _ => bkeep (BQ.below x) q0) (hx x); have s1 := fun x => (fun _ => bkeep (BQ.below x) q1) (hx x); go_big_quiet_op; (first | go_big_quiet_on | (refine ⟨_, fun _ => rfl, ?_⟩; go_big_quiet_on)); clear hx inst)
  refine wpS_fresh rfl rfl (fun w' hb hF => ?_) ?_
  · change freshAt _ _ _ (ExP) _; unfold freshAt; go_simp; exact example_any
  intro v W hv; simp only [pOf, List.lookup_cons, Nat.reduceBEq, beq_self_eq_true] at hv; obtain ⟨ea, ec, rfl, -⟩ := RowsAt.shape hv
  simp only [Act.put, List.setIfInBounds_toArray, List.set_cons_succ, List.set_cons_zero]
  (refine wpS_quiet rfl rfl ?_; intro K hK inst hx; go_big_quiet_op; (first | go_big_quiet_on | (refine ⟨_, fun _ => rfl, ?_⟩; go_big_quiet_on)); clear hx inst)
  refine wpS_fresh rfl rfl (fun w' hb hF => ?_) ?_
  · change freshAt _ _ _ (LstP [[0, 2], [1]]) _; have h1 := hF 1 _ rfl (by kernel_rfl); unfold freshAt; go_simp; exact few_c h1
  intro v W hv; simp only [pOf, List.lookup_cons, Nat.reduceBEq, beq_self_eq_true] at hv; obtain ⟨pv, rfl, hp1⟩ := hv; clear hp1
  simp only [Act.put, List.setIfInBounds_toArray, List.set_cons_succ, List.set_cons_zero]
  (refine wpS_quiet rfl rfl ?_; intro K hK inst hx; go_big_quiet_op; (first | go_big_quiet_on | (refine ⟨_, fun _ => rfl, ?_⟩; go_big_quiet_on)); clear hx inst)
  (refine wpS_quiet rfl rfl ?_; intro K hK inst hx; go_big_quiet_op; (first | go_big_quiet_on | (refine ⟨_, fun _ => rfl, ?_⟩; go_big_quiet_on)); clear hx inst)
  (refine wpS_quiet rfl rfl ?_; intro K hK inst hx; go_big_quiet_op; (first | go_big_quiet_on | (refine ⟨_, fun _ => rfl, ?_⟩; go_big_quiet_on)); clear hx inst)
  (refine wpS_quiet rfl rfl ?_; intro K hK inst hx; go_big_quiet_op; (first | go_big_quiet_on | (refine ⟨_, fun _ => rfl, ?_⟩; go_big_quiet_on)); clear hx inst)
  (refine wpS_quiet rfl rfl ?_; intro K hK inst hx; go_big_quiet_op; (first | go_big_quiet_on | (refine ⟨_, fun _ => rfl, ?_⟩; go_big_quiet_on)); clear hx inst)
  refine wpS_nil ?_
  intro v6 hall
  have hb := hall.1
  obtain ⟨u', eu, hgp⟩ : LstP [[0, 2], [1]] _ v6 := hall.2 3 _ rfl
  obtain rfl : pv = u' := by simpa using eu
  clear hall eu q0 q1
  replace y0 := y0.below hb
  replace yb := yb.below hb
  replace hrb := hrb.below hb
  replace yc := yc.below hb
  replace hrc := hrc.below hb
  replace hlo := hlo.below hb
  replace hxw := hxw.below hb
  replace yx := yx.below hb
  replace hb0 := bnext (w := w) hb0 hb
  clear hb
  refine wpAny_done (by kernel_rfl) ?_ _
  have hzz := hb0.size
  go_wp2_with fail
  refine (sameRanges_any (b := true) (hlo.below (by go_grown)) ranges_new (by decide) (by decide)).mono ?_
  rintro e w1 ⟨rfl, hb⟩
  replace hb0 := bnext (w := w) (by go_grown) hb
  replace yx := (yx.below (by go_grown)).below hb
  replace hxw := (hxw.below (by go_grown)).below hb
  replace hgp := (hgp.below (by go_grown)).below hb
  clear hb hzz
  have hzz := hb0.size
  go_wp2_with fail
  refine (sameParts_any (b := true) (hgp.below (by go_grown)) lists_new2 (by decide) (by decide) (by decide)).mono ?_
  rintro e w1 ⟨rfl, hb⟩
  replace hb0 := bnext (w := w) (by go_grown) hb
  replace yx := (yx.below (by go_grown)).below hb
  replace hxw := (hxw.below (by go_grown)).below hb
  replace hgp := (hgp.below (by go_grown)).below hb
  clear hb hzz
  have q2 := (yx 2 _ rfl).1
  have hzz := hb0.size
  go_wp2_with fail
  refine (same01_any (b := true) (hxw.below (by go_grown)) (nums_new (zs := [120, 60]) (by simp) (by decide) (by decide)) (by decide) (by decide)).mono ?_
  rintro e w1 ⟨rfl, hb⟩
  replace hb0 := bnext (w := w) (by go_grown) hb
  replace yx := (yx.below (by go_grown)).below hb
  replace hxw := (hxw.below (by go_grown)).below hb
  replace hgp := (hgp.below (by go_grown)).below hb
  clear hb hzz
  have q0 := (yx 0 _ rfl).1; have q1 := (yx 1 _ rfl).1
  go_wp2_with fail
  go_ret
  exact ⟨rfl, hb0⟩

end Go.Proofs.Ytnchhleokdkejaa

/- Rule and CanStand, on both sides; BungRules returns true. -/
namespace Go.Proofs.Ytnchhleokdkejaa
open Go.RowKit Go.Pb Go.Pb.Ware Go.Pb.Sag
set_option linter.unusedVariables false
set_option linter.unusedSimpArgs false

open Go.Proofs Go.Pb.Bung
def csB (l : List Sg) : Bool := decide (stA (ruledL l) = 1)
def csA (l : List Sg) : Bool × Int := if listOk l = true then (csB l, 0) else (false, 30)

set_option maxRecDepth 100000 in
set_option maxHeartbeats 800000 in
theorem canP {w : World} {v : Value} {l : List Sg} (h : RowsAt 8 w v (l.map rowG)) {r : _} (hr : csA l = r) :
    Calls Try.prog 48 #[v] w (Ret w (.tuple #[.bool r.1, .int .i64 r.2])) := by
  unfold Ret
  obtain ⟨a, cap, rfl, hll⟩ := h.shape
  rw [List.length_map] at h hll ⊢
  obtain ⟨n, hn⟩ : ∃ n, l.length = n := ⟨_, rfl⟩
  rw [hn] at h hll ⊢
  clear hn
  obtain ⟨b, hb⟩ : ∃ b, listOk l = b := ⟨_, rfl⟩
  have hcl := ckLs_of hb
  cases b
  · rw [if_neg (by simp)] at hcl
    obtain rfl : r = (false, 30) := by rw [← hr]; unfold csA; rw [hb]; rfl
    have HC := hid hcl; clear hcl hr hb
    go_enter Try.func48, Try.ntmps48
    go_wp2_with fail
    refine (ckLs_any (h.below (by go_grown)) HC.out).mono ?_
    rintro e w1 ⟨rfl, hb⟩
    replace hb0 := bnext (w := w) (by go_grown) hb; have hz := hb.size; (try simp only [World.size_alloc, World.size_setCell] at hz); obtain ⟨hc, hf⟩ := bcell hb; skip
    clear hb
    go_wp2_with fail
    go_ret2
    exact ⟨rfl, by first | exact hb0 | go_grown⟩
  · rw [if_pos rfl] at hcl
    obtain ⟨q, hq⟩ : ∃ q, csB l = q := ⟨_, rfl⟩
    obtain rfl : r = (q, 0) := by rw [← hr, ← hq]; unfold csA; rw [hb]; rfl
    obtain ⟨z, hz⟩ : ∃ z, stA (ruledL l) = z := ⟨_, rfl⟩
    have hqz : q = decide (z = 1) := by rw [← hq, ← hz]; rfl
    have hkr := listOk_ruled hb
    have hi1 := i64_chosen (zs := ruleL l) (i64_rows h)
    have HC := hid hcl; have HK := hid hb; have HQ := hid hq; have HZ := hid hz; clear hcl hr hb hq hz
    go_enter Try.func48, Try.ntmps48
    go_wp2_with fail
    refine (ckLs_any (h.below (by go_grown)) HC.out).mono ?_
    rintro e w1 ⟨rfl, hb⟩
    replace hb0 := bnext (w := w) (by go_grown) hb; have hz := hb.size; (try simp only [World.size_alloc, World.size_setCell] at hz); obtain ⟨hc, hf⟩ := bcell hb; skip
    clear hb
    go_wp2_with fail
    refine (ruled_any (h.below (by go_grown)) HK.out).mono ?_
    unfold NewSgs
    rintro e w1 ⟨y, rfl, hb, ho⟩
    obtain ⟨ya, yc, rfl, -⟩ := owns_shape ho
    replace hb0 := bnext (w := w) (by go_grown) hb; have hz := hb.size; (try simp only [World.size_alloc, World.size_setCell] at hz); obtain ⟨hc, hf⟩ := bcell hb; clear hb
    have hr2 := rows_of_owns ho hi1
    clear ho
    go_wp2_with fail
    refine (stands_any hr2 (listOk_iff.1 hkr).1 (sg_bounds hkr)).mono ?_
    rintro e w1 ⟨rfl, hb⟩
    replace hb0 := bnext (w := w) (by go_grown) hb; have hz := hb.size; (try simp only [World.size_alloc, World.size_setCell] at hz); obtain ⟨hc, hf⟩ := bcell hb; clear hb
    clear hr2
    rw [HZ.out]
    subst hqz
    go_wp2_with fail
    go_ret2
    exact ⟨rfl, hb0⟩

end Go.Proofs.Ytnchhleokdkejaa

/- A job is checked, and whether all its bungs do, by the reference. -/
namespace Go.Proofs.Ytnchhleokdkejaa
open Go.RowKit Go.Pb Go.Pb.Ware Go.Pb.Sag
set_option linter.unusedVariables false
set_option linter.unusedSimpArgs false

open Go.Proofs Go.Pb.Bung
def allB (lo hi : Int) (l : List Sg) (cr le : Int) (gs : List (List Int)) : Bool := gs.all (doesB lo hi l cr le)
end Go.Proofs.Ytnchhleokdkejaa

/- Whether lists are parts of things. -/
namespace Go.Proofs.Ytnchhleokdkejaa
open Go.RowKit Go.Pb Go.Pb.Ware Go.Pb.Sag
set_option linter.unusedVariables false
set_option linter.unusedSimpArgs false

theorem nodup_snoc {l : List Int} {z : Int} (h : l.Nodup) (hz : z ∉ l) : (l ++ [z]).Nodup := by
  rw [List.nodup_append]
  exact ⟨h, by simp, fun a ha b hb e => by simp at hb; subst hb; exact hz (e ▸ ha)⟩
/-- Which numbers below n have been seen. -/
def SeenAt (B n : Nat) (seen : List Int) (W : World) : Prop := ∀ i : Nat, i < n → W.cell? ⟨B, i, none⟩ = some (.bool (seen.contains (i : Int))) ∧ W.frozen? ⟨B, i, none⟩ = false
theorem SeenAt.below {B n : Nat} {seen : List Int} {W W' : World} (h : SeenAt B n seen W) (hb : Below W.heap.size W W') : SeenAt B n seen W' := fun i hi => ⟨bkeep hb (h i hi).1, bfree hb (h i hi).1 (h i hi).2⟩
theorem SeenAt.set {B n m : Nat} {seen : List Int} {W : World} (h : SeenAt B n seen W) (hm : m < n) : SeenAt B n (seen ++ [(m : Int)]) (W.setCell ⟨B, m, none⟩ (.bool true)) := by
  intro i hi
  obtain ⟨h1, h2⟩ := h i hi
  refine ⟨?_, set_free h1 h2⟩
  by_cases e : i = m
  · subst e
    rw [setc_same h1]; simp
  · rw [setc_other h1 e]
    have : ¬ (i : Int) = (m : Int) := by omega
    simp [this]
end Go.Proofs.Ytnchhleokdkejaa

/- The bung of an order, at any arguments; whether bungs are the same. -/
namespace Go.Proofs.Ytnchhleokdkejaa
open Go.RowKit Go.Pb Go.Pb.Ware Go.Pb.Sag
set_option linter.unusedVariables false
set_option linter.unusedSimpArgs false

open Go.Pb.Bung
/-- A bung, or none, and an error. -/
def BgRes (r : ((Int × Int) × List Sg) × Int) (W : World) (e : Ending) (w' : World) : Prop := ∃ u, e = .returned (.tuple #[.agg #[.int .i64 r.1.1.1, .int .i64 r.1.1.2, u], .int .i64 r.2]) ∧ Below W.heap.size W w' ∧ RowsAt 8 w' u (r.1.2.map rowG)
def setA (lo hi : Int) (l : List Sg) (zs : List Int) : ((Int × Int) × List Sg) × Int := if wadOk lo hi = true then (if listOk l = true then (if zs ≠ [] ∧ idxOk zs l.length = true then (((lo, hi), chosenG l zs), 0) else (((0, 0), []), 1)) else (((0, 0), []), 30)) else (((0, 0), []), 32)
theorem rows8_nil (W : World) : RowsAt 8 W (.slice none 0 0) (([] : List Sg).map rowG) := .inl ⟨rfl, rfl⟩
theorem idxUp_nd {zs : List Int} {n : Nat} : ∀ {k : Nat}, idxUp zs n k = true → (zs.take k).Nodup
  | 0, _ => by simp
  | k + 1, h => by
    rw [idxUp, Bool.and_eq_true] at h
    have ih := idxUp_nd h.1
    rw [List.take_add_one]
    cases hz : zs[k]? with
    | none => simpa using ih
    | some z =>
      have h2 := h.2
      rw [hz] at h2
      dsimp only at h2
      rw [Bool.and_eq_true] at h2
      refine nodup_snoc ih ?_
      simpa using h2.2
theorem idxOk_nd {zs : List Int} {n : Nat} (h : idxOk zs n = true) : zs.Nodup := by
  have := idxUp_nd (k := zs.length) h
  rwa [List.take_length] at this

set_option maxRecDepth 100000 in
set_option maxHeartbeats 1000000 in
theorem setP {w : World} {v u : Value} {l : List Sg} {zs : List Int} {lo hi : Int} {r : _} (h : RowsAt 8 w v (l.map rowG)) (hz : NumsAt w u zs) (hr : setA lo hi l zs = r) :
    Calls Try.prog 50 #[.agg #[.int .i64 lo, .int .i64 hi], v, u] w (BgRes r w) := by
  unfold BgRes
  obtain ⟨a, cap, rfl, hll⟩ := h.shape
  rw [List.length_map] at hll ⊢
  simp only [List.length_map] at h
  obtain ⟨b, cb, rfl, hb1, hb2⟩ := hz.shape
  have HH : Hid (RowsAt 8 w (.slice a l.length cap) (l.map rowG)) := hid h; have HZZ : Hid (NumsAt w (.slice b zs.length cb) zs) := hid hz
  obtain ⟨n, hn⟩ : ∃ n, l.length = n := ⟨_, rfl⟩
  obtain ⟨m, hm⟩ : ∃ m, zs.length = m := ⟨_, rfl⟩
  have HN : Hid (l.length = n) := hn; have HM : Hid (zs.length = m) := hm
  obtain ⟨b1, h1⟩ : ∃ b, wadOk lo hi = b := ⟨_, rfl⟩
  obtain ⟨b2, h2⟩ : ∃ b, listOk l = b := ⟨_, rfl⟩
  obtain ⟨b3, h3⟩ : ∃ b, idxOk zs l.length = b := ⟨_, rfl⟩
  unfold setA at hr
  rw [h1, h2, h3] at hr
  have hw := wad_of h1; have hcl := ckLs_of h2
  cases b1
  · rw [if_neg (by simp)] at hr
    subst hr
    have HW : Hid (ckWd lo hi = 32) := hid (hw.trans (if_neg (by simp)))
    clear hw hcl h1 h2 h3
    rw [hn] at h hll ⊢
    rw [hm] at hz ⊢
    (try rw [hm] at hb1)
    (try rw [hm] at hb2)
    have hun := hz
    clear hn hm
    go_enter Try.func50, Try.ntmps50
    go_wp2_with fail
    refine (ckWd_any HW.out).mono ?_
    rintro e w1 ⟨rfl, hb⟩
    replace hb0 := bnext (w := w) (by go_grown) hb; have hz := hb.size; (try simp only [World.size_alloc, World.size_setCell] at hz); replace q0 : w1.cell? ⟨w.heap.size, 0, none⟩ = some (.int .i64 lo) := bkeep hb (by first | (with_reducible exact q0) | (with_reducible exact akeep q0) | simp [*, go_sem]); replace q1 : w1.cell? ⟨w.heap.size, 1, none⟩ = some (.int .i64 hi) := bkeep hb (by first | (with_reducible exact q1) | (with_reducible exact akeep q1) | simp [*, go_sem]); replace f2 : w1.frozen? ⟨w.heap.size + 1, 0, none⟩ = false := bfree (v := .int .i64 0) hb (by first | (with_reducible exact q2) | (with_reducible exact akeep q2) | simp [*, go_sem]) (by first | (with_reducible exact f2) | (with_reducible exact afree q2 f2) | simp [*, go_sem]); replace q2 : w1.cell? ⟨w.heap.size + 1, 0, none⟩ = some (.int .i64 0) := bkeep hb (by first | (with_reducible exact q2) | (with_reducible exact akeep q2) | simp [*, go_sem]); replace f3 : w1.frozen? ⟨w.heap.size + 1, 1, none⟩ = false := bfree (v := .int .i64 0) hb (by first | (with_reducible exact q3) | (with_reducible exact akeep q3) | simp [*, go_sem]) (by first | (with_reducible exact f3) | (with_reducible exact afree q3 f3) | simp [*, go_sem]); replace q3 : w1.cell? ⟨w.heap.size + 1, 1, none⟩ = some (.int .i64 0) := bkeep hb (by first | (with_reducible exact q3) | (with_reducible exact akeep q3) | simp [*, go_sem]); replace f4 : w1.frozen? ⟨w.heap.size + 1, 2, none⟩ = false := bfree (v := .slice none 0 0) hb (by first | (with_reducible exact q4) | (with_reducible exact akeep q4) | simp [*, go_sem]) (by first | (with_reducible exact f4) | (with_reducible exact afree q4 f4) | simp [*, go_sem]); replace q4 : w1.cell? ⟨w.heap.size + 1, 2, none⟩ = some (.slice none 0 0) := bkeep hb (by first | (with_reducible exact q4) | (with_reducible exact akeep q4) | simp [*, go_sem]); skip
    clear hb
    go_wp2_with fail
    exact bodyPost_ret (v := .tuple #[.agg #[.int .i64 0, .int .i64 0, .slice none 0 0], .int .i64 32]) (by simp [results, Try.results50, go_sem, *]) rfl ⟨_, rfl, by go_grown, rows8_nil _⟩
  · rw [if_pos rfl] at hr
    have HW : Hid (ckWd lo hi = 0) := hid (hw.trans (if_pos rfl))
    cases b2
    · rw [if_neg (by simp)] at hr
      subst hr
      have HL : Hid (ckLs l = 30) := hid (hcl.trans (if_neg (by simp)))
      clear hw hcl h1 h2 h3
      rw [hn] at h hll ⊢
      rw [hm] at hz ⊢
      (try rw [hm] at hb1)
      (try rw [hm] at hb2)
      have hun := hz
      clear hn hm
      go_enter Try.func50, Try.ntmps50
      go_wp2_with fail
      refine (ckWd_any HW.out).mono ?_
      rintro e w1 ⟨rfl, hb⟩
      replace hb0 := bnext (w := w) (by go_grown) hb; have hz := hb.size; (try simp only [World.size_alloc, World.size_setCell] at hz); replace q0 : w1.cell? ⟨w.heap.size, 0, none⟩ = some (.int .i64 lo) := bkeep hb (by first | (with_reducible exact q0) | (with_reducible exact akeep q0) | simp [*, go_sem]); replace q1 : w1.cell? ⟨w.heap.size, 1, none⟩ = some (.int .i64 hi) := bkeep hb (by first | (with_reducible exact q1) | (with_reducible exact akeep q1) | simp [*, go_sem]); replace f2 : w1.frozen? ⟨w.heap.size + 1, 0, none⟩ = false := bfree (v := .int .i64 0) hb (by first | (with_reducible exact q2) | (with_reducible exact akeep q2) | simp [*, go_sem]) (by first | (with_reducible exact f2) | (with_reducible exact afree q2 f2) | simp [*, go_sem]); replace q2 : w1.cell? ⟨w.heap.size + 1, 0, none⟩ = some (.int .i64 0) := bkeep hb (by first | (with_reducible exact q2) | (with_reducible exact akeep q2) | simp [*, go_sem]); replace f3 : w1.frozen? ⟨w.heap.size + 1, 1, none⟩ = false := bfree (v := .int .i64 0) hb (by first | (with_reducible exact q3) | (with_reducible exact akeep q3) | simp [*, go_sem]) (by first | (with_reducible exact f3) | (with_reducible exact afree q3 f3) | simp [*, go_sem]); replace q3 : w1.cell? ⟨w.heap.size + 1, 1, none⟩ = some (.int .i64 0) := bkeep hb (by first | (with_reducible exact q3) | (with_reducible exact akeep q3) | simp [*, go_sem]); replace f4 : w1.frozen? ⟨w.heap.size + 1, 2, none⟩ = false := bfree (v := .slice none 0 0) hb (by first | (with_reducible exact q4) | (with_reducible exact akeep q4) | simp [*, go_sem]) (by first | (with_reducible exact f4) | (with_reducible exact afree q4 f4) | simp [*, go_sem]); replace q4 : w1.cell? ⟨w.heap.size + 1, 2, none⟩ = some (.slice none 0 0) := bkeep hb (by first | (with_reducible exact q4) | (with_reducible exact akeep q4) | simp [*, go_sem]); skip
      clear hb
      go_wp2_with fail
      refine (ckLs_any (h.below (by go_grown)) HL.out).mono ?_
      rintro e w1 ⟨rfl, hb⟩
      replace hb0 := bnext (w := w) (by go_grown) hb; have hz := hb.size; (try simp only [World.size_alloc, World.size_setCell] at hz); replace q0 : w1.cell? ⟨w.heap.size, 0, none⟩ = some (.int .i64 lo) := bkeep hb (by first | (with_reducible exact q0) | (with_reducible exact akeep q0) | simp [*, go_sem]); replace q1 : w1.cell? ⟨w.heap.size, 1, none⟩ = some (.int .i64 hi) := bkeep hb (by first | (with_reducible exact q1) | (with_reducible exact akeep q1) | simp [*, go_sem]); replace f2 : w1.frozen? ⟨w.heap.size + 1, 0, none⟩ = false := bfree (v := .int .i64 0) hb (by first | (with_reducible exact q2) | (with_reducible exact akeep q2) | simp [*, go_sem]) (by first | (with_reducible exact f2) | (with_reducible exact afree q2 f2) | simp [*, go_sem]); replace q2 : w1.cell? ⟨w.heap.size + 1, 0, none⟩ = some (.int .i64 0) := bkeep hb (by first | (with_reducible exact q2) | (with_reducible exact akeep q2) | simp [*, go_sem]); replace f3 : w1.frozen? ⟨w.heap.size + 1, 1, none⟩ = false := bfree (v := .int .i64 0) hb (by first | (with_reducible exact q3) | (with_reducible exact akeep q3) | simp [*, go_sem]) (by first | (with_reducible exact f3) | (with_reducible exact afree q3 f3) | simp [*, go_sem]); replace q3 : w1.cell? ⟨w.heap.size + 1, 1, none⟩ = some (.int .i64 0) := bkeep hb (by first | (with_reducible exact q3) | (with_reducible exact akeep q3) | simp [*, go_sem]); replace f4 : w1.frozen? ⟨w.heap.size + 1, 2, none⟩ = false := bfree (v := .slice none 0 0) hb (by first | (with_reducible exact q4) | (with_reducible exact akeep q4) | simp [*, go_sem]) (by first | (with_reducible exact f4) | (with_reducible exact afree q4 f4) | simp [*, go_sem]); replace q4 : w1.cell? ⟨w.heap.size + 1, 2, none⟩ = some (.slice none 0 0) := bkeep hb (by first | (with_reducible exact q4) | (with_reducible exact akeep q4) | simp [*, go_sem]); skip
      clear hb
      go_wp2_with fail
      exact bodyPost_ret (v := .tuple #[.agg #[.int .i64 0, .int .i64 0, .slice none 0 0], .int .i64 30]) (by simp [results, Try.results50, go_sem, *]) rfl ⟨_, rfl, by go_grown, rows8_nil _⟩
    · rw [if_pos rfl] at hr
      have HL : Hid (ckLs l = 0) := hid (hcl.trans (if_pos rfl))
      by_cases hz0 : zs = []
      · rw [if_neg (fun e => e.1 hz0)] at hr
        subst hr
        obtain rfl : m = 0 := by rw [← hm, hz0]; rfl
        clear hw hcl h1 h2 h3
        rw [hn] at h hll ⊢
        rw [hm] at hz ⊢
        (try rw [hm] at hb1)
        (try rw [hm] at hb2)
        have hun := hz
        clear hn hm hz0
        go_enter Try.func50, Try.ntmps50
        go_wp2_with fail
        refine (ckWd_any HW.out).mono ?_
        rintro e w1 ⟨rfl, hb⟩
        replace hb0 := bnext (w := w) (by go_grown) hb; have hz := hb.size; (try simp only [World.size_alloc, World.size_setCell] at hz); replace q0 : w1.cell? ⟨w.heap.size, 0, none⟩ = some (.int .i64 lo) := bkeep hb (by first | (with_reducible exact q0) | (with_reducible exact akeep q0) | simp [*, go_sem]); replace q1 : w1.cell? ⟨w.heap.size, 1, none⟩ = some (.int .i64 hi) := bkeep hb (by first | (with_reducible exact q1) | (with_reducible exact akeep q1) | simp [*, go_sem]); replace f2 : w1.frozen? ⟨w.heap.size + 1, 0, none⟩ = false := bfree (v := .int .i64 0) hb (by first | (with_reducible exact q2) | (with_reducible exact akeep q2) | simp [*, go_sem]) (by first | (with_reducible exact f2) | (with_reducible exact afree q2 f2) | simp [*, go_sem]); replace q2 : w1.cell? ⟨w.heap.size + 1, 0, none⟩ = some (.int .i64 0) := bkeep hb (by first | (with_reducible exact q2) | (with_reducible exact akeep q2) | simp [*, go_sem]); replace f3 : w1.frozen? ⟨w.heap.size + 1, 1, none⟩ = false := bfree (v := .int .i64 0) hb (by first | (with_reducible exact q3) | (with_reducible exact akeep q3) | simp [*, go_sem]) (by first | (with_reducible exact f3) | (with_reducible exact afree q3 f3) | simp [*, go_sem]); replace q3 : w1.cell? ⟨w.heap.size + 1, 1, none⟩ = some (.int .i64 0) := bkeep hb (by first | (with_reducible exact q3) | (with_reducible exact akeep q3) | simp [*, go_sem]); replace f4 : w1.frozen? ⟨w.heap.size + 1, 2, none⟩ = false := bfree (v := .slice none 0 0) hb (by first | (with_reducible exact q4) | (with_reducible exact akeep q4) | simp [*, go_sem]) (by first | (with_reducible exact f4) | (with_reducible exact afree q4 f4) | simp [*, go_sem]); replace q4 : w1.cell? ⟨w.heap.size + 1, 2, none⟩ = some (.slice none 0 0) := bkeep hb (by first | (with_reducible exact q4) | (with_reducible exact akeep q4) | simp [*, go_sem]); skip
        clear hb
        go_wp2_with fail
        refine (ckLs_any (h.below (by go_grown)) HL.out).mono ?_
        rintro e w1 ⟨rfl, hb⟩
        replace hb0 := bnext (w := w) (by go_grown) hb; have hz := hb.size; (try simp only [World.size_alloc, World.size_setCell] at hz); replace q0 : w1.cell? ⟨w.heap.size, 0, none⟩ = some (.int .i64 lo) := bkeep hb (by first | (with_reducible exact q0) | (with_reducible exact akeep q0) | simp [*, go_sem]); replace q1 : w1.cell? ⟨w.heap.size, 1, none⟩ = some (.int .i64 hi) := bkeep hb (by first | (with_reducible exact q1) | (with_reducible exact akeep q1) | simp [*, go_sem]); replace f2 : w1.frozen? ⟨w.heap.size + 1, 0, none⟩ = false := bfree (v := .int .i64 0) hb (by first | (with_reducible exact q2) | (with_reducible exact akeep q2) | simp [*, go_sem]) (by first | (with_reducible exact f2) | (with_reducible exact afree q2 f2) | simp [*, go_sem]); replace q2 : w1.cell? ⟨w.heap.size + 1, 0, none⟩ = some (.int .i64 0) := bkeep hb (by first | (with_reducible exact q2) | (with_reducible exact akeep q2) | simp [*, go_sem]); replace f3 : w1.frozen? ⟨w.heap.size + 1, 1, none⟩ = false := bfree (v := .int .i64 0) hb (by first | (with_reducible exact q3) | (with_reducible exact akeep q3) | simp [*, go_sem]) (by first | (with_reducible exact f3) | (with_reducible exact afree q3 f3) | simp [*, go_sem]); replace q3 : w1.cell? ⟨w.heap.size + 1, 1, none⟩ = some (.int .i64 0) := bkeep hb (by first | (with_reducible exact q3) | (with_reducible exact akeep q3) | simp [*, go_sem]); replace f4 : w1.frozen? ⟨w.heap.size + 1, 2, none⟩ = false := bfree (v := .slice none 0 0) hb (by first | (with_reducible exact q4) | (with_reducible exact akeep q4) | simp [*, go_sem]) (by first | (with_reducible exact f4) | (with_reducible exact afree q4 f4) | simp [*, go_sem]); replace q4 : w1.cell? ⟨w.heap.size + 1, 2, none⟩ = some (.slice none 0 0) := bkeep hb (by first | (with_reducible exact q4) | (with_reducible exact akeep q4) | simp [*, go_sem]); skip
        clear hb
        go_wp2_with fail
        exact bodyPost_ret (v := .tuple #[.agg #[.int .i64 0, .int .i64 0, .slice none 0 0], .int .i64 1]) (by simp [results, Try.results50, go_sem, *]) rfl ⟨_, rfl, by go_grown, rows8_nil _⟩
      · have hm0 : m ≠ 0 := by rw [← hm]; exact fun e => hz0 (List.eq_nil_of_length_eq_zero e)
        have hmi : ¬ (m : Int) = 0 := by omega
        have hmb : ((m : Int) == 0) = false := beq_eq_false_iff_ne.mpr hmi
        cases b3
        · rw [if_neg (fun e => by cases e.2)] at hr
          subst hr
          have HI : Hid (idxOk zs n = false) := by rw [← hn]; exact hid h3
          have hl30 : n ≤ 1000 := by rw [← hn]; have := (listOk_iff.1 h2).1; omega
          clear hw hcl h1 h2 h3
          rw [hn] at h hll ⊢
          rw [hm] at hz ⊢
          (try rw [hm] at hb1)
          (try rw [hm] at hb2)
          have hun := hz
          clear hn hm hz0
          go_enter Try.func50, Try.ntmps50
          go_wp2_with fail
          refine (ckWd_any HW.out).mono ?_
          rintro e w1 ⟨rfl, hb⟩
          replace hb0 := bnext (w := w) (by go_grown) hb; have hz := hb.size; (try simp only [World.size_alloc, World.size_setCell] at hz); replace q0 : w1.cell? ⟨w.heap.size, 0, none⟩ = some (.int .i64 lo) := bkeep hb (by first | (with_reducible exact q0) | (with_reducible exact akeep q0) | simp [*, go_sem]); replace q1 : w1.cell? ⟨w.heap.size, 1, none⟩ = some (.int .i64 hi) := bkeep hb (by first | (with_reducible exact q1) | (with_reducible exact akeep q1) | simp [*, go_sem]); replace f2 : w1.frozen? ⟨w.heap.size + 1, 0, none⟩ = false := bfree (v := .int .i64 0) hb (by first | (with_reducible exact q2) | (with_reducible exact akeep q2) | simp [*, go_sem]) (by first | (with_reducible exact f2) | (with_reducible exact afree q2 f2) | simp [*, go_sem]); replace q2 : w1.cell? ⟨w.heap.size + 1, 0, none⟩ = some (.int .i64 0) := bkeep hb (by first | (with_reducible exact q2) | (with_reducible exact akeep q2) | simp [*, go_sem]); replace f3 : w1.frozen? ⟨w.heap.size + 1, 1, none⟩ = false := bfree (v := .int .i64 0) hb (by first | (with_reducible exact q3) | (with_reducible exact akeep q3) | simp [*, go_sem]) (by first | (with_reducible exact f3) | (with_reducible exact afree q3 f3) | simp [*, go_sem]); replace q3 : w1.cell? ⟨w.heap.size + 1, 1, none⟩ = some (.int .i64 0) := bkeep hb (by first | (with_reducible exact q3) | (with_reducible exact akeep q3) | simp [*, go_sem]); replace f4 : w1.frozen? ⟨w.heap.size + 1, 2, none⟩ = false := bfree (v := .slice none 0 0) hb (by first | (with_reducible exact q4) | (with_reducible exact akeep q4) | simp [*, go_sem]) (by first | (with_reducible exact f4) | (with_reducible exact afree q4 f4) | simp [*, go_sem]); replace q4 : w1.cell? ⟨w.heap.size + 1, 2, none⟩ = some (.slice none 0 0) := bkeep hb (by first | (with_reducible exact q4) | (with_reducible exact akeep q4) | simp [*, go_sem]); skip
          clear hb
          go_wp2_with fail
          refine (ckLs_any (h.below (by go_grown)) HL.out).mono ?_
          rintro e w1 ⟨rfl, hb⟩
          replace hb0 := bnext (w := w) (by go_grown) hb; have hz := hb.size; (try simp only [World.size_alloc, World.size_setCell] at hz); replace q0 : w1.cell? ⟨w.heap.size, 0, none⟩ = some (.int .i64 lo) := bkeep hb (by first | (with_reducible exact q0) | (with_reducible exact akeep q0) | simp [*, go_sem]); replace q1 : w1.cell? ⟨w.heap.size, 1, none⟩ = some (.int .i64 hi) := bkeep hb (by first | (with_reducible exact q1) | (with_reducible exact akeep q1) | simp [*, go_sem]); replace f2 : w1.frozen? ⟨w.heap.size + 1, 0, none⟩ = false := bfree (v := .int .i64 0) hb (by first | (with_reducible exact q2) | (with_reducible exact akeep q2) | simp [*, go_sem]) (by first | (with_reducible exact f2) | (with_reducible exact afree q2 f2) | simp [*, go_sem]); replace q2 : w1.cell? ⟨w.heap.size + 1, 0, none⟩ = some (.int .i64 0) := bkeep hb (by first | (with_reducible exact q2) | (with_reducible exact akeep q2) | simp [*, go_sem]); replace f3 : w1.frozen? ⟨w.heap.size + 1, 1, none⟩ = false := bfree (v := .int .i64 0) hb (by first | (with_reducible exact q3) | (with_reducible exact akeep q3) | simp [*, go_sem]) (by first | (with_reducible exact f3) | (with_reducible exact afree q3 f3) | simp [*, go_sem]); replace q3 : w1.cell? ⟨w.heap.size + 1, 1, none⟩ = some (.int .i64 0) := bkeep hb (by first | (with_reducible exact q3) | (with_reducible exact akeep q3) | simp [*, go_sem]); replace f4 : w1.frozen? ⟨w.heap.size + 1, 2, none⟩ = false := bfree (v := .slice none 0 0) hb (by first | (with_reducible exact q4) | (with_reducible exact akeep q4) | simp [*, go_sem]) (by first | (with_reducible exact f4) | (with_reducible exact afree q4 f4) | simp [*, go_sem]); replace q4 : w1.cell? ⟨w.heap.size + 1, 2, none⟩ = some (.slice none 0 0) := bkeep hb (by first | (with_reducible exact q4) | (with_reducible exact akeep q4) | simp [*, go_sem]); skip
          clear hb
          go_wp2_with fail
          refine (idx_any (hun.below (by go_grown)) hl30 HI.out).mono ?_
          rintro e w1 ⟨rfl, hb⟩
          replace hb0 := bnext (w := w) (by go_grown) hb; have hz := hb.size; (try simp only [World.size_alloc, World.size_setCell] at hz); replace q0 : w1.cell? ⟨w.heap.size, 0, none⟩ = some (.int .i64 lo) := bkeep hb (by first | (with_reducible exact q0) | (with_reducible exact akeep q0) | simp [*, go_sem]); replace q1 : w1.cell? ⟨w.heap.size, 1, none⟩ = some (.int .i64 hi) := bkeep hb (by first | (with_reducible exact q1) | (with_reducible exact akeep q1) | simp [*, go_sem]); replace f2 : w1.frozen? ⟨w.heap.size + 1, 0, none⟩ = false := bfree (v := .int .i64 0) hb (by first | (with_reducible exact q2) | (with_reducible exact akeep q2) | simp [*, go_sem]) (by first | (with_reducible exact f2) | (with_reducible exact afree q2 f2) | simp [*, go_sem]); replace q2 : w1.cell? ⟨w.heap.size + 1, 0, none⟩ = some (.int .i64 0) := bkeep hb (by first | (with_reducible exact q2) | (with_reducible exact akeep q2) | simp [*, go_sem]); replace f3 : w1.frozen? ⟨w.heap.size + 1, 1, none⟩ = false := bfree (v := .int .i64 0) hb (by first | (with_reducible exact q3) | (with_reducible exact akeep q3) | simp [*, go_sem]) (by first | (with_reducible exact f3) | (with_reducible exact afree q3 f3) | simp [*, go_sem]); replace q3 : w1.cell? ⟨w.heap.size + 1, 1, none⟩ = some (.int .i64 0) := bkeep hb (by first | (with_reducible exact q3) | (with_reducible exact akeep q3) | simp [*, go_sem]); replace f4 : w1.frozen? ⟨w.heap.size + 1, 2, none⟩ = false := bfree (v := .slice none 0 0) hb (by first | (with_reducible exact q4) | (with_reducible exact akeep q4) | simp [*, go_sem]) (by first | (with_reducible exact f4) | (with_reducible exact afree q4 f4) | simp [*, go_sem]); replace q4 : w1.cell? ⟨w.heap.size + 1, 2, none⟩ = some (.slice none 0 0) := bkeep hb (by first | (with_reducible exact q4) | (with_reducible exact akeep q4) | simp [*, go_sem]); skip
          clear hb
          go_wp2_with fail
          exact bodyPost_ret (v := .tuple #[.agg #[.int .i64 0, .int .i64 0, .slice none 0 0], .int .i64 1]) (by simp [results, Try.results50, go_sem, *]) rfl ⟨_, rfl, by go_grown, rows8_nil _⟩
        · rw [if_pos ⟨hz0, rfl⟩] at hr
          subst hr
          have hzn : zs.length ≤ 1000 := by have h4 := (nodup_len (idxOk_nd h3) (idxOk_in h3)).1; have := (listOk_iff.1 h2).1; omega
          refine (Set_good HH.out HZZ.out h1 h2 hzn h3 hz0).mono ?_
          rintro e w' ⟨u, rfl, hb, -, hu⟩
          exact ⟨u, rfl, hb, hu⟩

end Go.Proofs.Ytnchhleokdkejaa
