/- Contracts of without and contradict; below the blocks that were there nothing turns. -/
import Derived.Test.YtcadbcmldlammaaW24
import Derived.IntWalk
namespace Go.Proofs.Ytcadbcmldlammaa
open Go.RowKit Go.Pb Go.Pb.Ware
set_option linter.unusedVariables false
set_option linter.unusedSimpArgs false

/-- Two slices in a new slice. -/
def IsPair (v1 v2 : Value) (v : Value) (W : World) : Prop := ∃ B : Nat, v = .slice (some ⟨B, 0, none⟩) 2 2 ∧ W.cell? ⟨B, 0, none⟩ = some v1 ∧ W.cell? ⟨B, 1, none⟩ = some v2
theorem keeps_pair {v1 v2 : Value} : Keeps (IsPair v1 v2) := fun _ _ _ ⟨B, h1, h2, h3⟩ hb => ⟨B, h1, bkeep hb h2, bkeep hb h3⟩
def IsNums (zs : List Int) (v : Value) (W : World) : Prop := NumsAt W v zs
theorem keeps_nums {zs : List Int} : Keeps (IsNums zs) := fun _ _ _ h hb => NumsAt.below h hb
theorem concat_fresh {c1 c2 l1 l2 : Nat} {a1 a2 : Addr} {xs ys zs : List Int} {v : Value} {w : World} (e1 : xs.length = l1) (e2 : ys.length = l2) (ez : xs ++ ys = zs) (h1 : NumsAt w (.slice (some a1) l1 c1) xs) (h2 : NumsAt w (.slice (some a2) l2 c2) ys)
    (hp : IsPair (.slice (some a1) l1 c1) (.slice (some a2) l2 c2) v w) (hx : l1 ≤ 1000) (hy : l2 ≤ 1000) :
    Calls Try.prog 89 #[v] w fun e w'' => ∃ u, e = .returned u ∧ Below w.heap.size w w'' ∧ IsNums zs u w'' := by
  subst e1; subst e2; subst ez
  obtain ⟨B, rfl, d0, d1⟩ := hp
  exact concat_any h1 h2 d0 d1 hx hy

set_option maxRecDepth 100000 in
set_option maxHeartbeats 4000000 in
theorem without_any {a : Option Addr} {cap i : Nat} {zs : List Int} {w : World} (h : NumsAt w (.slice a zs.length cap) zs) (hi : i < zs.length) (hm : zs.length ≤ 1000) :
    Calls Try.prog 45 #[.slice a zs.length cap, .int .i64 i] w (NewNums (zs.eraseIdx i) w) := by
  have hl : zs.length ≤ cap ∧ cap ≤ 9223372036854775807 := by obtain ⟨_, _, e, x, y⟩ := h.shape; injection e with _ _ e3; subst e3; exact ⟨x, y⟩
  obtain ⟨a', rfl, -⟩ := h.elem hi
  have h1 := h.head (k := i) (by omega)
  have ZE := hid (show zs.take i ++ zs.drop (i + 1) = zs.eraseIdx i from (List.eraseIdx_eq_take_drop_succ zs i).symm)
  obtain ⟨n, hn⟩ : ∃ n, zs.length = n := ⟨_, rfl⟩
  have HN := hid hn
  rw [hn] at hi hm hl ⊢
  clear hn
  have W1 : IntKind.i64.wrap ((i : Int) + 1) = (i : Int) + 1 := IntWalk.i64_in _ (by omega)
  have W2 : (0 : Int) ≤ (i : Int) + 1 := by omega
  have W3 : ((i : Int) + 1).toNat = i + 1 := by omega
  by_cases hc : cap = i + 1
  · obtain rfl : n = i + 1 := by omega
    subst hc
    have h2 := h.tail (k := i + 1) (by rw [HN.out]; omega) (a') (by intro hh; rw [HN.out] at hh; omega)
    rw [HN.out] at h2
    have z1 : (zs.take i).length = i := by rw [List.length_take, HN.out]; omega
    have z2 : (zs.drop (i + 1)).length = 0 := by rw [List.length_drop, HN.out]; omega
    have Z1 := hid z1; have Z2 := hid z2; clear z1 z2
    have h3 : NumsAt w (.slice (some a') 0 0) (zs.drop (i + 1)) := by simpa using h2
    clear h2
    have h2 := h3; clear h3
    rw [HN.out] at h
    go_enter Try.func45, Try.ntmps45
    go_upto_region 1 with fail
    refine wp_region_Rs [(7, IsPair (.slice (some a') i (i + 1)) (.slice (some a') 0 0)), (8, IsNums (zs.eraseIdx i))] [0, 1, 2, 3, 4, 5, 6, 7, 8] 1 (by kernel_rfl) rfl (by simp only [List.forall_mem_cons]; exact ⟨keeps_pair, keeps_nums, fun _ h => by cases h⟩) (by kernel_rfl) ?_
    simp only [numbered, List.filterMap_cons, List.filterMap_nil, List.getElem?_toArray, List.getElem?_cons_succ, List.getElem?_cons_zero, Option.map_some]
    show wpS _ _ _ _ _ _ _ [(_, _), (_, _), (_, _), (_, _), (_, _), (_, _), (_, _), (_, _), (_, _)] _ _
    (refine wpS_quiet rfl rfl ?_; intro K hK inst hx; go_big_quiet_op; go_big_quiet_on; clear hx inst)
    (refine wpS_quiet rfl rfl ?_; intro K hK inst hx; go_big_quiet_op; go_big_quiet_on; clear hx inst)
    (refine wpS_quiet rfl rfl ?_; intro K hK inst hx; go_big_quiet_op; go_big_quiet_on; clear hx inst)
    (refine wpS_quiet rfl rfl ?_; intro K hK inst hx; go_big_quiet_op; go_big_quiet_on; clear hx inst)
    (refine wpS_quiet rfl rfl ?_; intro K hK inst hx; go_big_quiet_op; go_big_quiet_on; clear hx inst)
    (refine wpS_quiet rfl rfl ?_; intro K hK inst hx; go_big_quiet_op; go_big_quiet_on; clear hx inst)
    (refine wpS_quiet rfl rfl ?_; intro K hK inst hx; go_big_quiet_op; go_big_quiet_on; clear hx inst)
    refine wpS_fresh rfl rfl (fun w' hb hF => ?_) ?_
    · change freshAt _ _ _ (IsPair (.slice (some a') i (i + 1)) (.slice (some a') 0 0)) _; unfold freshAt; go_simp; exact ⟨by go_grown, _, rfl, by simp, by simp⟩
    intro v W hv; simp only [pOf, List.lookup_cons, Nat.reduceBEq, beq_self_eq_true] at hv; obtain ⟨Bv, rfl, -, -⟩ := hv
    simp only [Act.put, List.setIfInBounds_toArray, List.set_cons_succ, List.set_cons_zero]
    refine wpS_fresh rfl rfl (fun w' hb hF => ?_) ?_
    · change freshAt _ _ _ (IsNums (zs.eraseIdx i)) _; have h7 := hF 7 _ rfl (by kernel_rfl); unfold freshAt; go_simp; exact concat_fresh Z1.out Z2.out ZE.out (h1.below hb) (h2.below hb) h7 (by omega) (by omega)
    intro v W hv; simp only [pOf, List.lookup_cons, Nat.reduceBEq, beq_self_eq_true] at hv; skip
    simp only [Act.put, List.setIfInBounds_toArray, List.set_cons_succ, List.set_cons_zero]
    refine wpS_nil ?_
    intro w2 hall
    have hb := hall.1
    refine wpAny_ready (rs := [9]) (by kernel_rfl) (by simp) ?_
    refine AllReady.cons rfl (fun K hK => ?_) AllReady.nil
    go_simp
    refine hK _ _ ?_; clear hK K
    refine wpAny_done (by kernel_rfl) ?_ _
    go_wp2_with fail
    go_ret
    exact ⟨_, rfl, by go_grown, hall.2 8 _ rfl⟩
  · have h2 := h.tail (k := i + 1) (by rw [HN.out]; omega) (⟨a'.block, a'.off + (i + 1), none⟩) (by intro _; unfold Addr.add; rw [if_neg (by omega)])
    rw [HN.out] at h2
    have z1 : (zs.take i).length = i := by rw [List.length_take, HN.out]; omega
    have z2 : (zs.drop (i + 1)).length = n - (i + 1) := by rw [List.length_drop, HN.out]
    have Z1 := hid z1; have Z2 := hid z2; clear z1 z2
    rw [HN.out] at h
    go_enter Try.func45, Try.ntmps45
    go_upto_region 1 with fail
    refine wp_region_Rs [(7, IsPair (.slice (some a') i cap) (.slice (some ⟨a'.block, a'.off + (i + 1), none⟩) (n - (i + 1)) (cap - (i + 1)))), (8, IsNums (zs.eraseIdx i))] [0, 1, 2, 3, 4, 5, 6, 7, 8] 1 (by kernel_rfl) rfl (by simp only [List.forall_mem_cons]; exact ⟨keeps_pair, keeps_nums, fun _ h => by cases h⟩) (by kernel_rfl) ?_
    simp only [numbered, List.filterMap_cons, List.filterMap_nil, List.getElem?_toArray, List.getElem?_cons_succ, List.getElem?_cons_zero, Option.map_some]
    show wpS _ _ _ _ _ _ _ [(_, _), (_, _), (_, _), (_, _), (_, _), (_, _), (_, _), (_, _), (_, _)] _ _
    (refine wpS_quiet rfl rfl ?_; intro K hK inst hx; go_big_quiet_op; go_big_quiet_on; clear hx inst)
    (refine wpS_quiet rfl rfl ?_; intro K hK inst hx; go_big_quiet_op; go_big_quiet_on; clear hx inst)
    (refine wpS_quiet rfl rfl ?_; intro K hK inst hx; go_big_quiet_op; go_big_quiet_on; clear hx inst)
    (refine wpS_quiet rfl rfl ?_; intro K hK inst hx; go_big_quiet_op; go_big_quiet_on; clear hx inst)
    (refine wpS_quiet rfl rfl ?_; intro K hK inst hx; go_big_quiet_op; go_big_quiet_on; clear hx inst)
    (refine wpS_quiet rfl rfl ?_; intro K hK inst hx; go_big_quiet_op; go_big_quiet_on; clear hx inst)
    (refine wpS_quiet rfl rfl ?_; intro K hK inst hx; go_big_quiet_op; go_big_quiet_on; clear hx inst)
    refine wpS_fresh rfl rfl (fun w' hb hF => ?_) ?_
    · change freshAt _ _ _ (IsPair (.slice (some a') i cap) (.slice (some ⟨a'.block, a'.off + (i + 1), none⟩) (n - (i + 1)) (cap - (i + 1)))) _; unfold freshAt; go_simp; exact ⟨by go_grown, _, rfl, by simp, by simp⟩
    intro v W hv; simp only [pOf, List.lookup_cons, Nat.reduceBEq, beq_self_eq_true] at hv; obtain ⟨Bv, rfl, -, -⟩ := hv
    simp only [Act.put, List.setIfInBounds_toArray, List.set_cons_succ, List.set_cons_zero]
    refine wpS_fresh rfl rfl (fun w' hb hF => ?_) ?_
    · change freshAt _ _ _ (IsNums (zs.eraseIdx i)) _; have h7 := hF 7 _ rfl (by kernel_rfl); unfold freshAt; go_simp; exact concat_fresh Z1.out Z2.out ZE.out (h1.below hb) (h2.below hb) h7 (by omega) (by omega)
    intro v W hv; simp only [pOf, List.lookup_cons, Nat.reduceBEq, beq_self_eq_true] at hv; skip
    simp only [Act.put, List.setIfInBounds_toArray, List.set_cons_succ, List.set_cons_zero]
    refine wpS_nil ?_
    intro w2 hall
    have hb := hall.1
    refine wpAny_ready (rs := [9]) (by kernel_rfl) (by simp) ?_
    refine AllReady.cons rfl (fun K hK => ?_) AllReady.nil
    go_simp
    refine hK _ _ ?_; clear hK K
    refine wpAny_done (by kernel_rfl) ?_ _
    go_wp2_with fail
    go_ret
    exact ⟨_, rfl, by go_grown, hall.2 8 _ rfl⟩

/-- The closure that trialsBy hands back. -/
def IsBy (lv bv : Value) (v : Value) (W : World) : Prop := ∃ B1 B2 : Nat, v = .func (.func 122) #[] #[.pointer (some ⟨B1, 0, none⟩), .pointer (some ⟨B2, 0, none⟩)] ∧ W.cell? ⟨B1, 0, none⟩ = some lv ∧ W.cell? ⟨B2, 0, none⟩ = some bv
theorem keeps_by {lv bv : Value} : Keeps (IsBy lv bv) := fun _ _ _ ⟨B1, B2, h1, h2, h3⟩ hb => ⟨B1, B2, h1, bkeep hb h2, bkeep hb h3⟩
theorem by_fresh {lv bv : Value} {w : World} {rows : List (List Int)} {b : List Int} (h : RowsAt 5 w lv rows) (hi : NumsAt w bv b) :
    Calls Try.prog 88 #[lv, bv] w fun e w'' => ∃ u, e = .returned u ∧ Below w.heap.size w w'' ∧ IsBy lv bv u w'' :=
  (trialsBy_any h hi).mono fun e w'' ⟨he, hw⟩ => ⟨_, he, by subst hw; exact ((Below.refl _ _).alloc (Nat.le_refl _) _).alloc (by simp) _, w.heap.size, w.heap.size + 1, rfl, by subst hw; simp [go_sem], by subst hw; simp [go_sem]⟩
def IsRg (c : Bool) (v : Value) (W : World) : Prop := ∃ r : Rg, v = .agg #[.int .i64 r.lo, .int .i64 r.hi] ∧ emptyB r = c
theorem keeps_rg {c : Bool} : Keeps (IsRg c) := fun _ _ _ h _ => h
theorem allowed_by {c d : Int} {lv bv fv : Value} {ts : List TT} {b : List Int} {x : Bool} {w : World} (h : RowsAt 5 w lv (ts.map rowT)) (hi : NumsAt w bv b) (hv : IsBy lv bv fv w) (hx : clashB ts b ⟨c, d⟩ = x) :
    Calls Try.prog 46 #[.agg #[.int .i64 c, .int .i64 d], fv] w fun e w'' => ∃ u, e = .returned u ∧ Below w.heap.size w w'' ∧ IsRg x u w'' := by
  obtain ⟨B1, B2, rfl, hcl, hcb⟩ := hv
  exact (allowed_in (enters_of Try.func122 (by kernel_rfl) rfl) fun W hW => by_stops (by omega) h hi hcl hcb hW).mono fun e w'' ⟨r, h1, h2, h3, _⟩ => ⟨_, h1, h2, r, rfl, h3.trans hx⟩

set_option maxRecDepth 100000 in
set_option maxHeartbeats 4000000 in
theorem contradict_any {id sl sh ll lh hl hh : Int} {lv bv : Value} {ts : List TT} {b : List Int} {x : Bool} {w : World} (h : RowsAt 5 w lv (ts.map rowT)) (hi : NumsAt w bv b) (hx : clashB ts b ⟨sl, sh⟩ = x) :
    Calls Try.prog 44 #[.agg #[.int .i64 id, .int .i64 sl, .int .i64 sh, .int .i64 ll, .int .i64 lh, .int .i64 hl, .int .i64 hh], lv, bv] w (Ret w (.bool x)) := by
  unfold Ret
  obtain ⟨la, lc, rfl, hll⟩ := h.shape
  obtain ⟨ba, bc, rfl, hbl, hbl2⟩ := hi.shape
  rw [List.length_map] at h hll ⊢
  have HX := hid hx; clear hx
  go_enter Try.func44, Try.ntmps44
  go_upto_region 1 with fail
  refine wp_region_Rs [(4, IsBy (.slice la ts.length lc) (.slice ba b.length bc)), (5, IsRg x), (6, fun v _ => v = .bool x)] [0, 1, 2, 3, 4, 5, 6] 1 (by kernel_rfl) rfl (by simp only [List.forall_mem_cons]; exact ⟨keeps_by, keeps_rg, keeps_eq, fun _ h => by cases h⟩) (by kernel_rfl) ?_
  simp only [numbered, List.filterMap_cons, List.filterMap_nil, List.getElem?_toArray, List.getElem?_cons_succ, List.getElem?_cons_zero, Option.map_some]
  show wpS _ _ _ _ _ _ _ [(_, _), (_, _), (_, _), (_, _), (_, _), (_, _), (_, _)] _ _
  (refine wpS_quiet rfl rfl ?_; intro K hK inst hx; go_big_quiet_op; go_big_quiet_on; clear hx inst)
  (refine wpS_quiet rfl rfl ?_; intro K hK inst hx; go_big_quiet_op; go_big_quiet_on; clear hx inst)
  (refine wpS_quiet rfl rfl ?_; intro K hK inst hx; go_big_quiet_op; go_big_quiet_on; clear hx inst)
  (refine wpS_quiet rfl rfl ?_; intro K hK inst hx; go_big_quiet_op; go_big_quiet_on; clear hx inst)
  refine wpS_fresh rfl rfl (fun w' hb hF => ?_) ?_
  · change freshAt _ _ _ (IsBy (.slice la ts.length lc) (.slice ba b.length bc)) _; unfold freshAt; go_simp; exact by_fresh (h.below (bnext (by go_grown) hb)) (hi.below (bnext (by go_grown) hb))
  intro v W hv; simp only [pOf, List.lookup_cons, Nat.reduceBEq, beq_self_eq_true] at hv; have h4 := hv; obtain ⟨C1, C2, rfl, -, -⟩ := hv
  simp only [Act.put, List.setIfInBounds_toArray, List.set_cons_succ, List.set_cons_zero]
  refine wpS_fresh rfl rfl (fun w' hb hF => ?_) ?_
  · change freshAt _ _ _ (IsRg x) _; have h4 : IsBy _ _ _ w' := hF 4 _ rfl (by kernel_rfl); unfold freshAt; go_simp; exact allowed_by (h.below (bnext (by go_grown) hb)) (hi.below (bnext (by go_grown) hb)) h4 HX.out
  intro v W hv; simp only [pOf, List.lookup_cons, Nat.reduceBEq, beq_self_eq_true] at hv; obtain ⟨r, rfl, he⟩ := hv; have HE := hid he; clear he
  simp only [Act.put, List.setIfInBounds_toArray, List.set_cons_succ, List.set_cons_zero]
  refine wpS_fresh rfl rfl (fun w' hb hF => ?_) ?_
  · change freshAt _ _ _ (fun v _ => v = .bool x) _; unfold freshAt; go_simp; exact isEmpty_eq HE.out
  intro v W hv; simp only [pOf, List.lookup_cons, Nat.reduceBEq, beq_self_eq_true] at hv; subst hv
  simp only [Act.put, List.setIfInBounds_toArray, List.set_cons_succ, List.set_cons_zero]
  refine wpS_nil ?_
  intro w2 hall
  have hb := hall.1
  refine wpAny_ready (rs := [7]) (by kernel_rfl) (by simp) ?_
  refine AllReady.cons rfl (fun K hK => ?_) AllReady.nil
  go_simp
  refine hK _ _ ?_; clear hK K
  refine wpAny_done (by kernel_rfl) ?_ _
  go_wp2_with fail
  go_ret
  exact ⟨rfl, bnext (by go_grown) hb⟩
end Go.Proofs.Ytcadbcmldlammaa
