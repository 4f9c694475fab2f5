/- Contracts of the reference's told, all, Told, sources and Narrow; below the blocks that were there nothing turns. -/
import Derived.Test.YtgnljgceddphfaaW29
import Derived.Lib.MinMax
namespace Go.Proofs.Ytgnljgceddphfaa
open Go.RowKit Go.Pb Go.Pb.Ware
set_option linter.unusedVariables false
set_option linter.unusedSimpArgs false

set_option maxRecDepth 100000 in
set_option maxRecDepth 100000 in
set_option maxHeartbeats 4000000 in
theorem rtold_in {w : World} {so wl wh dl dh c d : Int} (hT : trOk ⟨so, ⟨wl, wh⟩, ⟨dl, dh⟩⟩ = true) :
    Calls Try.prog 98 #[.agg #[.int .i64 so, .int .i64 wl, .int .i64 wh, .int .i64 dl, .int .i64 dh], .agg #[.int .i64 c, .int .i64 d]] w (Ret w (.agg #[.int .i64 (common ⟨c, d⟩ (toldR ⟨so, ⟨wl, wh⟩, ⟨dl, dh⟩⟩)).lo, .int .i64 (common ⟨c, d⟩ (toldR ⟨so, ⟨wl, wh⟩, ⟨dl, dh⟩⟩)).hi])) := by
  unfold Ret
  have b1 := trOk_iff.1 hT; dsimp only at b1
  have d1 := div_bd (dh * 1000) wl 2000000 (by omega) (by omega) (by omega) (by omega)
  have d2 : 0 ≤ dh * 1000 / wl := Int.ediv_nonneg (by omega) (by omega)
  have d3 := up_bd (dl * 1000) wh (by omega) (by omega) (by omega)
  rw [show dh * 1000 = 1000 * dh by omega] at d1 d2
  rw [show dl * 1000 = 1000 * dl by omega] at d3
  have hv : common ⟨c, d⟩ (toldR ⟨so, ⟨wl, wh⟩, ⟨dl, dh⟩⟩) = ⟨max c (1000 - 1000 * dh / wl), min d (1000 - up (1000 * dl) wh)⟩ := by simp only [common, toldR, Int.mul_comm]
  rw [hv]; clear hv
  go_enter Try.func98, Try.ntmps98
  go_upto_region 1 with (fail)
  refine wp_region_gb [0, 1, 2, 3, 4, 5, 6, 7, 8, 9, 10, 11, 12, 13, 14, 15, 16, 17, 18, 19, 20, 21, 22, 23, 24] 1 (by kernel_rfl) rfl (by kernel_rfl) fun hc => ?_
  simp only [named, List.filterMap_cons, List.filterMap_nil, List.getElem?_toArray, List.getElem?_cons_succ, List.getElem?_cons_zero]
  show wpQuiet _ _ _ _ [_, _, _, _, _, _, _, _, _, _, _, _, _, _, _, _, _, _, _, _, _, _, _, _, _] _
  repeat (go_big_quiet_step ((first | (go_at_call 57; exact BW.call _ (rDown (by omega) (by omega) (by omega) (by omega))) | (go_at_call 58; exact BW.call _ (rUp (by omega) (by omega) (by omega) (by omega))))))
  (refine wpQuiet_nil ?_; intro w1 hb; replace hb0 := bnext (w := w) (by go_grown) hb; have hz := hb.size; (try simp only [World.size_alloc, World.size_setCell] at hz); replace f0 : w1.frozen? ⟨w.heap.size + 1 + 1, 0, none⟩ = false := bfree (v := .int .i64 0) hb (by first | (with_reducible exact q0) | (with_reducible exact akeep q0) | simp [*, go_sem]) (by first | (with_reducible exact f0) | (with_reducible exact afree q0 f0) | simp [*, go_sem]); replace q0 : w1.cell? ⟨w.heap.size + 1 + 1, 0, none⟩ = some (.int .i64 0) := bkeep hb (by first | (with_reducible exact q0) | (with_reducible exact akeep q0) | simp [*, go_sem]); replace f1 : w1.frozen? ⟨w.heap.size + 1 + 1, 1, none⟩ = false := bfree (v := .int .i64 0) hb (by first | (with_reducible exact q1) | (with_reducible exact akeep q1) | simp [*, go_sem]) (by first | (with_reducible exact f1) | (with_reducible exact afree q1 f1) | simp [*, go_sem]); replace q1 : w1.cell? ⟨w.heap.size + 1 + 1, 1, none⟩ = some (.int .i64 0) := bkeep hb (by first | (with_reducible exact q1) | (with_reducible exact akeep q1) | simp [*, go_sem]); clear hb)
  refine wpAny_ready (rs := [25]) (by kernel_rfl) (by simp) ?_
  refine AllReady.cons rfl (fun K hK => ?_) AllReady.nil
  go_simp
  refine hK _ _ ?_; clear hK K
  refine wpAny_done (by kernel_rfl) ?_ _
  go_wp2
  exact bodyPost_ret (v := .agg #[.int .i64 (max c (1000 - 1000 * dh / wl)), .int .i64 (min d (1000 - up (1000 * dl) wh))]) (by simp [*, results, Try.results98, go_sem]) rfl ⟨by first | rfl | simp [*], by go_grown⟩

theorem rtold_eq {so wl wh dl dh c d : Int} {T : Rg} {w : World} (hT : trOk ⟨so, ⟨wl, wh⟩, ⟨dl, dh⟩⟩ = true) (h : common ⟨c, d⟩ (toldR ⟨so, ⟨wl, wh⟩, ⟨dl, dh⟩⟩) = T) :
    Calls Try.prog 98 #[.agg #[.int .i64 so, .int .i64 wl, .int .i64 wh, .int .i64 dl, .int .i64 dh], .agg #[.int .i64 c, .int .i64 d]] w (Ret w (.agg #[.int .i64 T.lo, .int .i64 T.hi])) := by subst h; exact rtold_in hT

set_option maxRecDepth 100000 in
set_option maxHeartbeats 4000000 in
theorem rall_any {w : World} {v : Value} {ts : List TT} (h : RowsAt 5 w v (ts.map rowT)) (hm : ts.length ≤ 1000) {c d : Int} {r : Rg} (hc : 0 ≤ c) (hd : d ≤ 200) (hr : accR ts ⟨c, d⟩ = r) :
    Calls Try.prog 86 #[v, .agg #[.int .i64 c, .int .i64 d]] w (Ret w (.agg #[.int .i64 r.lo, .int .i64 r.hi])) := by
  unfold Ret
  obtain ⟨a, cap, rfl, hlen⟩ := h.shape
  rw [List.length_map] at hlen
  simp only [List.length_map] at h ⊢
  have HR := hid hr; clear hr
  go_enter Try.func86, Try.ntmps86
  go_wp2_with fail
  go_loopw [5] (fun iv wr => ∃ (k : Nat) (R : Rg), k ≤ ts.length ∧ iv = .int .i64 k ∧ accR (ts.take k) ⟨c, d⟩ = R ∧ 0 ≤ R.lo ∧ R.hi ≤ 200 ∧ Below w.heap.size w wr ∧ w.heap.size + 2 ≤ wr.heap.size ∧ wr.cell? ⟨w.heap.size, 0, none⟩ = some (.int .i64 R.lo) ∧ wr.frozen? ⟨w.heap.size, 0, none⟩ = false ∧ wr.cell? ⟨w.heap.size, 1, none⟩ = some (.int .i64 R.hi) ∧ wr.frozen? ⟨w.heap.size, 1, none⟩ = false ∧ wr.cell? ⟨w.heap.size + 1, 0, none⟩ = some (.int .i64 0) ∧ wr.frozen? ⟨w.heap.size + 1, 0, none⟩ = false ∧ wr.cell? ⟨w.heap.size + 1, 1, none⟩ = some (.int .i64 0) ∧ wr.frozen? ⟨w.heap.size + 1, 1, none⟩ = false) (fun iv _ => ts.length - (intOf iv).toNat)
  case atStart => exact ⟨0, ⟨c, d⟩, by omega, rfl, rfl, hc, hd, by go_grown, by simp, by simp [go_sem], by simp [go_sem], by simp [go_sem], by simp [go_sem], by simp [go_sem], by simp [go_sem], by simp [go_sem], by simp [go_sem]⟩
  case round =>
    obtain ⟨k, R, hk, rfl, hK, hR0, hR1, hb0, hz0, q0, f0, q1, f1, q2, f2, q3, f3⟩ := hrel
    have HK := hid hK; clear hK
    by_cases hlt : k < ts.length
    · obtain ⟨a', ha, hl, hc0, hcc⟩ := (show RowsAt 5 _ (.slice a (ts.map rowT).length _) (ts.map rowT) by rw [List.length_map]; exact h.below hb0).row (k := k) (by simpa using hlt)
      rw [List.getElem_map] at hc0 hcc
      obtain ⟨t, ht⟩ : ∃ t, t = ts[k] := ⟨_, rfl⟩
      rw [← ht] at hc0 hcc
      have r0 := hc0 _ rfl
      have r1 := hcc 1 _ (by decide) rfl
      have r2 := hcc 2 _ (by decide) rfl
      have r3 := hcc 3 _ (by decide) rfl
      have r4 := hcc 4 _ (by decide) rfl
      subst ha
      clear hc0 hcc hl
      obtain ⟨R2, hR2⟩ : ∃ R2, common R (tol t) = R2 := ⟨_, rfl⟩
      have HV := hid (show common ⟨R.lo, R.hi⟩ (toldR ⟨t.1.source, ⟨t.1.wet.lo, t.1.wet.hi⟩, ⟨t.1.dry.lo, t.1.dry.hi⟩⟩) = R2 from (told_tol t hR0 hR1).trans hR2)
      have hB2 := common_bd R (tol t)
      rw [hR2] at hB2
      have HN := hid (show accR (ts.take (k + 1)) ⟨c, d⟩ = R2 by rw [acc_take hlt, HK.out, ← ht]; exact hR2)
      have HO := hid (show trOk ⟨t.1.source, ⟨t.1.wet.lo, t.1.wet.hi⟩, ⟨t.1.dry.lo, t.1.dry.hi⟩⟩ = true from t.2)
      clear ht hR2
      go_upto_region 4 with fail
      refine wp_region_Rs [(5, fun v _ => v = .agg #[.int .i64 R2.lo, .int .i64 R2.hi])] [0, 1, 2, 3, 4, 5] 1 (by kernel_rfl) rfl (by simp only [List.forall_mem_cons]; exact ⟨keeps_eq, fun _ h => by cases h⟩) (by kernel_rfl) ?_
      simp only [numbered, List.filterMap_cons, List.filterMap_nil, List.getElem?_toArray, List.getElem?_cons_succ, List.getElem?_cons_zero, Option.map_some]
      show wpS _ _ _ _ _ _ _ [(_, _), (_, _), (_, _), (_, _), (_, _), (_, _)] _ _
      (refine wpS_quiet rfl rfl ?_; intro K hK inst hx; go_big_quiet_op; go_big_quiet_on; clear hx inst)
      (refine wpS_quiet rfl rfl ?_; intro K hK inst hx; go_big_quiet_op; go_big_quiet_on; clear hx inst)
      (refine wpS_quiet rfl rfl ?_; intro K hK inst hx; go_big_quiet_op; go_big_quiet_on; clear hx inst)
      (refine wpS_quiet rfl rfl ?_; intro K hK inst hx; have s0 := fun x => (fun _ => bkeep (BQ.below x) r0) (hx x); have s1 := fun x => (fun _ => bkeep (BQ.below x) r1) (hx x); have s2 := fun x => (fun _ => bkeep (BQ.below x) r2) (hx x); have s3 := fun x => (fun _ => bkeep (BQ.below x) r3) (hx x); have s4 := fun x => (fun _ => bkeep (BQ.below x) r4) (hx x); go_big_quiet_op; go_big_quiet_on; clear hx inst)
      (refine wpS_quiet rfl rfl ?_; intro K hK inst hx; go_big_quiet_op; go_big_quiet_on; clear hx inst)
      refine wpS_fresh rfl rfl (fun w' hb hF => ?_) ?_
      · change freshAt _ _ _ (fun v _ => v = .agg #[.int .i64 R2.lo, .int .i64 R2.hi]) _; unfold freshAt; go_simp; exact rtold_eq HO.out HV.out
      intro v W hv; simp only [pOf, List.lookup_cons, Nat.reduceBEq, beq_self_eq_true] at hv; subst hv
      simp only [Act.put, List.setIfInBounds_toArray, List.set_cons_succ, List.set_cons_zero]
      refine wpS_nil ?_
      intro w2 hall
      have hb := hall.1
      clear hall
      replace f0 := bfree hb q0 f0; replace q0 := bkeep hb q0
      replace f1 := bfree hb q1 f1; replace q1 := bkeep hb q1
      replace f2 := bfree hb q2 f2; replace q2 := bkeep hb q2
      replace f3 := bfree hb q3 f3; replace q3 := bkeep hb q3
      replace hb0 := bnext (w := w) (by omega) hb
      have hz2 := hb.size
      clear hb
      refine wpAny_ready (rs := [6]) (by kernel_rfl) (by simp) ?_
      refine AllReady.cons rfl (fun K hK => ?_) AllReady.nil
      go_simp
      refine hK _ _ ?_; clear hK K
      refine wpAny_done (by kernel_rfl) ?_ _
      go_wp2_with fail
      go_roundw
      case rel => exact ⟨k + 1, R2, by omega, by go_num, HN.out, by omega, by omega, by go_grown, by simp; omega, by simp [go_sem, *], by simp [go_sem, *], by simp [go_sem, *], by simp [go_sem, *], by simp [go_sem, *], by simp [go_sem, *], by simp [go_sem, *], by simp [go_sem, *]⟩
      case measure => first | (simp [intOf]; done) | (simp [intOf]; omega)
    · have hr2 : accR ts ⟨c, d⟩ = R := by have := HK.out; rwa [List.take_of_length_le (by omega)] at this
      obtain rfl : R = r := by rw [← hr2]; exact HR.out
      clear hr2
      go_wp2_with fail
      exact bodyPost_ret (v := .agg #[.int .i64 R.lo, .int .i64 R.hi]) (by simp [*, results, Try.results86, go_sem]) rfl ⟨rfl, by go_grown⟩
end Go.Proofs.Ytgnljgceddphfaa
