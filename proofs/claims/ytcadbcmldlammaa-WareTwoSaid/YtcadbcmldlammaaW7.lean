/- Contracts of what one trial tells, of the program and of the reference; below the blocks that were there nothing turns. -/
import Derived.Test.YtcadbcmldlammaaW3
namespace Go.Proofs.Ytcadbcmldlammaa
open Go.RowKit Go.Pb Go.Pb.Ware
set_option linter.unusedVariables false
set_option linter.unusedSimpArgs false

theorem isTrial_any {so wl wh dl dh : Int} {w : World}  :
    Calls Try.prog 81 #[.agg #[.int .i64 so, .int .i64 wl, .int .i64 wh, .int .i64 dl, .int .i64 dh]] w (Ret w (.bool (trOk ⟨so, ⟨wl, wh⟩, ⟨dl, dh⟩⟩))) := by
  unfold Ret
  go_enter Try.func81, Try.ntmps81
  go_upto_region 1 with (fail)
  refine wp_region_qf fun hc => ?_
  all_goals (repeat (go_big_quiet_step ((first | (go_at_call 84; exact BW.call _ (isBetween)) | (go_at_call 77; exact BW.call _ (isWithin))))))
  all_goals (first | (refine wpQuiet_nil ?_; intro w1 hb; replace hb0 := bnext (w := w) (by go_grown) hb; have hz := hb.size; (try simp only [World.size_alloc, World.size_setCell] at hz); obtain ⟨hc, hf⟩ := bcell hb; clear hb) | (show wpQuiet _ _ _ _ _ _; cases g0 : btw so 1 99999 <;> try simp only [Bool.not_true, Bool.not_false]) | skip)
  all_goals (repeat (go_big_quiet_step ((first | (go_at_call 84; exact BW.call _ (isBetween)) | (go_at_call 77; exact BW.call _ (isWithin))))))
  all_goals (first | (refine wpQuiet_nil ?_; intro w1 hb; replace hb0 := bnext (w := w) (by go_grown) hb; have hz := hb.size; (try simp only [World.size_alloc, World.size_setCell] at hz); obtain ⟨hc, hf⟩ := bcell hb; clear hb) | (show wpQuiet _ _ _ _ _ _; cases g1 : rgOk ⟨wl, wh⟩ 1 2000 <;> try simp only [Bool.not_true, Bool.not_false]) | skip)
  all_goals (repeat (go_big_quiet_step ((first | (go_at_call 84; exact BW.call _ (isBetween)) | (go_at_call 77; exact BW.call _ (isWithin))))))
  all_goals (first | (refine wpQuiet_nil ?_; intro w1 hb; replace hb0 := bnext (w := w) (by go_grown) hb; have hz := hb.size; (try simp only [World.size_alloc, World.size_setCell] at hz); obtain ⟨hc, hf⟩ := bcell hb; clear hb) | skip)
  all_goals go_wp2
  all_goals (go_ret; exact ⟨ret_bool (by simp [trOk, *]), by go_grown⟩)

def ckT (t : Tr) : Int := if trOk t = true then 0 else 13

theorem rcheckTrial_any {so wl wh dl dh : Int} {w : World}  :
    Calls Try.prog 34 #[.agg #[.int .i64 so, .int .i64 wl, .int .i64 wh, .int .i64 dl, .int .i64 dh]] w (Ret w (.int .i64 (ckT ⟨so, ⟨wl, wh⟩, ⟨dl, dh⟩⟩))) := by
  unfold Ret
  go_enter Try.func34, Try.ntmps34
  go_upto_region 1 with (fail)
  refine wp_region_qf fun hc => ?_
  all_goals (repeat (go_big_quiet_step ((first | (go_at_call 72; exact BW.call _ (rIn)) | (go_at_call 73; exact BW.call _ (rPart))))))
  all_goals (first | (refine wpQuiet_nil ?_; intro w1 hb; replace hb0 := bnext (w := w) (by go_grown) hb; have hz := hb.size; (try simp only [World.size_alloc, World.size_setCell] at hz); obtain ⟨hc, hf⟩ := bcell hb; clear hb) | (show wpQuiet _ _ _ _ _ _; cases g0 : btw so 1 99999 <;> try simp only [Bool.not_true, Bool.not_false]) | skip)
  all_goals (repeat (go_big_quiet_step ((first | (go_at_call 72; exact BW.call _ (rIn)) | (go_at_call 73; exact BW.call _ (rPart))))))
  all_goals (first | (refine wpQuiet_nil ?_; intro w1 hb; replace hb0 := bnext (w := w) (by go_grown) hb; have hz := hb.size; (try simp only [World.size_alloc, World.size_setCell] at hz); obtain ⟨hc, hf⟩ := bcell hb; clear hb) | (show wpQuiet _ _ _ _ _ _; cases g1 : rgOk ⟨wl, wh⟩ 1 2000 <;> try simp only [Bool.not_true, Bool.not_false]) | skip)
  all_goals (repeat (go_big_quiet_step ((first | (go_at_call 72; exact BW.call _ (rIn)) | (go_at_call 73; exact BW.call _ (rPart))))))
  all_goals (first | (refine wpQuiet_nil ?_; intro w1 hb; replace hb0 := bnext (w := w) (by go_grown) hb; have hz := hb.size; (try simp only [World.size_alloc, World.size_setCell] at hz); obtain ⟨hc, hf⟩ := bcell hb; clear hb) | (show wpQuiet _ _ _ _ _ _; cases g2 : rgOk ⟨dl, dh⟩ 0 2000 <;> try simp only [Bool.not_true, Bool.not_false]) | skip)
  all_goals (repeat (go_big_quiet_step ((first | (go_at_call 72; exact BW.call _ (rIn)) | (go_at_call 73; exact BW.call _ (rPart))))))
  all_goals (first | (refine wpQuiet_nil ?_; intro w1 hb; replace hb0 := bnext (w := w) (by go_grown) hb; have hz := hb.size; (try simp only [World.size_alloc, World.size_setCell] at hz); obtain ⟨hc, hf⟩ := bcell hb; clear hb) | skip)
  all_goals go_wp2
  all_goals (go_ret; exact ⟨ret_int (by first | (simp [ckT, trOk, *]; done) | (simp_all [ckT, trOk]; done)), by go_grown⟩)

theorem common_any {a b c d : Int} {w : World}  :
    Calls Try.prog 90 #[.agg #[.int .i64 a, .int .i64 b], .agg #[.int .i64 c, .int .i64 d]] w (Ret w (.agg #[.int .i64 (common ⟨a, b⟩ ⟨c, d⟩).lo, .int .i64 (common ⟨a, b⟩ ⟨c, d⟩).hi])) := by
  unfold Ret
  unfold common
  rcases Int.lt_or_le a c with h1 | h1 <;> rcases Int.lt_or_le d b with h2 | h2
  · rw [show max a c = c by omega, show min b d = d by omega]
    go_enter Try.func90, Try.ntmps90
    go_wp2
    exact bodyPost_ret (v := .agg #[.int .i64 c, .int .i64 d]) (by simp [*, results, Try.results90, go_sem]) rfl ⟨by first | rfl | simp [*], by go_grown⟩
  · rw [show max a c = c by omega, show min b d = b by omega]
    go_enter Try.func90, Try.ntmps90
    go_wp2
    exact bodyPost_ret (v := .agg #[.int .i64 c, .int .i64 b]) (by simp [*, results, Try.results90, go_sem]) rfl ⟨by first | rfl | simp [*], by go_grown⟩
  · rw [show max a c = a by omega, show min b d = d by omega]
    go_enter Try.func90, Try.ntmps90
    go_wp2
    exact bodyPost_ret (v := .agg #[.int .i64 a, .int .i64 d]) (by simp [*, results, Try.results90, go_sem]) rfl ⟨by first | rfl | simp [*], by go_grown⟩
  · rw [show max a c = a by omega, show min b d = b by omega]
    go_enter Try.func90, Try.ntmps90
    go_wp2
    exact bodyPost_ret (v := .agg #[.int .i64 a, .int .i64 b]) (by simp [*, results, Try.results90, go_sem]) rfl ⟨by first | rfl | simp [*], by go_grown⟩

set_option maxRecDepth 100000 in
set_option maxHeartbeats 1000000 in
theorem told_in {so wl wh dl dh : Int} {w : World} (hT : trOk ⟨so, ⟨wl, wh⟩, ⟨dl, dh⟩⟩ = true) :
    Calls Try.prog 82 #[.agg #[.int .i64 so, .int .i64 wl, .int .i64 wh, .int .i64 dl, .int .i64 dh]] w (Ret w (.agg #[.int .i64 (common ⟨0, 200⟩ (toldR ⟨so, ⟨wl, wh⟩, ⟨dl, dh⟩⟩)).lo, .int .i64 (common ⟨0, 200⟩ (toldR ⟨so, ⟨wl, wh⟩, ⟨dl, dh⟩⟩)).hi])) := by
  unfold Ret
  have b1 := trOk_iff.1 hT; dsimp only at b1
  have d1 := div_bd (dh * 1000) wl 2000000 (by omega) (by omega) (by omega) (by omega)
  have d2 : 0 ≤ dh * 1000 / wl := Int.ediv_nonneg (by omega) (by omega)
  have d3 := up_bd (dl * 1000) wh (by omega) (by omega) (by omega)
  rw [show toldR ⟨so, ⟨wl, wh⟩, ⟨dl, dh⟩⟩ = ⟨1000 - dh * 1000 / wl, 1000 - up (dl * 1000) wh⟩ from rfl]
  go_enter Try.func82, Try.ntmps82
  go_upto_region 1 with (fail)
  refine wp_region_gb [0, 1, 2, 3, 4, 5, 6, 7, 8, 9, 10, 11, 12, 13, 14, 15, 16, 17, 18, 19, 20] 1 (by kernel_rfl) rfl (by kernel_rfl) fun hc => ?_
  simp only [named, List.filterMap_cons, List.filterMap_nil, List.getElem?_toArray, List.getElem?_cons_succ, List.getElem?_cons_zero]
  show wpQuiet _ _ _ _ [_, _, _, _, _, _, _, _, _, _, _, _, _, _, _, _, _, _, _, _, _] _
  repeat (go_big_quiet_step ((first | (go_at_call 78; exact BW.call _ (roundedUp (by omega) (by omega) (by omega) (by omega))) | (go_at_call 90; exact BW.call _ (common_any)))))
  (refine wpQuiet_nil ?_; intro w1 hb; replace hb0 := bnext (w := w) (by go_grown) hb; have hz := hb.size; (try simp only [World.size_alloc, World.size_setCell] at hz); replace f0 : w1.frozen? ⟨w.heap.size + 1, 0, none⟩ = false := bfree (v := .int .i64 0) hb (by first | (with_reducible exact q0) | (with_reducible exact akeep q0) | simp [*, go_sem]) (by first | (with_reducible exact f0) | (with_reducible exact afree q0 f0) | simp [*, go_sem]); replace q0 : w1.cell? ⟨w.heap.size + 1, 0, none⟩ = some (.int .i64 0) := bkeep hb (by first | (with_reducible exact q0) | (with_reducible exact akeep q0) | simp [*, go_sem]); replace f1 : w1.frozen? ⟨w.heap.size + 1, 1, none⟩ = false := bfree (v := .int .i64 0) hb (by first | (with_reducible exact q1) | (with_reducible exact akeep q1) | simp [*, go_sem]) (by first | (with_reducible exact f1) | (with_reducible exact afree q1 f1) | simp [*, go_sem]); replace q1 : w1.cell? ⟨w.heap.size + 1, 1, none⟩ = some (.int .i64 0) := bkeep hb (by first | (with_reducible exact q1) | (with_reducible exact akeep q1) | simp [*, go_sem]); clear hb)
  refine wpAny_ready (rs := [21]) (by kernel_rfl) (by simp) ?_
  refine AllReady.cons rfl (fun K hK => ?_) AllReady.nil
  go_simp
  refine hK _ _ ?_; clear hK K
  refine wpAny_done (by kernel_rfl) ?_ _
  go_wp2
  exact bodyPost_ret (v := .agg #[.int .i64 (common ⟨0, 200⟩ ⟨1000 - dh * 1000 / wl, 1000 - up (dl * 1000) wh⟩).lo, .int .i64 (common ⟨0, 200⟩ ⟨1000 - dh * 1000 / wl, 1000 - up (dl * 1000) wh⟩).hi]) (by simp [*, results, Try.results82, go_sem]) rfl ⟨by first | rfl | simp [*], by go_grown⟩

set_option maxRecDepth 100000 in
set_option maxHeartbeats 2000000 in
theorem told_any {so wl wh dl dh : Int} {w : World}  :
    Calls Try.prog 40 #[.agg #[.int .i64 so, .int .i64 wl, .int .i64 wh, .int .i64 dl, .int .i64 dh]] w (Ret w (.tuple #[.agg #[.int .i64 (Ware.told ⟨so, ⟨wl, wh⟩, ⟨dl, dh⟩⟩).1.lo, .int .i64 (Ware.told ⟨so, ⟨wl, wh⟩, ⟨dl, dh⟩⟩).1.hi], .int .i64 (Ware.told ⟨so, ⟨wl, wh⟩, ⟨dl, dh⟩⟩).2])) := by
  unfold Ret
  cases hT : trOk ⟨so, ⟨wl, wh⟩, ⟨dl, dh⟩⟩
  · have hv : Ware.told ⟨so, ⟨wl, wh⟩, ⟨dl, dh⟩⟩ = (zRg, 13) := by unfold Ware.told; rw [hT]; rfl
    rw [hv]; clear hv
    go_enter Try.func40, Try.ntmps40
    go_wp2_with ((go_at_call 81; refine (isTrial_any).mono ?_; rintro e w1 ⟨rfl, hb⟩; replace hb0 := bnext (w := w) (by go_grown) hb; have hz := hb.size; (try simp only [World.size_alloc, World.size_setCell] at hz); replace q0 : w1.cell? ⟨w.heap.size, 0, none⟩ = some (.int .i64 so) := bkeep hb (by first | (with_reducible exact q0) | (with_reducible exact akeep q0) | simp [*, go_sem]); replace q1 : w1.cell? ⟨w.heap.size, 1, none⟩ = some (.int .i64 wl) := bkeep hb (by first | (with_reducible exact q1) | (with_reducible exact akeep q1) | simp [*, go_sem]); replace q2 : w1.cell? ⟨w.heap.size, 2, none⟩ = some (.int .i64 wh) := bkeep hb (by first | (with_reducible exact q2) | (with_reducible exact akeep q2) | simp [*, go_sem]); replace q3 : w1.cell? ⟨w.heap.size, 3, none⟩ = some (.int .i64 dl) := bkeep hb (by first | (with_reducible exact q3) | (with_reducible exact akeep q3) | simp [*, go_sem]); replace q4 : w1.cell? ⟨w.heap.size, 4, none⟩ = some (.int .i64 dh) := bkeep hb (by first | (with_reducible exact q4) | (with_reducible exact akeep q4) | simp [*, go_sem]); replace f5 : w1.frozen? ⟨w.heap.size + 1, 0, none⟩ = false := bfree (v := .int .i64 0) hb (by first | (with_reducible exact q5) | (with_reducible exact akeep q5) | simp [*, go_sem]) (by first | (with_reducible exact f5) | (with_reducible exact afree q5 f5) | simp [*, go_sem]); replace q5 : w1.cell? ⟨w.heap.size + 1, 0, none⟩ = some (.int .i64 0) := bkeep hb (by first | (with_reducible exact q5) | (with_reducible exact akeep q5) | simp [*, go_sem]); replace f6 : w1.frozen? ⟨w.heap.size + 1, 1, none⟩ = false := bfree (v := .int .i64 0) hb (by first | (with_reducible exact q6) | (with_reducible exact akeep q6) | simp [*, go_sem]) (by first | (with_reducible exact f6) | (with_reducible exact afree q6 f6) | simp [*, go_sem]); replace q6 : w1.cell? ⟨w.heap.size + 1, 1, none⟩ = some (.int .i64 0) := bkeep hb (by first | (with_reducible exact q6) | (with_reducible exact akeep q6) | simp [*, go_sem]); clear hb))
    exact bodyPost_ret (v := .tuple #[.agg #[.int .i64 0, .int .i64 0], .int .i64 13]) (by simp [*, results, Try.results40, go_sem]) rfl ⟨by first | rfl | simp [*], by go_grown⟩
  have eT : (⟨(common ⟨0, 200⟩ (toldR ⟨so, ⟨wl, wh⟩, ⟨dl, dh⟩⟩)).lo, (common ⟨0, 200⟩ (toldR ⟨so, ⟨wl, wh⟩, ⟨dl, dh⟩⟩)).hi⟩ : Rg) = common ⟨0, 200⟩ (toldR ⟨so, ⟨wl, wh⟩, ⟨dl, dh⟩⟩) := rfl
  cases hE : emptyB (common ⟨0, 200⟩ (toldR ⟨so, ⟨wl, wh⟩, ⟨dl, dh⟩⟩))
  · have hv : Ware.told ⟨so, ⟨wl, wh⟩, ⟨dl, dh⟩⟩ = (common ⟨0, 200⟩ (toldR ⟨so, ⟨wl, wh⟩, ⟨dl, dh⟩⟩), 0) := by unfold Ware.told; rw [hT, hE]; rfl
    rw [hv]; clear hv
    have hE2 : emptyB ⟨(common ⟨0, 200⟩ (toldR ⟨so, ⟨wl, wh⟩, ⟨dl, dh⟩⟩)).lo, (common ⟨0, 200⟩ (toldR ⟨so, ⟨wl, wh⟩, ⟨dl, dh⟩⟩)).hi⟩ = false := hE
    clear hE eT
    go_enter Try.func40, Try.ntmps40
    go_upto_region 4 with (first | (go_at_call 81; refine (isTrial_any).mono ?_; rintro e w1 ⟨rfl, hb⟩; replace hb0 := bnext (w := w) (by go_grown) hb; have hz := hb.size; (try simp only [World.size_alloc, World.size_setCell] at hz); replace q0 : w1.cell? ⟨w.heap.size, 0, none⟩ = some (.int .i64 so) := bkeep hb (by first | (with_reducible exact q0) | (with_reducible exact akeep q0) | simp [*, go_sem]); replace q1 : w1.cell? ⟨w.heap.size, 1, none⟩ = some (.int .i64 wl) := bkeep hb (by first | (with_reducible exact q1) | (with_reducible exact akeep q1) | simp [*, go_sem]); replace q2 : w1.cell? ⟨w.heap.size, 2, none⟩ = some (.int .i64 wh) := bkeep hb (by first | (with_reducible exact q2) | (with_reducible exact akeep q2) | simp [*, go_sem]); replace q3 : w1.cell? ⟨w.heap.size, 3, none⟩ = some (.int .i64 dl) := bkeep hb (by first | (with_reducible exact q3) | (with_reducible exact akeep q3) | simp [*, go_sem]); replace q4 : w1.cell? ⟨w.heap.size, 4, none⟩ = some (.int .i64 dh) := bkeep hb (by first | (with_reducible exact q4) | (with_reducible exact akeep q4) | simp [*, go_sem]); replace f5 : w1.frozen? ⟨w.heap.size + 1, 0, none⟩ = false := bfree (v := .int .i64 0) hb (by first | (with_reducible exact q5) | (with_reducible exact akeep q5) | simp [*, go_sem]) (by first | (with_reducible exact f5) | (with_reducible exact afree q5 f5) | simp [*, go_sem]); replace q5 : w1.cell? ⟨w.heap.size + 1, 0, none⟩ = some (.int .i64 0) := bkeep hb (by first | (with_reducible exact q5) | (with_reducible exact akeep q5) | simp [*, go_sem]); replace f6 : w1.frozen? ⟨w.heap.size + 1, 1, none⟩ = false := bfree (v := .int .i64 0) hb (by first | (with_reducible exact q6) | (with_reducible exact akeep q6) | simp [*, go_sem]) (by first | (with_reducible exact f6) | (with_reducible exact afree q6 f6) | simp [*, go_sem]); replace q6 : w1.cell? ⟨w.heap.size + 1, 1, none⟩ = some (.int .i64 0) := bkeep hb (by first | (with_reducible exact q6) | (with_reducible exact akeep q6) | simp [*, go_sem]); clear hb) | (go_at_call 82; refine (told_in hT).mono ?_; rintro e w1 ⟨rfl, hb⟩; replace hb0 := bnext (w := w) (by go_grown) hb; have hz := hb.size; (try simp only [World.size_alloc, World.size_setCell] at hz); replace q0 : w1.cell? ⟨w.heap.size, 0, none⟩ = some (.int .i64 so) := bkeep hb (by first | (with_reducible exact q0) | (with_reducible exact akeep q0) | simp [*, go_sem]); replace q1 : w1.cell? ⟨w.heap.size, 1, none⟩ = some (.int .i64 wl) := bkeep hb (by first | (with_reducible exact q1) | (with_reducible exact akeep q1) | simp [*, go_sem]); replace q2 : w1.cell? ⟨w.heap.size, 2, none⟩ = some (.int .i64 wh) := bkeep hb (by first | (with_reducible exact q2) | (with_reducible exact akeep q2) | simp [*, go_sem]); replace q3 : w1.cell? ⟨w.heap.size, 3, none⟩ = some (.int .i64 dl) := bkeep hb (by first | (with_reducible exact q3) | (with_reducible exact akeep q3) | simp [*, go_sem]); replace q4 : w1.cell? ⟨w.heap.size, 4, none⟩ = some (.int .i64 dh) := bkeep hb (by first | (with_reducible exact q4) | (with_reducible exact akeep q4) | simp [*, go_sem]); replace f5 : w1.frozen? ⟨w.heap.size + 1, 0, none⟩ = false := bfree (v := .int .i64 0) hb (by first | (with_reducible exact q5) | (with_reducible exact akeep q5) | simp [*, go_sem]) (by first | (with_reducible exact f5) | (with_reducible exact afree q5 f5) | simp [*, go_sem]); replace q5 : w1.cell? ⟨w.heap.size + 1, 0, none⟩ = some (.int .i64 0) := bkeep hb (by first | (with_reducible exact q5) | (with_reducible exact akeep q5) | simp [*, go_sem]); replace f6 : w1.frozen? ⟨w.heap.size + 1, 1, none⟩ = false := bfree (v := .int .i64 0) hb (by first | (with_reducible exact q6) | (with_reducible exact akeep q6) | simp [*, go_sem]) (by first | (with_reducible exact f6) | (with_reducible exact afree q6 f6) | simp [*, go_sem]); replace q6 : w1.cell? ⟨w.heap.size + 1, 1, none⟩ = some (.int .i64 0) := bkeep hb (by first | (with_reducible exact q6) | (with_reducible exact akeep q6) | simp [*, go_sem]); clear hb))
    obtain ⟨v1, hv1⟩ : ∃ v1, v1 = w1 := ⟨_, rfl⟩
    subst hv1
    go_wp2_with ((go_at_call 48; refine (isEmpty_any).mono ?_; rintro e w1 ⟨rfl, hb⟩; replace hb0 := bnext (w := w) (by go_grown) hb; have hz := hb.size; (try simp only [World.size_alloc, World.size_setCell] at hz); replace q0 : w1.cell? ⟨w.heap.size, 0, none⟩ = some (.int .i64 so) := bkeep hb (by first | (with_reducible exact q0) | (with_reducible exact akeep q0) | simp [*, go_sem]); replace q1 : w1.cell? ⟨w.heap.size, 1, none⟩ = some (.int .i64 wl) := bkeep hb (by first | (with_reducible exact q1) | (with_reducible exact akeep q1) | simp [*, go_sem]); replace q2 : w1.cell? ⟨w.heap.size, 2, none⟩ = some (.int .i64 wh) := bkeep hb (by first | (with_reducible exact q2) | (with_reducible exact akeep q2) | simp [*, go_sem]); replace q3 : w1.cell? ⟨w.heap.size, 3, none⟩ = some (.int .i64 dl) := bkeep hb (by first | (with_reducible exact q3) | (with_reducible exact akeep q3) | simp [*, go_sem]); replace q4 : w1.cell? ⟨w.heap.size, 4, none⟩ = some (.int .i64 dh) := bkeep hb (by first | (with_reducible exact q4) | (with_reducible exact akeep q4) | simp [*, go_sem]); replace f5 : w1.frozen? ⟨w.heap.size + 1, 0, none⟩ = false := bfree (v := .int .i64 0) hb (by first | (with_reducible exact q5) | (with_reducible exact akeep q5) | simp [*, go_sem]) (by first | (with_reducible exact f5) | (with_reducible exact afree q5 f5) | simp [*, go_sem]); replace q5 : w1.cell? ⟨w.heap.size + 1, 0, none⟩ = some (.int .i64 0) := bkeep hb (by first | (with_reducible exact q5) | (with_reducible exact akeep q5) | simp [*, go_sem]); replace f6 : w1.frozen? ⟨w.heap.size + 1, 1, none⟩ = false := bfree (v := .int .i64 0) hb (by first | (with_reducible exact q6) | (with_reducible exact akeep q6) | simp [*, go_sem]) (by first | (with_reducible exact f6) | (with_reducible exact afree q6 f6) | simp [*, go_sem]); replace q6 : w1.cell? ⟨w.heap.size + 1, 1, none⟩ = some (.int .i64 0) := bkeep hb (by first | (with_reducible exact q6) | (with_reducible exact akeep q6) | simp [*, go_sem]); replace q7 : w1.cell? ⟨v1.heap.size, 0, none⟩ = some (.int .i64 ((common ⟨0, 200⟩ (toldR ⟨so, ⟨wl, wh⟩, ⟨dl, dh⟩⟩)).lo)) := bkeep hb (by first | (with_reducible exact q7) | (with_reducible exact akeep q7) | simp [*, go_sem]); replace q8 : w1.cell? ⟨v1.heap.size, 1, none⟩ = some (.int .i64 ((common ⟨0, 200⟩ (toldR ⟨so, ⟨wl, wh⟩, ⟨dl, dh⟩⟩)).hi)) := bkeep hb (by first | (with_reducible exact q8) | (with_reducible exact akeep q8) | simp [*, go_sem]); clear hb))
    exact bodyPost_ret (v := .tuple #[.agg #[.int .i64 (common ⟨0, 200⟩ (toldR ⟨so, ⟨wl, wh⟩, ⟨dl, dh⟩⟩)).lo, .int .i64 (common ⟨0, 200⟩ (toldR ⟨so, ⟨wl, wh⟩, ⟨dl, dh⟩⟩)).hi], .int .i64 0]) (by simp [*, results, Try.results40, go_sem]) rfl ⟨by first | rfl | simp [*], by go_grown⟩
  · have hv : Ware.told ⟨so, ⟨wl, wh⟩, ⟨dl, dh⟩⟩ = (zRg, 3) := by unfold Ware.told; rw [hT, hE]; rfl
    rw [hv]; clear hv
    have hE2 : emptyB ⟨(common ⟨0, 200⟩ (toldR ⟨so, ⟨wl, wh⟩, ⟨dl, dh⟩⟩)).lo, (common ⟨0, 200⟩ (toldR ⟨so, ⟨wl, wh⟩, ⟨dl, dh⟩⟩)).hi⟩ = true := hE
    clear hE eT
    go_enter Try.func40, Try.ntmps40
    go_upto_region 4 with (first | (go_at_call 81; refine (isTrial_any).mono ?_; rintro e w1 ⟨rfl, hb⟩; replace hb0 := bnext (w := w) (by go_grown) hb; have hz := hb.size; (try simp only [World.size_alloc, World.size_setCell] at hz); replace q0 : w1.cell? ⟨w.heap.size, 0, none⟩ = some (.int .i64 so) := bkeep hb (by first | (with_reducible exact q0) | (with_reducible exact akeep q0) | simp [*, go_sem]); replace q1 : w1.cell? ⟨w.heap.size, 1, none⟩ = some (.int .i64 wl) := bkeep hb (by first | (with_reducible exact q1) | (with_reducible exact akeep q1) | simp [*, go_sem]); replace q2 : w1.cell? ⟨w.heap.size, 2, none⟩ = some (.int .i64 wh) := bkeep hb (by first | (with_reducible exact q2) | (with_reducible exact akeep q2) | simp [*, go_sem]); replace q3 : w1.cell? ⟨w.heap.size, 3, none⟩ = some (.int .i64 dl) := bkeep hb (by first | (with_reducible exact q3) | (with_reducible exact akeep q3) | simp [*, go_sem]); replace q4 : w1.cell? ⟨w.heap.size, 4, none⟩ = some (.int .i64 dh) := bkeep hb (by first | (with_reducible exact q4) | (with_reducible exact akeep q4) | simp [*, go_sem]); replace f5 : w1.frozen? ⟨w.heap.size + 1, 0, none⟩ = false := bfree (v := .int .i64 0) hb (by first | (with_reducible exact q5) | (with_reducible exact akeep q5) | simp [*, go_sem]) (by first | (with_reducible exact f5) | (with_reducible exact afree q5 f5) | simp [*, go_sem]); replace q5 : w1.cell? ⟨w.heap.size + 1, 0, none⟩ = some (.int .i64 0) := bkeep hb (by first | (with_reducible exact q5) | (with_reducible exact akeep q5) | simp [*, go_sem]); replace f6 : w1.frozen? ⟨w.heap.size + 1, 1, none⟩ = false := bfree (v := .int .i64 0) hb (by first | (with_reducible exact q6) | (with_reducible exact akeep q6) | simp [*, go_sem]) (by first | (with_reducible exact f6) | (with_reducible exact afree q6 f6) | simp [*, go_sem]); replace q6 : w1.cell? ⟨w.heap.size + 1, 1, none⟩ = some (.int .i64 0) := bkeep hb (by first | (with_reducible exact q6) | (with_reducible exact akeep q6) | simp [*, go_sem]); clear hb) | (go_at_call 82; refine (told_in hT).mono ?_; rintro e w1 ⟨rfl, hb⟩; replace hb0 := bnext (w := w) (by go_grown) hb; have hz := hb.size; (try simp only [World.size_alloc, World.size_setCell] at hz); replace q0 : w1.cell? ⟨w.heap.size, 0, none⟩ = some (.int .i64 so) := bkeep hb (by first | (with_reducible exact q0) | (with_reducible exact akeep q0) | simp [*, go_sem]); replace q1 : w1.cell? ⟨w.heap.size, 1, none⟩ = some (.int .i64 wl) := bkeep hb (by first | (with_reducible exact q1) | (with_reducible exact akeep q1) | simp [*, go_sem]); replace q2 : w1.cell? ⟨w.heap.size, 2, none⟩ = some (.int .i64 wh) := bkeep hb (by first | (with_reducible exact q2) | (with_reducible exact akeep q2) | simp [*, go_sem]); replace q3 : w1.cell? ⟨w.heap.size, 3, none⟩ = some (.int .i64 dl) := bkeep hb (by first | (with_reducible exact q3) | (with_reducible exact akeep q3) | simp [*, go_sem]); replace q4 : w1.cell? ⟨w.heap.size, 4, none⟩ = some (.int .i64 dh) := bkeep hb (by first | (with_reducible exact q4) | (with_reducible exact akeep q4) | simp [*, go_sem]); replace f5 : w1.frozen? ⟨w.heap.size + 1, 0, none⟩ = false := bfree (v := .int .i64 0) hb (by first | (with_reducible exact q5) | (with_reducible exact akeep q5) | simp [*, go_sem]) (by first | (with_reducible exact f5) | (with_reducible exact afree q5 f5) | simp [*, go_sem]); replace q5 : w1.cell? ⟨w.heap.size + 1, 0, none⟩ = some (.int .i64 0) := bkeep hb (by first | (with_reducible exact q5) | (with_reducible exact akeep q5) | simp [*, go_sem]); replace f6 : w1.frozen? ⟨w.heap.size + 1, 1, none⟩ = false := bfree (v := .int .i64 0) hb (by first | (with_reducible exact q6) | (with_reducible exact akeep q6) | simp [*, go_sem]) (by first | (with_reducible exact f6) | (with_reducible exact afree q6 f6) | simp [*, go_sem]); replace q6 : w1.cell? ⟨w.heap.size + 1, 1, none⟩ = some (.int .i64 0) := bkeep hb (by first | (with_reducible exact q6) | (with_reducible exact akeep q6) | simp [*, go_sem]); clear hb))
    obtain ⟨v1, hv1⟩ : ∃ v1, v1 = w1 := ⟨_, rfl⟩
    subst hv1
    go_wp2_with ((go_at_call 48; refine (isEmpty_any).mono ?_; rintro e w1 ⟨rfl, hb⟩; replace hb0 := bnext (w := w) (by go_grown) hb; have hz := hb.size; (try simp only [World.size_alloc, World.size_setCell] at hz); replace q0 : w1.cell? ⟨w.heap.size, 0, none⟩ = some (.int .i64 so) := bkeep hb (by first | (with_reducible exact q0) | (with_reducible exact akeep q0) | simp [*, go_sem]); replace q1 : w1.cell? ⟨w.heap.size, 1, none⟩ = some (.int .i64 wl) := bkeep hb (by first | (with_reducible exact q1) | (with_reducible exact akeep q1) | simp [*, go_sem]); replace q2 : w1.cell? ⟨w.heap.size, 2, none⟩ = some (.int .i64 wh) := bkeep hb (by first | (with_reducible exact q2) | (with_reducible exact akeep q2) | simp [*, go_sem]); replace q3 : w1.cell? ⟨w.heap.size, 3, none⟩ = some (.int .i64 dl) := bkeep hb (by first | (with_reducible exact q3) | (with_reducible exact akeep q3) | simp [*, go_sem]); replace q4 : w1.cell? ⟨w.heap.size, 4, none⟩ = some (.int .i64 dh) := bkeep hb (by first | (with_reducible exact q4) | (with_reducible exact akeep q4) | simp [*, go_sem]); replace f5 : w1.frozen? ⟨w.heap.size + 1, 0, none⟩ = false := bfree (v := .int .i64 0) hb (by first | (with_reducible exact q5) | (with_reducible exact akeep q5) | simp [*, go_sem]) (by first | (with_reducible exact f5) | (with_reducible exact afree q5 f5) | simp [*, go_sem]); replace q5 : w1.cell? ⟨w.heap.size + 1, 0, none⟩ = some (.int .i64 0) := bkeep hb (by first | (with_reducible exact q5) | (with_reducible exact akeep q5) | simp [*, go_sem]); replace f6 : w1.frozen? ⟨w.heap.size + 1, 1, none⟩ = false := bfree (v := .int .i64 0) hb (by first | (with_reducible exact q6) | (with_reducible exact akeep q6) | simp [*, go_sem]) (by first | (with_reducible exact f6) | (with_reducible exact afree q6 f6) | simp [*, go_sem]); replace q6 : w1.cell? ⟨w.heap.size + 1, 1, none⟩ = some (.int .i64 0) := bkeep hb (by first | (with_reducible exact q6) | (with_reducible exact akeep q6) | simp [*, go_sem]); replace q7 : w1.cell? ⟨v1.heap.size, 0, none⟩ = some (.int .i64 ((common ⟨0, 200⟩ (toldR ⟨so, ⟨wl, wh⟩, ⟨dl, dh⟩⟩)).lo)) := bkeep hb (by first | (with_reducible exact q7) | (with_reducible exact akeep q7) | simp [*, go_sem]); replace q8 : w1.cell? ⟨v1.heap.size, 1, none⟩ = some (.int .i64 ((common ⟨0, 200⟩ (toldR ⟨so, ⟨wl, wh⟩, ⟨dl, dh⟩⟩)).hi)) := bkeep hb (by first | (with_reducible exact q8) | (with_reducible exact akeep q8) | simp [*, go_sem]); clear hb))
    exact bodyPost_ret (v := .tuple #[.agg #[.int .i64 0, .int .i64 0], .int .i64 3]) (by simp [*, results, Try.results40, go_sem]) rfl ⟨by first | rfl | simp [*], by go_grown⟩

theorem shape_c {w : World}  :
    Calls Try.prog 36 #[] w (Ret w (.agg #[.int .i64 7, .int .i64 100, .int .i64 102, .int .i64 100, .int .i64 102, .int .i64 50, .int .i64 51, .int .i64 10, .int .i64 200, .int .i64 210, .int .i64 1000])) := by
  unfold Ret
  go_enter Try.func36, Try.ntmps36
  go_wp2
  exact bodyPost_ret (v := .agg #[.int .i64 7, .int .i64 100, .int .i64 102, .int .i64 100, .int .i64 102, .int .i64 50, .int .i64 51, .int .i64 10, .int .i64 200, .int .i64 210, .int .i64 1000]) (by simp [*, results, Try.results36, go_sem]) rfl ⟨by first | rfl | simp [*], by go_grown⟩

theorem body_c {w : World}  :
    Calls Try.prog 37 #[] w (Ret w (.agg #[.int .i64 1, .int .i64 100, .int .i64 120, .int .i64 50, .int .i64 60, .int .i64 1000, .int .i64 1100])) := by
  unfold Ret
  go_enter Try.func37, Try.ntmps37
  go_wp2
  exact bodyPost_ret (v := .agg #[.int .i64 1, .int .i64 100, .int .i64 120, .int .i64 50, .int .i64 60, .int .i64 1000, .int .i64 1100]) (by simp [*, results, Try.results37, go_sem]) rfl ⟨by first | rfl | simp [*], by go_grown⟩

end Go.Proofs.Ytcadbcmldlammaa
