/- The law WareTwo: whatever the arguments, it returns true; below the blocks that were there nothing turns. -/
import Derived.Test.YtcadbcmldlammaaW28
import Derived.Test.YtcadbcmldlammaaW8
import Derived.Test.YtcadbcmldlammaaM1
import Derived.Test.YtcadbcmldlammaaP10
import Derived.Test.YtcadbcmldlammaaApp
import Derived.Deep.DeepMust
namespace Go.Proofs.Ytcadbcmldlammaa
open Go.RowKit Go.Pb Go.Pb.Ware
set_option linter.unusedVariables false
set_option linter.unusedSimpArgs false


theorem Try.infoT : (Try.prog.info? 33).map (fun i => (i.zero, i.size, i.bytes)) = some (some (.agg #[.int .i64 0, .int .i64 0, .int .i64 0, .int .i64 0, .int .i64 0]), 5, 40) := by kernel_rfl
theorem wrap_id {z : Int} (h0 : -9223372036854775808 ≤ z) (h1 : z ≤ 9223372036854775807) : IntKind.i64.wrap z = z := IntWalk.i64_in _ (by omega)
theorem narrow_two {id sl sh ll lh hl hh : Int} (ts : List TT) (hA : ckA ⟨id, ⟨sl, sh⟩, ⟨ll, lh⟩, ⟨hl, hh⟩⟩ (ts.map rowT) = 0) : ∃ m0 m1 m2 m3 m4 m5 m6 c : Int, (∀ (w : World) (v : Value), RowsAt 5 w v (ts.map rowT) → Calls Try.prog 12 #[.agg #[.int .i64 id, .int .i64 sl, .int .i64 sh, .int .i64 ll, .int .i64 lh, .int .i64 hl, .int .i64 hh], v] w (Ret w (.tuple #[.agg #[.int .i64 m0, .int .i64 m1, .int .i64 m2, .int .i64 m3, .int .i64 m4, .int .i64 m5, .int .i64 m6], .int .i64 c]))) ∧ c = if emptyB (accR ts ⟨sl, sh⟩) = true then 15 else 0 := by
  cases he : emptyB (accR ts ⟨sl, sh⟩)
  · exact ⟨id, (accR ts ⟨sl, sh⟩).lo, (accR ts ⟨sl, sh⟩).hi, ll, lh, hl, hh, 0, fun w v h => narrow_full h hA rfl he, rfl⟩
  · exact ⟨0, 0, 0, 0, 0, 0, 0, 15, fun w v h => narrow_none h hA he, rfl⟩
theorem clash_two {id sl sh ll lh hl hh : Int} (ts : List TT) (hm : ts.length ≤ 30) (hA : ckA ⟨id, ⟨sl, sh⟩, ⟨ll, lh⟩, ⟨hl, hh⟩⟩ (ts.map rowT) = 0) : ∃ (zs : List Int) (c : Int), (∀ (w : World) (v : Value), RowsAt 5 w v (ts.map rowT) → Calls Try.prog 11 #[.agg #[.int .i64 id, .int .i64 sl, .int .i64 sh, .int .i64 ll, .int .i64 lh, .int .i64 hl, .int .i64 hh], v] w (fun e w' => ∃ u, e = .returned (.tuple #[u, .int .i64 c]) ∧ Below w.heap.size w w' ∧ NumsAt w' u zs)) ∧ zs.length ≤ 30 ∧
    (emptyB (accR ts ⟨sl, sh⟩) = false → c = 3) ∧ (emptyB (accR ts ⟨sl, sh⟩) = true → c = 0 ∧ zs = leave (fun b => clashB ts b ⟨sl, sh⟩) (srcs ts).length (srcs ts)) := by
  have hx : clashB ts (srcs ts) ⟨sl, sh⟩ = emptyB (accR ts ⟨sl, sh⟩) := by show emptyB (accR (only (srcs ts) ts) ⟨sl, sh⟩) = _; rw [only_all]
  cases he : emptyB (accR ts ⟨sl, sh⟩)
  · exact ⟨[], 3, fun w v h => (clash_none h hm hA (hx.trans he)).mono fun e w' h => ⟨_, h.1, h.2, NumsAt.nil⟩, by simp, fun _ => rfl, fun h => by cases h⟩
  · exact ⟨_, 0, fun w v h => clash_some h hm hA (hx.trans he), Nat.le_trans (leave_sub _ _).length_le (Nat.le_trans (srcs_length ts) hm), fun h => (by cases h), fun _ => ⟨rfl, rfl⟩⟩
theorem checkClash_ok {w : World} {id sl sh ll lh hl hh : Int} {v : Value} {ts : List TT} (h : RowsAt 5 w v (ts.map rowT)) {b : List Int} {bv : Value} (hi : NumsAt w bv b) (hm : ts.length ≤ 30) (hA : ckA ⟨id, ⟨sl, sh⟩, ⟨ll, lh⟩, ⟨hl, hh⟩⟩ (ts.map rowT) = 0) (h0 : ckC (fun b => clashB ts b ⟨sl, sh⟩) (srcs ts) b = 0) :
    Calls Try.prog 13 #[.agg #[.int .i64 id, .int .i64 sl, .int .i64 sh, .int .i64 ll, .int .i64 lh, .int .i64 hl, .int .i64 hh], v, bv] w (Ret w (.int .i64 0)) := by
  have := checkClash_in h hi hm hA
  rw [h0] at this; exact this

set_option maxRecDepth 100000 in
set_option maxHeartbeats 8000000 in
theorem wareTwo_walk {v tv : Value} {zs : List Int} {rows : List (List Int)} {w : World} (hs : IntsAt w v zs) (hr : RowsAt 5 w tv rows) :
    Calls Try.prog 3 #[v, tv] w (Ret w (.bool true)) := by
  unfold Ret
  obtain ⟨i0, hi, hz0', hz1, hz2⟩ := info_parts Try.infoT
  obtain ⟨ta, tc, rfl, hbl⟩ := hr.shape
  have h5 : ∀ r ∈ rows, r.length = 5 := fun r h => (hr.i64 r h).1
  obtain ⟨ct, hct⟩ : ∃ ct, ckTs rows = ct := ⟨_, rfl⟩
  have CT := hid hct; clear hct
  go_enter Try.func3, Try.ntmps3
  go_wp2_with fail
  refine (madeBody_any (zs := zs) (by first | exact hs | exact hs.below (by go_grown))).mono ?_
  rintro e w1 ⟨sl, sh, ll, lh, hl, hh, rfl, T1, T2, T3, hb⟩
  replace hb0 := bnext (w := w) (by go_grown) hb; have hz := hb.size; (try simp only [World.size_alloc, World.size_setCell] at hz); obtain ⟨hc, hf⟩ := bcell hb; clear hb
  obtain ⟨v1, hv1⟩ : ∃ v, v = w1 := ⟨_, rfl⟩
  subst hv1
  have hB := hid (show boOk ⟨1, ⟨sl, sh⟩, ⟨ll, lh⟩, ⟨hl, hh⟩⟩ = true from boOk_iff.2 (by dsimp only; omega))
  go_wp2_with fail
  refine (rCheckTrials_eq (hr.below (by go_grown)) CT.out).mono ?_
  rintro e w1 ⟨rfl, hb⟩
  replace hb0 := bnext (w := w) (by go_grown) hb; have hz := hb.size; (try simp only [World.size_alloc, World.size_setCell] at hz); replace q0 : w1.cell? ⟨v1.heap.size, 0, none⟩ = some (.int .i64 1) := bkeep hb (by first | (with_reducible exact q0) | (with_reducible exact akeep q0) | simp [*, go_sem]); replace q1 : w1.cell? ⟨v1.heap.size, 1, none⟩ = some (.int .i64 sl) := bkeep hb (by first | (with_reducible exact q1) | (with_reducible exact akeep q1) | simp [*, go_sem]); replace q2 : w1.cell? ⟨v1.heap.size, 2, none⟩ = some (.int .i64 sh) := bkeep hb (by first | (with_reducible exact q2) | (with_reducible exact akeep q2) | simp [*, go_sem]); replace q3 : w1.cell? ⟨v1.heap.size, 3, none⟩ = some (.int .i64 ll) := bkeep hb (by first | (with_reducible exact q3) | (with_reducible exact akeep q3) | simp [*, go_sem]); replace q4 : w1.cell? ⟨v1.heap.size, 4, none⟩ = some (.int .i64 lh) := bkeep hb (by first | (with_reducible exact q4) | (with_reducible exact akeep q4) | simp [*, go_sem]); replace q5 : w1.cell? ⟨v1.heap.size, 5, none⟩ = some (.int .i64 hl) := bkeep hb (by first | (with_reducible exact q5) | (with_reducible exact akeep q5) | simp [*, go_sem]); replace q6 : w1.cell? ⟨v1.heap.size, 6, none⟩ = some (.int .i64 hh) := bkeep hb (by first | (with_reducible exact q6) | (with_reducible exact akeep q6) | simp [*, go_sem]); clear hb
  obtain ⟨v2, hv2⟩ : ∃ v, v = w1 := ⟨_, rfl⟩
  subst hv2
  by_cases hc0 : ct = 0
  · subst hc0
    by_cases hl10 : (rows.length : Int) ≤ 10
    · obtain ⟨h1, h2⟩ := ckTs_0 CT.out
      obtain ⟨ts, rfl⟩ := toTT h5 h2
      rw [List.length_map] at hl10 h1
      clear h2 h5 CT
      have hn : ts.length ≤ 10 := by omega
      clear hl10 h1
      rw [List.length_map] at *
      have hr0 := (hr.below hb0)
      clear hr
      go_wp2_with fail
      go_loopw [1, 6] (fun tv i wr => ∃ (k : Nat), k ≤ ts.length ∧ i = .int .i64 k ∧ RowsAt 5 wr tv ((cur ts k).map rowT) ∧ Below w.heap.size w wr ∧ v1.heap.size + 1 ≤ wr.heap.size ∧ (wr.cell? ⟨v1.heap.size, 0, none⟩ = some (.int .i64 1) ∧ wr.cell? ⟨v1.heap.size, 1, none⟩ = some (.int .i64 sl) ∧ wr.cell? ⟨v1.heap.size, 2, none⟩ = some (.int .i64 sh) ∧ wr.cell? ⟨v1.heap.size, 3, none⟩ = some (.int .i64 ll) ∧ wr.cell? ⟨v1.heap.size, 4, none⟩ = some (.int .i64 lh) ∧ wr.cell? ⟨v1.heap.size, 5, none⟩ = some (.int .i64 hl) ∧ wr.cell? ⟨v1.heap.size, 6, none⟩ = some (.int .i64 hh))) (fun _ i _ => 10 - (intOf i).toNat)
      case atStart => exact ⟨0, by omega, rfl, by rw [cur_0]; exact hr0, hb0, by omega, q0, q1, q2, q3, q4, q5, q6⟩
      case round =>
        obtain ⟨k, hk, rfl, ho, hb0, hz0, q0, q1, q2, q3, q4, q5, q6⟩ := hrel
        have hcl := cur_length ts hk
        obtain ⟨ua, uc, rfl, hul⟩ := ho.shape
        rw [List.length_map, hcl] at ho hul ⊢
        by_cases hlt : k < ts.length
        · go_upto_region 7 with fail
          obtain ⟨a', ha, hrl, hc0, hcc⟩ := (show RowsAt 5 wr (.slice ua ((cur ts k).map rowT).length uc) ((cur ts k).map rowT) by rw [List.length_map, hcl]; exact ho).row (k := k) (by rw [List.length_map, hcl]; exact hlt)
          subst ha
          have hat : ((cur ts k).map rowT)[k]'(by rw [List.length_map, hcl]; exact hlt) = [ts[k].1.source, ts[k].1.wet.lo, ts[k].1.wet.hi, ts[k].1.dry.lo, ts[k].1.dry.hi] := by rw [List.getElem_map, cur_at hlt]; rfl
          rw [hat] at hc0 hcc
          have r0 := hc0 _ rfl
          have r1 := hcc 1 _ (by decide) rfl
          have r2 := hcc 2 _ (by decide) rfl
          have r3 := hcc 3 _ (by decide) rfl
          have r4 := hcc 4 _ (by decide) rfl
          clear hc0 hcc hat hrl
          obtain ⟨hc1, hc2⟩ := ho.caps
          rw [List.length_map, hcl] at hc1
          have hk10 : k ≤ 10 := by omega
          have hk9 : k < 10 := by omega
          have hc3 : (k : Int) ≤ (uc : Int) := by omega
          have hc4 : ((k : Int) + 1) ≤ (uc : Int) := by omega
          have RC1 := hid (show ∀ j u, ((((cur ts k).drop (0)).take (k)).flatMap cellsT)[j]? = some u → wr.cell? (a'.add (j)) = some u from fun j u h => by have h2 := rows_cells (k := 0) (m := k) (show RowsAt 5 wr (.slice (some a') (cur ts k).length uc) ((cur ts k).map rowT) by rw [hcl]; exact ho) j u h; simpa using h2)
          have RC2 := hid (show ∀ j u, ((((cur ts k).drop (k + 1)).take (ts.length - (k + 1))).flatMap cellsT)[j]? = some u → wr.cell? (a'.add ((k + 1) * 5 + j)) = some u from fun j u h => by have h2 := rows_cells (k := k + 1) (m := ts.length - (k + 1)) (show RowsAt 5 wr (.slice (some a') (cur ts k).length uc) ((cur ts k).map rowT) by rw [hcl]; exact ho) j u h; simpa using h2)
          obtain ⟨ad, had⟩ : ∃ ad, (if uc = k + 1 then some a' else some (a'.add ((k + 1) * 5))) = some ad := by split <;> exact ⟨_, rfl⟩
          have HAD := hid (show ∀ j u, ((((cur ts k).drop (k + 1)).take (ts.length - (k + 1))).flatMap cellsT)[j]? = some u → wr.cell? (ad.add j) = some u from fun j u h => by
            by_cases he : uc = k + 1
            · rw [show ts.length - (k + 1) = 0 by omega, List.take_zero] at h; simp at h
            · rw [if_neg he] at had; injection had with had; subst had; rw [Go.Deep.add_add]; exact RC2.out j u h)
          clear RC2
          refine wp_region_F [20, 21, 22, 23] (by kernel_rfl) [(0, NewEmpty wr.heap.size 33), (4, fun v w => w.ownsRow wr.heap.size 33 5 v k ((((cur ts k).drop 0).take k).flatMap cellsT)), (18, NewList wr.heap.size 1 [.int .i64 (1 + (k : Int)), .int .i64 (ts[k].1.wet.lo), .int .i64 (ts[k].1.wet.hi), .int .i64 (ts[k].1.dry.lo), .int .i64 (ts[k].1.dry.hi)])] [0, 1, 2, 3, 4, 5, 6, 7, 8, 9, 10, 11, 12, 13, 14, 15, 16, 17, 18] 3 (by kernel_rfl) rfl (by simp only [List.forall_mem_cons]; exact ⟨keeps_empty, keeps_owns, keeps_list, fun _ h => by cases h⟩) (by kernel_rfl) ?_
          refine ⟨_, _, rfl, .inl ⟨rfl, fun w => rfl⟩, ?_⟩
          refine ⟨_, _, rfl, .inl ⟨rfl, fun w => rfl⟩, ?_⟩
          refine ⟨_, .int .i64 ((k : Int) + 1), rfl, .inl ⟨rfl, fun w => by go_simp; exact wrap_id (by omega) (by omega)⟩, ?_⟩
          refine ⟨_, .slice (some ad) (ts.length - (k + 1)) (uc - (k + 1)), rfl, .inl ⟨rfl, fun w => by go_simp; intro h; exfalso; have := h (by omega); omega⟩, ?_⟩
          show wpS _ _ _ _ _ _ _ (numbered _ _) _ _
          simp only [Act.put, List.getElem_toArray, List.getElem_cons_succ, List.getElem_cons_zero, List.setIfInBounds_toArray, List.set_cons_succ, List.set_cons_zero]
          simp only [numbered, List.filterMap_cons, List.filterMap_nil, List.getElem?_toArray, List.getElem?_cons_succ, List.getElem?_cons_zero, Option.map_some]
          show wpS _ _ _ _ _ _ _ [(_, _), (_, _), (_, _), (_, _), (_, _), (_, _), (_, _), (_, _), (_, _), (_, _), (_, _), (_, _), (_, _), (_, _), (_, _), (_, _), (_, _), (_, _), (_, _)] _ _
          refine wpS_fresh rfl rfl (fun w' hb hF => ?_) ?_
          · change freshAt _ _ _ (NewEmpty wr.heap.size 33) _; unfold freshAt; go_simp; exact empty_of hb
          intro v W hv; simp only [pOf, List.lookup_cons, Nat.reduceBEq, beq_self_eq_true] at hv; have hv0 := hv; obtain ⟨B0, hB0, rfl, -⟩ := hv
          simp only [Act.put, List.setIfInBounds_toArray, List.set_cons_succ, List.set_cons_zero]
          (refine wpS_quiet rfl rfl ?_; intro K hK inst hx; go_big_quiet_op; (first | go_big_quiet_on | (refine ⟨_, fun _ => rfl, ?_⟩; go_big_quiet_on)); clear hx inst)
          (refine wpS_quiet rfl rfl ?_; intro K hK inst hx; go_big_quiet_op; (first | go_big_quiet_on | (refine ⟨_, fun _ => rfl, ?_⟩; go_big_quiet_on)); clear hx inst)
          (refine wpS_quiet rfl rfl ?_; intro K hK inst hx; go_big_quiet_op; refine ⟨_, fun _ => rfl, ?_⟩; go_big_quiet_on; clear hx inst)
          refine wpS_fresh rfl rfl (fun w' hb hF => ?_) ?_
          · change freshAt _ _ _ (fun v w => w.ownsRow wr.heap.size 33 5 v k ((((cur ts k).drop 0).take k).flatMap cellsT)) _; have h0 : NewEmpty wr.heap.size 33 _ w' := hF 0 _ rfl (by kernel_rfl); exact fresh_append (.tmp 33) (.tmp 36) 23 rfl wr.heap.size 33 i0 (.agg #[.int .i64 0, .int .i64 0, .int .i64 0, .int .i64 0, .int .i64 0]) 5 40 Try.underlying23 hi hz0' hz1 hz2 rfl (by decide) (.slice (some ⟨B0, 0, none⟩) 0 0) rfl h0 a' k uc _ rfl (by rw [flatMap_len, List.length_take, List.length_drop, hcl]; omega) (fun j u h => bkeep hb (RC1.out j u h)) one_flat (by unfold maxLen; omega) (by omega) hb.size
          intro v W hv; simp only [pOf, List.lookup_cons, Nat.reduceBEq, beq_self_eq_true] at hv; obtain ⟨ga, gc, rfl, -⟩ := owns_shape hv
          simp only [Act.put, List.setIfInBounds_toArray, List.set_cons_succ, List.set_cons_zero]
          (refine wpS_quiet rfl rfl ?_; intro K hK inst hx; go_big_quiet_op; (first | go_big_quiet_on | (refine ⟨_, fun _ => rfl, ?_⟩; go_big_quiet_on)); clear hx inst)
          (refine wpS_quiet rfl rfl ?_; intro K hK inst hx; go_big_quiet_op; (first | go_big_quiet_on | (refine ⟨_, fun _ => rfl, ?_⟩; go_big_quiet_on)); clear hx inst)
          (refine wpS_quiet rfl rfl ?_; intro K hK inst hx; go_big_quiet_op; (first | go_big_quiet_on | (refine ⟨_, fun _ => rfl, ?_⟩; go_big_quiet_on)); clear hx inst)
          (refine wpS_quiet rfl rfl ?_; intro K hK inst hx; go_big_quiet_op; (first | go_big_quiet_on | (refine ⟨_, fun _ => rfl, ?_⟩; go_big_quiet_on)); clear hx inst)
          (refine wpS_quiet rfl rfl ?_; intro K hK inst hx; go_big_quiet_op; (first | go_big_quiet_on | (refine ⟨_, fun _ => rfl, ?_⟩; go_big_quiet_on)); clear hx inst)
          (refine wpS_quiet rfl rfl ?_; intro K hK inst hx; go_big_quiet_op; (first | go_big_quiet_on | (refine ⟨_, fun _ => rfl, ?_⟩; go_big_quiet_on)); clear hx inst)
          (refine wpS_quiet rfl rfl ?_; intro K hK inst hx; have s0 := fun x => (fun _ => bkeep (BQ.below x) r0) (hx x); have s1 := fun x => (fun _ => bkeep (BQ.below x) r1) (hx x); have s2 := fun x => (fun _ => bkeep (BQ.below x) r2) (hx x); have s3 := fun x => (fun _ => bkeep (BQ.below x) r3) (hx x); have s4 := fun x => (fun _ => bkeep (BQ.below x) r4) (hx x); go_big_quiet_op; (first | go_big_quiet_on | (refine ⟨_, fun _ => rfl, ?_⟩; go_big_quiet_on)); clear hx inst)
          (refine wpS_quiet rfl rfl ?_; intro K hK inst hx; go_big_quiet_op; (first | go_big_quiet_on | (refine ⟨_, fun _ => rfl, ?_⟩; go_big_quiet_on)); clear hx inst)
          (refine wpS_quiet rfl rfl ?_; intro K hK inst hx; go_big_quiet_op; (first | go_big_quiet_on | (refine ⟨_, fun _ => rfl, ?_⟩; go_big_quiet_on)); clear hx inst)
          (refine wpS_quiet rfl rfl ?_; intro K hK inst hx; go_big_quiet_op; (first | go_big_quiet_on | (refine ⟨_, fun _ => rfl, ?_⟩; go_big_quiet_on)); clear hx inst)
          (refine wpS_quiet rfl rfl ?_; intro K hK inst hx; go_big_quiet_op; (first | go_big_quiet_on | (refine ⟨_, fun _ => rfl, ?_⟩; go_big_quiet_on)); clear hx inst)
          (refine wpS_quiet rfl rfl ?_; intro K hK inst hx; have s0 := fun x => (fun _ => bkeep (BQ.below x) r0) (hx x); have s1 := fun x => (fun _ => bkeep (BQ.below x) r1) (hx x); have s2 := fun x => (fun _ => bkeep (BQ.below x) r2) (hx x); have s3 := fun x => (fun _ => bkeep (BQ.below x) r3) (hx x); have s4 := fun x => (fun _ => bkeep (BQ.below x) r4) (hx x); go_big_quiet_op; (first | go_big_quiet_on | (refine ⟨_, fun _ => rfl, ?_⟩; go_big_quiet_on)); clear hx inst)
          (refine wpS_quiet rfl rfl ?_; intro K hK inst hx; go_big_quiet_op; (first | go_big_quiet_on | (refine ⟨_, fun _ => rfl, ?_⟩; go_big_quiet_on)); clear hx inst)
          refine wpS_fresh rfl rfl (fun w' hb hF => ?_) ?_
          · change freshAt _ _ _ (NewList wr.heap.size 1 [.int .i64 (1 + (k : Int)), .int .i64 (ts[k].1.wet.lo), .int .i64 (ts[k].1.wet.hi), .int .i64 (ts[k].1.dry.lo), .int .i64 (ts[k].1.dry.hi)]) _; unfold freshAt; go_simp; exact list_of hb
          intro v W hv; simp only [pOf, List.lookup_cons, Nat.reduceBEq, beq_self_eq_true] at hv; obtain ⟨B18, hB18, rfl, -⟩ := hv
          simp only [Act.put, List.setIfInBounds_toArray, List.set_cons_succ, List.set_cons_zero]
          refine wpS_nil ?_
          intro w2 hall
          have hb := hall.1
          have h37 : w2.ownsRow wr.heap.size 33 5 _ k ((((cur ts k).drop 0).take k).flatMap cellsT) := hall.2 4 _ rfl
          have h51 : NewList wr.heap.size 1 [.int .i64 (1 + (k : Int)), .int .i64 (ts[k].1.wet.lo), .int .i64 (ts[k].1.wet.hi), .int .i64 (ts[k].1.dry.lo), .int .i64 (ts[k].1.dry.hi)] _ w2 := hall.2 18 _ rfl
          obtain ⟨B', hB', hv', hn'⟩ := h51
          obtain rfl : B18 = B' := by simpa using hv'
          refine wpAny_ready (rs := [19]) (by kernel_rfl) (by simp) ?_
          refine AllReady.cons rfl (fun K hK => ?_) AllReady.nil
          refine (if_pos (show Region.wanted _ _ = true from rfl)).mpr ?_
          refine wp_append_own w2 (.tmp 37) (.tmp 51) 23 rfl wr.heap.size 33 i0 (.agg #[.int .i64 0, .int .i64 0, .int .i64 0, .int .i64 0, .int .i64 0]) 5 40 Try.underlying23 hi hz0' hz1 hz2 rfl (by decide) (.slice ga k gc) k _ rfl h37 ⟨B18, 0, none⟩ 1 1 [.int .i64 (1 + (k : Int)), .int .i64 (ts[k].1.wet.lo), .int .i64 (ts[k].1.wet.hi), .int .i64 (ts[k].1.dry.lo), .int .i64 (ts[k].1.dry.hi)] rfl rfl (fun j u h => by rw [Go.WideShapes.add_plain, Nat.zero_add]; exact (hn' j u h).1) (fun u h => by simp only [List.mem_cons, List.not_mem_nil, or_false] at h; rcases h with rfl | rfl | rfl | rfl | rfl <;> rfl) (by unfold maxLen; omega) (by omega) hb.size ?_
          intro v52 w3 ho3 hg3 hnil3
          refine hK _ _ ?_
          clear hK K hnil3
          obtain ⟨ha, hc, rfl, -⟩ := owns_shape ho3
          have hb3 : Below wr.heap.size wr w3 := below_grown hb hg3 h37 hb.size (Nat.le_refl _)
          refine wpAny_ready (rs := [24]) (by kernel_rfl) (by simp) ?_
          refine AllReady.cons rfl (fun K hK => ?_) AllReady.nil
          refine (if_pos (show Region.wanted _ _ = true from rfl)).mpr ?_
          refine wp_append_own w3 (.tmp 52) (.tmp 56) 23 rfl wr.heap.size 33 i0 (.agg #[.int .i64 0, .int .i64 0, .int .i64 0, .int .i64 0, .int .i64 0]) 5 40 Try.underlying23 hi hz0' hz1 hz2 rfl (by decide) (.slice ha (k + 1) hc) (k + 1) _ rfl ho3 ad (ts.length - (k + 1)) (uc - (k + 1)) ((((cur ts k).drop (k + 1)).take (ts.length - (k + 1))).flatMap cellsT) rfl (by rw [flatMap_len, List.length_take, List.length_drop, hcl]; omega) (fun j u h => bkeep hb3 (HAD.out j u h)) one_flat (by unfold maxLen; omega) (by omega) hb3.size ?_
          intro v57 w4 ho4 hg4 hnil4
          refine hK _ _ ?_
          clear hK K hnil4
          obtain ⟨ia, ic, rfl, -⟩ := owns_shape ho4
          have hb4 : Below wr.heap.size wr w4 := below_grown hb3 hg4 ho3 hb3.size (Nat.le_refl _)
          refine wpAny_ready (rs := [25]) (by kernel_rfl) (by simp) ?_
          refine AllReady.cons rfl (fun K hK => ?_) AllReady.nil
          go_simp
          refine hK _ _ ?_; clear hK K
          refine wpAny_done (by kernel_rfl) ?_ _
          refine ⟨rfl, ?_⟩
          have hR : RowsAt 5 w4 (.slice ia (k + 1 + (ts.length - (k + 1))) ic) ((cur ts (k + 1)).map rowT) := trialsAt_of_owns (e := 33) (base := wr.heap.size) (by rw [← cur_cells hlt (by omega), cur_length ts (by omega), show ts.length = k + 1 + (ts.length - (k + 1)) by omega]; rw [show k + 1 + (ts.length - (k + 1)) - (k + 1) = ts.length - (k + 1) by omega]; exact ho4)
          replace q0 := bkeep hb4 q0
          replace q1 := bkeep hb4 q1
          replace q2 := bkeep hb4 q2
          replace q3 := bkeep hb4 q3
          replace q4 := bkeep hb4 q4
          replace q5 := bkeep hb4 q5
          replace q6 := bkeep hb4 q6
          have hz4 := hb4.size
          replace hb0 := bnext (w := w) hb0 hb4
          clear hb hb3 hb4 ho3 ho4 hg3 hg4 h37 hn' hB' hv' r0 r1 r2 r3 r4 ho RC1 HAD
          go_wp2_with fail
          go_roundw
          case rel => exact ⟨k + 1, by omega, by go_num, hR, hb0, by omega, q0, q1, q2, q3, q4, q5, q6⟩
          case measure => first | (simp [intOf]; done) | (simp [intOf]; omega)
        · have hke : k = ts.length := by omega
          subst hke
          obtain ⟨v3, hv3⟩ : ∃ v, v = wr := ⟨_, rfl⟩
          subst hv3
          obtain ⟨us, hus⟩ : ∃ us, us = cur ts ts.length := ⟨_, rfl⟩
          rw [← hus] at ho hcl
          clear hus hr0 hk hlt
          generalize ts.length = n at *
          skip
          have hA := hid (ckA_in hB.out (ckTs_map (ts := us) (by omega)))
          obtain ⟨zs2, c2, hC, hz30, hc20, hc21⟩ := clash_two us (by omega) hA.out
          obtain ⟨m0, m1, m2, m3, m4, m5, m6, c3, hN, hc3⟩ := narrow_two us hA.out
          have HC := hid hC; have HN := hid hN; have C0 := hid hc20; have C1 := hid hc21; have C3 := hid hc3; clear hC hN hc20 hc21 hc3
          go_wp2_with fail
          refine (HC.out _ _ ho).mono ?_
          rintro e w1 ⟨u1, rfl, hb, hu1⟩
          replace hb0 := bnext (w := w) (by go_grown) hb; have hz := hb.size; (try simp only [World.size_alloc, World.size_setCell] at hz); replace q0 : w1.cell? ⟨v1.heap.size, 0, none⟩ = some (.int .i64 1) := bkeep hb (by first | (with_reducible exact q0) | (with_reducible exact akeep q0) | simp [*, go_sem]); replace q1 : w1.cell? ⟨v1.heap.size, 1, none⟩ = some (.int .i64 sl) := bkeep hb (by first | (with_reducible exact q1) | (with_reducible exact akeep q1) | simp [*, go_sem]); replace q2 : w1.cell? ⟨v1.heap.size, 2, none⟩ = some (.int .i64 sh) := bkeep hb (by first | (with_reducible exact q2) | (with_reducible exact akeep q2) | simp [*, go_sem]); replace q3 : w1.cell? ⟨v1.heap.size, 3, none⟩ = some (.int .i64 ll) := bkeep hb (by first | (with_reducible exact q3) | (with_reducible exact akeep q3) | simp [*, go_sem]); replace q4 : w1.cell? ⟨v1.heap.size, 4, none⟩ = some (.int .i64 lh) := bkeep hb (by first | (with_reducible exact q4) | (with_reducible exact akeep q4) | simp [*, go_sem]); replace q5 : w1.cell? ⟨v1.heap.size, 5, none⟩ = some (.int .i64 hl) := bkeep hb (by first | (with_reducible exact q5) | (with_reducible exact akeep q5) | simp [*, go_sem]); replace q6 : w1.cell? ⟨v1.heap.size, 6, none⟩ = some (.int .i64 hh) := bkeep hb (by first | (with_reducible exact q6) | (with_reducible exact akeep q6) | simp [*, go_sem]); skip
          replace ho := ho.below hb
          clear hb
          obtain ⟨v4, hv4⟩ : ∃ v, v = w1 := ⟨_, rfl⟩
          subst hv4
          obtain ⟨xa, xc, rfl, hx1, hx2⟩ := hu1.shape
          go_wp2_with fail
          refine (HN.out _ _ ho).mono ?_
          rintro e w1 ⟨rfl, hb⟩
          replace hb0 := bnext (w := w) (by go_grown) hb; have hz := hb.size; (try simp only [World.size_alloc, World.size_setCell] at hz); replace q0 : w1.cell? ⟨v1.heap.size, 0, none⟩ = some (.int .i64 1) := bkeep hb (by first | (with_reducible exact q0) | (with_reducible exact akeep q0) | simp [*, go_sem]); replace q1 : w1.cell? ⟨v1.heap.size, 1, none⟩ = some (.int .i64 sl) := bkeep hb (by first | (with_reducible exact q1) | (with_reducible exact akeep q1) | simp [*, go_sem]); replace q2 : w1.cell? ⟨v1.heap.size, 2, none⟩ = some (.int .i64 sh) := bkeep hb (by first | (with_reducible exact q2) | (with_reducible exact akeep q2) | simp [*, go_sem]); replace q3 : w1.cell? ⟨v1.heap.size, 3, none⟩ = some (.int .i64 ll) := bkeep hb (by first | (with_reducible exact q3) | (with_reducible exact akeep q3) | simp [*, go_sem]); replace q4 : w1.cell? ⟨v1.heap.size, 4, none⟩ = some (.int .i64 lh) := bkeep hb (by first | (with_reducible exact q4) | (with_reducible exact akeep q4) | simp [*, go_sem]); replace q5 : w1.cell? ⟨v1.heap.size, 5, none⟩ = some (.int .i64 hl) := bkeep hb (by first | (with_reducible exact q5) | (with_reducible exact akeep q5) | simp [*, go_sem]); replace q6 : w1.cell? ⟨v1.heap.size, 6, none⟩ = some (.int .i64 hh) := bkeep hb (by first | (with_reducible exact q6) | (with_reducible exact akeep q6) | simp [*, go_sem]); skip
          replace ho := ho.below hb
          replace hu1 := hu1.below hb
          clear hb
          obtain ⟨v5, hv5⟩ : ∃ v, v = w1 := ⟨_, rfl⟩
          subst hv5
          go_wp2_with fail
          go_loopw [11, 12] (fun tv iv wr => ∃ (i : Nat) (tb : Bool), i ≤ n ∧ iv = .int .i64 i ∧ tv = .bool tb ∧ Hid (tb = twoB us ⟨sl, sh⟩ i) ∧ RowsAt 5 wr (.slice ua n uc) (us.map rowT) ∧ NumsAt wr (.slice xa zs2.length xc) zs2 ∧ Below w.heap.size w wr ∧ v1.heap.size + 1 ≤ wr.heap.size ∧ (wr.cell? ⟨v1.heap.size, 0, none⟩ = some (.int .i64 1) ∧ wr.cell? ⟨v1.heap.size, 1, none⟩ = some (.int .i64 sl) ∧ wr.cell? ⟨v1.heap.size, 2, none⟩ = some (.int .i64 sh) ∧ wr.cell? ⟨v1.heap.size, 3, none⟩ = some (.int .i64 ll) ∧ wr.cell? ⟨v1.heap.size, 4, none⟩ = some (.int .i64 lh) ∧ wr.cell? ⟨v1.heap.size, 5, none⟩ = some (.int .i64 hl) ∧ wr.cell? ⟨v1.heap.size, 6, none⟩ = some (.int .i64 hh))) (fun _ iv _ => 10 - (intOf iv).toNat)
          case atStart => exact ⟨0, false, by omega, rfl, rfl, rfl, ho.below ((Below.refl _ _).alloc (Nat.le_refl _) _), hu1.below ((Below.refl _ _).alloc (Nat.le_refl _) _), by go_grown, by simp; omega, akeep q0, akeep q1, akeep q2, akeep q3, akeep q4, akeep q5, akeep q6⟩
          case round =>
            obtain ⟨i, tb, hin, rfl, rfl, HT, ho, hu1, hb0, hz0, q0, q1, q2, q3, q4, q5, q6⟩ := hrel
            by_cases hlt : i < n
            · obtain ⟨v6, hv6⟩ : ∃ v, v = wr := ⟨_, rfl⟩
              subst hv6
              go_wp2_with fail
              go_loopw [11, 13] (fun tv jv wr => ∃ (j : Nat) (tb : Bool), j ≤ i + 1 ∧ jv = .int .i64 j ∧ tv = .bool tb ∧ Hid (tb = (twoB us ⟨sl, sh⟩ i || rowB us ⟨sl, sh⟩ i j)) ∧ RowsAt 5 wr (.slice ua n uc) (us.map rowT) ∧ NumsAt wr (.slice xa zs2.length xc) zs2 ∧ Below w.heap.size w wr ∧ v1.heap.size + 1 ≤ wr.heap.size ∧ (wr.cell? ⟨v1.heap.size, 0, none⟩ = some (.int .i64 1) ∧ wr.cell? ⟨v1.heap.size, 1, none⟩ = some (.int .i64 sl) ∧ wr.cell? ⟨v1.heap.size, 2, none⟩ = some (.int .i64 sh) ∧ wr.cell? ⟨v1.heap.size, 3, none⟩ = some (.int .i64 ll) ∧ wr.cell? ⟨v1.heap.size, 4, none⟩ = some (.int .i64 lh) ∧ wr.cell? ⟨v1.heap.size, 5, none⟩ = some (.int .i64 hl) ∧ wr.cell? ⟨v1.heap.size, 6, none⟩ = some (.int .i64 hh))) (fun _ jv _ => 11 - (intOf jv).toNat)
              case atStart => exact ⟨0, tb, by omega, rfl, rfl, by rw [HT.out]; simp [rowB, Hid], ho, hu1, hb0, hz0, q0, q1, q2, q3, q4, q5, q6⟩
              case round =>
                clear HT
                obtain ⟨j, tb, hji, rfl, rfl, HT, ho, hu1, hb0, hz0, q0, q1, q2, q3, q4, q5, q6⟩ := hrel
                by_cases hjl : j ≤ i
                · have hjn : j < us.length := by omega
                  have hin2 : i < us.length := by omega
                  obtain ⟨a', ha, -, hc0, hcc⟩ := (show RowsAt 5 wr (.slice ua (us.map rowT).length uc) (us.map rowT) by rw [List.length_map, hcl]; exact ho).row (k := j) (by rw [List.length_map, hcl]; omega)
                  subst ha
                  have hat : (us.map rowT)[j]'(by rw [List.length_map, hcl]; omega) = [us[j].1.source, us[j].1.wet.lo, us[j].1.wet.hi, us[j].1.dry.lo, us[j].1.dry.hi] := by rw [List.getElem_map]; rfl
                  rw [hat] at hc0 hcc
                  have r0 := hc0 _ rfl
                  have r1 := hcc 1 _ (by decide) rfl
                  have r2 := hcc 2 _ (by decide) rfl
                  have r3 := hcc 3 _ (by decide) rfl
                  have r4 := hcc 4 _ (by decide) rfl
                  clear hc0 hcc hat
                  obtain ⟨a2, ha, -, hc0, hcc⟩ := (show RowsAt 5 wr (.slice (some a') (us.map rowT).length uc) (us.map rowT) by rw [List.length_map, hcl]; exact ho).row (k := i) (by rw [List.length_map, hcl]; omega)
                  obtain rfl : a' = a2 := by simpa using ha
                  have hat : (us.map rowT)[i]'(by rw [List.length_map, hcl]; omega) = [us[i].1.source, us[i].1.wet.lo, us[i].1.wet.hi, us[i].1.dry.lo, us[i].1.dry.hi] := by rw [List.getElem_map]; rfl
                  rw [hat] at hc0 hcc
                  have p0 := hc0 _ rfl
                  have p1 := hcc 1 _ (by decide) rfl
                  have p2 := hcc 2 _ (by decide) rfl
                  have p3 := hcc 3 _ (by decide) rfl
                  have p4 := hcc 4 _ (by decide) rfl
                  clear ha hc0 hcc hat
                  have hA2 := hid (ckA_in hB.out (ckTs_map (ts := [us[j], us[i]]) (by simp)))
                  obtain ⟨y0, y1, y2, y3, y4, y5, y6, c4, hN2, hc4⟩ := narrow_two [us[j], us[i]] hA2.out
                  have HN2 := hid hN2; have C4 := hid hc4; clear hN2 hc4 hA2
                  have hpb := hid (show pairB us ⟨sl, sh⟩ i j = emptyB (accR [us[j], us[i]] ⟨sl, sh⟩) from pairB_eq hin2 hjn)
                  have hju : (j : Int) < (n : Int) := by omega
                  have hiu : (i : Int) < (n : Int) := by omega
                  go_upto_region 17 with fail
                  refine wp_region_Rl (l' := _) 15 13 rfl rfl rfl rfl rfl (by kernel_rfl) [(9, NewList wr.heap.size 2 [.int .i64 us[j].1.source, .int .i64 us[j].1.wet.lo, .int .i64 us[j].1.wet.hi, .int .i64 us[j].1.dry.lo, .int .i64 us[j].1.dry.hi, .int .i64 us[i].1.source, .int .i64 us[i].1.wet.lo, .int .i64 us[i].1.wet.hi, .int .i64 us[i].1.dry.lo, .int .i64 us[i].1.dry.hi]), (10, fun v _ => v = .tuple #[.agg #[.int .i64 y0, .int .i64 y1, .int .i64 y2, .int .i64 y3, .int .i64 y4, .int .i64 y5, .int .i64 y6], .int .i64 c4]), (14, NewCells wr.heap.size [.int .i64 0, .int .i64 0, .int .i64 0, .int .i64 0, .int .i64 0, .int .i64 0, .int .i64 0])] [0, 1, 2, 3, 4, 5, 6, 7, 8, 9, 10, 11, 12, 13, 14] 2 (by kernel_rfl) rfl (by simp only [List.forall_mem_cons]; exact ⟨keeps_list, keeps_eq, keeps_new, fun _ h => by cases h⟩) (by kernel_rfl) ?_
                  simp only [numbered, bound, List.set_cons_succ, List.set_cons_zero, List.filterMap_cons, List.filterMap_nil, List.getElem?_toArray, List.getElem?_cons_succ, List.getElem?_cons_zero, Option.map_some]
                  show wpS _ _ _ _ _ _ _ [(_, _), (_, _), (_, _), (_, _), (_, _), (_, _), (_, _), (_, _), (_, _), (_, _), (_, _), (_, _), (_, _), (_, _), (_, _)] _ _
                  (refine wpS_quiet rfl rfl ?_; intro K hK inst hx; have s0 := fun x => (fun _ => bkeep (BQ.below x) q0) (hx x); have s1 := fun x => (fun _ => bkeep (BQ.below x) q1) (hx x); have s2 := fun x => (fun _ => bkeep (BQ.below x) q2) (hx x); have s3 := fun x => (fun _ => bkeep (BQ.below x) q3) (hx x); have s4 := fun x => (fun _ => bkeep (BQ.below x) q4) (hx x); have s5 := fun x => (fun _ => bkeep (BQ.below x) q5) (hx x); have s6 := fun x => (fun _ => bkeep (BQ.below x) q6) (hx x); go_big_quiet_op; (first | go_big_quiet_on | (refine ⟨_, fun _ => rfl, ?_⟩; go_big_quiet_on)); clear hx inst)
                  (refine wpS_quiet rfl rfl ?_; intro K hK inst hx; go_big_quiet_op; (first | go_big_quiet_on | (refine ⟨_, fun _ => rfl, ?_⟩; go_big_quiet_on)); clear hx inst)
                  (refine wpS_quiet rfl rfl ?_; intro K hK inst hx; go_big_quiet_op; (first | go_big_quiet_on | (refine ⟨_, fun _ => rfl, ?_⟩; go_big_quiet_on)); clear hx inst)
                  (refine wpS_quiet rfl rfl ?_; intro K hK inst hx; go_big_quiet_op; (first | go_big_quiet_on | (refine ⟨_, fun _ => rfl, ?_⟩; go_big_quiet_on)); clear hx inst)
                  (refine wpS_quiet rfl rfl ?_; intro K hK inst hx; have s0 := fun x => (fun _ => bkeep (BQ.below x) r0) (hx x); have s1 := fun x => (fun _ => bkeep (BQ.below x) r1) (hx x); have s2 := fun x => (fun _ => bkeep (BQ.below x) r2) (hx x); have s3 := fun x => (fun _ => bkeep (BQ.below x) r3) (hx x); have s4 := fun x => (fun _ => bkeep (BQ.below x) r4) (hx x); go_big_quiet_op; (first | go_big_quiet_on | (refine ⟨_, fun _ => rfl, ?_⟩; go_big_quiet_on)); clear hx inst)
                  (refine wpS_quiet rfl rfl ?_; intro K hK inst hx; go_big_quiet_op; (first | go_big_quiet_on | (refine ⟨_, fun _ => rfl, ?_⟩; go_big_quiet_on)); clear hx inst)
                  (refine wpS_quiet rfl rfl ?_; intro K hK inst hx; go_big_quiet_op; (first | go_big_quiet_on | (refine ⟨_, fun _ => rfl, ?_⟩; go_big_quiet_on)); clear hx inst)
                  (refine wpS_quiet rfl rfl ?_; intro K hK inst hx; go_big_quiet_op; (first | go_big_quiet_on | (refine ⟨_, fun _ => rfl, ?_⟩; go_big_quiet_on)); clear hx inst)
                  (refine wpS_quiet rfl rfl ?_; intro K hK inst hx; have s0 := fun x => (fun _ => bkeep (BQ.below x) p0) (hx x); have s1 := fun x => (fun _ => bkeep (BQ.below x) p1) (hx x); have s2 := fun x => (fun _ => bkeep (BQ.below x) p2) (hx x); have s3 := fun x => (fun _ => bkeep (BQ.below x) p3) (hx x); have s4 := fun x => (fun _ => bkeep (BQ.below x) p4) (hx x); go_big_quiet_op; (first | go_big_quiet_on | (refine ⟨_, fun _ => rfl, ?_⟩; go_big_quiet_on)); clear hx inst)
                  refine wpS_fresh rfl rfl (fun w' hb hF => ?_) ?_
                  · change freshAt _ _ _ (NewList wr.heap.size 2 [.int .i64 us[j].1.source, .int .i64 us[j].1.wet.lo, .int .i64 us[j].1.wet.hi, .int .i64 us[j].1.dry.lo, .int .i64 us[j].1.dry.hi, .int .i64 us[i].1.source, .int .i64 us[i].1.wet.lo, .int .i64 us[i].1.wet.hi, .int .i64 us[i].1.dry.lo, .int .i64 us[i].1.dry.hi]) _; unfold freshAt; go_simp; exact list_of hb
                  intro v W hv; simp only [pOf, List.lookup_cons, Nat.reduceBEq, beq_self_eq_true] at hv; obtain ⟨B9, hB9, rfl, -⟩ := hv
                  simp only [Act.put, List.setIfInBounds_toArray, List.set_cons_succ, List.set_cons_zero]
                  refine wpS_fresh rfl rfl (fun w' hb hF => ?_) ?_
                  · change freshAt _ _ _ (fun v _ => v = .tuple #[.agg #[.int .i64 y0, .int .i64 y1, .int .i64 y2, .int .i64 y3, .int .i64 y4, .int .i64 y5, .int .i64 y6], .int .i64 c4]) _; have h9 : NewList wr.heap.size 2 [.int .i64 us[j].1.source, .int .i64 us[j].1.wet.lo, .int .i64 us[j].1.wet.hi, .int .i64 us[j].1.dry.lo, .int .i64 us[j].1.dry.hi, .int .i64 us[i].1.source, .int .i64 us[i].1.wet.lo, .int .i64 us[i].1.wet.hi, .int .i64 us[i].1.dry.lo, .int .i64 us[i].1.dry.hi] _ w' := hF 9 _ rfl (by kernel_rfl); unfold freshAt; go_simp; exact HN2.out _ _ (rows_two h9 rfl)
                  intro v W hv; simp only [pOf, List.lookup_cons, Nat.reduceBEq, beq_self_eq_true] at hv; subst hv
                  simp only [Act.put, List.setIfInBounds_toArray, List.set_cons_succ, List.set_cons_zero]
                  (refine wpS_quiet rfl rfl ?_; intro K hK inst hx; go_big_quiet_op; (first | go_big_quiet_on | (refine ⟨_, fun _ => rfl, ?_⟩; go_big_quiet_on)); clear hx inst)
                  (refine wpS_quiet rfl rfl ?_; intro K hK inst hx; go_big_quiet_op; (first | go_big_quiet_on | (refine ⟨_, fun _ => rfl, ?_⟩; go_big_quiet_on)); clear hx inst)
                  (refine wpS_quiet rfl rfl ?_; intro K hK inst hx; go_big_quiet_op; (first | go_big_quiet_on | (refine ⟨_, fun _ => rfl, ?_⟩; go_big_quiet_on)); clear hx inst)
                  refine wpS_fresh rfl rfl (fun w' hb hF => ?_) ?_
                  · change freshAt _ _ _ (NewCells wr.heap.size [.int .i64 0, .int .i64 0, .int .i64 0, .int .i64 0, .int .i64 0, .int .i64 0, .int .i64 0]) _; unfold freshAt; go_simp; exact new_of hb
                  intro v W hv; simp only [pOf, List.lookup_cons, Nat.reduceBEq, beq_self_eq_true] at hv; obtain ⟨B14, hB14, rfl, _⟩ := hv
                  simp only [Act.put, List.setIfInBounds_toArray, List.set_cons_succ, List.set_cons_zero]
                  refine wpS_nil ?_
                  intro w2 hall
                  have hb := hall.1
                  have hN : NewCells wr.heap.size [.int .i64 0, .int .i64 0, .int .i64 0, .int .i64 0, .int .i64 0, .int .i64 0, .int .i64 0] (.pointer (some ⟨B14, 0, none⟩)) w2 := hall.2 14 _ rfl
                  obtain ⟨B', hB', hv', hn⟩ := hN
                  obtain rfl : B14 = B' := by simpa using hv'
                  have nB140 := (hn 0 _ rfl).1
                  have mB140 := (hn 0 _ rfl).2
                  have nB141 := (hn 1 _ rfl).1
                  have mB141 := (hn 1 _ rfl).2
                  have nB142 := (hn 2 _ rfl).1
                  have mB142 := (hn 2 _ rfl).2
                  have nB143 := (hn 3 _ rfl).1
                  have mB143 := (hn 3 _ rfl).2
                  have nB144 := (hn 4 _ rfl).1
                  have mB144 := (hn 4 _ rfl).2
                  have nB145 := (hn 5 _ rfl).1
                  have mB145 := (hn 5 _ rfl).2
                  have nB146 := (hn 6 _ rfl).1
                  have mB146 := (hn 6 _ rfl).2
                  clear hn hv'
                  clear hall
                  refine wpAny_ready (rs := [15]) (by kernel_rfl) (by simp) ?_
                  refine AllReady.cons rfl (fun K hK => ?_) AllReady.nil
                  go_simp
                  refine hK _ _ ?_; clear hK K
                  refine wpAny_ready (rs := [16]) (by kernel_rfl) (by simp) ?_
                  refine AllReady.cons rfl (fun K hK => ?_) AllReady.nil
                  go_simp
                  refine hK _ _ ?_; clear hK K
                  refine wpAny_done (by kernel_rfl) ?_ _
                  refine ⟨rfl, ?_⟩
                  go_upto_region 18 with fail
                  generalize hW4 : (World.setCell (World.setCell (World.setCell (World.setCell (World.setCell (World.setCell (World.setCell w2 ⟨B14, 0, none⟩ _) ⟨B14, 1, none⟩ _) ⟨B14, 2, none⟩ _) ⟨B14, 3, none⟩ _) ⟨B14, 4, none⟩ _) ⟨B14, 5, none⟩ _) ⟨B14, 6, none⟩ _) = W4
                  have hbB : Below wr.heap.size wr W4 := by rw [← hW4]; exact (((((((hb.setCell (p := ⟨B14, 0, none⟩) hB' _).setCell (p := ⟨B14, 1, none⟩) hB' _).setCell (p := ⟨B14, 2, none⟩) hB' _).setCell (p := ⟨B14, 3, none⟩) hB' _).setCell (p := ⟨B14, 4, none⟩) hB' _).setCell (p := ⟨B14, 5, none⟩) hB' _).setCell (p := ⟨B14, 6, none⟩) hB' _)
                  clear hW4 nB140 mB140 nB141 mB141 nB142 mB142 nB143 mB143 nB144 mB144 nB145 mB145 nB146 mB146
                  clear r0 r1 r2 r3 r4 p0 p1 p2 p3 p4
                  replace q0 := bkeep hbB q0
                  replace q1 := bkeep hbB q1
                  replace q2 := bkeep hbB q2
                  replace q3 := bkeep hbB q3
                  replace q4 := bkeep hbB q4
                  replace q5 := bkeep hbB q5
                  replace q6 := bkeep hbB q6
                  replace ho := ho.below hbB
                  replace hu1 := hu1.below hbB
                  have hzb := hbB.size
                  replace hb0 := bnext (w := w) hb0 hbB
                  clear hbB hb
                  have hrow : ∀ tb2 : Bool, tb2 = (tb || emptyB (accR [us[j], us[i]] ⟨sl, sh⟩)) → Hid (tb2 = (twoB us ⟨sl, sh⟩ i || rowB us ⟨sl, sh⟩ i (j + 1))) := fun tb2 h => by rw [Hid, h, rowB, ← Bool.or_assoc, ← HT.out, hpb.out]
                  obtain ⟨ee, hee⟩ : ∃ ee, emptyB (accR [us[j], us[i]] ⟨sl, sh⟩) = ee := ⟨_, rfl⟩
                  have hc4 := C4.out
                  rw [hee] at hc4 hrow
                  have HRW := hid hrow
                  clear hrow hee C4 HT hpb
                  cases ee <;> cases tb <;> simp only [if_true, if_false, Bool.false_eq_true] at hc4 <;> subst hc4
                  · go_wp2_with fail
                    go_roundw
                    case rel => exact ⟨j + 1, _, by omega, by go_num, rfl, HRW.out _ rfl, ho, hu1, hb0, by omega, q0, q1, q2, q3, q4, q5, q6⟩
                    case measure => first | (simp [intOf]; done) | (simp [intOf]; omega)
                  · go_wp2_with fail
                    go_roundw
                    case rel => exact ⟨j + 1, _, by omega, by go_num, rfl, HRW.out _ rfl, ho, hu1, hb0, by omega, q0, q1, q2, q3, q4, q5, q6⟩
                    case measure => first | (simp [intOf]; done) | (simp [intOf]; omega)
                  · go_wp2_with fail
                    go_roundw
                    case rel => exact ⟨j + 1, _, by omega, by go_num, rfl, HRW.out _ rfl, ho, hu1, hb0, by omega, q0, q1, q2, q3, q4, q5, q6⟩
                    case measure => first | (simp [intOf]; done) | (simp [intOf]; omega)
                  · go_wp2_with fail
                    go_roundw
                    case rel => exact ⟨j + 1, _, by omega, by go_num, rfl, HRW.out _ rfl, ho, hu1, hb0, by omega, q0, q1, q2, q3, q4, q5, q6⟩
                    case measure => first | (simp [intOf]; done) | (simp [intOf]; omega)
                · obtain rfl : j = i + 1 := by omega
                  go_wp2_with fail
                  go_roundw
                  case rel => exact ⟨i + 1, tb, by omega, by go_num, rfl, HT, ho, hu1, hb0, hz0, q0, q1, q2, q3, q4, q5, q6⟩
                  case measure => first | (simp [intOf]; done) | (simp [intOf]; omega)
            · obtain rfl : i = n := by omega
              have hall := two_all (ts := us) (r := ⟨sl, sh⟩) T1.2.1
              rw [hcl, ← HT.out] at hall
              have hc3 := C3.out
              cases he : emptyB (accR us ⟨sl, sh⟩)
              · rw [he] at hall hc3
                subst hall
                simp only [Bool.false_eq_true, if_false] at hc3
                subst hc3
                have hc2 := C0.out he
                subst hc2
                clear HC HN C0 C1 C3 HT
                go_wp2_with ((go_at_call 10; refine (sane_any).mono ?_; rintro e w1 ⟨rfl, hb⟩; replace hb0 := bnext (w := w) (by go_grown) hb; have hz := hb.size; (try simp only [World.size_alloc, World.size_setCell] at hz); obtain ⟨hc, hf⟩ := bcell hb; clear hb))
                all_goals go_ret
                all_goals exact ⟨rfl, by go_grown⟩
              · rw [he] at hall hc3
                subst hall
                simp only [if_true] at hc3
                subst hc3
                obtain ⟨hc2, hz2⟩ := C1.out he
                subst hc2
                have hl := leave_two (ts := us) (r := ⟨sl, sh⟩) T1.2.1 he
                rw [← hz2] at hl
                obtain ⟨hl1, hl2, hl3⟩ := hl
                have hl4 : (1 : Int) ≤ (zs2.length : Int) := by omega
                have hl5 : (zs2.length : Int) ≤ 2 := by omega
                have HL := hid hl3
                clear HC HN C0 C1 C3 HT hl3 hz2
                go_wp2_with (first | (go_at_call 13; refine (checkClash_ok ho hu1 (by omega) hA.out HL.out).mono ?_; rintro e w1 ⟨rfl, hb⟩; replace hb0 := bnext (w := w) (by go_grown) hb; have hz := hb.size; (try simp only [World.size_alloc, World.size_setCell] at hz); obtain ⟨hc, hf⟩ := bcell hb; clear hb) | (go_at_call 10; refine (sane_any).mono ?_; rintro e w1 ⟨rfl, hb⟩; replace hb0 := bnext (w := w) (by go_grown) hb; have hz := hb.size; (try simp only [World.size_alloc, World.size_setCell] at hz); obtain ⟨hc, hf⟩ := bcell hb; clear hb))
                all_goals go_ret
                all_goals exact ⟨rfl, by go_grown⟩
    · go_wp2_with ((go_at_call 10; refine (sane_any).mono ?_; rintro e w1 ⟨rfl, hb⟩; replace hb0 := bnext (w := w) (by go_grown) hb; have hz := hb.size; (try simp only [World.size_alloc, World.size_setCell] at hz); clear hb))
      all_goals go_ret
      all_goals exact ⟨rfl, by go_grown⟩
  · go_wp2_with ((go_at_call 10; refine (sane_any).mono ?_; rintro e w1 ⟨rfl, hb⟩; replace hb0 := bnext (w := w) (by go_grown) hb; have hz := hb.size; (try simp only [World.size_alloc, World.size_setCell] at hz); clear hb))
    all_goals go_ret
    all_goals exact ⟨rfl, by go_grown⟩
end Go.Proofs.Ytcadbcmldlammaa
