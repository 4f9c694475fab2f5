/- Numbers modulo others; which stands are ahead. -/
import Derived.Test.YtodmidchpbcnpaaGreatG31T
import Derived.Test.YtodmidchpbcnpaaGreatKInRoundT
import Derived.Test.YtodmidchpbcnpaaGreatKLibT
import Derived.Test.YtodmidchpbcnpaaGreatKSqT
namespace Go.Proofs.YtodmidchpbcnpaaGreat
open Go.RowKit Go.Pb Go.Pb.Ware Go.Pb.Sag
set_option linter.unusedVariables false
set_option linter.unusedSimpArgs false

/-- What made returns: a floor, all of it valid. -/
def MadeRes (W : World) (e : Ending) (w' : World) : Prop := ∃ (sv iv : Value) (ss : List (List Int)) (xs : List It) (bwi bde bce bhi bbe : Int), e = .returned (.agg #[sv, .slice none 0 0, .int .i64 1, .int .i64 bwi, .int .i64 bde, .int .i64 bce, .int .i64 bhi, .int .i64 bbe, iv]) ∧ Below W.heap.size W w' ∧
  RowsAt 11 w' sv ss ∧ RowsAt 3 w' iv (xs.map rowX) ∧ GoodS ss ∧ boxOk ⟨1, bwi, bde, bce, bhi, bbe⟩ = true ∧ xs.length ≤ 5 ∧ xs.all (itemB ss) = true

theorem modS_any {n m : Int} {w : World} (h1 : 1 ≤ m) (h2 : m ≤ 140737488355328) :
    Calls Tryz.prog 55 #[.int .i64 n, .int .i64 m] w fun e w' => e = .returned (.int .i64 (n % m)) ∧ w = w' := by
  obtain ⟨e1, e2, e3⟩ := mod_eq n m (by omega)
  have E : Hid ((n.tmod m + m) % m = n % m) := hid (by rw [← Int.tmod_eq_emod_of_nonneg (by omega)]; exact e1)
  clear e1
  go_enter Tryz.func55, Tryz.ntmps55
  go_wp2
  all_goals go_ret
  all_goals exact ⟨ret_int E, rfl⟩

/-- One step of the comparison. -/
theorem less_step {zs ys : List Sq} {k : Nat} {b : Bool} (h1 : k < zs.length) (h2 : k < ys.length) (h : lessB (zs.drop k) (ys.drop k) = b) :
    b = if zs[k].y = ys[k].y ∧ zs[k].x = ys[k].x ∧ zs[k].turned = ys[k].turned then lessB (zs.drop (k + 1)) (ys.drop (k + 1)) else if zs[k].y ≠ ys[k].y then decide (zs[k].y < ys[k].y) else if zs[k].x ≠ ys[k].x then decide (zs[k].x < ys[k].x) else !zs[k].turned := by
  rw [← h, List.drop_eq_getElem_cons h1, List.drop_eq_getElem_cons h2, lessB]
theorem less_end {zs ys : List Sq} {k : Nat} {b : Bool} (h1 : zs.length ≤ k ∨ ys.length ≤ k) (h : lessB (zs.drop k) (ys.drop k) = b) : b = false := by
  rw [← h]
  rcases h1 with h1 | h1
  · rw [List.drop_of_length_le h1]; cases ys.drop k <;> rfl
  · rw [List.drop_of_length_le h1]; cases zs.drop k <;> rfl

set_option maxRecDepth 100000 in
set_option maxHeartbeats 1000000 in
theorem lessS_any {w : World} {v1 v2 : Value} {zs ys : List Sq} {b : Bool} (h1 : StAt w v1 zs) (h2 : StAt w v2 ys) (hz : zs.length ≤ 1000) (hy : ys.length ≤ 1000) (hd : lessB zs ys = b) :
    Calls Tryz.prog 56 #[v1, v2] w (Ret w (.bool b)) := by
  unfold Ret
  obtain ⟨a, ac, rfl, ha1, ha2⟩ := h1.shape
  obtain ⟨c, cc, rfl, hc1, hc2⟩ := h2.shape
  obtain ⟨n, hn⟩ : ∃ n, zs.length = n := ⟨_, rfl⟩
  obtain ⟨m, hm⟩ : ∃ m, ys.length = m := ⟨_, rfl⟩
  have HN := hid hn; have HM := hid hm
  rw [hn] at h1 hz ⊢; rw [hm] at h2 hy ⊢
  clear hn hm ha1 hc1
  go_enter Tryz.func56, Tryz.ntmps56
  go_wp2_with fail
  go_loopg [5, 8] n (fun gk _ kv wr => ∃ k : Nat, k ≤ n ∧ gk = n - k ∧ kv = .int .i64 k ∧ lessB (zs.drop k) (ys.drop k) = b ∧ Below w.heap.size w wr)
  case atStart => exact ⟨0, Nat.zero_le _, rfl, rfl, by rw [List.drop_zero, List.drop_zero]; exact hd, Below.refl _ _⟩
  case round =>
    obtain ⟨k, hk, hgk, rfl, ht, hB⟩ := hrel
    have HGK := hid hgk; have HT := hid ht; clear hgk ht
    by_cases hlt : k < n
    · have hki : (k : Int) < (n : Int) := by omega
      have k1 : k < zs.length := by rw [HN.out]; exact hlt
      by_cases hlm : k < m
      · have hkm : (k : Int) < (m : Int) := by omega
        have hkm2 : ¬ (m : Int) ≤ (k : Int) := by omega
        have k2 : k < ys.length := by rw [HM.out]; exact hlm
        have z1 := (show StAt wr (.slice a zs.length ac) zs by rw [HN.out]; exact h1.below hB).row k1
        have z2 := (show StAt wr (.slice c ys.length cc) ys by rw [HM.out]; exact h2.below hB).row k2
        have hst := less_step k1 k2 HT.out
        obtain ⟨⟨py, px, pt⟩, hp⟩ : ∃ p, zs[k] = p := ⟨_, rfl⟩
        obtain ⟨⟨qy, qx, qt⟩, hq⟩ : ∃ p, ys[k] = p := ⟨_, rfl⟩
        rw [hp] at z1 hst; rw [hq] at z2 hst
        obtain ⟨a', e1, r0, r1, r2⟩ := z1
        obtain ⟨c', e2, t0, t1, t2⟩ := z2
        subst e1; subst e2
        dsimp only at r0 r1 r2 t0 t1 t2 hst
        have HST := hid hst; clear hp hq hst
        have s0 := fun x : BW wr => bkeep x.below r0
        have s1 := fun x : BW wr => bkeep x.below r1
        have s2 := fun x : BW wr => bkeep x.below r2
        have s3 := fun x : BW wr => bkeep x.below t0
        have s4 := fun x : BW wr => bkeep x.below t1
        have s5 := fun x : BW wr => bkeep x.below t2
        obtain ⟨bb, hbb⟩ : ∃ bb, (py == qy && (px == qx && pt == qt)) = bb := ⟨_, rfl⟩
        have HBB := hid hbb; clear hbb
        go_upto_region 6 with fail
        refine wp_region_Rs [(8, fun v _ => v = .bool bb)] [0, 1, 2, 3, 4, 5, 6, 7, 8] 0 (by kernel_rfl) rfl (by simp only [List.forall_mem_cons]; exact ⟨keeps_eq, fun _ h => by cases h⟩) (by kernel_rfl) ?_
        simp only [numbered, List.filterMap_cons, List.filterMap_nil, List.getElem?_toArray, List.getElem?_cons_succ, List.getElem?_cons_zero, Option.map_some]
        show wpS _ _ _ _ _ _ _ [(_, _), (_, _), (_, _), (_, _), (_, _), (_, _), (_, _), (_, _), (_, _)] _ _
        (refine wpS_quiet rfl rfl ?_; intro K hK inst hx; go_big_quiet_op; (first | go_big_quiet_on | (refine ⟨_, fun _ => rfl, ?_⟩; go_big_quiet_on)); clear hx inst)
        (refine wpS_quiet rfl rfl ?_; intro K hK inst hx; go_big_quiet_op; (first | go_big_quiet_on | (refine ⟨_, fun _ => rfl, ?_⟩; go_big_quiet_on)); clear hx inst)
        (refine wpS_quiet rfl rfl ?_; intro K hK inst hx; go_big_quiet_op; (first | go_big_quiet_on | (refine ⟨_, fun _ => rfl, ?_⟩; go_big_quiet_on)); clear hx inst)
        (refine wpS_quiet rfl rfl ?_; intro K hK inst hx; have s0 := fun x => (fun _ => bkeep (BQ.below x) r0) (hx x); have s1 := fun x => (fun _ => bkeep (BQ.below x) r1) (hx x); have s2 := fun x => (fun _ => bkeep (BQ.below x) r2) (hx x); have s3 := fun x => (fun _ => bkeep (BQ.below x) t0) (hx x); have s4 := fun x => (fun _ => bkeep (BQ.below x) t1) (hx x); have s5 := fun x => (fun _ => bkeep (BQ.below x) t2) (hx x); go_big_quiet_op; (first | go_big_quiet_on | (refine ⟨_, fun _ => rfl, ?_⟩; go_big_quiet_on)); clear hx inst)
        (refine wpS_quiet rfl rfl ?_; intro K hK inst hx; go_big_quiet_op; (first | go_big_quiet_on | (refine ⟨_, fun _ => rfl, ?_⟩; go_big_quiet_on)); clear hx inst)
        (refine wpS_quiet rfl rfl ?_; intro K hK inst hx; go_big_quiet_op; (first | go_big_quiet_on | (refine ⟨_, fun _ => rfl, ?_⟩; go_big_quiet_on)); clear hx inst)
        (refine wpS_quiet rfl rfl ?_; intro K hK inst hx; go_big_quiet_op; (first | go_big_quiet_on | (refine ⟨_, fun _ => rfl, ?_⟩; go_big_quiet_on)); clear hx inst)
        (refine wpS_quiet rfl rfl ?_; intro K hK inst hx; have s0 := fun x => (fun _ => bkeep (BQ.below x) r0) (hx x); have s1 := fun x => (fun _ => bkeep (BQ.below x) r1) (hx x); have s2 := fun x => (fun _ => bkeep (BQ.below x) r2) (hx x); have s3 := fun x => (fun _ => bkeep (BQ.below x) t0) (hx x); have s4 := fun x => (fun _ => bkeep (BQ.below x) t1) (hx x); have s5 := fun x => (fun _ => bkeep (BQ.below x) t2) (hx x); go_big_quiet_op; (first | go_big_quiet_on | (refine ⟨_, fun _ => rfl, ?_⟩; go_big_quiet_on)); clear hx inst)
        refine wpS_fresh rfl rfl (fun w' hb hF => ?_) ?_
        · change freshAt _ _ _ (fun v _ => v = .bool bb) _; unfold freshAt; go_simp; rw [← HBB.out]; by_cases h1 : py = qy <;> by_cases h2 : px = qx <;> by_cases h3 : pt = qt <;> simp [h1, h2, h3, Below.refl]
        intro v W hv; simp only [pOf, List.lookup_cons, Nat.reduceBEq, beq_self_eq_true] at hv; subst hv
        simp only [Act.put, List.setIfInBounds_toArray, List.set_cons_succ, List.set_cons_zero]
        refine wpS_nil ?_
        intro w3 hall
        have hb := hall.1
        clear hall s0 s1 s2 s3 s4 s5
        refine wpAny_done (by kernel_rfl) ?_ _
        replace hB := bnext (w := w) hB hb
        replace r0 := bkeep hb r0
        replace r1 := bkeep hb r1
        replace r2 := bkeep hb r2
        replace t0 := bkeep hb t0
        replace t1 := bkeep hb t1
        replace t2 := bkeep hb t2
        clear hb
        have hbb := HBB.out
        cases bb
        · have hst := HST.out
          rw [if_neg (by intro e; obtain ⟨e1, e2, e3⟩ := e; subst e1; subst e2; subst e3; simp at hbb)] at hst
          have HS2 := hid hst; have HBB2 := hid hbb; clear hst HST hbb HBB
          go_upto_region 7 with fail
          have s0 := fun x : BW w3 => bkeep x.below r0
          have s1 := fun x : BW w3 => bkeep x.below r1
          have s2 := fun x : BW w3 => bkeep x.below r2
          have s3 := fun x : BW w3 => bkeep x.below t0
          have s4 := fun x : BW w3 => bkeep x.below t1
          have s5 := fun x : BW w3 => bkeep x.below t2
          refine wp_region_qb (by kernel_rfl) (by kernel_rfl) fun hc => ?_
          repeat (go_big_quiet_step (fail))
          refine wpQuiet_nil ?_
          intro w4 hb
          replace hB := bnext (w := w) hB hb
          replace r0 := bkeep hb r0
          replace r1 := bkeep hb r1
          replace r2 := bkeep hb r2
          replace t0 := bkeep hb t0
          replace t1 := bkeep hb t1
          replace t2 := bkeep hb t2
          clear hb s0 s1 s2 s3 s4 s5
          by_cases hy1 : py = qy
          · have hny : (py != qy) = false := by simp [hy1]
            rw [hny]
            go_upto_region 9 with fail
            have s0 := fun x : BW w4 => bkeep x.below r0
            have s1 := fun x : BW w4 => bkeep x.below r1
            have s2 := fun x : BW w4 => bkeep x.below r2
            have s3 := fun x : BW w4 => bkeep x.below t0
            have s4 := fun x : BW w4 => bkeep x.below t1
            have s5 := fun x : BW w4 => bkeep x.below t2
            refine wp_region_qb (by kernel_rfl) (by kernel_rfl) fun hc => ?_
            repeat (go_big_quiet_step (fail))
            refine wpQuiet_nil ?_
            intro w5 hb
            replace hB := bnext (w := w) hB hb
            replace r0 := bkeep hb r0
            replace r1 := bkeep hb r1
            replace r2 := bkeep hb r2
            replace t0 := bkeep hb t0
            replace t1 := bkeep hb t1
            replace t2 := bkeep hb t2
            clear hb s0 s1 s2 s3 s4 s5
            by_cases hx1 : px = qx
            · have hnx : (px != qx) = false := by simp [hx1]
              rw [hnx]
              have hb2 : b = !pt := by have h := HS2.out; rw [if_neg (by simp [hy1]), if_neg (by simp [hx1])] at h; exact h
              have HB2 := hid hb2; clear hb2
              go_wp2_with fail
              go_ret
              exact ⟨ret_bool HB2.out.symm, hB⟩
            · have hnx : (px != qx) = true := by simp [hx1]
              rw [hnx]
              have hb2 : b = decide (px < qx) := by have h := HS2.out; rw [if_neg (by simp [hy1]), if_pos hx1] at h; exact h
              have HB2 := hid hb2; clear hb2
              go_upto_region 10 with fail
              have s0 := fun x : BW w5 => bkeep x.below r0
              have s1 := fun x : BW w5 => bkeep x.below r1
              have s2 := fun x : BW w5 => bkeep x.below r2
              have s3 := fun x : BW w5 => bkeep x.below t0
              have s4 := fun x : BW w5 => bkeep x.below t1
              have s5 := fun x : BW w5 => bkeep x.below t2
              refine wp_region_qb (by kernel_rfl) (by kernel_rfl) fun hc => ?_
              repeat (go_big_quiet_step (fail))
              refine wpQuiet_nil ?_
              intro w6 hb
              replace hB := bnext (w := w) hB hb
              replace r0 := bkeep hb r0
              replace r1 := bkeep hb r1
              replace r2 := bkeep hb r2
              replace t0 := bkeep hb t0
              replace t1 := bkeep hb t1
              replace t2 := bkeep hb t2
              clear hb s0 s1 s2 s3 s4 s5
              go_wp2_with fail
              go_ret
              exact ⟨ret_bool HB2.out.symm, hB⟩
          · have hny : (py != qy) = true := by simp [hy1]
            rw [hny]
            have hb2 : b = decide (py < qy) := by have h := HS2.out; rw [if_pos hy1] at h; exact h
            have HB2 := hid hb2; clear hb2
            go_upto_region 8 with fail
            have s0 := fun x : BW w4 => bkeep x.below r0
            have s1 := fun x : BW w4 => bkeep x.below r1
            have s2 := fun x : BW w4 => bkeep x.below r2
            have s3 := fun x : BW w4 => bkeep x.below t0
            have s4 := fun x : BW w4 => bkeep x.below t1
            have s5 := fun x : BW w4 => bkeep x.below t2
            refine wp_region_qb (by kernel_rfl) (by kernel_rfl) fun hc => ?_
            repeat (go_big_quiet_step (fail))
            refine wpQuiet_nil ?_
            intro w5 hb
            replace hB := bnext (w := w) hB hb
            replace r0 := bkeep hb r0
            replace r1 := bkeep hb r1
            replace r2 := bkeep hb r2
            replace t0 := bkeep hb t0
            replace t1 := bkeep hb t1
            replace t2 := bkeep hb t2
            clear hb s0 s1 s2 s3 s4 s5
            go_wp2_with fail
            go_ret
            exact ⟨ret_bool HB2.out.symm, hB⟩
        · simp only [Bool.and_eq_true, beq_iff_eq] at hbb
          obtain ⟨e1, e2, e3⟩ := hbb
          subst e1; subst e2; subst e3
          have hst : lessB (zs.drop (k + 1)) (ys.drop (k + 1)) = b := by have h := HST.out; rw [if_pos ⟨rfl, rfl, rfl⟩] at h; exact h.symm
          have HS2 := hid hst; clear hst HST HBB
          go_wp2_with fail
          go_roundg (n - (k + 1))
          case measure => have h := HGK.out; omega
          case rel => exact ⟨k + 1, by omega, rfl, by go_num, HS2.out, hB⟩
      · have hb2 : b = false := less_end (.inr (by rw [HM.out]; omega)) HT.out
        have hkm : (m : Int) ≤ (k : Int) := by omega
        subst hb2
        go_wp2_with fail
        go_ret
        exact ⟨rfl, hB⟩
    · obtain rfl : k = n := by omega
      have hb2 : b = false := less_end (.inl (by rw [HN.out]; exact Nat.le_refl _)) HT.out
      subst hb2
      go_wp2_with fail
      go_ret
      exact ⟨rfl, hB⟩

end Go.Proofs.YtodmidchpbcnpaaGreat
