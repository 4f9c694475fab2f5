/- The law WareNarrows: whatever the arguments, it returns true; below the blocks that were there nothing turns. -/
import Derived.Test.YtgnljgceddphfaaW21
import Derived.Test.YtgnljgceddphfaaW8
import Derived.Test.YtgnljgceddphfaaM1
import Derived.Lib.MinMax
import Derived.Deep.DeepMust
namespace Go.Proofs.Ytgnljgceddphfaa
open Go.RowKit Go.Pb Go.Pb.Ware
set_option linter.unusedVariables false
set_option linter.unusedSimpArgs false

theorem Try.infoT : (Try.prog.info? 64).map (fun i => (i.zero, i.size, i.bytes)) = some (some (.agg #[.int .i64 0, .int .i64 0, .int .i64 0, .int .i64 0, .int .i64 0]), 5, 40) := by kernel_rfl
theorem bar_eq {id sl sh ll lh hl hh so wet a b c d e z : Int} {w : World} (h : barV ⟨id, ⟨sl, sh⟩, ⟨ll, lh⟩, ⟨hl, hh⟩⟩ so wet = (⟨a, ⟨b, c⟩, ⟨d, e⟩⟩, z)) :
    Calls Try.prog 50 #[.agg #[.int .i64 id, .int .i64 sl, .int .i64 sh, .int .i64 ll, .int .i64 lh, .int .i64 hl, .int .i64 hh], .int .i64 so, .int .i64 wet] w (Ret w (.tuple #[.agg #[.int .i64 a, .int .i64 b, .int .i64 c, .int .i64 d, .int .i64 e], .int .i64 z])) := by
  have := @bar_any w id sl sh ll lh hl hh so wet; rw [h] at this; exact this

set_option maxRecDepth 100000 in
set_option maxHeartbeats 8000000 in
theorem wareNarrows_walk {v bv : Value} {zs : List Int} {rb : List (List Int)} {n : Int} {w : World} (hs : IntsAt w v zs) (hr : RowsAt 3 w bv rb) :
    Calls Try.prog 11 #[v, .int .i64 n, bv] w (Ret w (.bool true)) := by
  unfold Ret
  obtain ⟨i0, hi, hz0', hz1, hz2⟩ := info_parts Try.infoT
  obtain ⟨ba, bc, rfl, hbl⟩ := hr.shape
  go_enter Try.func11, Try.ntmps11
  go_wp2_with fail
  refine (madeBody_any (zs := zs) (by first | exact hs | exact hs.below (by go_grown))).mono ?_
  rintro e w1 ⟨sl, sh, ll, lh, hl, hh, rfl, T1, T2, T3, hb⟩
  replace hb0 := bnext (w := w) (by go_grown) hb; have hz := hb.size; (try simp only [World.size_alloc, World.size_setCell] at hz); obtain ⟨hc, hf⟩ := bcell hb; clear hb
  obtain ⟨v1, hv1⟩ : ∃ v, v = w1 := ⟨_, rfl⟩
  subst hv1
  have hB := hid (show boOk ⟨1, ⟨sl, sh⟩, ⟨ll, lh⟩, ⟨hl, hh⟩⟩ = true from boOk_iff.2 (by dsimp only; omega))
  have y0 := Int.emod_nonneg n (b := sh - sl + 1) (by omega)
  have y1 := Int.emod_lt_of_pos n (b := sh - sl + 1) (by omega)
  go_upto_region 2 with fail
  refine wp_region_qb (by kernel_rfl) (by kernel_rfl) fun hc => ?_
  repeat (go_big_quiet_step ((go_at_call 55; exact BW.call _ (Ret.of_same (mod_any (by omega) (by omega))))))
  (refine wpQuiet_nil ?_; intro w1 hb; replace hb0 := bnext (w := w) (by go_grown) hb; have hz := hb.size; (try simp only [World.size_alloc, World.size_setCell] at hz); replace q0 : w1.cell? ⟨v1.heap.size, 0, none⟩ = some (.int .i64 1) := bkeep hb (by first | (with_reducible exact q0) | (with_reducible exact akeep q0) | simp [*, go_sem]); replace q1 : w1.cell? ⟨v1.heap.size, 1, none⟩ = some (.int .i64 sl) := bkeep hb (by first | (with_reducible exact q1) | (with_reducible exact akeep q1) | simp [*, go_sem]); replace q2 : w1.cell? ⟨v1.heap.size, 2, none⟩ = some (.int .i64 sh) := bkeep hb (by first | (with_reducible exact q2) | (with_reducible exact akeep q2) | simp [*, go_sem]); replace q3 : w1.cell? ⟨v1.heap.size, 3, none⟩ = some (.int .i64 ll) := bkeep hb (by first | (with_reducible exact q3) | (with_reducible exact akeep q3) | simp [*, go_sem]); replace q4 : w1.cell? ⟨v1.heap.size, 4, none⟩ = some (.int .i64 lh) := bkeep hb (by first | (with_reducible exact q4) | (with_reducible exact akeep q4) | simp [*, go_sem]); replace q5 : w1.cell? ⟨v1.heap.size, 5, none⟩ = some (.int .i64 hl) := bkeep hb (by first | (with_reducible exact q5) | (with_reducible exact akeep q5) | simp [*, go_sem]); replace q6 : w1.cell? ⟨v1.heap.size, 6, none⟩ = some (.int .i64 hh) := bkeep hb (by first | (with_reducible exact q6) | (with_reducible exact akeep q6) | simp [*, go_sem]); clear hb)
  clear hc
  obtain ⟨v2, hv2⟩ : ∃ v, v = w1 := ⟨_, rfl⟩
  subst hv2
  generalize hx : sl + n % (sh - sl + 1) = s at *
  have s0 : 40 ≤ s := by omega
  have s1 : sl ≤ s := by omega
  have s2 : s ≤ sh := by omega
  clear hx y0 y1
  go_wp2_with fail
  go_loopw [9, 11] (fun tv i wr => ∃ (k : Nat) (ts : List TT) (R0 : Rg), k ≤ rb.length ∧ k ≤ 12 ∧ i = .int .i64 k ∧ ts.length = k ∧ wr.ownsRow (v2.heap.size + 1) 64 5 tv k (ts.flatMap cellsT) ∧ (∀ t ∈ ts, Inr s (tol t)) ∧ Hid (accR ts ⟨sl, sh⟩ = R0) ∧ Below w.heap.size w wr ∧ v2.heap.size + 1 ≤ wr.heap.size ∧ (wr.cell? ⟨v1.heap.size, 0, none⟩ = some (.int .i64 1) ∧ wr.cell? ⟨v1.heap.size, 1, none⟩ = some (.int .i64 sl) ∧ wr.cell? ⟨v1.heap.size, 2, none⟩ = some (.int .i64 sh) ∧ wr.cell? ⟨v1.heap.size, 3, none⟩ = some (.int .i64 ll) ∧ wr.cell? ⟨v1.heap.size, 4, none⟩ = some (.int .i64 lh) ∧ wr.cell? ⟨v1.heap.size, 5, none⟩ = some (.int .i64 hl) ∧ wr.cell? ⟨v1.heap.size, 6, none⟩ = some (.int .i64 hh)) ∧ wr.cell? ⟨v2.heap.size, 0, none⟩ = some (.int .i64 R0.lo) ∧ wr.frozen? ⟨v2.heap.size, 0, none⟩ = false ∧ wr.cell? ⟨v2.heap.size, 1, none⟩ = some (.int .i64 R0.hi) ∧ wr.frozen? ⟨v2.heap.size, 1, none⟩ = false) (fun _ i _ => 12 - (intOf i).toNat)
  case atStart => exact ⟨0, [], ⟨sl, sh⟩, by omega, by omega, rfl, rfl, World.ownsRow_nil _ _ _ _, by simp, rfl, by go_grown, by simp, ⟨by simp [go_sem, *], by simp [go_sem, *], by simp [go_sem, *], by simp [go_sem, *], by simp [go_sem, *], by simp [go_sem, *], by simp [go_sem, *]⟩, by simp [go_sem], by simp [go_sem], by simp [go_sem], by simp [go_sem]⟩
  case round =>
    obtain ⟨k, ts, R0, hk, hk12, rfl, hlen, ho, hin, hR0, hb0, hz0, ⟨q0, q1, q2, q3, q4, q5, q6⟩, p0, g0, p1, g1⟩ := hrel
    by_cases hlt : k < rb.length
    · by_cases hlt2 : k < 12
      · obtain ⟨ua, uc, rfl, hul⟩ := owns_shape ho
        obtain ⟨a', ha, hrl, hc0, hcc⟩ := (hr.below hb0).row hlt
        subst ha
        obtain ⟨c0, c1, c2, hrr⟩ := len3 hrl
        rw [hrr] at hcc hc0
        have r0 := hc0 _ rfl
        have r1 := hcc 1 _ (by decide) rfl
        have r2 := hcc 2 _ (by decide) rfl
        clear hcc hc0 hrr
        have u0 := Int.emod_nonneg c0 (b := 900) (by omega)
        have u1 := Int.emod_lt_of_pos c0 (b := 900) (by omega)
        have u2 := Int.emod_nonneg c1 (b := 4) (by omega)
        have u3 := Int.emod_lt_of_pos c1 (b := 4) (by omega)
        have u4 := Int.emod_nonneg c2 (b := 3) (by omega)
        have u5 := Int.emod_lt_of_pos c2 (b := 3) (by omega)
        go_wp2_with fail
        refine (mod_any (by omega) (by omega)).mono ?_
        rintro e w3 ⟨rfl, rfl⟩
        generalize c0 % 900 = m0 at *
        go_wp2_with fail
        refine (mod_any (by omega) (by omega)).mono ?_
        rintro e w3 ⟨rfl, rfl⟩
        generalize c1 % 4 = off at *
        have P0 := mul_bd (1 + m0) (1000 - s) 900 1000 (by omega) (by omega) (by omega) (by omega)
        go_upto_region 11 with fail
        generalize hw : 1 + m0 = wet at *
        have W1 : 1 ≤ wet := by omega
        have W2 : wet ≤ 900 := by omega
        clear hw u0 u1
        obtain ⟨BK1, BK2⟩ := bar_ok (so := 1 + (k : Int)) (wet := wet) (off := off) (k := c2 % 3) (s := s) (by omega) (by omega) (by omega) (by omega) (by omega) (by omega) (by omega) (by omega) (by omega) (by omega)
        generalize wet * (1000 - s) = D at *
        have BK := hid (And.intro BK1 BK2)
        clear BK1 BK2
        have d0 : 0 ≤ D / 1000 := Int.ediv_nonneg (by omega) (by omega)
        have d1 : D / 1000 ≤ 900 := by omega
        have d2 := up_bd D 1000 (by omega) (by omega) (by omega)
        refine wp_region_Rs [(11, fun v _ => v = .int .i64 (D / 1000)), (17, fun v _ => v = .int .i64 (c2 % 3)), (21, fun v _ => v = .int .i64 (up D 1000)), (24, NewCells wr.heap.size [.int .i64 0, .int .i64 0, .int .i64 0, .int .i64 0, .int .i64 0])] [0, 1, 2, 3, 4, 5, 6, 7, 8, 9, 10, 11, 12, 13, 14, 15, 16, 17, 18, 19, 20, 21, 22, 23, 24] 1 (by kernel_rfl) rfl (by simp only [List.forall_mem_cons]; exact ⟨keeps_eq, keeps_eq, keeps_eq, keeps_new, fun _ h => by cases h⟩) (by kernel_rfl) ?_
        simp only [numbered, List.filterMap_cons, List.filterMap_nil, List.getElem?_toArray, List.getElem?_cons_succ, List.getElem?_cons_zero, Option.map_some]
        show wpS _ _ _ _ _ _ _ [(_, _), (_, _), (_, _), (_, _), (_, _), (_, _), (_, _), (_, _), (_, _), (_, _), (_, _), (_, _), (_, _), (_, _), (_, _), (_, _), (_, _), (_, _), (_, _), (_, _), (_, _), (_, _), (_, _), (_, _), (_, _)] _ _
        (refine wpS_quiet rfl rfl ?_; intro K hK inst hx; go_big_quiet_op; go_big_quiet_on; clear hx inst)
        (refine wpS_quiet rfl rfl ?_; intro K hK inst hx; go_big_quiet_op; go_big_quiet_on; clear hx inst)
        (refine wpS_quiet rfl rfl ?_; intro K hK inst hx; go_big_quiet_op; go_big_quiet_on; clear hx inst)
        (refine wpS_quiet rfl rfl ?_; intro K hK inst hx; go_big_quiet_op; go_big_quiet_on; clear hx inst)
        (refine wpS_quiet rfl rfl ?_; intro K hK inst hx; go_big_quiet_op; go_big_quiet_on; clear hx inst)
        (refine wpS_quiet rfl rfl ?_; intro K hK inst hx; go_big_quiet_op; go_big_quiet_on; clear hx inst)
        (refine wpS_quiet rfl rfl ?_; intro K hK inst hx; go_big_quiet_op; go_big_quiet_on; clear hx inst)
        (refine wpS_quiet rfl rfl ?_; intro K hK inst hx; go_big_quiet_op; go_big_quiet_on; clear hx inst)
        (refine wpS_quiet rfl rfl ?_; intro K hK inst hx; go_big_quiet_op; go_big_quiet_on; clear hx inst)
        (refine wpS_quiet rfl rfl ?_; intro K hK inst hx; go_big_quiet_op; go_big_quiet_on; clear hx inst)
        (refine wpS_quiet rfl rfl ?_; intro K hK inst hx; go_big_quiet_op; go_big_quiet_on; clear hx inst)
        refine wpS_fresh rfl rfl (fun w' hb hF => ?_) ?_
        · change freshAt _ _ _ (fun v _ => v = .int .i64 (D / 1000)) _; unfold freshAt; go_simp; exact rDown (by omega) (by omega) (by omega) (by omega)
        intro v W hv; simp only [pOf, List.lookup_cons, Nat.reduceBEq, beq_self_eq_true] at hv; subst hv
        simp only [Act.put, List.setIfInBounds_toArray, List.set_cons_succ, List.set_cons_zero]
        (refine wpS_quiet rfl rfl ?_; intro K hK inst hx; go_big_quiet_op; go_big_quiet_on; clear hx inst)
        (refine wpS_quiet rfl rfl ?_; intro K hK inst hx; go_big_quiet_op; go_big_quiet_on; clear hx inst)
        (refine wpS_quiet rfl rfl ?_; intro K hK inst hx; go_big_quiet_op; go_big_quiet_on; clear hx inst)
        (refine wpS_quiet rfl rfl ?_; intro K hK inst hx; go_big_quiet_op; go_big_quiet_on; clear hx inst)
        (refine wpS_quiet rfl rfl ?_; intro K hK inst hx; go_big_quiet_op; go_big_quiet_on; clear hx inst)
        refine wpS_fresh rfl rfl (fun w' hb hF => ?_) ?_
        · change freshAt _ _ _ (fun v _ => v = .int .i64 (c2 % 3)) _; unfold freshAt; go_simp; exact Ret.of_same (mod_any (by omega) (by omega))
        intro v W hv; simp only [pOf, List.lookup_cons, Nat.reduceBEq, beq_self_eq_true] at hv; subst hv
        simp only [Act.put, List.setIfInBounds_toArray, List.set_cons_succ, List.set_cons_zero]
        (refine wpS_quiet rfl rfl ?_; intro K hK inst hx; go_big_quiet_op; go_big_quiet_on; clear hx inst)
        (refine wpS_quiet rfl rfl ?_; intro K hK inst hx; go_big_quiet_op; go_big_quiet_on; clear hx inst)
        (refine wpS_quiet rfl rfl ?_; intro K hK inst hx; go_big_quiet_op; go_big_quiet_on; clear hx inst)
        refine wpS_fresh rfl rfl (fun w' hb hF => ?_) ?_
        · change freshAt _ _ _ (fun v _ => v = .int .i64 (up D 1000)) _; unfold freshAt; go_simp; exact rUp (by omega) (by omega) (by omega) (by omega)
        intro v W hv; simp only [pOf, List.lookup_cons, Nat.reduceBEq, beq_self_eq_true] at hv; subst hv
        simp only [Act.put, List.setIfInBounds_toArray, List.set_cons_succ, List.set_cons_zero]
        (refine wpS_quiet rfl rfl ?_; intro K hK inst hx; go_big_quiet_op; go_big_quiet_on; clear hx inst)
        (refine wpS_quiet rfl rfl ?_; intro K hK inst hx; go_big_quiet_op; go_big_quiet_on; clear hx inst)
        refine wpS_fresh rfl rfl (fun w' hb hF => ?_) ?_
        · change freshAt _ _ _ (NewCells wr.heap.size [.int .i64 0, .int .i64 0, .int .i64 0, .int .i64 0, .int .i64 0]) _; unfold freshAt; go_simp; exact new_of hb
        intro v W hv; simp only [pOf, List.lookup_cons, Nat.reduceBEq, beq_self_eq_true] at hv; obtain ⟨B, hB5, rfl, _⟩ := hv
        simp only [Act.put, List.setIfInBounds_toArray, List.set_cons_succ, List.set_cons_zero]
        refine wpS_nil ?_
        intro w2 hall
        have hb := hall.1
        have hN : NewCells wr.heap.size [.int .i64 0, .int .i64 0, .int .i64 0, .int .i64 0, .int .i64 0] (.pointer (some ⟨B, 0, none⟩)) w2 := hall.2 24 _ rfl
        obtain ⟨B', hB', hv', hn⟩ := hN
        obtain rfl : B = B' := by simpa using hv'
        have nB0 := (hn 0 _ rfl).1
        have mB0 := (hn 0 _ rfl).2
        have nB1 := (hn 1 _ rfl).1
        have mB1 := (hn 1 _ rfl).2
        have nB2 := (hn 2 _ rfl).1
        have mB2 := (hn 2 _ rfl).2
        have nB3 := (hn 3 _ rfl).1
        have mB3 := (hn 3 _ rfl).2
        have nB4 := (hn 4 _ rfl).1
        have mB4 := (hn 4 _ rfl).2
        have dB0 : ¬ B = v1.heap.size := by omega
        have eB0 : ¬ v1.heap.size = B := by omega
        have dB1 : ¬ B = v2.heap.size := by omega
        have eB1 : ¬ v2.heap.size = B := by omega
        clear hn hv'
        have q7 := p0; have q8 := p1; have f7 := g0; have f8 := g1; clear p0 p1 g0 g1
        refine wpAny_ready (rs := [25]) (by kernel_rfl) (by simp) ?_
        refine AllReady.cons rfl (fun K hK => ?_) AllReady.nil
        go_simp
        refine hK _ _ ?_; clear hK K
        refine wpAny_done (by kernel_rfl) ?_ _
        generalize hW3 : (((((w2.setCell ⟨B, 0, none⟩ _).setCell ⟨B, 1, none⟩ _).setCell ⟨B, 2, none⟩ _).setCell ⟨B, 3, none⟩ _).setCell ⟨B, 4, none⟩ _) = W3
        have hbB : Below wr.heap.size wr W3 := by rw [← hW3]; exact (((((hb.setCell (p := ⟨B, 0, none⟩) hB' _).setCell (p := ⟨B, 1, none⟩) hB' _).setCell (p := ⟨B, 2, none⟩) hB' _).setCell (p := ⟨B, 3, none⟩) hB' _).setCell (p := ⟨B, 4, none⟩) hB' _)
        have x0 : W3.cell? ⟨B, 0, none⟩ = some (.int .i64 (1 + (k : Int))) := by rw [← hW3]; simp [go_sem, nB0, nB1, nB2, nB3, nB4]
        have x1 : W3.cell? ⟨B, 1, none⟩ = some (.int .i64 (max (wet - off) 1)) := by rw [← hW3]; simp [go_sem, nB0, nB1, nB2, nB3, nB4]
        have x2 : W3.cell? ⟨B, 2, none⟩ = some (.int .i64 (wet + off)) := by rw [← hW3]; simp [go_sem, nB0, nB1, nB2, nB3, nB4]
        have x3 : W3.cell? ⟨B, 3, none⟩ = some (.int .i64 (max (D / 1000 - c2 % 3) 0)) := by rw [← hW3]; simp [go_sem, nB0, nB1, nB2, nB3, nB4]
        have x4 : W3.cell? ⟨B, 4, none⟩ = some (.int .i64 (up D 1000)) := by rw [← hW3]; simp [go_sem, nB0, nB1, nB2, nB3, nB4]
        clear hW3 nB0 nB1 nB2 nB3 nB4 mB0 mB1 mB2 mB3 mB4 hall hb
        have hb := hbB; clear hbB
        have ho3 := owns_below ho hb; clear ho
        replace hb0 := bnext (w := w) hb0 hb
        have hz := hb.size
        replace q0 := bkeep hb q0
        replace q1 := bkeep hb q1
        replace q2 := bkeep hb q2
        replace q3 := bkeep hb q3
        replace q4 := bkeep hb q4
        replace q5 := bkeep hb q5
        replace q6 := bkeep hb q6
        replace f7 : W3.frozen? ⟨v2.heap.size, 0, none⟩ = false := bfree hb q7 f7
        replace q7 := bkeep hb q7
        replace f8 : W3.frozen? ⟨v2.heap.size, 1, none⟩ = false := bfree hb q8 f8
        replace q8 := bkeep hb q8
        clear hb
        obtain ⟨x, hxd⟩ : ∃ x : TT, x = ⟨⟨1 + (k : Int), ⟨max (wet - off) 1, wet + off⟩, ⟨max (D / 1000 - c2 % 3) 0, up D 1000⟩⟩, BK.out.1⟩ := ⟨_, rfl⟩
        have XC : cellsT x = [.int .i64 (1 + (k : Int)), .int .i64 (max (wet - off) 1), .int .i64 (wet + off), .int .i64 (max (D / 1000 - c2 % 3) 0), .int .i64 (up D 1000)] := by rw [hxd]; rfl
        have XI := hid (show Inr s (tol x) from by rw [hxd]; exact BK.out.2)
        have XC2 := hid XC; clear XC hxd
        go_wp2_with (at_builtin; go_must (refine wpList_append_own _ rfl _ _ 54 rfl (v2.heap.size + 1) 64 i0 (.agg #[.int .i64 0, .int .i64 0, .int .i64 0, .int .i64 0, .int .i64 0]) 5 40 Try.underlying54 hi hz0' hz1 hz2 rfl (by decide) _ _ _ rfl (ho3.alloc _) ⟨W3.heap.size, 0, none⟩ 1 1 (cellsT x) rfl rfl ?c1 one_cellsT (by unfold maxLen; omega) (by omega) (by simp; omega) ?_; (case c1 => (have h := new_cellsT W3 x 64; rw [XC2.out] at h ⊢; exact h)); intro v' w4 ho4 hg4 hnil; have hb4 := below_grown (hb0.alloc (by omega) _) hg4 (ho3.alloc _) (by simp; omega) (by omega); have hz4 := hg4.size; simp only [World.size_alloc] at hz4; have q0' := grown_kept hg4 (akeep q0) (owns_not ho3 (by omega)); replace q0 := q0'; clear q0'; have q1' := grown_kept hg4 (akeep q1) (owns_not ho3 (by omega)); replace q1 := q1'; clear q1'; have q2' := grown_kept hg4 (akeep q2) (owns_not ho3 (by omega)); replace q2 := q2'; clear q2'; have q3' := grown_kept hg4 (akeep q3) (owns_not ho3 (by omega)); replace q3 := q3'; clear q3'; have q4' := grown_kept hg4 (akeep q4) (owns_not ho3 (by omega)); replace q4 := q4'; clear q4'; have q5' := grown_kept hg4 (akeep q5) (owns_not ho3 (by omega)); replace q5 := q5'; clear q5'; have q6' := grown_kept hg4 (akeep q6) (owns_not ho3 (by omega)); replace q6 := q6'; clear q6'; have f7' := grown_free hg4 (akeep q7) (afree q7 f7) (owns_not ho3 (by omega)); replace f7 := f7'; clear f7'; have q7' := grown_kept hg4 (akeep q7) (owns_not ho3 (by omega)); replace q7 := q7'; clear q7'; have f8' := grown_free hg4 (akeep q8) (afree q8 f8) (owns_not ho3 (by omega)); replace f8 := f8'; clear f8'; have q8' := grown_kept hg4 (akeep q8) (owns_not ho3 (by omega)); replace q8 := q8'; clear q8'; clear hg4 hnil ho3; replace hb0 := hb4; clear hb4; obtain ⟨va, vc, rfl, hvl⟩ := owns_shape ho4))
        have ho5 : w4.ownsRow (v2.heap.size + 1) 64 5 (.slice va (k + 1) vc) (ts ++ [x]).length ((ts ++ [x]).flatMap cellsT) := by rw [← flatMap_snoc, List.length_append, hlen]; exact ho4
        clear ho4
        have hT := trialsAt_of_owns ho5
        have hin2 : ∀ t ∈ ts ++ [x], Inr s (tol t) := fun t ht => by rcases List.mem_append.1 ht with h | h; exact hin t h; rw [List.mem_singleton.1 h]; exact XI.out
        obtain ⟨r, hr2⟩ : ∃ r, accR (ts ++ [x]) ⟨sl, sh⟩ = r := ⟨_, rfl⟩
        have HI : Inr s r := by rw [← hr2]; exact inr_acc _ _ ⟨s1, s2⟩ hin2
        have HE := hid (inr_full HI)
        have HA := acc_add ts x ⟨sl, sh⟩
        rw [hr2, hR0.out] at HA
        have HS := acc_in (ts ++ [x]) ⟨sl, sh⟩
        rw [hr2] at HS
        dsimp only at HS
        have HR := hid hr2
        clear hr2
        have i1 : r.lo ≤ s := HI.1
        have i2 : s ≤ r.hi := HI.2
        have i3 : R0.lo ≤ r.lo := HA.1
        have i4 : r.hi ≤ R0.hi := HA.2
        clear HI HA
        have hl2 : (ts ++ [x]).length = k + 1 := by rw [List.length_append, hlen]; rfl
        have HL := hid hl2; clear hl2 XI x0 x1 x2 x3 x4 BK hlen hin r0 r1 r2
        have hA := hid (ckA_in hB.out (ckTs_map (ts := ts ++ [x]) (by rw [HL.out]; omega)))
        refine (narrow_full hT hA.out HR.out HE.out).mono ?_
        rintro e w1 ⟨rfl, hb⟩
        replace ho5 := owns_below (show World.ownsRow _ (v2.heap.size + 1) 64 5 (.slice va (k + 1) vc) (ts ++ [x]).length ((ts ++ [x]).flatMap cellsT) from by repeat (first | exact ho5 | refine World.ownsRow.alloc ?_ _ | refine owns_set ?_ (by omega) _)) hb
        replace hb0 := bnext (w := w) (by go_grown) hb; have hz := hb.size; (try simp only [World.size_alloc, World.size_setCell] at hz); replace q0 : w1.cell? ⟨v1.heap.size, 0, none⟩ = some (.int .i64 1) := bkeep hb (by first | (with_reducible exact q0) | (with_reducible exact akeep q0) | simp [*, go_sem]); replace q1 : w1.cell? ⟨v1.heap.size, 1, none⟩ = some (.int .i64 sl) := bkeep hb (by first | (with_reducible exact q1) | (with_reducible exact akeep q1) | simp [*, go_sem]); replace q2 : w1.cell? ⟨v1.heap.size, 2, none⟩ = some (.int .i64 sh) := bkeep hb (by first | (with_reducible exact q2) | (with_reducible exact akeep q2) | simp [*, go_sem]); replace q3 : w1.cell? ⟨v1.heap.size, 3, none⟩ = some (.int .i64 ll) := bkeep hb (by first | (with_reducible exact q3) | (with_reducible exact akeep q3) | simp [*, go_sem]); replace q4 : w1.cell? ⟨v1.heap.size, 4, none⟩ = some (.int .i64 lh) := bkeep hb (by first | (with_reducible exact q4) | (with_reducible exact akeep q4) | simp [*, go_sem]); replace q5 : w1.cell? ⟨v1.heap.size, 5, none⟩ = some (.int .i64 hl) := bkeep hb (by first | (with_reducible exact q5) | (with_reducible exact akeep q5) | simp [*, go_sem]); replace q6 : w1.cell? ⟨v1.heap.size, 6, none⟩ = some (.int .i64 hh) := bkeep hb (by first | (with_reducible exact q6) | (with_reducible exact akeep q6) | simp [*, go_sem]); replace f7 : w1.frozen? ⟨v2.heap.size, 0, none⟩ = false := bfree (v := .int .i64 R0.lo) hb (by first | (with_reducible exact q7) | (with_reducible exact akeep q7) | simp [*, go_sem]) (by first | (with_reducible exact f7) | (with_reducible exact afree q7 f7) | simp [*, go_sem]); replace q7 : w1.cell? ⟨v2.heap.size, 0, none⟩ = some (.int .i64 R0.lo) := bkeep hb (by first | (with_reducible exact q7) | (with_reducible exact akeep q7) | simp [*, go_sem]); replace f8 : w1.frozen? ⟨v2.heap.size, 1, none⟩ = false := bfree (v := .int .i64 R0.hi) hb (by first | (with_reducible exact q8) | (with_reducible exact akeep q8) | simp [*, go_sem]) (by first | (with_reducible exact f8) | (with_reducible exact afree q8 f8) | simp [*, go_sem]); replace q8 : w1.cell? ⟨v2.heap.size, 1, none⟩ = some (.int .i64 R0.hi) := bkeep hb (by first | (with_reducible exact q8) | (with_reducible exact akeep q8) | simp [*, go_sem]); clear hb
        obtain ⟨v5, hv5⟩ : ∃ v, v = w1 := ⟨_, rfl⟩
        subst hv5
        clear hT hA
        have hBm := hid (show boOk ⟨1, ⟨r.lo, r.hi⟩, ⟨ll, lh⟩, ⟨hl, hh⟩⟩ = true from by have := boOk_iff.1 hB.out; exact boOk_iff.2 (by dsimp only at *; omega))
        obtain ⟨y0, y1, hbe⟩ : ∃ y0 y1, becomes ⟨wet, wet⟩ r = ⟨y0, y1⟩ := ⟨_, _, rfl⟩
        have BS := bar_self (wet := wet) (r := r) W1 W2 (by omega) (by omega) (by omega)
        rw [hbe] at BS
        obtain ⟨y, hyd⟩ : ∃ y : TT, y = ⟨⟨99, ⟨wet, wet⟩, ⟨y0, y1⟩⟩, BS.1⟩ := ⟨_, rfl⟩
        have YC := hid (show cellsT y = [.int .i64 99, .int .i64 wet, .int .i64 wet, .int .i64 y0, .int .i64 y1] by rw [hyd]; rfl)
        have YR := hid (show accR [y] ⟨r.lo, r.hi⟩ = r from by rw [acc_one, hyd]; exact BS.2)
        have hBar := hid (show barV ⟨1, ⟨r.lo, r.hi⟩, ⟨ll, lh⟩, ⟨hl, hh⟩⟩ 99 wet = (⟨99, ⟨wet, wet⟩, ⟨y0, y1⟩⟩, 0) from by have hbe' : becomes ⟨wet, wet⟩ ⟨r.lo, r.hi⟩ = ⟨y0, y1⟩ := hbe; simp only [barV, hBm.out, btw_iff.2 (show (1 : Int) ≤ wet ∧ wet ≤ 2000 from ⟨W1, by omega⟩), btw_iff.2 (show (1 : Int) ≤ 99 ∧ (99 : Int) ≤ 99999 by omega), hbe', if_true])
        clear hyd BS hbe
        go_wp2_with fail
        refine (bar_eq hBar.out).mono ?_
        rintro e w1 ⟨rfl, hb⟩
        replace ho5 := owns_below (show World.ownsRow _ (v2.heap.size + 1) 64 5 (.slice va (k + 1) vc) (ts ++ [x]).length ((ts ++ [x]).flatMap cellsT) from by repeat (first | exact ho5 | refine World.ownsRow.alloc ?_ _ | refine owns_set ?_ (by omega) _)) hb
        replace hb0 := bnext (w := w) (by go_grown) hb; have hz := hb.size; (try simp only [World.size_alloc, World.size_setCell] at hz); replace q0 : w1.cell? ⟨v1.heap.size, 0, none⟩ = some (.int .i64 1) := bkeep hb (by first | (with_reducible exact q0) | (with_reducible exact akeep q0) | simp [*, go_sem]); replace q1 : w1.cell? ⟨v1.heap.size, 1, none⟩ = some (.int .i64 sl) := bkeep hb (by first | (with_reducible exact q1) | (with_reducible exact akeep q1) | simp [*, go_sem]); replace q2 : w1.cell? ⟨v1.heap.size, 2, none⟩ = some (.int .i64 sh) := bkeep hb (by first | (with_reducible exact q2) | (with_reducible exact akeep q2) | simp [*, go_sem]); replace q3 : w1.cell? ⟨v1.heap.size, 3, none⟩ = some (.int .i64 ll) := bkeep hb (by first | (with_reducible exact q3) | (with_reducible exact akeep q3) | simp [*, go_sem]); replace q4 : w1.cell? ⟨v1.heap.size, 4, none⟩ = some (.int .i64 lh) := bkeep hb (by first | (with_reducible exact q4) | (with_reducible exact akeep q4) | simp [*, go_sem]); replace q5 : w1.cell? ⟨v1.heap.size, 5, none⟩ = some (.int .i64 hl) := bkeep hb (by first | (with_reducible exact q5) | (with_reducible exact akeep q5) | simp [*, go_sem]); replace q6 : w1.cell? ⟨v1.heap.size, 6, none⟩ = some (.int .i64 hh) := bkeep hb (by first | (with_reducible exact q6) | (with_reducible exact akeep q6) | simp [*, go_sem]); replace f7 : w1.frozen? ⟨v2.heap.size, 0, none⟩ = false := bfree (v := .int .i64 r.lo) hb (by first | (with_reducible exact q7) | (with_reducible exact akeep q7) | simp [*, go_sem]) (by first | (with_reducible exact f7) | (with_reducible exact afree q7 f7) | simp [*, go_sem]); replace q7 : w1.cell? ⟨v2.heap.size, 0, none⟩ = some (.int .i64 r.lo) := bkeep hb (by first | (with_reducible exact q7) | (with_reducible exact akeep q7) | simp [*, go_sem]); replace f8 : w1.frozen? ⟨v2.heap.size, 1, none⟩ = false := bfree (v := .int .i64 r.hi) hb (by first | (with_reducible exact q8) | (with_reducible exact akeep q8) | simp [*, go_sem]) (by first | (with_reducible exact f8) | (with_reducible exact afree q8 f8) | simp [*, go_sem]); replace q8 : w1.cell? ⟨v2.heap.size, 1, none⟩ = some (.int .i64 r.hi) := bkeep hb (by first | (with_reducible exact q8) | (with_reducible exact akeep q8) | simp [*, go_sem]); replace q9 : w1.cell? ⟨v5.heap.size, 0, none⟩ = some (.int .i64 1) := bkeep hb (by first | (with_reducible exact q9) | (with_reducible exact akeep q9) | simp [*, go_sem]); replace q10 : w1.cell? ⟨v5.heap.size, 1, none⟩ = some (.int .i64 r.lo) := bkeep hb (by first | (with_reducible exact q10) | (with_reducible exact akeep q10) | simp [*, go_sem]); replace q11 : w1.cell? ⟨v5.heap.size, 2, none⟩ = some (.int .i64 r.hi) := bkeep hb (by first | (with_reducible exact q11) | (with_reducible exact akeep q11) | simp [*, go_sem]); replace q12 : w1.cell? ⟨v5.heap.size, 3, none⟩ = some (.int .i64 ll) := bkeep hb (by first | (with_reducible exact q12) | (with_reducible exact akeep q12) | simp [*, go_sem]); replace q13 : w1.cell? ⟨v5.heap.size, 4, none⟩ = some (.int .i64 lh) := bkeep hb (by first | (with_reducible exact q13) | (with_reducible exact akeep q13) | simp [*, go_sem]); replace q14 : w1.cell? ⟨v5.heap.size, 5, none⟩ = some (.int .i64 hl) := bkeep hb (by first | (with_reducible exact q14) | (with_reducible exact akeep q14) | simp [*, go_sem]); replace q15 : w1.cell? ⟨v5.heap.size, 6, none⟩ = some (.int .i64 hh) := bkeep hb (by first | (with_reducible exact q15) | (with_reducible exact akeep q15) | simp [*, go_sem]); clear hb
        obtain ⟨v6, hv6⟩ : ∃ v, v = w1 := ⟨_, rfl⟩
        subst hv6
        clear hBar
        have hA2 := hid (ckA_in hBm.out (ckTs_map (ts := [y]) (by simp)))
        go_wp2_with fail
        have hT2 := trialAt_one (v6.alloc (.cells #[.int .i64 99, .int .i64 wet, .int .i64 wet, .int .i64 y0, .int .i64 y1] 64)) y 64
        rw [YC.out, World.size_alloc] at hT2
        refine (narrow_full hT2 hA2.out YR.out HE.out).mono ?_
        rintro e w1 ⟨rfl, hb⟩
        replace ho5 := owns_below (show World.ownsRow _ (v2.heap.size + 1) 64 5 (.slice va (k + 1) vc) (ts ++ [x]).length ((ts ++ [x]).flatMap cellsT) from by repeat (first | exact ho5 | refine World.ownsRow.alloc ?_ _ | refine owns_set ?_ (by omega) _)) hb
        replace hb0 := bnext (w := w) (by go_grown) hb; have hz := hb.size; (try simp only [World.size_alloc, World.size_setCell] at hz); replace q0 : w1.cell? ⟨v1.heap.size, 0, none⟩ = some (.int .i64 1) := bkeep hb (by first | (with_reducible exact q0) | (with_reducible exact akeep q0) | simp [*, go_sem]); replace q1 : w1.cell? ⟨v1.heap.size, 1, none⟩ = some (.int .i64 sl) := bkeep hb (by first | (with_reducible exact q1) | (with_reducible exact akeep q1) | simp [*, go_sem]); replace q2 : w1.cell? ⟨v1.heap.size, 2, none⟩ = some (.int .i64 sh) := bkeep hb (by first | (with_reducible exact q2) | (with_reducible exact akeep q2) | simp [*, go_sem]); replace q3 : w1.cell? ⟨v1.heap.size, 3, none⟩ = some (.int .i64 ll) := bkeep hb (by first | (with_reducible exact q3) | (with_reducible exact akeep q3) | simp [*, go_sem]); replace q4 : w1.cell? ⟨v1.heap.size, 4, none⟩ = some (.int .i64 lh) := bkeep hb (by first | (with_reducible exact q4) | (with_reducible exact akeep q4) | simp [*, go_sem]); replace q5 : w1.cell? ⟨v1.heap.size, 5, none⟩ = some (.int .i64 hl) := bkeep hb (by first | (with_reducible exact q5) | (with_reducible exact akeep q5) | simp [*, go_sem]); replace q6 : w1.cell? ⟨v1.heap.size, 6, none⟩ = some (.int .i64 hh) := bkeep hb (by first | (with_reducible exact q6) | (with_reducible exact akeep q6) | simp [*, go_sem]); replace f7 : w1.frozen? ⟨v2.heap.size, 0, none⟩ = false := bfree (v := .int .i64 r.lo) hb (by first | (with_reducible exact q7) | (with_reducible exact akeep q7) | simp [*, go_sem]) (by first | (with_reducible exact f7) | (with_reducible exact afree q7 f7) | simp [*, go_sem]); replace q7 : w1.cell? ⟨v2.heap.size, 0, none⟩ = some (.int .i64 r.lo) := bkeep hb (by first | (with_reducible exact q7) | (with_reducible exact akeep q7) | simp [*, go_sem]); replace f8 : w1.frozen? ⟨v2.heap.size, 1, none⟩ = false := bfree (v := .int .i64 r.hi) hb (by first | (with_reducible exact q8) | (with_reducible exact akeep q8) | simp [*, go_sem]) (by first | (with_reducible exact f8) | (with_reducible exact afree q8 f8) | simp [*, go_sem]); replace q8 : w1.cell? ⟨v2.heap.size, 1, none⟩ = some (.int .i64 r.hi) := bkeep hb (by first | (with_reducible exact q8) | (with_reducible exact akeep q8) | simp [*, go_sem]); replace q9 : w1.cell? ⟨v5.heap.size, 0, none⟩ = some (.int .i64 1) := bkeep hb (by first | (with_reducible exact q9) | (with_reducible exact akeep q9) | simp [*, go_sem]); replace q10 : w1.cell? ⟨v5.heap.size, 1, none⟩ = some (.int .i64 r.lo) := bkeep hb (by first | (with_reducible exact q10) | (with_reducible exact akeep q10) | simp [*, go_sem]); replace q11 : w1.cell? ⟨v5.heap.size, 2, none⟩ = some (.int .i64 r.hi) := bkeep hb (by first | (with_reducible exact q11) | (with_reducible exact akeep q11) | simp [*, go_sem]); replace q12 : w1.cell? ⟨v5.heap.size, 3, none⟩ = some (.int .i64 ll) := bkeep hb (by first | (with_reducible exact q12) | (with_reducible exact akeep q12) | simp [*, go_sem]); replace q13 : w1.cell? ⟨v5.heap.size, 4, none⟩ = some (.int .i64 lh) := bkeep hb (by first | (with_reducible exact q13) | (with_reducible exact akeep q13) | simp [*, go_sem]); replace q14 : w1.cell? ⟨v5.heap.size, 5, none⟩ = some (.int .i64 hl) := bkeep hb (by first | (with_reducible exact q14) | (with_reducible exact akeep q14) | simp [*, go_sem]); replace q15 : w1.cell? ⟨v5.heap.size, 6, none⟩ = some (.int .i64 hh) := bkeep hb (by first | (with_reducible exact q15) | (with_reducible exact akeep q15) | simp [*, go_sem]); replace q16 : w1.cell? ⟨v6.heap.size, 0, none⟩ = some (.int .i64 99) := bkeep hb (by first | (with_reducible exact q16) | (with_reducible exact akeep q16) | simp [*, go_sem]); replace q17 : w1.cell? ⟨v6.heap.size, 1, none⟩ = some (.int .i64 wet) := bkeep hb (by first | (with_reducible exact q17) | (with_reducible exact akeep q17) | simp [*, go_sem]); replace q18 : w1.cell? ⟨v6.heap.size, 2, none⟩ = some (.int .i64 wet) := bkeep hb (by first | (with_reducible exact q18) | (with_reducible exact akeep q18) | simp [*, go_sem]); replace q19 : w1.cell? ⟨v6.heap.size, 3, none⟩ = some (.int .i64 y0) := bkeep hb (by first | (with_reducible exact q19) | (with_reducible exact akeep q19) | simp [*, go_sem]); replace q20 : w1.cell? ⟨v6.heap.size, 4, none⟩ = some (.int .i64 y1) := bkeep hb (by first | (with_reducible exact q20) | (with_reducible exact akeep q20) | simp [*, go_sem]); clear hb
        obtain ⟨v7, hv7⟩ : ∃ v, v = w1 := ⟨_, rfl⟩
        subst hv7
        clear hT2
        go_wp2_with fail
        go_roundw
        case rel => exact ⟨k + 1, ts ++ [x], r, by omega, by omega, by go_num, HL.out, by have h := ho5.alloc (.cells #[.int .i64 1, .int .i64 r.lo, .int .i64 r.hi, .int .i64 ll, .int .i64 lh, .int .i64 hl, .int .i64 hh] 34); rw [HL.out] at h; exact h, hin2, HR, by go_grown, by simp; omega, ⟨by simp [go_sem, *], by simp [go_sem, *], by simp [go_sem, *], by simp [go_sem, *], by simp [go_sem, *], by simp [go_sem, *], by simp [go_sem, *]⟩, by simp [go_sem, *], by simp [go_sem, *], by simp [go_sem, *], by simp [go_sem, *]⟩
        case measure => first | (simp [intOf]; done) | (simp [intOf]; omega)
      · go_wp2_with ((go_at_call 22; refine (sane_any).mono ?_; rintro e w1 ⟨rfl, hb⟩; replace hb0 := bnext (w := w) (by go_grown) hb; have hz := hb.size; (try simp only [World.size_alloc, World.size_setCell] at hz); clear hb))
        all_goals go_ret
        all_goals exact ⟨rfl, by go_grown⟩
    · go_wp2_with ((go_at_call 22; refine (sane_any).mono ?_; rintro e w1 ⟨rfl, hb⟩; replace hb0 := bnext (w := w) (by go_grown) hb; have hz := hb.size; (try simp only [World.size_alloc, World.size_setCell] at hz); clear hb))
      all_goals go_ret
      all_goals exact ⟨rfl, by go_grown⟩
end Go.Proofs.Ytgnljgceddphfaa
