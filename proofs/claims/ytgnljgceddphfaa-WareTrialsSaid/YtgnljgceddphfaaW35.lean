/- The law WareTrials: whatever the arguments, it returns true; below the blocks that were there nothing turns. -/
import Derived.Test.YtgnljgceddphfaaW34
import Derived.Test.YtgnljgceddphfaaW21
import Derived.Test.YtgnljgceddphfaaW8
import Derived.Test.YtgnljgceddphfaaLate
namespace Go.Proofs.Ytgnljgceddphfaa
open Go.RowKit Go.Pb Go.Pb.Ware
set_option linter.unusedVariables false
set_option linter.unusedSimpArgs false

theorem told_both {so wl wh dl dh : Int} : ∃ a b c : Int, ∀ w : World, Calls Try.prog 48 #[.agg #[.int .i64 so, .int .i64 wl, .int .i64 wh, .int .i64 dl, .int .i64 dh]] w (Ret w (.tuple #[.agg #[.int .i64 a, .int .i64 b], .int .i64 c])) ∧ Calls Try.prog 49 #[.agg #[.int .i64 so, .int .i64 wl, .int .i64 wh, .int .i64 dl, .int .i64 dh]] w (Ret w (.tuple #[.agg #[.int .i64 a, .int .i64 b], .int .i64 c])) := ⟨_, _, _, fun w => ⟨told_any, rTold_any⟩⟩
theorem bar_both {id sl sh ll lh hl hh so wet : Int} : ∃ y0 y1 y2 y3 y4 c : Int, ∀ w : World, Calls Try.prog 50 #[.agg #[.int .i64 id, .int .i64 sl, .int .i64 sh, .int .i64 ll, .int .i64 lh, .int .i64 hl, .int .i64 hh], .int .i64 so, .int .i64 wet] w (Ret w (.tuple #[.agg #[.int .i64 y0, .int .i64 y1, .int .i64 y2, .int .i64 y3, .int .i64 y4], .int .i64 c])) ∧ Calls Try.prog 51 #[.agg #[.int .i64 id, .int .i64 sl, .int .i64 sh, .int .i64 ll, .int .i64 lh, .int .i64 hl, .int .i64 hh], .int .i64 so, .int .i64 wet] w (Ret w (.tuple #[.agg #[.int .i64 y0, .int .i64 y1, .int .i64 y2, .int .i64 y3, .int .i64 y4], .int .i64 c])) := ⟨_, _, _, _, _, _, fun w => ⟨bar_any, rbar_any⟩⟩
set_option maxRecDepth 100000 in
set_option maxHeartbeats 8000000 in
theorem wareTrials_walk {id sl sh ll lh hl hh : Int} {v bv : Value} {rows : List (List Int)} {b : List Int} {w : World} (h : RowsAt 5 w v rows) (hi : NumsAt w bv b) :
    Calls Try.prog 6 #[.agg #[.int .i64 id, .int .i64 sl, .int .i64 sh, .int .i64 ll, .int .i64 lh, .int .i64 hl, .int .i64 hh], v, bv] w (Ret w (.bool true)) := by
  obtain ⟨a, cap, rfl, hlen⟩ := h.shape
  obtain ⟨ba, bc, rfl, hbl, hbl2⟩ := hi.shape
  have h5 : ∀ r ∈ rows, r.length = 5 := fun r hr => (h.i64 r hr).1
  obtain ⟨m0, m1, m2, m3, m4, m5, m6, c1, hN⟩ := narrow_both (id := id) (sl := sl) (sh := sh) (ll := ll) (lh := lh) (hl := hl) (hh := hh) rows h5
  obtain ⟨zs, c2, hC⟩ := clash_both (id := id) (sl := sl) (sh := sh) (ll := ll) (lh := lh) (hl := hl) (hh := hh) rows h5
  obtain ⟨c3, hK⟩ := checkClash_both (id := id) (sl := sl) (sh := sh) (ll := ll) (lh := lh) (hl := hl) (hh := hh) rows h5 b
  obtain ⟨ct, hct⟩ : ∃ ct, ckTs rows = ct := ⟨_, rfl⟩
  have HN := hid hN; have HC := hid hC; have HK := hid hK; have CT := hid hct; clear hN hC hK hct h5
  unfold Ret
  go_enter Try.func6, Try.ntmps6
  go_wp2_with fail
  refine ((HN.out _ _ (h.below (by go_grown))).1).mono ?_
  rintro e w1 ⟨rfl, hb⟩
  replace hb0 := bnext (w := w) (by go_grown) hb; have hz := hb.size; (try simp only [World.size_alloc, World.size_setCell] at hz); replace q0 : w1.cell? ⟨w.heap.size, 0, none⟩ = some (.int .i64 id) := bkeep hb (by first | (with_reducible exact q0) | (with_reducible exact akeep q0) | simp [*, go_sem]); replace q1 : w1.cell? ⟨w.heap.size, 1, none⟩ = some (.int .i64 sl) := bkeep hb (by first | (with_reducible exact q1) | (with_reducible exact akeep q1) | simp [*, go_sem]); replace q2 : w1.cell? ⟨w.heap.size, 2, none⟩ = some (.int .i64 sh) := bkeep hb (by first | (with_reducible exact q2) | (with_reducible exact akeep q2) | simp [*, go_sem]); replace q3 : w1.cell? ⟨w.heap.size, 3, none⟩ = some (.int .i64 ll) := bkeep hb (by first | (with_reducible exact q3) | (with_reducible exact akeep q3) | simp [*, go_sem]); replace q4 : w1.cell? ⟨w.heap.size, 4, none⟩ = some (.int .i64 lh) := bkeep hb (by first | (with_reducible exact q4) | (with_reducible exact akeep q4) | simp [*, go_sem]); replace q5 : w1.cell? ⟨w.heap.size, 5, none⟩ = some (.int .i64 hl) := bkeep hb (by first | (with_reducible exact q5) | (with_reducible exact akeep q5) | simp [*, go_sem]); replace q6 : w1.cell? ⟨w.heap.size, 6, none⟩ = some (.int .i64 hh) := bkeep hb (by first | (with_reducible exact q6) | (with_reducible exact akeep q6) | simp [*, go_sem]); skip
  clear hb
  obtain ⟨v1, hv1⟩ : ∃ v, v = w1 := ⟨_, rfl⟩
  subst hv1
  go_wp2_with fail
  refine ((HN.out _ _ (h.below (by go_grown))).2).mono ?_
  rintro e w1 ⟨rfl, hb⟩
  replace hb0 := bnext (w := w) (by go_grown) hb; have hz := hb.size; (try simp only [World.size_alloc, World.size_setCell] at hz); replace q0 : w1.cell? ⟨w.heap.size, 0, none⟩ = some (.int .i64 id) := bkeep hb (by first | (with_reducible exact q0) | (with_reducible exact akeep q0) | simp [*, go_sem]); replace q1 : w1.cell? ⟨w.heap.size, 1, none⟩ = some (.int .i64 sl) := bkeep hb (by first | (with_reducible exact q1) | (with_reducible exact akeep q1) | simp [*, go_sem]); replace q2 : w1.cell? ⟨w.heap.size, 2, none⟩ = some (.int .i64 sh) := bkeep hb (by first | (with_reducible exact q2) | (with_reducible exact akeep q2) | simp [*, go_sem]); replace q3 : w1.cell? ⟨w.heap.size, 3, none⟩ = some (.int .i64 ll) := bkeep hb (by first | (with_reducible exact q3) | (with_reducible exact akeep q3) | simp [*, go_sem]); replace q4 : w1.cell? ⟨w.heap.size, 4, none⟩ = some (.int .i64 lh) := bkeep hb (by first | (with_reducible exact q4) | (with_reducible exact akeep q4) | simp [*, go_sem]); replace q5 : w1.cell? ⟨w.heap.size, 5, none⟩ = some (.int .i64 hl) := bkeep hb (by first | (with_reducible exact q5) | (with_reducible exact akeep q5) | simp [*, go_sem]); replace q6 : w1.cell? ⟨w.heap.size, 6, none⟩ = some (.int .i64 hh) := bkeep hb (by first | (with_reducible exact q6) | (with_reducible exact akeep q6) | simp [*, go_sem]); replace q7 : w1.cell? ⟨v1.heap.size, 0, none⟩ = some (.int .i64 m0) := bkeep hb (by first | (with_reducible exact q7) | (with_reducible exact akeep q7) | simp [*, go_sem]); replace q8 : w1.cell? ⟨v1.heap.size, 1, none⟩ = some (.int .i64 m1) := bkeep hb (by first | (with_reducible exact q8) | (with_reducible exact akeep q8) | simp [*, go_sem]); replace q9 : w1.cell? ⟨v1.heap.size, 2, none⟩ = some (.int .i64 m2) := bkeep hb (by first | (with_reducible exact q9) | (with_reducible exact akeep q9) | simp [*, go_sem]); replace q10 : w1.cell? ⟨v1.heap.size, 3, none⟩ = some (.int .i64 m3) := bkeep hb (by first | (with_reducible exact q10) | (with_reducible exact akeep q10) | simp [*, go_sem]); replace q11 : w1.cell? ⟨v1.heap.size, 4, none⟩ = some (.int .i64 m4) := bkeep hb (by first | (with_reducible exact q11) | (with_reducible exact akeep q11) | simp [*, go_sem]); replace q12 : w1.cell? ⟨v1.heap.size, 5, none⟩ = some (.int .i64 m5) := bkeep hb (by first | (with_reducible exact q12) | (with_reducible exact akeep q12) | simp [*, go_sem]); replace q13 : w1.cell? ⟨v1.heap.size, 6, none⟩ = some (.int .i64 m6) := bkeep hb (by first | (with_reducible exact q13) | (with_reducible exact akeep q13) | simp [*, go_sem]); skip
  clear hb
  obtain ⟨v2, hv2⟩ : ∃ v, v = w1 := ⟨_, rfl⟩
  subst hv2
  go_wp2_with fail
  refine ((HC.out _ _ (h.below (by go_grown))).1).mono ?_
  rintro e w1 ⟨u1, rfl, hb, hu1⟩
  replace hb0 := bnext (w := w) (by go_grown) hb; have hz := hb.size; (try simp only [World.size_alloc, World.size_setCell] at hz); replace q0 : w1.cell? ⟨w.heap.size, 0, none⟩ = some (.int .i64 id) := bkeep hb (by first | (with_reducible exact q0) | (with_reducible exact akeep q0) | simp [*, go_sem]); replace q1 : w1.cell? ⟨w.heap.size, 1, none⟩ = some (.int .i64 sl) := bkeep hb (by first | (with_reducible exact q1) | (with_reducible exact akeep q1) | simp [*, go_sem]); replace q2 : w1.cell? ⟨w.heap.size, 2, none⟩ = some (.int .i64 sh) := bkeep hb (by first | (with_reducible exact q2) | (with_reducible exact akeep q2) | simp [*, go_sem]); replace q3 : w1.cell? ⟨w.heap.size, 3, none⟩ = some (.int .i64 ll) := bkeep hb (by first | (with_reducible exact q3) | (with_reducible exact akeep q3) | simp [*, go_sem]); replace q4 : w1.cell? ⟨w.heap.size, 4, none⟩ = some (.int .i64 lh) := bkeep hb (by first | (with_reducible exact q4) | (with_reducible exact akeep q4) | simp [*, go_sem]); replace q5 : w1.cell? ⟨w.heap.size, 5, none⟩ = some (.int .i64 hl) := bkeep hb (by first | (with_reducible exact q5) | (with_reducible exact akeep q5) | simp [*, go_sem]); replace q6 : w1.cell? ⟨w.heap.size, 6, none⟩ = some (.int .i64 hh) := bkeep hb (by first | (with_reducible exact q6) | (with_reducible exact akeep q6) | simp [*, go_sem]); replace q7 : w1.cell? ⟨v1.heap.size, 0, none⟩ = some (.int .i64 m0) := bkeep hb (by first | (with_reducible exact q7) | (with_reducible exact akeep q7) | simp [*, go_sem]); replace q8 : w1.cell? ⟨v1.heap.size, 1, none⟩ = some (.int .i64 m1) := bkeep hb (by first | (with_reducible exact q8) | (with_reducible exact akeep q8) | simp [*, go_sem]); replace q9 : w1.cell? ⟨v1.heap.size, 2, none⟩ = some (.int .i64 m2) := bkeep hb (by first | (with_reducible exact q9) | (with_reducible exact akeep q9) | simp [*, go_sem]); replace q10 : w1.cell? ⟨v1.heap.size, 3, none⟩ = some (.int .i64 m3) := bkeep hb (by first | (with_reducible exact q10) | (with_reducible exact akeep q10) | simp [*, go_sem]); replace q11 : w1.cell? ⟨v1.heap.size, 4, none⟩ = some (.int .i64 m4) := bkeep hb (by first | (with_reducible exact q11) | (with_reducible exact akeep q11) | simp [*, go_sem]); replace q12 : w1.cell? ⟨v1.heap.size, 5, none⟩ = some (.int .i64 m5) := bkeep hb (by first | (with_reducible exact q12) | (with_reducible exact akeep q12) | simp [*, go_sem]); replace q13 : w1.cell? ⟨v1.heap.size, 6, none⟩ = some (.int .i64 m6) := bkeep hb (by first | (with_reducible exact q13) | (with_reducible exact akeep q13) | simp [*, go_sem]); replace q14 : w1.cell? ⟨v2.heap.size, 0, none⟩ = some (.int .i64 m0) := bkeep hb (by first | (with_reducible exact q14) | (with_reducible exact akeep q14) | simp [*, go_sem]); replace q15 : w1.cell? ⟨v2.heap.size, 1, none⟩ = some (.int .i64 m1) := bkeep hb (by first | (with_reducible exact q15) | (with_reducible exact akeep q15) | simp [*, go_sem]); replace q16 : w1.cell? ⟨v2.heap.size, 2, none⟩ = some (.int .i64 m2) := bkeep hb (by first | (with_reducible exact q16) | (with_reducible exact akeep q16) | simp [*, go_sem]); replace q17 : w1.cell? ⟨v2.heap.size, 3, none⟩ = some (.int .i64 m3) := bkeep hb (by first | (with_reducible exact q17) | (with_reducible exact akeep q17) | simp [*, go_sem]); replace q18 : w1.cell? ⟨v2.heap.size, 4, none⟩ = some (.int .i64 m4) := bkeep hb (by first | (with_reducible exact q18) | (with_reducible exact akeep q18) | simp [*, go_sem]); replace q19 : w1.cell? ⟨v2.heap.size, 5, none⟩ = some (.int .i64 m5) := bkeep hb (by first | (with_reducible exact q19) | (with_reducible exact akeep q19) | simp [*, go_sem]); replace q20 : w1.cell? ⟨v2.heap.size, 6, none⟩ = some (.int .i64 m6) := bkeep hb (by first | (with_reducible exact q20) | (with_reducible exact akeep q20) | simp [*, go_sem]); skip
  clear hb
  obtain ⟨v3, hv3⟩ : ∃ v, v = w1 := ⟨_, rfl⟩
  subst hv3
  go_wp2_with fail
  refine ((HC.out _ _ (h.below (by go_grown))).2).mono ?_
  rintro e w1 ⟨u2, rfl, hb, hu2⟩
  replace hb0 := bnext (w := w) (by go_grown) hb; have hz := hb.size; (try simp only [World.size_alloc, World.size_setCell] at hz); replace q0 : w1.cell? ⟨w.heap.size, 0, none⟩ = some (.int .i64 id) := bkeep hb (by first | (with_reducible exact q0) | (with_reducible exact akeep q0) | simp [*, go_sem]); replace q1 : w1.cell? ⟨w.heap.size, 1, none⟩ = some (.int .i64 sl) := bkeep hb (by first | (with_reducible exact q1) | (with_reducible exact akeep q1) | simp [*, go_sem]); replace q2 : w1.cell? ⟨w.heap.size, 2, none⟩ = some (.int .i64 sh) := bkeep hb (by first | (with_reducible exact q2) | (with_reducible exact akeep q2) | simp [*, go_sem]); replace q3 : w1.cell? ⟨w.heap.size, 3, none⟩ = some (.int .i64 ll) := bkeep hb (by first | (with_reducible exact q3) | (with_reducible exact akeep q3) | simp [*, go_sem]); replace q4 : w1.cell? ⟨w.heap.size, 4, none⟩ = some (.int .i64 lh) := bkeep hb (by first | (with_reducible exact q4) | (with_reducible exact akeep q4) | simp [*, go_sem]); replace q5 : w1.cell? ⟨w.heap.size, 5, none⟩ = some (.int .i64 hl) := bkeep hb (by first | (with_reducible exact q5) | (with_reducible exact akeep q5) | simp [*, go_sem]); replace q6 : w1.cell? ⟨w.heap.size, 6, none⟩ = some (.int .i64 hh) := bkeep hb (by first | (with_reducible exact q6) | (with_reducible exact akeep q6) | simp [*, go_sem]); replace q7 : w1.cell? ⟨v1.heap.size, 0, none⟩ = some (.int .i64 m0) := bkeep hb (by first | (with_reducible exact q7) | (with_reducible exact akeep q7) | simp [*, go_sem]); replace q8 : w1.cell? ⟨v1.heap.size, 1, none⟩ = some (.int .i64 m1) := bkeep hb (by first | (with_reducible exact q8) | (with_reducible exact akeep q8) | simp [*, go_sem]); replace q9 : w1.cell? ⟨v1.heap.size, 2, none⟩ = some (.int .i64 m2) := bkeep hb (by first | (with_reducible exact q9) | (with_reducible exact akeep q9) | simp [*, go_sem]); replace q10 : w1.cell? ⟨v1.heap.size, 3, none⟩ = some (.int .i64 m3) := bkeep hb (by first | (with_reducible exact q10) | (with_reducible exact akeep q10) | simp [*, go_sem]); replace q11 : w1.cell? ⟨v1.heap.size, 4, none⟩ = some (.int .i64 m4) := bkeep hb (by first | (with_reducible exact q11) | (with_reducible exact akeep q11) | simp [*, go_sem]); replace q12 : w1.cell? ⟨v1.heap.size, 5, none⟩ = some (.int .i64 m5) := bkeep hb (by first | (with_reducible exact q12) | (with_reducible exact akeep q12) | simp [*, go_sem]); replace q13 : w1.cell? ⟨v1.heap.size, 6, none⟩ = some (.int .i64 m6) := bkeep hb (by first | (with_reducible exact q13) | (with_reducible exact akeep q13) | simp [*, go_sem]); replace q14 : w1.cell? ⟨v2.heap.size, 0, none⟩ = some (.int .i64 m0) := bkeep hb (by first | (with_reducible exact q14) | (with_reducible exact akeep q14) | simp [*, go_sem]); replace q15 : w1.cell? ⟨v2.heap.size, 1, none⟩ = some (.int .i64 m1) := bkeep hb (by first | (with_reducible exact q15) | (with_reducible exact akeep q15) | simp [*, go_sem]); replace q16 : w1.cell? ⟨v2.heap.size, 2, none⟩ = some (.int .i64 m2) := bkeep hb (by first | (with_reducible exact q16) | (with_reducible exact akeep q16) | simp [*, go_sem]); replace q17 : w1.cell? ⟨v2.heap.size, 3, none⟩ = some (.int .i64 m3) := bkeep hb (by first | (with_reducible exact q17) | (with_reducible exact akeep q17) | simp [*, go_sem]); replace q18 : w1.cell? ⟨v2.heap.size, 4, none⟩ = some (.int .i64 m4) := bkeep hb (by first | (with_reducible exact q18) | (with_reducible exact akeep q18) | simp [*, go_sem]); replace q19 : w1.cell? ⟨v2.heap.size, 5, none⟩ = some (.int .i64 m5) := bkeep hb (by first | (with_reducible exact q19) | (with_reducible exact akeep q19) | simp [*, go_sem]); replace q20 : w1.cell? ⟨v2.heap.size, 6, none⟩ = some (.int .i64 m6) := bkeep hb (by first | (with_reducible exact q20) | (with_reducible exact akeep q20) | simp [*, go_sem]); skip
  replace hu1 := hu1.below hb
  clear hb
  obtain ⟨v4, hv4⟩ : ∃ v, v = w1 := ⟨_, rfl⟩
  subst hv4
  obtain ⟨xa, xc, rfl, hx1, hx2⟩ := hu1.shape
  obtain ⟨za, zc, rfl, hy1, hy2⟩ := hu2.shape
  go_upto_region 5 with fail
  have t0 := fun x : BW v4 => bkeep x.below q0
  have t1 := fun x : BW v4 => bkeep x.below q1
  have t2 := fun x : BW v4 => bkeep x.below q2
  have t3 := fun x : BW v4 => bkeep x.below q3
  have t4 := fun x : BW v4 => bkeep x.below q4
  have t5 := fun x : BW v4 => bkeep x.below q5
  have t6 := fun x : BW v4 => bkeep x.below q6
  have t7 := fun x : BW v4 => bkeep x.below q7
  have t8 := fun x : BW v4 => bkeep x.below q8
  have t9 := fun x : BW v4 => bkeep x.below q9
  have t10 := fun x : BW v4 => bkeep x.below q10
  have t11 := fun x : BW v4 => bkeep x.below q11
  have t12 := fun x : BW v4 => bkeep x.below q12
  have t13 := fun x : BW v4 => bkeep x.below q13
  have t14 := fun x : BW v4 => bkeep x.below q14
  have t15 := fun x : BW v4 => bkeep x.below q15
  have t16 := fun x : BW v4 => bkeep x.below q16
  have t17 := fun x : BW v4 => bkeep x.below q17
  have t18 := fun x : BW v4 => bkeep x.below q18
  have t19 := fun x : BW v4 => bkeep x.below q19
  have t20 := fun x : BW v4 => bkeep x.below q20
  refine wp_region_qb (by kernel_rfl) (by kernel_rfl) fun hc => ?_
  repeat (go_big_quiet_step ((first | (go_at_call 43; exact BW.call _ (same_any (hu1.below (BW.below _)) (hu2.below (BW.below _)))) | (go_at_call 44; exact BW.call _ (checkTrials_eq (h.below (bnext (w := w) hb0 (BW.below _))) CT.out)) | (go_at_call 45; exact BW.call _ (rCheckTrials_eq (h.below (bnext (w := w) hb0 (BW.below _))) CT.out)) | (go_at_call 46; exact BW.call _ ((HK.out _ _ _ (h.below (bnext (w := w) hb0 (BW.below _))) (hi.below (bnext (w := w) hb0 (BW.below _)))).1)) | (go_at_call 47; exact BW.call _ ((HK.out _ _ _ (h.below (bnext (w := w) hb0 (BW.below _))) (hi.below (bnext (w := w) hb0 (BW.below _)))).2)))))
  (refine wpQuiet_nil ?_; intro w1 hb; replace hb0 := bnext (w := w) (by go_grown) hb; have hz := hb.size; (try simp only [World.size_alloc, World.size_setCell] at hz); replace q0 : w1.cell? ⟨w.heap.size, 0, none⟩ = some (.int .i64 id) := bkeep hb (by first | (with_reducible exact q0) | (with_reducible exact akeep q0) | simp [*, go_sem]); replace q1 : w1.cell? ⟨w.heap.size, 1, none⟩ = some (.int .i64 sl) := bkeep hb (by first | (with_reducible exact q1) | (with_reducible exact akeep q1) | simp [*, go_sem]); replace q2 : w1.cell? ⟨w.heap.size, 2, none⟩ = some (.int .i64 sh) := bkeep hb (by first | (with_reducible exact q2) | (with_reducible exact akeep q2) | simp [*, go_sem]); replace q3 : w1.cell? ⟨w.heap.size, 3, none⟩ = some (.int .i64 ll) := bkeep hb (by first | (with_reducible exact q3) | (with_reducible exact akeep q3) | simp [*, go_sem]); replace q4 : w1.cell? ⟨w.heap.size, 4, none⟩ = some (.int .i64 lh) := bkeep hb (by first | (with_reducible exact q4) | (with_reducible exact akeep q4) | simp [*, go_sem]); replace q5 : w1.cell? ⟨w.heap.size, 5, none⟩ = some (.int .i64 hl) := bkeep hb (by first | (with_reducible exact q5) | (with_reducible exact akeep q5) | simp [*, go_sem]); replace q6 : w1.cell? ⟨w.heap.size, 6, none⟩ = some (.int .i64 hh) := bkeep hb (by first | (with_reducible exact q6) | (with_reducible exact akeep q6) | simp [*, go_sem]); replace q7 : w1.cell? ⟨v1.heap.size, 0, none⟩ = some (.int .i64 m0) := bkeep hb (by first | (with_reducible exact q7) | (with_reducible exact akeep q7) | simp [*, go_sem]); replace q8 : w1.cell? ⟨v1.heap.size, 1, none⟩ = some (.int .i64 m1) := bkeep hb (by first | (with_reducible exact q8) | (with_reducible exact akeep q8) | simp [*, go_sem]); replace q9 : w1.cell? ⟨v1.heap.size, 2, none⟩ = some (.int .i64 m2) := bkeep hb (by first | (with_reducible exact q9) | (with_reducible exact akeep q9) | simp [*, go_sem]); replace q10 : w1.cell? ⟨v1.heap.size, 3, none⟩ = some (.int .i64 m3) := bkeep hb (by first | (with_reducible exact q10) | (with_reducible exact akeep q10) | simp [*, go_sem]); replace q11 : w1.cell? ⟨v1.heap.size, 4, none⟩ = some (.int .i64 m4) := bkeep hb (by first | (with_reducible exact q11) | (with_reducible exact akeep q11) | simp [*, go_sem]); replace q12 : w1.cell? ⟨v1.heap.size, 5, none⟩ = some (.int .i64 m5) := bkeep hb (by first | (with_reducible exact q12) | (with_reducible exact akeep q12) | simp [*, go_sem]); replace q13 : w1.cell? ⟨v1.heap.size, 6, none⟩ = some (.int .i64 m6) := bkeep hb (by first | (with_reducible exact q13) | (with_reducible exact akeep q13) | simp [*, go_sem]); replace q14 : w1.cell? ⟨v2.heap.size, 0, none⟩ = some (.int .i64 m0) := bkeep hb (by first | (with_reducible exact q14) | (with_reducible exact akeep q14) | simp [*, go_sem]); replace q15 : w1.cell? ⟨v2.heap.size, 1, none⟩ = some (.int .i64 m1) := bkeep hb (by first | (with_reducible exact q15) | (with_reducible exact akeep q15) | simp [*, go_sem]); replace q16 : w1.cell? ⟨v2.heap.size, 2, none⟩ = some (.int .i64 m2) := bkeep hb (by first | (with_reducible exact q16) | (with_reducible exact akeep q16) | simp [*, go_sem]); replace q17 : w1.cell? ⟨v2.heap.size, 3, none⟩ = some (.int .i64 m3) := bkeep hb (by first | (with_reducible exact q17) | (with_reducible exact akeep q17) | simp [*, go_sem]); replace q18 : w1.cell? ⟨v2.heap.size, 4, none⟩ = some (.int .i64 m4) := bkeep hb (by first | (with_reducible exact q18) | (with_reducible exact akeep q18) | simp [*, go_sem]); replace q19 : w1.cell? ⟨v2.heap.size, 5, none⟩ = some (.int .i64 m5) := bkeep hb (by first | (with_reducible exact q19) | (with_reducible exact akeep q19) | simp [*, go_sem]); replace q20 : w1.cell? ⟨v2.heap.size, 6, none⟩ = some (.int .i64 m6) := bkeep hb (by first | (with_reducible exact q20) | (with_reducible exact akeep q20) | simp [*, go_sem]); clear hb)
  obtain ⟨v5, hv5⟩ : ∃ v, v = w1 := ⟨_, rfl⟩
  subst hv5
  clear q7 q8 q9 q10 q11 q12 q13 q14 q15 q16 q17 q18 q19 q20 hu1 hu2
  clear t0 t1 t2 t3 t4 t5 t6 t7 t8 t9 t10 t11 t12 t13 t14 t15 t16 t17 t18 t19 t20
  go_wp2_with fail
  go_loopw [15] (fun iv wr => ∃ k : Nat, k ≤ rows.length ∧ k ≤ 3 ∧ iv = .int .i64 k ∧ Below w.heap.size w wr ∧ Below v5.heap.size v5 wr) (fun iv _ => 3 - (intOf iv).toNat)
  case atStart => exact ⟨0, by omega, by omega, rfl, hb0, Below.refl _ _⟩
  case round =>
    obtain ⟨k, hk, hk3, rfl, hb0, hb2⟩ := hrel
    replace q0 := bkeep hb2 q0
    replace q1 := bkeep hb2 q1
    replace q2 := bkeep hb2 q2
    replace q3 := bkeep hb2 q3
    replace q4 := bkeep hb2 q4
    replace q5 := bkeep hb2 q5
    replace q6 := bkeep hb2 q6
    have hz0 := hb0.size
    have hz2 := hb2.size
    by_cases hlt : k < rows.length
    · by_cases hlt3 : k < 3
      · obtain ⟨a', ha, hrl, -, -⟩ := (h.below hb0).row hlt
        subst ha
        obtain ⟨so, wl, wh, dl, dh, hr⟩ := len5 hrl
        have HR := hid hr; clear hr hrl
        obtain ⟨a2, ha2, -, hc0, hcc⟩ := (h.below hb0).row hlt
        injection ha2 with ha2; subst ha2
        rw [HR.out] at hc0 hcc
        have r0 := hc0 _ rfl
        have r1 := hcc 1 _ (by decide) rfl
        have r2 := hcc 2 _ (by decide) rfl
        have r3 := hcc 3 _ (by decide) rfl
        have r4 := hcc 4 _ (by decide) rfl
        clear hc0 hcc
        obtain ⟨ta, tb, tc, hT⟩ := told_both (so := so) (wl := wl) (wh := wh) (dl := dl) (dh := dh)
        obtain ⟨y0, y1, y2, y3, y4, yc, hB⟩ := bar_both (id := id) (sl := sl) (sh := sh) (ll := ll) (lh := lh) (hl := hl) (hh := hh) (so := so) (wet := wh)
        have HT := hid hT; have HB := hid hB; clear hT hB
        go_wp2_with fail
        refine ((HT.out _).1).mono ?_
        rintro e w1 ⟨rfl, hb⟩
        replace hb0 := bnext (w := w) (by go_grown) hb; have hz := hb.size; (try simp only [World.size_alloc, World.size_setCell] at hz); replace q0 : w1.cell? ⟨w.heap.size, 0, none⟩ = some (.int .i64 id) := bkeep hb (by first | (with_reducible exact q0) | (with_reducible exact akeep q0) | simp [*, go_sem]); replace q1 : w1.cell? ⟨w.heap.size, 1, none⟩ = some (.int .i64 sl) := bkeep hb (by first | (with_reducible exact q1) | (with_reducible exact akeep q1) | simp [*, go_sem]); replace q2 : w1.cell? ⟨w.heap.size, 2, none⟩ = some (.int .i64 sh) := bkeep hb (by first | (with_reducible exact q2) | (with_reducible exact akeep q2) | simp [*, go_sem]); replace q3 : w1.cell? ⟨w.heap.size, 3, none⟩ = some (.int .i64 ll) := bkeep hb (by first | (with_reducible exact q3) | (with_reducible exact akeep q3) | simp [*, go_sem]); replace q4 : w1.cell? ⟨w.heap.size, 4, none⟩ = some (.int .i64 lh) := bkeep hb (by first | (with_reducible exact q4) | (with_reducible exact akeep q4) | simp [*, go_sem]); replace q5 : w1.cell? ⟨w.heap.size, 5, none⟩ = some (.int .i64 hl) := bkeep hb (by first | (with_reducible exact q5) | (with_reducible exact akeep q5) | simp [*, go_sem]); replace q6 : w1.cell? ⟨w.heap.size, 6, none⟩ = some (.int .i64 hh) := bkeep hb (by first | (with_reducible exact q6) | (with_reducible exact akeep q6) | simp [*, go_sem]); skip
        replace hb2 := bnext (w := v5) (by go_grown) hb
        clear hb
        obtain ⟨v6, hv6⟩ : ∃ v, v = w1 := ⟨_, rfl⟩
        subst hv6
        clear r0 r1 r2 r3 r4
        obtain ⟨a2, ha2, -, hc0, hcc⟩ := (h.below hb0).row hlt
        injection ha2 with ha2; subst ha2
        rw [HR.out] at hc0 hcc
        have r0 := hc0 _ rfl
        have r1 := hcc 1 _ (by decide) rfl
        have r2 := hcc 2 _ (by decide) rfl
        have r3 := hcc 3 _ (by decide) rfl
        have r4 := hcc 4 _ (by decide) rfl
        clear hc0 hcc
        have s0 := akeep (o := .cells #[.int .i64 ta, .int .i64 tb] 27) r0
        have s1 := akeep (o := .cells #[.int .i64 ta, .int .i64 tb] 27) r1
        have s2 := akeep (o := .cells #[.int .i64 ta, .int .i64 tb] 27) r2
        have s3 := akeep (o := .cells #[.int .i64 ta, .int .i64 tb] 27) r3
        have s4 := akeep (o := .cells #[.int .i64 ta, .int .i64 tb] 27) r4
        go_wp2_with fail
        refine ((HT.out _).2).mono ?_
        rintro e w1 ⟨rfl, hb⟩
        replace hb0 := bnext (w := w) (by go_grown) hb; have hz := hb.size; (try simp only [World.size_alloc, World.size_setCell] at hz); replace q0 : w1.cell? ⟨w.heap.size, 0, none⟩ = some (.int .i64 id) := bkeep hb (by first | (with_reducible exact q0) | (with_reducible exact akeep q0) | simp [*, go_sem]); replace q1 : w1.cell? ⟨w.heap.size, 1, none⟩ = some (.int .i64 sl) := bkeep hb (by first | (with_reducible exact q1) | (with_reducible exact akeep q1) | simp [*, go_sem]); replace q2 : w1.cell? ⟨w.heap.size, 2, none⟩ = some (.int .i64 sh) := bkeep hb (by first | (with_reducible exact q2) | (with_reducible exact akeep q2) | simp [*, go_sem]); replace q3 : w1.cell? ⟨w.heap.size, 3, none⟩ = some (.int .i64 ll) := bkeep hb (by first | (with_reducible exact q3) | (with_reducible exact akeep q3) | simp [*, go_sem]); replace q4 : w1.cell? ⟨w.heap.size, 4, none⟩ = some (.int .i64 lh) := bkeep hb (by first | (with_reducible exact q4) | (with_reducible exact akeep q4) | simp [*, go_sem]); replace q5 : w1.cell? ⟨w.heap.size, 5, none⟩ = some (.int .i64 hl) := bkeep hb (by first | (with_reducible exact q5) | (with_reducible exact akeep q5) | simp [*, go_sem]); replace q6 : w1.cell? ⟨w.heap.size, 6, none⟩ = some (.int .i64 hh) := bkeep hb (by first | (with_reducible exact q6) | (with_reducible exact akeep q6) | simp [*, go_sem]); replace q7 : w1.cell? ⟨v6.heap.size, 0, none⟩ = some (.int .i64 ta) := bkeep hb (by first | (with_reducible exact q7) | (with_reducible exact akeep q7) | simp [*, go_sem]); replace q8 : w1.cell? ⟨v6.heap.size, 1, none⟩ = some (.int .i64 tb) := bkeep hb (by first | (with_reducible exact q8) | (with_reducible exact akeep q8) | simp [*, go_sem]); skip
        replace hb2 := bnext (w := v5) (by go_grown) hb
        clear hb
        obtain ⟨v7, hv7⟩ : ∃ v, v = w1 := ⟨_, rfl⟩
        subst hv7
        clear r0 r1 r2 r3 r4 s0 s1 s2 s3 s4
        obtain ⟨a2, ha2, -, hc0, hcc⟩ := (h.below hb0).row hlt
        injection ha2 with ha2; subst ha2
        rw [HR.out] at hc0 hcc
        have r0 := hc0 _ rfl
        have r1 := hcc 1 _ (by decide) rfl
        have r2 := hcc 2 _ (by decide) rfl
        have r3 := hcc 3 _ (by decide) rfl
        have r4 := hcc 4 _ (by decide) rfl
        clear hc0 hcc
        go_upto_region 12 with fail
        generalize hW3 : World.alloc v7 _ = W3
        replace hb0 : Below w.heap.size w W3 := by rw [← hW3]; go_grown
        replace hb2 : Below v5.heap.size v5 W3 := by rw [← hW3]; exact hb2.alloc (by omega) _
        have hz3 : W3.heap.size = v7.heap.size + 1 := by rw [← hW3]; simp
        replace q0 := akeep (o := .cells #[.int .i64 ta, .int .i64 tb] 27) q0; rw [show World.alloc v7 (.cells #[.int .i64 ta, .int .i64 tb] 27) = W3 from hW3] at q0
        replace q1 := akeep (o := .cells #[.int .i64 ta, .int .i64 tb] 27) q1; rw [show World.alloc v7 (.cells #[.int .i64 ta, .int .i64 tb] 27) = W3 from hW3] at q1
        replace q2 := akeep (o := .cells #[.int .i64 ta, .int .i64 tb] 27) q2; rw [show World.alloc v7 (.cells #[.int .i64 ta, .int .i64 tb] 27) = W3 from hW3] at q2
        replace q3 := akeep (o := .cells #[.int .i64 ta, .int .i64 tb] 27) q3; rw [show World.alloc v7 (.cells #[.int .i64 ta, .int .i64 tb] 27) = W3 from hW3] at q3
        replace q4 := akeep (o := .cells #[.int .i64 ta, .int .i64 tb] 27) q4; rw [show World.alloc v7 (.cells #[.int .i64 ta, .int .i64 tb] 27) = W3 from hW3] at q4
        replace q5 := akeep (o := .cells #[.int .i64 ta, .int .i64 tb] 27) q5; rw [show World.alloc v7 (.cells #[.int .i64 ta, .int .i64 tb] 27) = W3 from hW3] at q5
        replace q6 := akeep (o := .cells #[.int .i64 ta, .int .i64 tb] 27) q6; rw [show World.alloc v7 (.cells #[.int .i64 ta, .int .i64 tb] 27) = W3 from hW3] at q6
        replace q7 := akeep (o := .cells #[.int .i64 ta, .int .i64 tb] 27) q7; rw [show World.alloc v7 (.cells #[.int .i64 ta, .int .i64 tb] 27) = W3 from hW3] at q7
        replace q8 := akeep (o := .cells #[.int .i64 ta, .int .i64 tb] 27) q8; rw [show World.alloc v7 (.cells #[.int .i64 ta, .int .i64 tb] 27) = W3 from hW3] at q8
        replace r0 := akeep (o := .cells #[.int .i64 ta, .int .i64 tb] 27) r0; rw [show World.alloc v7 (.cells #[.int .i64 ta, .int .i64 tb] 27) = W3 from hW3] at r0
        replace r1 := akeep (o := .cells #[.int .i64 ta, .int .i64 tb] 27) r1; rw [show World.alloc v7 (.cells #[.int .i64 ta, .int .i64 tb] 27) = W3 from hW3] at r1
        replace r2 := akeep (o := .cells #[.int .i64 ta, .int .i64 tb] 27) r2; rw [show World.alloc v7 (.cells #[.int .i64 ta, .int .i64 tb] 27) = W3 from hW3] at r2
        replace r3 := akeep (o := .cells #[.int .i64 ta, .int .i64 tb] 27) r3; rw [show World.alloc v7 (.cells #[.int .i64 ta, .int .i64 tb] 27) = W3 from hW3] at r3
        replace r4 := akeep (o := .cells #[.int .i64 ta, .int .i64 tb] 27) r4; rw [show World.alloc v7 (.cells #[.int .i64 ta, .int .i64 tb] 27) = W3 from hW3] at r4
        have q9 : W3.cell? ⟨v7.heap.size, 0, none⟩ = some (.int .i64 ta) := by rw [← hW3]; simp [go_sem]
        have q10 : W3.cell? ⟨v7.heap.size, 1, none⟩ = some (.int .i64 tb) := by rw [← hW3]; simp [go_sem]
        have HZ3 := hid hz3; clear hz3 hW3
        refine wp_region_Rl (l' := _) 17 15 rfl rfl rfl rfl rfl (by kernel_rfl) [(12, fun v _ => v = .tuple #[.agg #[.int .i64 y0, .int .i64 y1, .int .i64 y2, .int .i64 y3, .int .i64 y4], .int .i64 yc]), (16, NewCells W3.heap.size [.int .i64 0, .int .i64 0, .int .i64 0, .int .i64 0, .int .i64 0])] [0, 1, 2, 3, 4, 5, 6, 7, 8, 9, 10, 11, 12, 13, 14, 15, 16] 2 (by kernel_rfl) rfl (by simp only [List.forall_mem_cons]; exact ⟨keeps_eq, keeps_new, fun _ h => by cases h⟩) (by kernel_rfl) ?_
        simp only [numbered, bound, List.set_cons_succ, List.set_cons_zero, List.filterMap_cons, List.filterMap_nil, List.getElem?_toArray, List.getElem?_cons_succ, List.getElem?_cons_zero, Option.map_some]
        show wpS _ _ _ _ _ _ _ [(_, _), (_, _), (_, _), (_, _), (_, _), (_, _), (_, _), (_, _), (_, _), (_, _), (_, _), (_, _), (_, _), (_, _), (_, _), (_, _), (_, _)] _ _
        (refine wpS_quiet rfl rfl ?_; intro K hK inst hx; go_big_quiet_op; go_big_quiet_on; clear hx inst)
        (refine wpS_quiet rfl rfl ?_; intro K hK inst hx; go_big_quiet_op; go_big_quiet_on; clear hx inst)
        (refine wpS_quiet rfl rfl ?_; intro K hK inst hx; go_big_quiet_op; go_big_quiet_on; clear hx inst)
        (refine wpS_quiet rfl rfl ?_; intro K hK inst hx; go_big_quiet_op; go_big_quiet_on; clear hx inst)
        (refine wpS_quiet rfl rfl ?_; intro K hK inst hx; go_big_quiet_op; go_big_quiet_on; clear hx inst)
        (refine wpS_quiet rfl rfl ?_; intro K hK inst hx; have s0 := fun x => (fun _ => bkeep (BQ.below x) r0) (hx x); have s2 := fun x => (fun _ => bkeep (BQ.below x) r2) (hx x); go_big_quiet_op; go_big_quiet_on; clear hx inst)
        (refine wpS_quiet rfl rfl ?_; intro K hK inst hx; go_big_quiet_op; go_big_quiet_on; clear hx inst)
        (refine wpS_quiet rfl rfl ?_; intro K hK inst hx; go_big_quiet_op; go_big_quiet_on; clear hx inst)
        (refine wpS_quiet rfl rfl ?_; intro K hK inst hx; go_big_quiet_op; go_big_quiet_on; clear hx inst)
        (refine wpS_quiet rfl rfl ?_; intro K hK inst hx; go_big_quiet_op; go_big_quiet_on; clear hx inst)
        (refine wpS_quiet rfl rfl ?_; intro K hK inst hx; go_big_quiet_op; go_big_quiet_on; clear hx inst)
        (refine wpS_quiet rfl rfl ?_; intro K hK inst hx; have s0 := fun x => (fun _ => bkeep (BQ.below x) r0) (hx x); have s2 := fun x => (fun _ => bkeep (BQ.below x) r2) (hx x); go_big_quiet_op; go_big_quiet_on; clear hx inst)
        refine wpS_fresh rfl rfl (fun w' hb hF => ?_) ?_
        · change freshAt _ _ _ (fun v _ => v = .tuple #[.agg #[.int .i64 y0, .int .i64 y1, .int .i64 y2, .int .i64 y3, .int .i64 y4], .int .i64 yc]) _; unfold freshAt; go_simp; exact (HB.out _).1
        intro v W hv; simp only [pOf, List.lookup_cons, Nat.reduceBEq, beq_self_eq_true] at hv; subst hv
        simp only [Act.put, List.setIfInBounds_toArray, List.set_cons_succ, List.set_cons_zero]
        (refine wpS_quiet rfl rfl ?_; intro K hK inst hx; go_big_quiet_op; go_big_quiet_on; clear hx inst)
        (refine wpS_quiet rfl rfl ?_; intro K hK inst hx; go_big_quiet_op; go_big_quiet_on; clear hx inst)
        (refine wpS_quiet rfl rfl ?_; intro K hK inst hx; go_big_quiet_op; go_big_quiet_on; clear hx inst)
        refine wpS_fresh rfl rfl (fun w' hb hF => ?_) ?_
        · change freshAt _ _ _ (NewCells W3.heap.size [.int .i64 0, .int .i64 0, .int .i64 0, .int .i64 0, .int .i64 0]) _; unfold freshAt; go_simp; exact new_of hb
        intro v W hv; simp only [pOf, List.lookup_cons, Nat.reduceBEq, beq_self_eq_true] at hv; obtain ⟨B1, hB5, rfl, _⟩ := hv
        simp only [Act.put, List.setIfInBounds_toArray, List.set_cons_succ, List.set_cons_zero]
        refine wpS_nil ?_
        have hz3 := HZ3.out
        intro w2 hall
        have hb := hall.1
        have hN : NewCells W3.heap.size [.int .i64 0, .int .i64 0, .int .i64 0, .int .i64 0, .int .i64 0] (.pointer (some ⟨B1, 0, none⟩)) w2 := hall.2 16 _ rfl
        obtain ⟨B', hB', hv', hn⟩ := hN
        obtain rfl : B1 = B' := by simpa using hv'
        have nB10 := (hn 0 _ rfl).1
        have mB10 := (hn 0 _ rfl).2
        have nB11 := (hn 1 _ rfl).1
        have mB11 := (hn 1 _ rfl).2
        have nB12 := (hn 2 _ rfl).1
        have mB12 := (hn 2 _ rfl).2
        have nB13 := (hn 3 _ rfl).1
        have mB13 := (hn 3 _ rfl).2
        have nB14 := (hn 4 _ rfl).1
        have mB14 := (hn 4 _ rfl).2
        clear hn hv'
        clear hall
        refine wpAny_ready (rs := [17]) (by kernel_rfl) (by simp) ?_
        refine AllReady.cons rfl (fun K hK => ?_) AllReady.nil
        go_simp
        refine hK _ _ ?_; clear hK K
        refine wpAny_ready (rs := [18]) (by kernel_rfl) (by simp) ?_
        refine AllReady.cons rfl (fun K hK => ?_) AllReady.nil
        go_simp
        refine hK _ _ ?_; clear hK K
        refine wpAny_done (by kernel_rfl) ?_ _
        refine ⟨rfl, ?_⟩
        go_upto_region 13 with fail
        generalize hW4 : (World.setCell (World.setCell (World.setCell (World.setCell (World.setCell w2 ⟨B1, 0, none⟩ _) ⟨B1, 1, none⟩ _) ⟨B1, 2, none⟩ _) ⟨B1, 3, none⟩ _) ⟨B1, 4, none⟩ _) = W4
        have hbB : Below W3.heap.size W3 W4 := by rw [← hW4]; exact (((((hb.setCell (p := ⟨B1, 0, none⟩) hB' _).setCell (p := ⟨B1, 1, none⟩) hB' _).setCell (p := ⟨B1, 2, none⟩) hB' _).setCell (p := ⟨B1, 3, none⟩) hB' _).setCell (p := ⟨B1, 4, none⟩) hB' _)
        have q11 : W4.cell? ⟨B1, 0, none⟩ = some (.int .i64 y0) := by rw [← hW4]; simp [go_sem, nB10, nB11, nB12, nB13, nB14]
        have q12 : W4.cell? ⟨B1, 1, none⟩ = some (.int .i64 y1) := by rw [← hW4]; simp [go_sem, nB10, nB11, nB12, nB13, nB14]
        have q13 : W4.cell? ⟨B1, 2, none⟩ = some (.int .i64 y2) := by rw [← hW4]; simp [go_sem, nB10, nB11, nB12, nB13, nB14]
        have q14 : W4.cell? ⟨B1, 3, none⟩ = some (.int .i64 y3) := by rw [← hW4]; simp [go_sem, nB10, nB11, nB12, nB13, nB14]
        have q15 : W4.cell? ⟨B1, 4, none⟩ = some (.int .i64 y4) := by rw [← hW4]; simp [go_sem, nB10, nB11, nB12, nB13, nB14]
        clear hW4 nB10 mB10 nB11 mB11 nB12 mB12 nB13 mB13 nB14 mB14
        replace q0 := bkeep hbB q0
        replace q1 := bkeep hbB q1
        replace q2 := bkeep hbB q2
        replace q3 := bkeep hbB q3
        replace q4 := bkeep hbB q4
        replace q5 := bkeep hbB q5
        replace q6 := bkeep hbB q6
        replace q7 := bkeep hbB q7
        replace q8 := bkeep hbB q8
        replace q9 := bkeep hbB q9
        replace q10 := bkeep hbB q10
        replace r0 := bkeep hbB r0
        replace r1 := bkeep hbB r1
        replace r2 := bkeep hbB r2
        replace r3 := bkeep hbB r3
        replace r4 := bkeep hbB r4
        replace hb0 := bnext (w := w) (by omega) hbB
        replace hb2 := bnext (w := v5) (by omega) hbB
        have hzb := hbB.size
        clear hbB hb
        refine wp_region_Rl (l' := _) 17 15 rfl rfl rfl rfl rfl (by kernel_rfl) [(12, fun v _ => v = .tuple #[.agg #[.int .i64 y0, .int .i64 y1, .int .i64 y2, .int .i64 y3, .int .i64 y4], .int .i64 yc]), (16, NewCells W4.heap.size [.int .i64 0, .int .i64 0, .int .i64 0, .int .i64 0, .int .i64 0])] [0, 1, 2, 3, 4, 5, 6, 7, 8, 9, 10, 11, 12, 13, 14, 15, 16] 2 (by kernel_rfl) rfl (by simp only [List.forall_mem_cons]; exact ⟨keeps_eq, keeps_new, fun _ h => by cases h⟩) (by kernel_rfl) ?_
        simp only [numbered, bound, List.set_cons_succ, List.set_cons_zero, List.filterMap_cons, List.filterMap_nil, List.getElem?_toArray, List.getElem?_cons_succ, List.getElem?_cons_zero, Option.map_some]
        show wpS _ _ _ _ _ _ _ [(_, _), (_, _), (_, _), (_, _), (_, _), (_, _), (_, _), (_, _), (_, _), (_, _), (_, _), (_, _), (_, _), (_, _), (_, _), (_, _), (_, _)] _ _
        (refine wpS_quiet rfl rfl ?_; intro K hK inst hx; go_big_quiet_op; go_big_quiet_on; clear hx inst)
        (refine wpS_quiet rfl rfl ?_; intro K hK inst hx; go_big_quiet_op; go_big_quiet_on; clear hx inst)
        (refine wpS_quiet rfl rfl ?_; intro K hK inst hx; go_big_quiet_op; go_big_quiet_on; clear hx inst)
        (refine wpS_quiet rfl rfl ?_; intro K hK inst hx; go_big_quiet_op; go_big_quiet_on; clear hx inst)
        (refine wpS_quiet rfl rfl ?_; intro K hK inst hx; go_big_quiet_op; go_big_quiet_on; clear hx inst)
        (refine wpS_quiet rfl rfl ?_; intro K hK inst hx; have s0 := fun x => (fun _ => bkeep (BQ.below x) r0) (hx x); have s2 := fun x => (fun _ => bkeep (BQ.below x) r2) (hx x); go_big_quiet_op; go_big_quiet_on; clear hx inst)
        (refine wpS_quiet rfl rfl ?_; intro K hK inst hx; go_big_quiet_op; go_big_quiet_on; clear hx inst)
        (refine wpS_quiet rfl rfl ?_; intro K hK inst hx; go_big_quiet_op; go_big_quiet_on; clear hx inst)
        (refine wpS_quiet rfl rfl ?_; intro K hK inst hx; go_big_quiet_op; go_big_quiet_on; clear hx inst)
        (refine wpS_quiet rfl rfl ?_; intro K hK inst hx; go_big_quiet_op; go_big_quiet_on; clear hx inst)
        (refine wpS_quiet rfl rfl ?_; intro K hK inst hx; go_big_quiet_op; go_big_quiet_on; clear hx inst)
        (refine wpS_quiet rfl rfl ?_; intro K hK inst hx; have s0 := fun x => (fun _ => bkeep (BQ.below x) r0) (hx x); have s2 := fun x => (fun _ => bkeep (BQ.below x) r2) (hx x); go_big_quiet_op; go_big_quiet_on; clear hx inst)
        refine wpS_fresh rfl rfl (fun w' hb hF => ?_) ?_
        · change freshAt _ _ _ (fun v _ => v = .tuple #[.agg #[.int .i64 y0, .int .i64 y1, .int .i64 y2, .int .i64 y3, .int .i64 y4], .int .i64 yc]) _; unfold freshAt; go_simp; exact (HB.out _).2
        intro v W hv; simp only [pOf, List.lookup_cons, Nat.reduceBEq, beq_self_eq_true] at hv; subst hv
        simp only [Act.put, List.setIfInBounds_toArray, List.set_cons_succ, List.set_cons_zero]
        (refine wpS_quiet rfl rfl ?_; intro K hK inst hx; go_big_quiet_op; go_big_quiet_on; clear hx inst)
        (refine wpS_quiet rfl rfl ?_; intro K hK inst hx; go_big_quiet_op; go_big_quiet_on; clear hx inst)
        (refine wpS_quiet rfl rfl ?_; intro K hK inst hx; go_big_quiet_op; go_big_quiet_on; clear hx inst)
        refine wpS_fresh rfl rfl (fun w' hb hF => ?_) ?_
        · change freshAt _ _ _ (NewCells W4.heap.size [.int .i64 0, .int .i64 0, .int .i64 0, .int .i64 0, .int .i64 0]) _; unfold freshAt; go_simp; exact new_of hb
        intro v W hv; simp only [pOf, List.lookup_cons, Nat.reduceBEq, beq_self_eq_true] at hv; obtain ⟨B2, hB5, rfl, _⟩ := hv
        simp only [Act.put, List.setIfInBounds_toArray, List.set_cons_succ, List.set_cons_zero]
        refine wpS_nil ?_
        intro w2 hall
        have hb := hall.1
        have hN : NewCells W4.heap.size [.int .i64 0, .int .i64 0, .int .i64 0, .int .i64 0, .int .i64 0] (.pointer (some ⟨B2, 0, none⟩)) w2 := hall.2 16 _ rfl
        obtain ⟨B', hB', hv', hn⟩ := hN
        obtain rfl : B2 = B' := by simpa using hv'
        have nB20 := (hn 0 _ rfl).1
        have mB20 := (hn 0 _ rfl).2
        have nB21 := (hn 1 _ rfl).1
        have mB21 := (hn 1 _ rfl).2
        have nB22 := (hn 2 _ rfl).1
        have mB22 := (hn 2 _ rfl).2
        have nB23 := (hn 3 _ rfl).1
        have mB23 := (hn 3 _ rfl).2
        have nB24 := (hn 4 _ rfl).1
        have mB24 := (hn 4 _ rfl).2
        clear hn hv'
        clear hall
        refine wpAny_ready (rs := [17]) (by kernel_rfl) (by simp) ?_
        refine AllReady.cons rfl (fun K hK => ?_) AllReady.nil
        go_simp
        refine hK _ _ ?_; clear hK K
        refine wpAny_ready (rs := [18]) (by kernel_rfl) (by simp) ?_
        refine AllReady.cons rfl (fun K hK => ?_) AllReady.nil
        go_simp
        refine hK _ _ ?_; clear hK K
        refine wpAny_done (by kernel_rfl) ?_ _
        refine ⟨rfl, ?_⟩
        go_upto_region 14 with fail
        generalize hW4 : (World.setCell (World.setCell (World.setCell (World.setCell (World.setCell w2 ⟨B2, 0, none⟩ _) ⟨B2, 1, none⟩ _) ⟨B2, 2, none⟩ _) ⟨B2, 3, none⟩ _) ⟨B2, 4, none⟩ _) = W5
        have hbB : Below W4.heap.size W4 W5 := by rw [← hW4]; exact (((((hb.setCell (p := ⟨B2, 0, none⟩) hB' _).setCell (p := ⟨B2, 1, none⟩) hB' _).setCell (p := ⟨B2, 2, none⟩) hB' _).setCell (p := ⟨B2, 3, none⟩) hB' _).setCell (p := ⟨B2, 4, none⟩) hB' _)
        have q16 : W5.cell? ⟨B2, 0, none⟩ = some (.int .i64 y0) := by rw [← hW4]; simp [go_sem, nB20, nB21, nB22, nB23, nB24]
        have q17 : W5.cell? ⟨B2, 1, none⟩ = some (.int .i64 y1) := by rw [← hW4]; simp [go_sem, nB20, nB21, nB22, nB23, nB24]
        have q18 : W5.cell? ⟨B2, 2, none⟩ = some (.int .i64 y2) := by rw [← hW4]; simp [go_sem, nB20, nB21, nB22, nB23, nB24]
        have q19 : W5.cell? ⟨B2, 3, none⟩ = some (.int .i64 y3) := by rw [← hW4]; simp [go_sem, nB20, nB21, nB22, nB23, nB24]
        have q20 : W5.cell? ⟨B2, 4, none⟩ = some (.int .i64 y4) := by rw [← hW4]; simp [go_sem, nB20, nB21, nB22, nB23, nB24]
        clear hW4 nB20 mB20 nB21 mB21 nB22 mB22 nB23 mB23 nB24 mB24
        replace q0 := bkeep hbB q0
        replace q1 := bkeep hbB q1
        replace q2 := bkeep hbB q2
        replace q3 := bkeep hbB q3
        replace q4 := bkeep hbB q4
        replace q5 := bkeep hbB q5
        replace q6 := bkeep hbB q6
        replace q7 := bkeep hbB q7
        replace q8 := bkeep hbB q8
        replace q9 := bkeep hbB q9
        replace q10 := bkeep hbB q10
        replace q11 := bkeep hbB q11
        replace q12 := bkeep hbB q12
        replace q13 := bkeep hbB q13
        replace q14 := bkeep hbB q14
        replace q15 := bkeep hbB q15
        replace r0 := bkeep hbB r0
        replace r1 := bkeep hbB r1
        replace r2 := bkeep hbB r2
        replace r3 := bkeep hbB r3
        replace r4 := bkeep hbB r4
        replace hb0 := bnext (w := w) (by omega) hbB
        replace hb2 := bnext (w := v5) (by omega) hbB
        have hzb := hbB.size
        clear hbB hb
        go_wp2_with fail
        go_roundw
        case rel => exact ⟨k + 1, by omega, by omega, by go_num, hb0, hb2⟩
        case measure => first | (simp [intOf]; done) | (simp [intOf]; omega)
      · go_wp2_with ((go_at_call 22; refine (sane_any).mono ?_; rintro e w1 ⟨rfl, hb⟩; replace hb0 := bnext (w := w) (by go_grown) hb; have hz := hb.size; (try simp only [World.size_alloc, World.size_setCell] at hz); clear hb))
        go_ret
        exact ⟨rfl, by go_grown⟩
    · go_wp2_with ((go_at_call 22; refine (sane_any).mono ?_; rintro e w1 ⟨rfl, hb⟩; replace hb0 := bnext (w := w) (by go_grown) hb; have hz := hb.size; (try simp only [World.size_alloc, World.size_setCell] at hz); clear hb))
      go_ret
      exact ⟨rfl, by go_grown⟩
end Go.Proofs.Ytgnljgceddphfaa
