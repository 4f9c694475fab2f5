/- Part of a claim. -/
import Derived.Test.YtodmidchpbcnpaaGreatG44R
import Derived.Test.YtodmidchpbcnpaaGreatG24R
import Derived.Test.YtodmidchpbcnpaaGreatG4R
import Derived.Test.YtodmidchpbcnpaaGreatKSyR
import Derived.Test.YtodmidchpbcnpaaGreatKSmR
import Derived.Deep.LoopGhost
set_option linter.unusedVariables false
set_option linter.unusedSimpArgs false
namespace Go.Proofs.YtodmidchpbcnpaaGreat
open Go.RowKit Go.Pb Go.Pb.Ware Go.Pb.Sag


theorem repeat_any {w : World} {q : Addr} {cap : Nat} {f : Ft} {m : Nat} (h1 : 1 ≤ m) (h5 : m ≤ 5) (hq : ∀ j v, (cellsF f)[j]? = some v → w.cell? (q.add j) = some v) : Calls Tryz.prog 94 #[.slice (some q) 1 cap, .int .i64 (m : Int)] w (fun e w' => ∃ v, e = .returned v ∧ Below w.heap.size w w' ∧ w'.ownsRow w.heap.size 34 4 v m (reps m f)) := by
 match m, h1, h5 with
 | 1, _, _ => exact repeat_1 hq
 | 2, _, _ => exact repeat_2 hq
 | 3, _, _ => exact repeat_3 hq
 | 4, _, _ => exact repeat_4 hq
 | 5, _, _ => exact repeat_5 hq
set_option maxRecDepth 100000 in
set_option maxHeartbeats 1000000 in
theorem Most_bad {w : World} {vs vb : Value} {ss bs : List (List Int)} (h1 : RowsAt 11 w vs ss) (h2 : RowsAt 7 w vb bs) {bid bwi bde bce bhi bbe ish imn icl fw fd fh fg c : Int} (hx : footV ss bs ⟨bid, bwi, bde, bce, bhi, bbe⟩ ⟨ish, imn, icl⟩ = (⟨fw, fd, fh, fg⟩, c)) (hc : ¬ c = 0) :
  Calls Tryz.prog 45 #[.agg #[vs, vb], .agg #[.int .i64 bid, .int .i64 bwi, .int .i64 bde, .int .i64 bce, .int .i64 bhi, .int .i64 bbe], .agg #[.int .i64 ish, .int .i64 imn, .int .i64 icl]] w (Ret w (.tuple #[.int .i64 0, .int .i64 c])) := by
 unfold Ret
 have hcn : (c != 0) = true := by simpa using hc
 have HX := hid hx; clear hx
 go_enter Tryz.func45, Tryz.ntmps45
 go_wp2_with fail
 refine (Foot_any (h1.below (by go_grown)) (h2.below (by go_grown)) HX.out).mono ?_
 rintro e w1 ⟨rfl, hb⟩
 replace hb0 := bnext (w := w) (by go_grown) hb; have hz := hb.size; (try simp only [World.size_alloc, World.size_setCell] at hz); replace q0 : w1.cell? ⟨w.heap.size, 0, none⟩ = some (vs) := bkeep hb (by first | (with_reducible exact q0) | (with_reducible exact akeep q0) | simp [*, go_sem]); replace q1 : w1.cell? ⟨w.heap.size, 1, none⟩ = some (vb) := bkeep hb (by first | (with_reducible exact q1) | (with_reducible exact akeep q1) | simp [*, go_sem]); replace q2 : w1.cell? ⟨w.heap.size + 1, 0, none⟩ = some (.int .i64 bid) := bkeep hb (by first | (with_reducible exact q2) | (with_reducible exact akeep q2) | simp [*, go_sem]); replace q3 : w1.cell? ⟨w.heap.size + 1, 1, none⟩ = some (.int .i64 bwi) := bkeep hb (by first | (with_reducible exact q3) | (with_reducible exact akeep q3) | simp [*, go_sem]); replace q4 : w1.cell? ⟨w.heap.size + 1, 2, none⟩ = some (.int .i64 bde) := bkeep hb (by first | (with_reducible exact q4) | (with_reducible exact akeep q4) | simp [*, go_sem]); replace q5 : w1.cell? ⟨w.heap.size + 1, 3, none⟩ = some (.int .i64 bce) := bkeep hb (by first | (with_reducible exact q5) | (with_reducible exact akeep q5) | simp [*, go_sem]); replace q6 : w1.cell? ⟨w.heap.size + 1, 4, none⟩ = some (.int .i64 bhi) := bkeep hb (by first | (with_reducible exact q6) | (with_reducible exact akeep q6) | simp [*, go_sem]); replace q7 : w1.cell? ⟨w.heap.size + 1, 5, none⟩ = some (.int .i64 bbe) := bkeep hb (by first | (with_reducible exact q7) | (with_reducible exact akeep q7) | simp [*, go_sem]); replace q8 : w1.cell? ⟨w.heap.size + 2, 0, none⟩ = some (.int .i64 ish) := bkeep hb (by first | (with_reducible exact q8) | (with_reducible exact akeep q8) | simp [*, go_sem]); replace q9 : w1.cell? ⟨w.heap.size + 2, 1, none⟩ = some (.int .i64 imn) := bkeep hb (by first | (with_reducible exact q9) | (with_reducible exact akeep q9) | simp [*, go_sem]); replace q10 : w1.cell? ⟨w.heap.size + 2, 2, none⟩ = some (.int .i64 icl) := bkeep hb (by first | (with_reducible exact q10) | (with_reducible exact akeep q10) | simp [*, go_sem]); skip
 clear hb
 go_wp2_with fail
 go_ret2
 exact ⟨rfl, by go_grown⟩
set_option maxRecDepth 100000 in
set_option maxHeartbeats 1000000 in
theorem Most_any {w : World} {vs vb : Value} {ss bs : List (List Int)} (h1 : RowsAt 11 w vs ss) (h2 : RowsAt 7 w vb bs) {bid bwi bde bce bhi bbe ish imn icl fw fd fh fg : Int} {M : Nat} (hx : footV ss bs ⟨bid, bwi, bde, bce, bhi, bbe⟩ ⟨ish, imn, icl⟩ = (⟨fw, fd, fh, fg⟩, 0)) (hX : boxOk ⟨bid, bwi, bde, bce, bhi, bbe⟩ = true) (hF : FtOk (⟨fw, fd, fh, fg⟩ : Ft)) (hM : mostF ⟨bid, bwi, bde, bce, bhi, bbe⟩ (⟨fw, fd, fh, fg⟩ : Ft) = M) {c : Int} (hc : (if M = 0 then 3 else 0) = c) :
  Calls Tryz.prog 45 #[.agg #[vs, vb], .agg #[.int .i64 bid, .int .i64 bwi, .int .i64 bde, .int .i64 bce, .int .i64 bhi, .int .i64 bbe], .agg #[.int .i64 ish, .int .i64 imn, .int .i64 icl]] w (Ret w (.tuple #[.int .i64 (M : Int), .int .i64 c])) := by
 unfold Ret
 have HX := hid hx; have HBX := hid hX; have HM := hid hM; have HC := hid hc; clear hx hX hM hc
 go_enter Tryz.func45, Tryz.ntmps45
 go_wp2_with fail
 refine (Foot_any (h1.below (by go_grown)) (h2.below (by go_grown)) HX.out).mono ?_
 rintro e w1 ⟨rfl, hb⟩
 replace hb0 := bnext (w := w) (by go_grown) hb; have hz := hb.size; (try simp only [World.size_alloc, World.size_setCell] at hz); replace q0 : w1.cell? ⟨w.heap.size, 0, none⟩ = some (vs) := bkeep hb (by first | (with_reducible exact q0) | (with_reducible exact akeep q0) | simp [*, go_sem]); replace q1 : w1.cell? ⟨w.heap.size, 1, none⟩ = some (vb) := bkeep hb (by first | (with_reducible exact q1) | (with_reducible exact akeep q1) | simp [*, go_sem]); replace q2 : w1.cell? ⟨w.heap.size + 1, 0, none⟩ = some (.int .i64 bid) := bkeep hb (by first | (with_reducible exact q2) | (with_reducible exact akeep q2) | simp [*, go_sem]); replace q3 : w1.cell? ⟨w.heap.size + 1, 1, none⟩ = some (.int .i64 bwi) := bkeep hb (by first | (with_reducible exact q3) | (with_reducible exact akeep q3) | simp [*, go_sem]); replace q4 : w1.cell? ⟨w.heap.size + 1, 2, none⟩ = some (.int .i64 bde) := bkeep hb (by first | (with_reducible exact q4) | (with_reducible exact akeep q4) | simp [*, go_sem]); replace q5 : w1.cell? ⟨w.heap.size + 1, 3, none⟩ = some (.int .i64 bce) := bkeep hb (by first | (with_reducible exact q5) | (with_reducible exact akeep q5) | simp [*, go_sem]); replace q6 : w1.cell? ⟨w.heap.size + 1, 4, none⟩ = some (.int .i64 bhi) := bkeep hb (by first | (with_reducible exact q6) | (with_reducible exact akeep q6) | simp [*, go_sem]); replace q7 : w1.cell? ⟨w.heap.size + 1, 5, none⟩ = some (.int .i64 bbe) := bkeep hb (by first | (with_reducible exact q7) | (with_reducible exact akeep q7) | simp [*, go_sem]); replace q8 : w1.cell? ⟨w.heap.size + 2, 0, none⟩ = some (.int .i64 ish) := bkeep hb (by first | (with_reducible exact q8) | (with_reducible exact akeep q8) | simp [*, go_sem]); replace q9 : w1.cell? ⟨w.heap.size + 2, 1, none⟩ = some (.int .i64 imn) := bkeep hb (by first | (with_reducible exact q9) | (with_reducible exact akeep q9) | simp [*, go_sem]); replace q10 : w1.cell? ⟨w.heap.size + 2, 2, none⟩ = some (.int .i64 icl) := bkeep hb (by first | (with_reducible exact q10) | (with_reducible exact akeep q10) | simp [*, go_sem]); skip
 clear hb
 obtain ⟨v1, hv1⟩ : ∃ v, v = w1 := ⟨_, rfl⟩
 subst hv1
 go_upto_region 2 with fail
 generalize hW : World.alloc v1 _ = v2
 have e0 : v2.cell? ⟨v1.heap.size, 0, none⟩ = some (.int .i64 fw) := by rw [← hW]; simp [go_sem]
 have e1 : v2.cell? ⟨v1.heap.size, 1, none⟩ = some (.int .i64 fd) := by rw [← hW]; simp [go_sem]
 have e2 : v2.cell? ⟨v1.heap.size, 2, none⟩ = some (.int .i64 fh) := by rw [← hW]; simp [go_sem]
 have e3 : v2.cell? ⟨v1.heap.size, 3, none⟩ = some (.int .i64 fg) := by rw [← hW]; simp [go_sem]
 have hb : Below v1.heap.size v1 v2 := by rw [← hW]; exact (Below.refl _ _).alloc (Nat.le_refl _) _
 replace hb0 := bnext (w := w) hb0 hb
 replace q2 := bkeep hb q2
 replace q3 := bkeep hb q3
 replace q4 := bkeep hb q4
 replace q5 := bkeep hb q5
 replace q6 := bkeep hb q6
 replace q7 := bkeep hb q7
 clear hb hW
 go_wp2_with fail
 go_loopg [10] 5 (fun gk nv wr => ∃ k : Nat, k ≤ 5 ∧ gk = 5 - k ∧ nv = .int .i64 k ∧ Hid (mostF ⟨bid, bwi, bde, bce, bhi, bbe⟩ (⟨fw, fd, fh, fg⟩ : Ft) = mostR ⟨bid, bwi, bde, bce, bhi, bbe⟩ (⟨fw, fd, fh, fg⟩ : Ft) (5 - k) k) ∧ Below v2.heap.size v2 wr)
 case atStart => exact ⟨0, by omega, rfl, rfl, rfl, Below.refl _ _⟩
 case round =>
  obtain ⟨k, hk, hgk, rfl, HR, hB⟩ := hrel
  have HGK := hid hgk; clear hgk
  have hb1 : Below w.heap.size w wr := bnext (w := w) hb0 hB
  have c2 := bkeep hB q2
  have c3 := bkeep hB q3
  have c4 := bkeep hB q4
  have c5 := bkeep hB q5
  have c6 := bkeep hB q6
  have c7 := bkeep hB q7
  have d0 := bkeep hB e0
  have d1 := bkeep hB e1
  have d2 := bkeep hB e2
  have d3 := bkeep hB e3
  by_cases hlt : k < 5
  ·have hki : (k : Int) < 5 := by omega
   obtain ⟨tb, htb⟩ : ∃ tb, fitsB ⟨bid, bwi, bde, bce, bhi, bbe⟩ (List.replicate (k + 1) (⟨fw, fd, fh, fg⟩ : Ft)) = tb := ⟨_, rfl⟩
   have hok1 : ∀ f ∈ List.replicate (k + 1) (⟨fw, fd, fh, fg⟩ : Ft), FtOk f := fun f h => by rw [List.eq_of_mem_replicate h]; exact hF
   have hn1 : (List.replicate (k + 1) (⟨fw, fd, fh, fg⟩ : Ft)).length ≤ 5 := by rw [List.length_replicate]; omega
   have hrp : ∀ (W' : World) (v : Value), Below wr.heap.size wr W' → NewList wr.heap.size 1 [.int .i64 fw, .int .i64 fd, .int .i64 fh, .int .i64 fg] v W' → Calls Tryz.prog 94 #[v, .int .i64 ((k : Int) + 1)] W' (fun e w'' => ∃ u, e = .returned u ∧ Below W'.heap.size W' w'' ∧ w''.ownsRow wr.heap.size 34 4 u (k + 1) (reps (k + 1) (⟨fw, fd, fh, fg⟩ : Ft))) := fun W' v hb hv => by
    obtain ⟨B, hB2, rfl, hn⟩ := hv
    refine (repeat_any (m := k + 1) (f := (⟨fw, fd, fh, fg⟩ : Ft)) (by omega) (by omega) (fun j u h => by rw [Go.WideShapes.add_plain, Nat.zero_add]; exact (hn j u h).1)).mono ?_
    rintro e w'' ⟨u, rfl, h2, h3⟩
    exact ⟨u, rfl, h2, owns_base hb.size h3⟩
   have htr : ∀ (W' : World) (u : Value), W'.ownsRow wr.heap.size 34 4 u (k + 1) (reps (k + 1) (⟨fw, fd, fh, fg⟩ : Ft)) → Calls Tryz.prog 93 #[.agg #[.int .i64 bid, .int .i64 bwi, .int .i64 bde, .int .i64 bce, .int .i64 bhi, .int .i64 bbe], u] W' (Ret W' (.bool tb)) := fun W' u h => fits_any htb HBX.out (feetAt_of_owns (e := 34) (base := wr.heap.size) hok1 (by rw [List.length_replicate]; exact h)) hok1 hn1
   have hst : mostR ⟨bid, bwi, bde, bce, bhi, bbe⟩ (⟨fw, fd, fh, fg⟩ : Ft) (5 - k) k = if tb = true then mostR ⟨bid, bwi, bde, bce, bhi, bbe⟩ (⟨fw, fd, fh, fg⟩ : Ft) (5 - (k + 1)) (k + 1) else k := by rw [show 5 - k = (5 - (k + 1)) + 1 by omega, mostR, htb]
   have HST := hid hst; have HRP := hid hrp; have HTR := hid htr; clear hst hrp htr hok1 hn1 htb
   go_upto_region 5 with fail
   refine wp_region_Rs [(5, NewList wr.heap.size 1 [.int .i64 fw, .int .i64 fd, .int .i64 fh, .int .i64 fg]), (8, fun v W => W.ownsRow wr.heap.size 34 4 v (k + 1) (reps (k + 1) (⟨fw, fd, fh, fg⟩ : Ft))), (9, fun v _ => v = .bool tb)] [0, 1, 2, 3, 4, 5, 6, 7, 8, 9, 10] 0 (by kernel_rfl) rfl (by simp only [List.forall_mem_cons]; exact ⟨keeps_list, keeps_owns, keeps_eq, fun _ h => by cases h⟩) (by kernel_rfl) ?_
   simp only [numbered, List.filterMap_cons, List.filterMap_nil, List.getElem?_toArray, List.getElem?_cons_succ, List.getElem?_cons_zero, Option.map_some]
   show wpS _ _ _ _ _ _ _ [(_, _), (_, _), (_, _), (_, _), (_, _), (_, _), (_, _), (_, _), (_, _), (_, _), (_, _)] _ _
   (refine wpS_quiet rfl rfl ?_; intro K hK inst hx; go_big_quiet_op; (first | go_big_quiet_on | (refine ⟨_, fun _ => rfl, ?_⟩; go_big_quiet_on)); clear hx inst)
   (refine wpS_quiet rfl rfl ?_; intro K hK inst hx; go_big_quiet_op; (first | go_big_quiet_on | (refine ⟨_, fun _ => rfl, ?_⟩; go_big_quiet_on)); clear hx inst)
   (refine wpS_quiet rfl rfl ?_; intro K hK inst hx; go_big_quiet_op; (first | go_big_quiet_on | (refine ⟨_, fun _ => rfl, ?_⟩; go_big_quiet_on)); clear hx inst)
   (refine wpS_quiet rfl rfl ?_; intro K hK inst hx; have sc2 := fun x => (fun _ => bkeep (BQ.below x) c2) (hx x); have sc3 := fun x => (fun _ => bkeep (BQ.below x) c3) (hx x); have sc4 := fun x => (fun _ => bkeep (BQ.below x) c4) (hx x); have sc5 := fun x => (fun _ => bkeep (BQ.below x) c5) (hx x); have sc6 := fun x => (fun _ => bkeep (BQ.below x) c6) (hx x); have sc7 := fun x => (fun _ => bkeep (BQ.below x) c7) (hx x); go_big_quiet_op; (first | go_big_quiet_on | (refine ⟨_, fun _ => rfl, ?_⟩; go_big_quiet_on)); clear hx inst)
   (refine wpS_quiet rfl rfl ?_; intro K hK inst hx; have sd0 := fun x => (fun _ => bkeep (BQ.below x) d0) (hx x); have sd1 := fun x => (fun _ => bkeep (BQ.below x) d1) (hx x); have sd2 := fun x => (fun _ => bkeep (BQ.below x) d2) (hx x); have sd3 := fun x => (fun _ => bkeep (BQ.below x) d3) (hx x); go_big_quiet_op; (first | go_big_quiet_on | (refine ⟨_, fun _ => rfl, ?_⟩; go_big_quiet_on)); clear hx inst)
   refine wpS_fresh rfl rfl (fun w' hb hF => ?_) ?_
   ·change freshAt _ _ _ (NewList wr.heap.size 1 [.int .i64 fw, .int .i64 fd, .int .i64 fh, .int .i64 fg]) _; unfold freshAt; go_simp; exact list_of hb
   intro v W hv; simp only [pOf, List.lookup_cons, Nat.reduceBEq, beq_self_eq_true] at hv; have hv0 := hv; obtain ⟨B5, hB5, rfl, -⟩ := hv
   simp only [Act.put, List.setIfInBounds_toArray, List.set_cons_succ, List.set_cons_zero]
   (refine wpS_quiet rfl rfl ?_; intro K hK inst hx; go_big_quiet_op; (first | go_big_quiet_on | (refine ⟨_, fun _ => rfl, ?_⟩; go_big_quiet_on)); clear hx inst)
   (refine wpS_quiet rfl rfl ?_; intro K hK inst hx; go_big_quiet_op; (first | go_big_quiet_on | (refine ⟨_, fun _ => rfl, ?_⟩; go_big_quiet_on)); clear hx inst)
   refine wpS_fresh rfl rfl (fun w' hb hF => ?_) ?_
   ·change freshAt _ _ _ (fun v W => W.ownsRow wr.heap.size 34 4 v (k + 1) (reps (k + 1) (⟨fw, fd, fh, fg⟩ : Ft))) _; have h4 := hF 5 _ rfl (by kernel_rfl); unfold freshAt; go_simp; exact HRP.out _ _ hb h4
   intro v W hv; simp only [pOf, List.lookup_cons, Nat.reduceBEq, beq_self_eq_true] at hv; obtain ⟨ca, cc, rfl, -⟩ := owns_shape hv
   simp only [Act.put, List.setIfInBounds_toArray, List.set_cons_succ, List.set_cons_zero]
   refine wpS_fresh rfl rfl (fun w' hb hF => ?_) ?_
   ·change freshAt _ _ _ (fun v _ => v = .bool tb) _; have h4 := hF 8 _ rfl (by kernel_rfl); unfold freshAt; go_simp; exact HTR.out _ _ h4
   intro v W hv; simp only [pOf, List.lookup_cons, Nat.reduceBEq, beq_self_eq_true] at hv; subst hv
   simp only [Act.put, List.setIfInBounds_toArray, List.set_cons_succ, List.set_cons_zero]
   (refine wpS_quiet rfl rfl ?_; intro K hK inst hx; go_big_quiet_op; (first | go_big_quiet_on | (refine ⟨_, fun _ => rfl, ?_⟩; go_big_quiet_on)); clear hx inst)
   refine wpS_nil ?_
   intro w2 hall
   have hb := hall.1
   clear hall
   refine wpAny_done (by kernel_rfl) ?_ _
   replace hb1 := bnext (w := w) hb1 hb
   replace hB := bnext (w := v2) hB hb
   clear hb HRP HTR
   cases tb
   ·have hMk : M = k := by rw [← HM.out, HR.out, HST.out]; rfl
    subst hMk
    clear HST HR HM
    by_cases hk0 : M = 0
    ·subst hk0
     have hc2 : c = 3 := by rw [← HC.out]; rfl
     subst hc2
     clear HC
     go_wp2_with fail
     go_ret2
     exact ⟨rfl, hb1⟩
    ·have hk1 : ¬ (M : Int) = 0 := by omega
     have hk2 : ((M : Int) == 0) = false := beq_eq_false_iff_ne.mpr hk1
     have hc2 : c = 0 := by rw [← HC.out, if_neg hk0]
     subst hc2
     clear HC
     go_wp2_with fail
     go_ret2
     exact ⟨rfl, hb1⟩
   ·have hnx : mostF ⟨bid, bwi, bde, bce, bhi, bbe⟩ (⟨fw, fd, fh, fg⟩ : Ft) = mostR ⟨bid, bwi, bde, bce, bhi, bbe⟩ (⟨fw, fd, fh, fg⟩ : Ft) (5 - (k + 1)) (k + 1) := by rw [HR.out, HST.out]; rfl
    have HNX := hid hnx; clear hnx HST HR
    go_wp2_with fail
    go_roundg (5 - (k + 1))
    case measure => have h := HGK.out; omega
    case rel => exact ⟨k + 1, by omega, rfl, by go_num, HNX, hB⟩
  ·obtain rfl : k = 5 := by omega
   have hMk : M = 5 := by rw [← HM.out, HR.out]; rfl
   subst hMk
   clear HR HM
   go_upto_region 5 with fail
   refine wp_region_qb (by kernel_rfl) (by kernel_rfl) fun hc => ?_
   repeat (go_big_quiet_step (fail))
   refine wpQuiet_nil ?_
   intro w2 hb
   replace hb1 := bnext (w := w) hb1 hb
   have hc2 : c = 0 := by rw [← HC.out]; rfl
   subst hc2
   clear HC
   go_wp2_with fail
   go_ret2
   exact ⟨rfl, hb1⟩
end Go.Proofs.YtodmidchpbcnpaaGreat