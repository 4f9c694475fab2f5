/- Part of a claim. -/
import Derived.Test.YtodmidchpbcnpaaGreatG50Y
import Derived.Test.YtodmidchpbcnpaaGreatG4Y
import Derived.Test.YtodmidchpbcnpaaGreatG3Y
set_option linter.unusedVariables false
set_option linter.unusedSimpArgs false
namespace Go.Proofs.YtodmidchpbcnpaaGreat
open Go.RowKit Go.Pb Go.Pb.Ware Go.Pb.Sag


set_option maxRecDepth 100000 in
set_option maxHeartbeats 1000000 in
theorem rUp2 {w : World} {n d : Int} (h0 : 0 ≤ n) (h1 : n ≤ 1000000) (h2 : 1 ≤ d) (h3 : d ≤ 100000) :
  Calls Tryz.prog 111 #[.int .i64 n, .int .i64 d] w (Ret w (.int .i64 (up n d))) := by
 unfold Ret
 go_enter Tryz.func111,Tryz.ntmps111
 rw [← up_eq n d (by omega)]
 go_wp2
 go_ret
 exact ⟨ret_int (by omega),by go_grown⟩
theorem rheight_eq {w : World} {a0 a1 a2 a3 a4 a5 a6 a7 a8 a9 a10 imn lo hi : Int} (h : Ware.height ⟨a0,⟨a1,a2⟩,⟨a3,a4⟩,⟨a5,a6⟩,a7,⟨a8,a9⟩,a10⟩ imn = (⟨lo,hi⟩,0)) :
  Calls Tryz.prog 110 #[.agg #[.int .i64 a0, .int .i64 a1, .int .i64 a2, .int .i64 a3, .int .i64 a4, .int .i64 a5, .int .i64 a6, .int .i64 a7, .int .i64 a8, .int .i64 a9, .int .i64 a10], .int .i64 imn] w (Ret w (.tuple #[.agg #[.int .i64 lo, .int .i64 hi], .int .i64 0])) := by
 have := @rHeight_any a0 a1 a2 a3 a4 a5 a6 a7 a8 a9 a10 imn w;rw [h] at this;exact this
set_option maxRecDepth 100000 in
set_option maxHeartbeats 4000000 in
theorem rfoot_any {w : World} {vs vb : Value} {ss bs : List (List Int)} (h1 : RowsAt 11 w vs ss) (h2 : RowsAt 7 w vb bs) {bid bwi bde bce bhi bbe ish imn icl : Int} (hw : ckW ss bs = 0) (hX : boxOk ⟨bid,bwi,bde,bce,bhi,bbe⟩ = true) (hI : itemB ss ⟨ish,imn,icl⟩ = true) :
  Calls Tryz.prog 61 #[.agg #[vs,vb], .agg #[.int .i64 bid, .int .i64 bwi, .int .i64 bde, .int .i64 bce, .int .i64 bhi, .int .i64 bbe], .agg #[.int .i64 ish, .int .i64 imn, .int .i64 icl]] w (Ret w (.agg #[.int .i64 (footR ss bce ⟨ish,imn,icl⟩).wide, .int .i64 (footR ss bce ⟨ish,imn,icl⟩).deep, .int .i64 (footR ss bce ⟨ish,imn,icl⟩).high, .int .i64 (footR ss bce ⟨ish,imn,icl⟩).weight])) := by
 unfold Ret
 obtain ⟨r,hf,hm,hs,hmn,hsb,hcl⟩ := item_open hw hI
 have hrl : r.length = 11 := (h1.i64 r hm).1
 obtain ⟨a0,a1,a2,a3,a4,a5,a6,a7,a8,a9,a10,rfl⟩ := len11 hrl
 have hg := getR_some (n := 11) (bs := bs) hw hf
 have hx2 := boxOk_iff.1 hX
 have hs2 := shOk_iff.1 (show shOk ⟨a0,⟨a1,a2⟩,⟨a3,a4⟩,⟨a5,a6⟩,a7,⟨a8,a9⟩,a10⟩ = true from hs)
 dsimp only at hs2 hmn hcl hx2
 obtain ⟨hlo,hhi,hh⟩ : ∃ hlo hhi,heightOf ⟨a0,⟨a1,a2⟩,⟨a3,a4⟩,⟨a5,a6⟩,a7,⟨a8,a9⟩,a10⟩ imn = ⟨hlo,hhi⟩ := ⟨_,_,rfl⟩
 have hP : ckP ⟨a0,⟨a1,a2⟩,⟨a3,a4⟩,⟨a5,a6⟩,a7,⟨a8,a9⟩,a10⟩ imn = 0 := by unfold ckP;rw [if_pos (show shOk ⟨a0,⟨a1,a2⟩,⟨a3,a4⟩,⟨a5,a6⟩,a7,⟨a8,a9⟩,a10⟩ = true from hs),if_pos (btw_iff.2 hmn)]
 have hh2 : Ware.height ⟨a0,⟨a1,a2⟩,⟨a3,a4⟩,⟨a5,a6⟩,a7,⟨a8,a9⟩,a10⟩ imn = (⟨hlo,hhi⟩,0) := by unfold Ware.height;rw [if_pos hP,hh]
 have hm2 := mul_bd imn a9 40 100000 (by omega) (by omega) (by omega) (by omega)
 have hv : footR ss bce ⟨ish,imn,icl⟩ = ⟨max 1 (up (a2 + 2 * icl) bce),max 1 (up (a4 + 2 * icl) bce),hhi,imn * a9⟩ := by unfold footR;rw [show findR (It.shape ⟨ish,imn,icl⟩) ss = some [a0,a1,a2,a3,a4,a5,a6,a7,a8,a9,a10] from hf];show footOf ⟨a0,⟨a1,a2⟩,⟨a3,a4⟩,⟨a5,a6⟩,a7,⟨a8,a9⟩,a10⟩ bce imn icl = _;unfold footOf;rw [hh]
 rw [hv];clear hv
 have hu1 := up_bd0 (n := a2 + 2 * icl) (d := bce) (by omega) (by omega) (by omega)
 have hu2 := up_bd0 (n := a4 + 2 * icl) (d := bce) (by omega) (by omega) (by omega)
 have HG := hid hg;have HH := hid hh2;clear hg hh hh2 hP hf hm hs hsb hrl hw hI hX
 go_enter Tryz.func61,Tryz.ntmps61
 go_wp2_with fail
 refine (rShape (h1.below (by go_grown)) (h2.below (by go_grown)) HG.out).mono ?_
 rintro e w1 ⟨rfl,hb⟩
 replace hb0 := bnext (w := w) (by go_grown) hb;have hz := hb.size;(try simp only [World.size_alloc,World.size_setCell] at hz);replace q0 : w1.cell? ⟨w.heap.size + 1,0,none⟩ = some (.int .i64 bid) := bkeep hb (by first|with_reducible exact q0|with_reducible exact akeep q0|simp[*,go_sem]);replace q1 : w1.cell? ⟨w.heap.size + 1,1,none⟩ = some (.int .i64 bwi) := bkeep hb (by first|with_reducible exact q1|with_reducible exact akeep q1|simp[*,go_sem]);replace q2 : w1.cell? ⟨w.heap.size + 1,2,none⟩ = some (.int .i64 bde) := bkeep hb (by first|with_reducible exact q2|with_reducible exact akeep q2|simp[*,go_sem]);replace q3 : w1.cell? ⟨w.heap.size + 1,3,none⟩ = some (.int .i64 bce) := bkeep hb (by first|with_reducible exact q3|with_reducible exact akeep q3|simp[*,go_sem]);replace q4 : w1.cell? ⟨w.heap.size + 1,4,none⟩ = some (.int .i64 bhi) := bkeep hb (by first|with_reducible exact q4|with_reducible exact akeep q4|simp[*,go_sem]);replace q5 : w1.cell? ⟨w.heap.size + 1,5,none⟩ = some (.int .i64 bbe) := bkeep hb (by first|with_reducible exact q5|with_reducible exact akeep q5|simp[*,go_sem]);replace q6 : w1.cell? ⟨w.heap.size + 2,0,none⟩ = some (.int .i64 ish) := bkeep hb (by first|with_reducible exact q6|with_reducible exact akeep q6|simp[*,go_sem]);replace q7 : w1.cell? ⟨w.heap.size + 2,1,none⟩ = some (.int .i64 imn) := bkeep hb (by first|with_reducible exact q7|with_reducible exact akeep q7|simp[*,go_sem]);replace q8 : w1.cell? ⟨w.heap.size + 2,2,none⟩ = some (.int .i64 icl) := bkeep hb (by first|with_reducible exact q8|with_reducible exact akeep q8|simp[*,go_sem]);replace f9 : w1.frozen? ⟨w.heap.size + 3,0,none⟩ = false := bfree (v := .int .i64 0) hb (by first|with_reducible exact q9|with_reducible exact akeep q9|simp[*,go_sem]) (by first|with_reducible exact f9|with_reducible exact afree q9 f9|simp[*,go_sem]);replace q9 : w1.cell? ⟨w.heap.size + 3,0,none⟩ = some (.int .i64 0) := bkeep hb (by first|with_reducible exact q9|with_reducible exact akeep q9|simp[*,go_sem]);replace f10 : w1.frozen? ⟨w.heap.size + 3,1,none⟩ = false := bfree (v := .int .i64 0) hb (by first|with_reducible exact q10|with_reducible exact akeep q10|simp[*,go_sem]) (by first|with_reducible exact f10|with_reducible exact afree q10 f10|simp[*,go_sem]);replace q10 : w1.cell? ⟨w.heap.size + 3,1,none⟩ = some (.int .i64 0) := bkeep hb (by first|with_reducible exact q10|with_reducible exact akeep q10|simp[*,go_sem]);replace f11 : w1.frozen? ⟨w.heap.size + 3,2,none⟩ = false := bfree (v := .int .i64 0) hb (by first|with_reducible exact q11|with_reducible exact akeep q11|simp[*,go_sem]) (by first|with_reducible exact f11|with_reducible exact afree q11 f11|simp[*,go_sem]);replace q11 : w1.cell? ⟨w.heap.size + 3,2,none⟩ = some (.int .i64 0) := bkeep hb (by first|with_reducible exact q11|with_reducible exact akeep q11|simp[*,go_sem]);replace f12 : w1.frozen? ⟨w.heap.size + 3,3,none⟩ = false := bfree (v := .int .i64 0) hb (by first|with_reducible exact q12|with_reducible exact akeep q12|simp[*,go_sem]) (by first|with_reducible exact f12|with_reducible exact afree q12 f12|simp[*,go_sem]);replace q12 : w1.cell? ⟨w.heap.size + 3,3,none⟩ = some (.int .i64 0) := bkeep hb (by first|with_reducible exact q12|with_reducible exact akeep q12|simp[*,go_sem]);skip
 clear hb
 obtain ⟨v3,hv3⟩ : ∃ v,v = w1 := ⟨_,rfl⟩
 subst hv3
 go_wp2_with fail
 refine (rheight_eq HH.out).mono ?_
 rintro e w1 ⟨rfl,hb⟩
 replace hb0 := bnext (w := w) (by go_grown) hb;have hz := hb.size;(try simp only [World.size_alloc,World.size_setCell] at hz);replace q0 : w1.cell? ⟨w.heap.size + 1,0,none⟩ = some (.int .i64 bid) := bkeep hb (by first|with_reducible exact q0|with_reducible exact akeep q0|simp[*,go_sem]);replace q1 : w1.cell? ⟨w.heap.size + 1,1,none⟩ = some (.int .i64 bwi) := bkeep hb (by first|with_reducible exact q1|with_reducible exact akeep q1|simp[*,go_sem]);replace q2 : w1.cell? ⟨w.heap.size + 1,2,none⟩ = some (.int .i64 bde) := bkeep hb (by first|with_reducible exact q2|with_reducible exact akeep q2|simp[*,go_sem]);replace q3 : w1.cell? ⟨w.heap.size + 1,3,none⟩ = some (.int .i64 bce) := bkeep hb (by first|with_reducible exact q3|with_reducible exact akeep q3|simp[*,go_sem]);replace q4 : w1.cell? ⟨w.heap.size + 1,4,none⟩ = some (.int .i64 bhi) := bkeep hb (by first|with_reducible exact q4|with_reducible exact akeep q4|simp[*,go_sem]);replace q5 : w1.cell? ⟨w.heap.size + 1,5,none⟩ = some (.int .i64 bbe) := bkeep hb (by first|with_reducible exact q5|with_reducible exact akeep q5|simp[*,go_sem]);replace q6 : w1.cell? ⟨w.heap.size + 2,0,none⟩ = some (.int .i64 ish) := bkeep hb (by first|with_reducible exact q6|with_reducible exact akeep q6|simp[*,go_sem]);replace q7 : w1.cell? ⟨w.heap.size + 2,1,none⟩ = some (.int .i64 imn) := bkeep hb (by first|with_reducible exact q7|with_reducible exact akeep q7|simp[*,go_sem]);replace q8 : w1.cell? ⟨w.heap.size + 2,2,none⟩ = some (.int .i64 icl) := bkeep hb (by first|with_reducible exact q8|with_reducible exact akeep q8|simp[*,go_sem]);replace f9 : w1.frozen? ⟨w.heap.size + 3,0,none⟩ = false := bfree (v := .int .i64 0) hb (by first|with_reducible exact q9|with_reducible exact akeep q9|simp[*,go_sem]) (by first|with_reducible exact f9|with_reducible exact afree q9 f9|simp[*,go_sem]);replace q9 : w1.cell? ⟨w.heap.size + 3,0,none⟩ = some (.int .i64 0) := bkeep hb (by first|with_reducible exact q9|with_reducible exact akeep q9|simp[*,go_sem]);replace f10 : w1.frozen? ⟨w.heap.size + 3,1,none⟩ = false := bfree (v := .int .i64 0) hb (by first|with_reducible exact q10|with_reducible exact akeep q10|simp[*,go_sem]) (by first|with_reducible exact f10|with_reducible exact afree q10 f10|simp[*,go_sem]);replace q10 : w1.cell? ⟨w.heap.size + 3,1,none⟩ = some (.int .i64 0) := bkeep hb (by first|with_reducible exact q10|with_reducible exact akeep q10|simp[*,go_sem]);replace f11 : w1.frozen? ⟨w.heap.size + 3,2,none⟩ = false := bfree (v := .int .i64 0) hb (by first|with_reducible exact q11|with_reducible exact akeep q11|simp[*,go_sem]) (by first|with_reducible exact f11|with_reducible exact afree q11 f11|simp[*,go_sem]);replace q11 : w1.cell? ⟨w.heap.size + 3,2,none⟩ = some (.int .i64 0) := bkeep hb (by first|with_reducible exact q11|with_reducible exact akeep q11|simp[*,go_sem]);replace f12 : w1.frozen? ⟨w.heap.size + 3,3,none⟩ = false := bfree (v := .int .i64 0) hb (by first|with_reducible exact q12|with_reducible exact akeep q12|simp[*,go_sem]) (by first|with_reducible exact f12|with_reducible exact afree q12 f12|simp[*,go_sem]);replace q12 : w1.cell? ⟨w.heap.size + 3,3,none⟩ = some (.int .i64 0) := bkeep hb (by first|with_reducible exact q12|with_reducible exact akeep q12|simp[*,go_sem]);replace q13 : w1.cell? ⟨v3.heap.size,0,none⟩ = some (.int .i64 a0) := bkeep hb (by first|with_reducible exact q13|with_reducible exact akeep q13|simp[*,go_sem]);replace q14 : w1.cell? ⟨v3.heap.size,1,none⟩ = some (.int .i64 a1) := bkeep hb (by first|with_reducible exact q14|with_reducible exact akeep q14|simp[*,go_sem]);replace q15 : w1.cell? ⟨v3.heap.size,2,none⟩ = some (.int .i64 a2) := bkeep hb (by first|with_reducible exact q15|with_reducible exact akeep q15|simp[*,go_sem]);replace q16 : w1.cell? ⟨v3.heap.size,3,none⟩ = some (.int .i64 a3) := bkeep hb (by first|with_reducible exact q16|with_reducible exact akeep q16|simp[*,go_sem]);replace q17 : w1.cell? ⟨v3.heap.size,4,none⟩ = some (.int .i64 a4) := bkeep hb (by first|with_reducible exact q17|with_reducible exact akeep q17|simp[*,go_sem]);replace q18 : w1.cell? ⟨v3.heap.size,5,none⟩ = some (.int .i64 a5) := bkeep hb (by first|with_reducible exact q18|with_reducible exact akeep q18|simp[*,go_sem]);replace q19 : w1.cell? ⟨v3.heap.size,6,none⟩ = some (.int .i64 a6) := bkeep hb (by first|with_reducible exact q19|with_reducible exact akeep q19|simp[*,go_sem]);replace q20 : w1.cell? ⟨v3.heap.size,7,none⟩ = some (.int .i64 a7) := bkeep hb (by first|with_reducible exact q20|with_reducible exact akeep q20|simp[*,go_sem]);replace q21 : w1.cell? ⟨v3.heap.size,8,none⟩ = some (.int .i64 a8) := bkeep hb (by first|with_reducible exact q21|with_reducible exact akeep q21|simp[*,go_sem]);replace q22 : w1.cell? ⟨v3.heap.size,9,none⟩ = some (.int .i64 a9) := bkeep hb (by first|with_reducible exact q22|with_reducible exact akeep q22|simp[*,go_sem]);replace q23 : w1.cell? ⟨v3.heap.size,10,none⟩ = some (.int .i64 a10) := bkeep hb (by first|with_reducible exact q23|with_reducible exact akeep q23|simp[*,go_sem]);skip
 clear hb
 obtain ⟨v4,hv4⟩ : ∃ v,v = w1 := ⟨_,rfl⟩
 subst hv4
 have d0 : ¬ v3.heap.size = w.heap.size + 1 := by omega
 have d1 : ¬ v3.heap.size = w.heap.size + 2 := by omega
 have d2 : ¬ v3.heap.size = w.heap.size + 3 := by omega
 have d3 : ¬ v4.heap.size = w.heap.size + 1 := by omega
 have d4 : ¬ v4.heap.size = w.heap.size + 2 := by omega
 have d5 : ¬ v4.heap.size = w.heap.size + 3 := by omega
 have d6 : ¬ v4.heap.size = v3.heap.size := by omega
 have e0 : ¬ w.heap.size + 1 = v3.heap.size := fun h => d0 h.symm
 have e1 : ¬ w.heap.size + 2 = v3.heap.size := fun h => d1 h.symm
 have e2 : ¬ w.heap.size + 3 = v3.heap.size := fun h => d2 h.symm
 have e3 : ¬ w.heap.size + 1 = v4.heap.size := fun h => d3 h.symm
 have e4 : ¬ w.heap.size + 2 = v4.heap.size := fun h => d4 h.symm
 have e5 : ¬ w.heap.size + 3 = v4.heap.size := fun h => d5 h.symm
 have e6 : ¬ v3.heap.size = v4.heap.size := fun h => d6 h.symm
 go_upto_region 3 with fail
 refine wp_region_gb [0,1,2,3,4,5,6,7,8,9,10,11,12,13,14,15,16,17,18,19,20,21,22,23,24,25,26,27,28,29,30] 1 (by kernel_rfl) rfl (by kernel_rfl) fun hc => ?_
 simp only [named,List.filterMap_cons,List.filterMap_nil,List.getElem?_toArray,List.getElem?_cons_succ,List.getElem?_cons_zero]
 show wpQuiet _ _ _ _ [_,_,_,_,_,_,_,_,_,_,_,_,_,_,_,_,_,_,_,_,_,_,_,_,_,_,_,_,_,_,_] _
 have x0 := fun x => (hc x (w.heap.size + 1) 0 (by simp (maxDischargeDepth := 9) [*,go_sem])).trans (show _ = some (.int .i64 bid) by simp (maxDischargeDepth := 9) [*,go_sem])
 have x1 := fun x => (hc x (w.heap.size + 1) 1 (by simp (maxDischargeDepth := 9) [*,go_sem])).trans (show _ = some (.int .i64 bwi) by simp (maxDischargeDepth := 9) [*,go_sem])
 have x2 := fun x => (hc x (w.heap.size + 1) 2 (by simp (maxDischargeDepth := 9) [*,go_sem])).trans (show _ = some (.int .i64 bde) by simp (maxDischargeDepth := 9) [*,go_sem])
 have x3 := fun x => (hc x (w.heap.size + 1) 3 (by simp (maxDischargeDepth := 9) [*,go_sem])).trans (show _ = some (.int .i64 bce) by simp (maxDischargeDepth := 9) [*,go_sem])
 have x4 := fun x => (hc x (w.heap.size + 1) 4 (by simp (maxDischargeDepth := 9) [*,go_sem])).trans (show _ = some (.int .i64 bhi) by simp (maxDischargeDepth := 9) [*,go_sem])
 have x5 := fun x => (hc x (w.heap.size + 1) 5 (by simp (maxDischargeDepth := 9) [*,go_sem])).trans (show _ = some (.int .i64 bbe) by simp (maxDischargeDepth := 9) [*,go_sem])
 have x6 := fun x => (hc x (w.heap.size + 2) 0 (by simp (maxDischargeDepth := 9) [*,go_sem])).trans (show _ = some (.int .i64 ish) by simp (maxDischargeDepth := 9) [*,go_sem])
 have x7 := fun x => (hc x (w.heap.size + 2) 1 (by simp (maxDischargeDepth := 9) [*,go_sem])).trans (show _ = some (.int .i64 imn) by simp (maxDischargeDepth := 9) [*,go_sem])
 have x8 := fun x => (hc x (w.heap.size + 2) 2 (by simp (maxDischargeDepth := 9) [*,go_sem])).trans (show _ = some (.int .i64 icl) by simp (maxDischargeDepth := 9) [*,go_sem])
 have x9 := fun x => (hc x (w.heap.size + 3) 0 (by simp (maxDischargeDepth := 9) [*,go_sem])).trans (show _ = some (.int .i64 0) by simp (maxDischargeDepth := 9) [*,go_sem])
 have x10 := fun x => (hc x (w.heap.size + 3) 1 (by simp (maxDischargeDepth := 9) [*,go_sem])).trans (show _ = some (.int .i64 0) by simp (maxDischargeDepth := 9) [*,go_sem])
 have x11 := fun x => (hc x (w.heap.size + 3) 2 (by simp (maxDischargeDepth := 9) [*,go_sem])).trans (show _ = some (.int .i64 0) by simp (maxDischargeDepth := 9) [*,go_sem])
 have x12 := fun x => (hc x (w.heap.size + 3) 3 (by simp (maxDischargeDepth := 9) [*,go_sem])).trans (show _ = some (.int .i64 0) by simp (maxDischargeDepth := 9) [*,go_sem])
 have x13 := fun x => (hc x (v3.heap.size) 0 (by simp (maxDischargeDepth := 9) [*,go_sem])).trans (show _ = some (.int .i64 a0) by simp (maxDischargeDepth := 9) [*,go_sem])
 have x14 := fun x => (hc x (v3.heap.size) 1 (by simp (maxDischargeDepth := 9) [*,go_sem])).trans (show _ = some (.int .i64 a1) by simp (maxDischargeDepth := 9) [*,go_sem])
 have x15 := fun x => (hc x (v3.heap.size) 2 (by simp (maxDischargeDepth := 9) [*,go_sem])).trans (show _ = some (.int .i64 a2) by simp (maxDischargeDepth := 9) [*,go_sem])
 have x16 := fun x => (hc x (v3.heap.size) 3 (by simp (maxDischargeDepth := 9) [*,go_sem])).trans (show _ = some (.int .i64 a3) by simp (maxDischargeDepth := 9) [*,go_sem])
 have x17 := fun x => (hc x (v3.heap.size) 4 (by simp (maxDischargeDepth := 9) [*,go_sem])).trans (show _ = some (.int .i64 a4) by simp (maxDischargeDepth := 9) [*,go_sem])
 have x18 := fun x => (hc x (v3.heap.size) 5 (by simp (maxDischargeDepth := 9) [*,go_sem])).trans (show _ = some (.int .i64 a5) by simp (maxDischargeDepth := 9) [*,go_sem])
 have x19 := fun x => (hc x (v3.heap.size) 6 (by simp (maxDischargeDepth := 9) [*,go_sem])).trans (show _ = some (.int .i64 a6) by simp (maxDischargeDepth := 9) [*,go_sem])
 have x20 := fun x => (hc x (v3.heap.size) 7 (by simp (maxDischargeDepth := 9) [*,go_sem])).trans (show _ = some (.int .i64 a7) by simp (maxDischargeDepth := 9) [*,go_sem])
 have x21 := fun x => (hc x (v3.heap.size) 8 (by simp (maxDischargeDepth := 9) [*,go_sem])).trans (show _ = some (.int .i64 a8) by simp (maxDischargeDepth := 9) [*,go_sem])
 have x22 := fun x => (hc x (v3.heap.size) 9 (by simp (maxDischargeDepth := 9) [*,go_sem])).trans (show _ = some (.int .i64 a9) by simp (maxDischargeDepth := 9) [*,go_sem])
 have x23 := fun x => (hc x (v3.heap.size) 10 (by simp (maxDischargeDepth := 9) [*,go_sem])).trans (show _ = some (.int .i64 a10) by simp (maxDischargeDepth := 9) [*,go_sem])
 have x24 := fun x => (hc x (v4.heap.size) 0 (by simp (maxDischargeDepth := 9) [*,go_sem])).trans (show _ = some (.int .i64 hlo) by simp (maxDischargeDepth := 9) [*,go_sem])
 have x25 := fun x => (hc x (v4.heap.size) 1 (by simp (maxDischargeDepth := 9) [*,go_sem])).trans (show _ = some (.int .i64 hhi) by simp (maxDischargeDepth := 9) [*,go_sem])
 iterate 31 (go_big_quiet_step ((go_at_call 111;exact BW.call _ (rUp2 (by omega) (by omega) (by omega) (by omega)))))
 (refine wpQuiet_nil ?_;intro w1 hb;replace hb0 := bnext (w := w) (by go_grown) hb;have hz := hb.size;(try simp only [World.size_alloc,World.size_setCell] at hz);replace q0 : w1.cell? ⟨w.heap.size + 1,0,none⟩ = some (.int .i64 bid) := bkeep hb (by first|with_reducible exact q0|with_reducible exact akeep q0|simp[*,go_sem]);replace q1 : w1.cell? ⟨w.heap.size + 1,1,none⟩ = some (.int .i64 bwi) := bkeep hb (by first|with_reducible exact q1|with_reducible exact akeep q1|simp[*,go_sem]);replace q2 : w1.cell? ⟨w.heap.size + 1,2,none⟩ = some (.int .i64 bde) := bkeep hb (by first|with_reducible exact q2|with_reducible exact akeep q2|simp[*,go_sem]);replace q3 : w1.cell? ⟨w.heap.size + 1,3,none⟩ = some (.int .i64 bce) := bkeep hb (by first|with_reducible exact q3|with_reducible exact akeep q3|simp[*,go_sem]);replace q4 : w1.cell? ⟨w.heap.size + 1,4,none⟩ = some (.int .i64 bhi) := bkeep hb (by first|with_reducible exact q4|with_reducible exact akeep q4|simp[*,go_sem]);replace q5 : w1.cell? ⟨w.heap.size + 1,5,none⟩ = some (.int .i64 bbe) := bkeep hb (by first|with_reducible exact q5|with_reducible exact akeep q5|simp[*,go_sem]);replace q6 : w1.cell? ⟨w.heap.size + 2,0,none⟩ = some (.int .i64 ish) := bkeep hb (by first|with_reducible exact q6|with_reducible exact akeep q6|simp[*,go_sem]);replace q7 : w1.cell? ⟨w.heap.size + 2,1,none⟩ = some (.int .i64 imn) := bkeep hb (by first|with_reducible exact q7|with_reducible exact akeep q7|simp[*,go_sem]);replace q8 : w1.cell? ⟨w.heap.size + 2,2,none⟩ = some (.int .i64 icl) := bkeep hb (by first|with_reducible exact q8|with_reducible exact akeep q8|simp[*,go_sem]);replace f9 : w1.frozen? ⟨w.heap.size + 3,0,none⟩ = false := bfree (v := .int .i64 0) hb (by first|with_reducible exact q9|with_reducible exact akeep q9|simp[*,go_sem]) (by first|with_reducible exact f9|with_reducible exact afree q9 f9|simp[*,go_sem]);replace q9 : w1.cell? ⟨w.heap.size + 3,0,none⟩ = some (.int .i64 0) := bkeep hb (by first|with_reducible exact q9|with_reducible exact akeep q9|simp[*,go_sem]);replace f10 : w1.frozen? ⟨w.heap.size + 3,1,none⟩ = false := bfree (v := .int .i64 0) hb (by first|with_reducible exact q10|with_reducible exact akeep q10|simp[*,go_sem]) (by first|with_reducible exact f10|with_reducible exact afree q10 f10|simp[*,go_sem]);replace q10 : w1.cell? ⟨w.heap.size + 3,1,none⟩ = some (.int .i64 0) := bkeep hb (by first|with_reducible exact q10|with_reducible exact akeep q10|simp[*,go_sem]);replace f11 : w1.frozen? ⟨w.heap.size + 3,2,none⟩ = false := bfree (v := .int .i64 0) hb (by first|with_reducible exact q11|with_reducible exact akeep q11|simp[*,go_sem]) (by first|with_reducible exact f11|with_reducible exact afree q11 f11|simp[*,go_sem]);replace q11 : w1.cell? ⟨w.heap.size + 3,2,none⟩ = some (.int .i64 0) := bkeep hb (by first|with_reducible exact q11|with_reducible exact akeep q11|simp[*,go_sem]);replace f12 : w1.frozen? ⟨w.heap.size + 3,3,none⟩ = false := bfree (v := .int .i64 0) hb (by first|with_reducible exact q12|with_reducible exact akeep q12|simp[*,go_sem]) (by first|with_reducible exact f12|with_reducible exact afree q12 f12|simp[*,go_sem]);replace q12 : w1.cell? ⟨w.heap.size + 3,3,none⟩ = some (.int .i64 0) := bkeep hb (by first|with_reducible exact q12|with_reducible exact akeep q12|simp[*,go_sem]);replace q13 : w1.cell? ⟨v3.heap.size,0,none⟩ = some (.int .i64 a0) := bkeep hb (by first|with_reducible exact q13|with_reducible exact akeep q13|simp[*,go_sem]);replace q14 : w1.cell? ⟨v3.heap.size,1,none⟩ = some (.int .i64 a1) := bkeep hb (by first|with_reducible exact q14|with_reducible exact akeep q14|simp[*,go_sem]);replace q15 : w1.cell? ⟨v3.heap.size,2,none⟩ = some (.int .i64 a2) := bkeep hb (by first|with_reducible exact q15|with_reducible exact akeep q15|simp[*,go_sem]);replace q16 : w1.cell? ⟨v3.heap.size,3,none⟩ = some (.int .i64 a3) := bkeep hb (by first|with_reducible exact q16|with_reducible exact akeep q16|simp[*,go_sem]);replace q17 : w1.cell? ⟨v3.heap.size,4,none⟩ = some (.int .i64 a4) := bkeep hb (by first|with_reducible exact q17|with_reducible exact akeep q17|simp[*,go_sem]);replace q18 : w1.cell? ⟨v3.heap.size,5,none⟩ = some (.int .i64 a5) := bkeep hb (by first|with_reducible exact q18|with_reducible exact akeep q18|simp[*,go_sem]);replace q19 : w1.cell? ⟨v3.heap.size,6,none⟩ = some (.int .i64 a6) := bkeep hb (by first|with_reducible exact q19|with_reducible exact akeep q19|simp[*,go_sem]);replace q20 : w1.cell? ⟨v3.heap.size,7,none⟩ = some (.int .i64 a7) := bkeep hb (by first|with_reducible exact q20|with_reducible exact akeep q20|simp[*,go_sem]);replace q21 : w1.cell? ⟨v3.heap.size,8,none⟩ = some (.int .i64 a8) := bkeep hb (by first|with_reducible exact q21|with_reducible exact akeep q21|simp[*,go_sem]);replace q22 : w1.cell? ⟨v3.heap.size,9,none⟩ = some (.int .i64 a9) := bkeep hb (by first|with_reducible exact q22|with_reducible exact akeep q22|simp[*,go_sem]);replace q23 : w1.cell? ⟨v3.heap.size,10,none⟩ = some (.int .i64 a10) := bkeep hb (by first|with_reducible exact q23|with_reducible exact akeep q23|simp[*,go_sem]);replace q24 : w1.cell? ⟨v4.heap.size,0,none⟩ = some (.int .i64 hlo) := bkeep hb (by first|with_reducible exact q24|with_reducible exact akeep q24|simp[*,go_sem]);replace q25 : w1.cell? ⟨v4.heap.size,1,none⟩ = some (.int .i64 hhi) := bkeep hb (by first|with_reducible exact q25|with_reducible exact akeep q25|simp[*,go_sem]);clear hb)
 refine wpAny_ready (rs := [31]) (by kernel_rfl) (by simp) ?_
 refine AllReady.cons rfl (fun K hK => ?_) AllReady.nil
 go_simp
 refine hK _ _ ?_;clear hK K
 refine wpAny_done (by kernel_rfl) ?_ _
 go_wp2
 exact bodyPost_ret (v := .agg #[.int .i64 (max 1 (up (a2 + 2 * icl) bce)), .int .i64 (max 1 (up (a4 + 2 * icl) bce)), .int .i64 hhi, .int .i64 (imn * a9)]) (by simp [*,results,Tryz.results61,go_sem]) rfl ⟨by first | rfl | simp [*],by go_grown⟩
theorem rfoot_eq {w : World} {vs vb : Value} {ss bs : List (List Int)} (h1 : RowsAt 11 w vs ss) (h2 : RowsAt 7 w vb bs) {bid bwi bde bce bhi bbe ish imn icl fw fd fh fg : Int} (hw : ckW ss bs = 0) (hX : boxOk ⟨bid,bwi,bde,bce,bhi,bbe⟩ = true) (hI : itemB ss ⟨ish,imn,icl⟩ = true) (hf : footR ss bce ⟨ish,imn,icl⟩ = ⟨fw,fd,fh,fg⟩) :
  Calls Tryz.prog 61 #[.agg #[vs,vb], .agg #[.int .i64 bid, .int .i64 bwi, .int .i64 bde, .int .i64 bce, .int .i64 bhi, .int .i64 bbe], .agg #[.int .i64 ish, .int .i64 imn, .int .i64 icl]] w (Ret w (.agg #[.int .i64 fw, .int .i64 fd, .int .i64 fh, .int .i64 fg])) := by
 have := rfoot_any (w := w) h1 h2 hw hX hI;rw [hf] at this;exact this
set_option maxRecDepth 100000 in
set_option maxHeartbeats 4000000 in
theorem rfeet_any {w : World} {vs vb : Value} {ss bs : List (List Int)} (h1 : RowsAt 11 w vs ss) (h2 : RowsAt 7 w vb bs) {lv : Value} {xs : List It} {bid bwi bde bce bhi bbe : Int} (hl : RowsAt 3 w lv (xs.map rowX)) (hn : xs.length ≤ 1000) (hw : ckW ss bs = 0) (hX : boxOk ⟨bid,bwi,bde,bce,bhi,bbe⟩ = true) (hall : xs.all (itemB ss) = true) :
  Calls Tryz.prog 62 #[.agg #[vs,vb], .agg #[.int .i64 bid, .int .i64 bwi, .int .i64 bde, .int .i64 bce, .int .i64 bhi, .int .i64 bbe],lv] w (fun e w' => ∃ v,e = .returned v ∧ Below w.heap.size w w' ∧ w'.ownsRow w.heap.size 34 4 v (xs.map (footR ss bce)).length ((xs.map (footR ss bce)).flatMap cellsF)) := by
 obtain ⟨i0,hi,hz0,hz1,hz2⟩ := info_parts Tryz.infoF
 obtain ⟨la,lc,rfl,hll⟩ := hl.shape
 rw [List.length_map] at hl hll ⊢
 have HWW := hid hw;have HX := hid hX;have HALL := hid hall;clear hw hX hall
 go_enter Tryz.func62,Tryz.ntmps62
 go_wp2_with fail
 obtain ⟨v1,hv1⟩ : ∃ v : World,v = (w.alloc (.cells #[vs,vb] 25)).alloc (.cells #[.int .i64 bid, .int .i64 bwi, .int .i64 bde, .int .i64 bce, .int .i64 bhi, .int .i64 bbe] 27) := ⟨_,rfl⟩
 rw [← hv1]
 have q0 : v1.cell? ⟨w.heap.size,0,none⟩ = some (vs) := by rw [hv1];simp [go_sem]
 have q1 : v1.cell? ⟨w.heap.size,1,none⟩ = some (vb) := by rw [hv1];simp [go_sem]
 have q2 : v1.cell? ⟨w.heap.size + 1,0,none⟩ = some (.int .i64 bid) := by rw [hv1];simp [go_sem]
 have q3 : v1.cell? ⟨w.heap.size + 1,1,none⟩ = some (.int .i64 bwi) := by rw [hv1];simp [go_sem]
 have q4 : v1.cell? ⟨w.heap.size + 1,2,none⟩ = some (.int .i64 bde) := by rw [hv1];simp [go_sem]
 have q5 : v1.cell? ⟨w.heap.size + 1,3,none⟩ = some (.int .i64 bce) := by rw [hv1];simp [go_sem]
 have q6 : v1.cell? ⟨w.heap.size + 1,4,none⟩ = some (.int .i64 bhi) := by rw [hv1];simp [go_sem]
 have q7 : v1.cell? ⟨w.heap.size + 1,5,none⟩ = some (.int .i64 bbe) := by rw [hv1];simp [go_sem]
 have hb0 : Below w.heap.size w v1 := by rw [hv1];go_grown
 have hz3 : w.heap.size ≤ v1.heap.size := hb0.size
 clear hv1
 go_loopg [7,9,12] xs.length (fun gk fv _ kv wr => ∃ k : Nat,k ≤ xs.length ∧ gk = xs.length - k ∧ kv = .int .i64 k ∧ wr.ownsRow v1.heap.size 34 4 fv k (((xs.take k).map (footR ss bce)).flatMap cellsF) ∧ Below v1.heap.size v1 wr)
 case atStart => exact ⟨0,Nat.zero_le _,rfl,rfl,by simpa using World.ownsRow_nil _ _ _ _,Below.refl _ _⟩
 case round =>
  obtain ⟨k,hk,hgk,rfl,ho,hB⟩ := hrel
  have HGK := hid hgk;clear hgk
  have hb1 : Below w.heap.size w wr := bnext (w := w) hb0 hB
  have p0 := bkeep hB q0
  have p1 := bkeep hB q1
  have p2 := bkeep hB q2
  have p3 := bkeep hB q3
  have p4 := bkeep hB q4
  have p5 := bkeep hB q5
  have p6 := bkeep hB q6
  have p7 := bkeep hB q7
  have hzr := hB.size
  obtain ⟨ua,uc,rfl,hul⟩ := owns_shape ho
  by_cases hlt : k < xs.length
  ·have hkl : (k : Int) < (xs.length : Int) := by omega
   obtain ⟨x,hxk⟩ : ∃ x,xs[k]? = some x := ⟨_,List.getElem?_eq_getElem hlt⟩
   obtain ⟨ish,imn,icl⟩ := x
   obtain ⟨a',ha,hrl0,hc0,hcc⟩ := (show RowsAt 3 wr (.slice la (xs.map rowX).length lc) (xs.map rowX) by rw [List.length_map];exact hl.below hb1).row (k := k) (by rw [List.length_map];exact hlt)
   have hat : (xs.map rowX)[k]'(by rw [List.length_map];exact hlt) = [ish,imn,icl] := by rw [List.getElem_map,(List.getElem?_eq_some_iff.1 hxk).2];rfl
   rw [hat] at hc0 hcc
   have r0 := hc0 _ rfl
   have r1 := hcc 1 _ (by decide) rfl
   have r2 := hcc 2 _ (by decide) rfl
   clear hc0 hcc hat hrl0
   subst ha
   have hib : itemB ss ⟨ish,imn,icl⟩ = true := List.all_eq_true.1 HALL.out _ (List.mem_of_getElem? hxk)
   obtain ⟨F,hF⟩ : ∃ F,footR ss bce ⟨ish,imn,icl⟩ = F := ⟨_,rfl⟩
   obtain ⟨fw,fd,fh,fg⟩ := F
   have hke : xs[k]'hlt = ⟨ish,imn,icl⟩ := (List.getElem?_eq_some_iff.1 hxk).2
   have HIB := hid hib;have HF := hid hF;have HKE := hid hke;clear hib hF hxk hke
   go_upto_region 5 with fail
   generalize hW : World.alloc wr _ = v5
   have c0 : v5.cell? ⟨wr.heap.size,0,none⟩ = some (.int .i64 ish) := by rw [← hW];simp [go_sem]
   have c1 : v5.cell? ⟨wr.heap.size,1,none⟩ = some (.int .i64 imn) := by rw [← hW];simp [go_sem]
   have c2 : v5.cell? ⟨wr.heap.size,2,none⟩ = some (.int .i64 icl) := by rw [← hW];simp [go_sem]
   have hb : Below wr.heap.size wr v5 := by rw [← hW];exact (Below.refl _ _).alloc (Nat.le_refl _) _
   replace ho := owns_below ho hb
   replace hB := bnext (w := v1) hB hb
   replace hb1 := bnext (w := w) hb1 hb
   replace p0 := bkeep hb p0
   replace p1 := bkeep hb p1
   replace p2 := bkeep hb p2
   replace p3 := bkeep hb p3
   replace p4 := bkeep hb p4
   replace p5 := bkeep hb p5
   replace p6 := bkeep hb p6
   replace p7 := bkeep hb p7
   clear hb hW r0 r1 r2
   go_wp2_with fail
   refine (rfoot_eq (h1.below hb1) (h2.below hb1) HWW.out HX.out HIB.out HF.out).mono ?_
   rintro e w6 ⟨rfl,hb⟩
   replace ho := owns_below ho hb
   replace hB := bnext (w := v1) hB hb
   have hz6 := hB.size
   clear hb p0 p1 p2 p3 p4 p5 p6 p7
   have hcg : ∀ i u,(cellsF (⟨fw,fd,fh,fg⟩ : Ft))[i]? = some u → (w6.alloc (.cells #[.int .i64 fw, .int .i64 fd, .int .i64 fh, .int .i64 fg] 34)).cell? ((⟨w6.heap.size,0,none⟩ : Addr).add i) = some u := fun i u h => new_cellsF w6 (⟨fw,fd,fh,fg⟩ : Ft) 34 i u h
   have HCG := hid hcg;clear hcg
   go_wp2_with (at_builtin;go_must (refine wpList_append_own _ rfl _ _ 38 rfl v1.heap.size 34 i0 (.agg #[.int .i64 0, .int .i64 0, .int .i64 0, .int .i64 0]) 4 32 Tryz.underlying38 hi hz0 hz1 hz2 rfl (by decide) _ _ _ rfl (ho.alloc _) ⟨w6.heap.size,0,none⟩ 1 1 (cellsF (⟨fw,fd,fh,fg⟩ : Ft)) rfl rfl HCG.out one_cellsF (by unfold maxLen;omega) (by omega) (by simp;omega) ?_;intro v' w7 ho7 hg7 hnil))
   have hb7 : Below v1.heap.size v1 w7 := below_grown (hB.alloc hz6 _) hg7 (ho.alloc _) (by simp;omega) (Nat.le_refl _)
   clear hg7 hnil
   have HE : ((xs.take k).map (footR ss bce)).flatMap cellsF ++ cellsF (⟨fw,fd,fh,fg⟩ : Ft) = ((xs.take (k + 1)).map (footR ss bce)).flatMap cellsF := by rw [snocF,List.take_succ_eq_append_getElem hlt,List.map_append,HKE.out,List.map_singleton,HF.out]
   rw [HE] at ho7
   have HO := hid ho7;clear ho7 HE
   go_roundg (xs.length - (k + 1))
   case measure => have h := HGK.out;omega
   case rel => exact ⟨k + 1,by omega,rfl,by go_num,HO.out,hb7⟩
  ·obtain rfl : k = xs.length := by omega
   rw [List.take_of_length_le (Nat.le_refl _)] at ho
   go_wp2_with fail
   go_ret
   exact ⟨_,rfl,hb1,by rw [List.length_map];exact owns_base hz3 ho⟩
end Go.Proofs.YtodmidchpbcnpaaGreat