/- Part of a claim. -/
import Derived.Test.YtodmidchpbcnpaaGreatG4Y
import Derived.Test.YtodmidchpbcnpaaGreatW16Y
import Derived.Test.YtodmidchpbcnpaaGreatW5Y
import Derived.Test.YtodmidchpbcnpaaGreatKSkY
import Derived.Deep.LoopGhost
set_option linter.unusedVariables false
set_option linter.unusedSimpArgs false
namespace Go.Proofs.YtodmidchpbcnpaaGreat
open Go.RowKit Go.Pb Go.Pb.Ware Go.Pb.Sag


set_option maxRecDepth 100000 in
set_option maxHeartbeats 1000000 in
theorem rWithin_any {w : World} {n lo hi : Int} :
  Calls Tryz.prog 67 #[.int .i64 n, .int .i64 lo, .int .i64 hi] w (Ret w (.bool (btw n lo hi))) := by
 unfold Ret
 unfold btw
 go_enter Tryz.func67,Tryz.ntmps67
 go_wp2
 all_goals (go_ret;exact ⟨ret_bool (by rw [Bool.eq_iff_iff];simp;omega),by go_grown⟩)
theorem rWithin {w : World} {n lo hi : Int} {b : Bool} (hx : btw n lo hi = b) :
  Calls Tryz.prog 67 #[.int .i64 n, .int .i64 lo, .int .i64 hi] w (Ret w (.bool b)) := by subst hx;exact rWithin_any
set_option maxRecDepth 100000 in
set_option maxHeartbeats 4000000 in
theorem rCheckBox2 {w : World} {bid bwi bde bce bhi bbe : Int} :
  Calls Tryz.prog 21 #[.agg #[.int .i64 bid, .int .i64 bwi, .int .i64 bde, .int .i64 bce, .int .i64 bhi, .int .i64 bbe]] w (Ret w (.int .i64 (ckX ⟨bid,bwi,bde,bce,bhi,bbe⟩))) := by
 unfold Ret
 go_enter Tryz.func21,Tryz.ntmps21
 go_upto_region 1 with (fail)
 refine wp_region_qf fun hc => ?_
 all_goals (repeat (go_big_quiet_step ((go_at_call 67;exact BW.call _ (rWithin_any)))))
 all_goals (first | (refine wpQuiet_nil ?_;intro w1 hb;have hb0 := bnext (w := w) (by go_grown) hb;obtain ⟨hc,hf⟩ := bcell hb;clear hb) | (show wpQuiet _ _ _ _ _ _;cases g0 : btw bid 1 999 <;> try simp only [Bool.not_true,Bool.not_false]) | skip)
 all_goals (repeat (go_big_quiet_step ((go_at_call 67;exact BW.call _ (rWithin_any)))))
 all_goals (first | (refine wpQuiet_nil ?_;intro w1 hb;have hb0 := bnext (w := w) (by go_grown) hb;obtain ⟨hc,hf⟩ := bcell hb;clear hb) | (show wpQuiet _ _ _ _ _ _;cases g1 : btw bwi 1 6 <;> try simp only [Bool.not_true,Bool.not_false]) | skip)
 all_goals (repeat (go_big_quiet_step ((go_at_call 67;exact BW.call _ (rWithin_any)))))
 all_goals (first | (refine wpQuiet_nil ?_;intro w1 hb;have hb0 := bnext (w := w) (by go_grown) hb;obtain ⟨hc,hf⟩ := bcell hb;clear hb) | (show wpQuiet _ _ _ _ _ _;cases g2 : btw bde 1 6 <;> try simp only [Bool.not_true,Bool.not_false]) | skip)
 all_goals (repeat (go_big_quiet_step ((go_at_call 67;exact BW.call _ (rWithin_any)))))
 all_goals (first | (refine wpQuiet_nil ?_;intro w1 hb;have hb0 := bnext (w := w) (by go_grown) hb;obtain ⟨hc,hf⟩ := bcell hb;clear hb) | (show wpQuiet _ _ _ _ _ _;cases g3 : btw bce 1 500 <;> try simp only [Bool.not_true,Bool.not_false]) | skip)
 all_goals (repeat (go_big_quiet_step ((go_at_call 67;exact BW.call _ (rWithin_any)))))
 all_goals (first | (refine wpQuiet_nil ?_;intro w1 hb;have hb0 := bnext (w := w) (by go_grown) hb;obtain ⟨hc,hf⟩ := bcell hb;clear hb) | (show wpQuiet _ _ _ _ _ _;cases g4 : btw bhi 1 2000 <;> try simp only [Bool.not_true,Bool.not_false]) | skip)
 all_goals (repeat (go_big_quiet_step ((go_at_call 67;exact BW.call _ (rWithin_any)))))
 all_goals (first | (refine wpQuiet_nil ?_;intro w1 hb;have hb0 := bnext (w := w) (by go_grown) hb;obtain ⟨hc,hf⟩ := bcell hb;clear hb) | skip)
 cases g5 : btw bbe 0 1000000
 all_goals go_wp2
 all_goals (go_ret;exact ⟨ret_int (by first | (simp [ckX,boxOk, *];done) | (simp_all [ckX,boxOk];done)),by go_grown⟩)
theorem rCheckBox_eq {w : World} {bid bwi bde bce bhi bbe c : Int} (h : ckX ⟨bid,bwi,bde,bce,bhi,bbe⟩ = c) :
  Calls Tryz.prog 21 #[.agg #[.int .i64 bid, .int .i64 bwi, .int .i64 bde, .int .i64 bce, .int .i64 bhi, .int .i64 bbe]] w (Ret w (.int .i64 c)) := by subst h;exact rCheckBox2
theorem rstands_eq {w : World} {a0 a1 a2 a3 a4 a5 a6 a7 a8 a9 a10 imn c : Int} {b : Bool} (h : Ware.stands ⟨a0,⟨a1,a2⟩,⟨a3,a4⟩,⟨a5,a6⟩,a7,⟨a8,a9⟩,a10⟩ imn = (b,c)) :
  Calls Tryz.prog 109 #[.agg #[.int .i64 a0, .int .i64 a1, .int .i64 a2, .int .i64 a3, .int .i64 a4, .int .i64 a5, .int .i64 a6, .int .i64 a7, .int .i64 a8, .int .i64 a9, .int .i64 a10], .int .i64 imn] w (Ret w (.tuple #[.bool b, .int .i64 c])) := by
 have := @rStands_any a0 a1 a2 a3 a4 a5 a6 a7 a8 a9 a10 imn w;rw [h] at this;exact this
set_option maxRecDepth 100000 in
set_option maxHeartbeats 4000000 in
theorem rIsItem {w : World} {vs vb : Value} {ss bs : List (List Int)} (h1 : RowsAt 11 w vs ss) (h2 : RowsAt 7 w vb bs) {ish imn icl : Int} {b : Bool} (hw : ckW ss bs = 0) (hx : itemB ss ⟨ish,imn,icl⟩ = b) :
  Calls Tryz.prog 60 #[.agg #[vs,vb], .agg #[.int .i64 ish, .int .i64 imn, .int .i64 icl]] w (Ret w (.bool b)) := by
 unfold Ret
 cases hf : findR ish ss
 ·have hc : b = false := by rw [← hx];unfold itemB;rw [hf]
  subst hc
  have hg := getR_none (n := 11) (id := ish) hw hf
  have HG := hid hg;clear hx hg hf hw
  go_enter Tryz.func60,Tryz.ntmps60
  go_wp2_with fail
  refine (rShape (h1.below (by go_grown)) (h2.below (by go_grown)) (show _ = ([0,0,0,0,0,0,0,0,0,0,0],3) from HG.out)).mono ?_
  rintro e w1 ⟨rfl,hb⟩
  replace hb0 := bnext (w := w) (by go_grown) hb;have hz := hb.size;(try simp only [World.size_alloc,World.size_setCell] at hz);replace q0 : w1.cell? ⟨w.heap.size + 1,0,none⟩ = some (.int .i64 ish) := bkeep hb (by first|with_reducible exact q0|with_reducible exact akeep q0|simp[*,go_sem]);replace q1 : w1.cell? ⟨w.heap.size + 1,1,none⟩ = some (.int .i64 imn) := bkeep hb (by first|with_reducible exact q1|with_reducible exact akeep q1|simp[*,go_sem]);replace q2 : w1.cell? ⟨w.heap.size + 1,2,none⟩ = some (.int .i64 icl) := bkeep hb (by first|with_reducible exact q2|with_reducible exact akeep q2|simp[*,go_sem]);skip
  clear hb
  go_wp2
  go_ret
  exact ⟨rfl,by go_grown⟩
 ·rename_i r
  have hsh : shOk (shR r) = true := ckW_0 hw r (findR_mem hf).1
  have hrl : r.length = 11 := (h1.i64 r (findR_mem hf).1).1
  obtain ⟨a0,a1,a2,a3,a4,a5,a6,a7,a8,a9,a10,rfl⟩ := len11 hrl
  have hg := getR_some (n := 11) (bs := bs) hw hf
  obtain ⟨sb,cc,hs⟩ : ∃ sb cc,Ware.stands ⟨a0,⟨a1,a2⟩,⟨a3,a4⟩,⟨a5,a6⟩,a7,⟨a8,a9⟩,a10⟩ imn = (sb,cc) := ⟨_,_,rfl⟩
  obtain ⟨d,hd⟩ : ∃ d,btw icl 0 50 = d := ⟨_,rfl⟩
  obtain ⟨m,hm⟩ : ∃ m,btw imn 1 40 = m := ⟨_,rfl⟩
  have hc : b = (sb && d) := by rw [← hx];unfold itemB;rw [hf];dsimp only;have h3 : (Ware.stands (shR [a0,a1,a2,a3,a4,a5,a6,a7,a8,a9,a10]) imn).1 = sb := congrArg Prod.fst hs;simp only [h3,hd]
  have hcp : m = true → cc = 0 := fun e => by have hp : ckP (shR [a0,a1,a2,a3,a4,a5,a6,a7,a8,a9,a10]) imn = 0 := (by unfold ckP;rw [if_pos hsh,if_pos (hm.trans e)]);have h4 : (Ware.stands (shR [a0,a1,a2,a3,a4,a5,a6,a7,a8,a9,a10]) imn).2 = cc := congrArg Prod.snd hs;rw [← h4];unfold Ware.stands;rw [if_pos hp]
  have hcn : m = false → sb = false := fun e => by have hp : ¬ ckP (shR [a0,a1,a2,a3,a4,a5,a6,a7,a8,a9,a10]) imn = 0 := (by unfold ckP;rw [if_pos hsh,if_neg (by rw [hm,e];simp)];decide);have h4 : (Ware.stands (shR [a0,a1,a2,a3,a4,a5,a6,a7,a8,a9,a10]) imn).1 = sb := congrArg Prod.fst hs;rw [← h4];unfold Ware.stands;rw [if_neg hp]
  have HG := hid hg;have HS := hid hs;have HD := hid hd;have HM := hid hm;clear hx hg hf hs hd hrl hm hsh hw
  cases m
  ·have hsb := hcn rfl
   subst hsb
   have hc2 : b = false := hc
   subst hc2
   clear hcn hcp hc
   go_enter Tryz.func60,Tryz.ntmps60
   go_wp2_with fail
   refine (rShape (h1.below (by go_grown)) (h2.below (by go_grown)) HG.out).mono ?_
   rintro e w1 ⟨rfl,hb⟩
   replace hb0 := bnext (w := w) (by go_grown) hb;have hz := hb.size;(try simp only [World.size_alloc,World.size_setCell] at hz);replace q0 : w1.cell? ⟨w.heap.size + 1,0,none⟩ = some (.int .i64 ish) := bkeep hb (by first|with_reducible exact q0|with_reducible exact akeep q0|simp[*,go_sem]);replace q1 : w1.cell? ⟨w.heap.size + 1,1,none⟩ = some (.int .i64 imn) := bkeep hb (by first|with_reducible exact q1|with_reducible exact akeep q1|simp[*,go_sem]);replace q2 : w1.cell? ⟨w.heap.size + 1,2,none⟩ = some (.int .i64 icl) := bkeep hb (by first|with_reducible exact q2|with_reducible exact akeep q2|simp[*,go_sem]);skip
   clear hb
   obtain ⟨v3,hv3⟩ : ∃ v,v = w1 := ⟨_,rfl⟩
   subst hv3
   go_wp2_with fail
   refine (rWithin HM.out).mono ?_
   rintro e w1 ⟨rfl,hb⟩
   replace hb0 := bnext (w := w) (by go_grown) hb;have hz := hb.size;(try simp only [World.size_alloc,World.size_setCell] at hz);replace q0 : w1.cell? ⟨w.heap.size + 1,0,none⟩ = some (.int .i64 ish) := bkeep hb (by first|with_reducible exact q0|with_reducible exact akeep q0|simp[*,go_sem]);replace q1 : w1.cell? ⟨w.heap.size + 1,1,none⟩ = some (.int .i64 imn) := bkeep hb (by first|with_reducible exact q1|with_reducible exact akeep q1|simp[*,go_sem]);replace q2 : w1.cell? ⟨w.heap.size + 1,2,none⟩ = some (.int .i64 icl) := bkeep hb (by first|with_reducible exact q2|with_reducible exact akeep q2|simp[*,go_sem]);skip
   clear hb
   go_wp2
   go_ret
   exact ⟨rfl,by go_grown⟩
  ·have hcc := hcp rfl
   subst hcc
   clear hcp hcn
   cases d
   ·have hc2 : b = false := by rw [hc];simp
    subst hc2
    clear hc
    go_enter Tryz.func60,Tryz.ntmps60
    go_wp2_with fail
    refine (rShape (h1.below (by go_grown)) (h2.below (by go_grown)) HG.out).mono ?_
    rintro e w1 ⟨rfl,hb⟩
    replace hb0 := bnext (w := w) (by go_grown) hb;have hz := hb.size;(try simp only [World.size_alloc,World.size_setCell] at hz);replace q0 : w1.cell? ⟨w.heap.size + 1,0,none⟩ = some (.int .i64 ish) := bkeep hb (by first|with_reducible exact q0|with_reducible exact akeep q0|simp[*,go_sem]);replace q1 : w1.cell? ⟨w.heap.size + 1,1,none⟩ = some (.int .i64 imn) := bkeep hb (by first|with_reducible exact q1|with_reducible exact akeep q1|simp[*,go_sem]);replace q2 : w1.cell? ⟨w.heap.size + 1,2,none⟩ = some (.int .i64 icl) := bkeep hb (by first|with_reducible exact q2|with_reducible exact akeep q2|simp[*,go_sem]);skip
    clear hb
    obtain ⟨v3,hv3⟩ : ∃ v,v = w1 := ⟨_,rfl⟩
    subst hv3
    go_wp2_with fail
    refine (rWithin HM.out).mono ?_
    rintro e w1 ⟨rfl,hb⟩
    replace hb0 := bnext (w := w) (by go_grown) hb;have hz := hb.size;(try simp only [World.size_alloc,World.size_setCell] at hz);replace q0 : w1.cell? ⟨w.heap.size + 1,0,none⟩ = some (.int .i64 ish) := bkeep hb (by first|with_reducible exact q0|with_reducible exact akeep q0|simp[*,go_sem]);replace q1 : w1.cell? ⟨w.heap.size + 1,1,none⟩ = some (.int .i64 imn) := bkeep hb (by first|with_reducible exact q1|with_reducible exact akeep q1|simp[*,go_sem]);replace q2 : w1.cell? ⟨w.heap.size + 1,2,none⟩ = some (.int .i64 icl) := bkeep hb (by first|with_reducible exact q2|with_reducible exact akeep q2|simp[*,go_sem]);skip
    clear hb
    go_wp2_with fail
    refine (rWithin HD.out).mono ?_
    rintro e w1 ⟨rfl,hb⟩
    replace hb0 := bnext (w := w) (by go_grown) hb;have hz := hb.size;(try simp only [World.size_alloc,World.size_setCell] at hz);replace q0 : w1.cell? ⟨w.heap.size + 1,0,none⟩ = some (.int .i64 ish) := bkeep hb (by first|with_reducible exact q0|with_reducible exact akeep q0|simp[*,go_sem]);replace q1 : w1.cell? ⟨w.heap.size + 1,1,none⟩ = some (.int .i64 imn) := bkeep hb (by first|with_reducible exact q1|with_reducible exact akeep q1|simp[*,go_sem]);replace q2 : w1.cell? ⟨w.heap.size + 1,2,none⟩ = some (.int .i64 icl) := bkeep hb (by first|with_reducible exact q2|with_reducible exact akeep q2|simp[*,go_sem]);skip
    clear hb
    go_wp2
    go_ret
    exact ⟨rfl,by go_grown⟩
   ·have hc2 : b = sb := by rw [hc];simp
    subst hc2
    clear hc
    go_enter Tryz.func60,Tryz.ntmps60
    go_wp2_with fail
    refine (rShape (h1.below (by go_grown)) (h2.below (by go_grown)) HG.out).mono ?_
    rintro e w1 ⟨rfl,hb⟩
    replace hb0 := bnext (w := w) (by go_grown) hb;have hz := hb.size;(try simp only [World.size_alloc,World.size_setCell] at hz);replace q0 : w1.cell? ⟨w.heap.size + 1,0,none⟩ = some (.int .i64 ish) := bkeep hb (by first|with_reducible exact q0|with_reducible exact akeep q0|simp[*,go_sem]);replace q1 : w1.cell? ⟨w.heap.size + 1,1,none⟩ = some (.int .i64 imn) := bkeep hb (by first|with_reducible exact q1|with_reducible exact akeep q1|simp[*,go_sem]);replace q2 : w1.cell? ⟨w.heap.size + 1,2,none⟩ = some (.int .i64 icl) := bkeep hb (by first|with_reducible exact q2|with_reducible exact akeep q2|simp[*,go_sem]);skip
    clear hb
    obtain ⟨v3,hv3⟩ : ∃ v,v = w1 := ⟨_,rfl⟩
    subst hv3
    go_wp2_with fail
    refine (rWithin HM.out).mono ?_
    rintro e w1 ⟨rfl,hb⟩
    replace hb0 := bnext (w := w) (by go_grown) hb;have hz := hb.size;(try simp only [World.size_alloc,World.size_setCell] at hz);replace q0 : w1.cell? ⟨w.heap.size + 1,0,none⟩ = some (.int .i64 ish) := bkeep hb (by first|with_reducible exact q0|with_reducible exact akeep q0|simp[*,go_sem]);replace q1 : w1.cell? ⟨w.heap.size + 1,1,none⟩ = some (.int .i64 imn) := bkeep hb (by first|with_reducible exact q1|with_reducible exact akeep q1|simp[*,go_sem]);replace q2 : w1.cell? ⟨w.heap.size + 1,2,none⟩ = some (.int .i64 icl) := bkeep hb (by first|with_reducible exact q2|with_reducible exact akeep q2|simp[*,go_sem]);replace q3 : w1.cell? ⟨v3.heap.size,0,none⟩ = some (.int .i64 a0) := bkeep hb (by first|with_reducible exact q3|with_reducible exact akeep q3|simp[*,go_sem]);replace q4 : w1.cell? ⟨v3.heap.size,1,none⟩ = some (.int .i64 a1) := bkeep hb (by first|with_reducible exact q4|with_reducible exact akeep q4|simp[*,go_sem]);replace q5 : w1.cell? ⟨v3.heap.size,2,none⟩ = some (.int .i64 a2) := bkeep hb (by first|with_reducible exact q5|with_reducible exact akeep q5|simp[*,go_sem]);replace q6 : w1.cell? ⟨v3.heap.size,3,none⟩ = some (.int .i64 a3) := bkeep hb (by first|with_reducible exact q6|with_reducible exact akeep q6|simp[*,go_sem]);replace q7 : w1.cell? ⟨v3.heap.size,4,none⟩ = some (.int .i64 a4) := bkeep hb (by first|with_reducible exact q7|with_reducible exact akeep q7|simp[*,go_sem]);replace q8 : w1.cell? ⟨v3.heap.size,5,none⟩ = some (.int .i64 a5) := bkeep hb (by first|with_reducible exact q8|with_reducible exact akeep q8|simp[*,go_sem]);replace q9 : w1.cell? ⟨v3.heap.size,6,none⟩ = some (.int .i64 a6) := bkeep hb (by first|with_reducible exact q9|with_reducible exact akeep q9|simp[*,go_sem]);replace q10 : w1.cell? ⟨v3.heap.size,7,none⟩ = some (.int .i64 a7) := bkeep hb (by first|with_reducible exact q10|with_reducible exact akeep q10|simp[*,go_sem]);replace q11 : w1.cell? ⟨v3.heap.size,8,none⟩ = some (.int .i64 a8) := bkeep hb (by first|with_reducible exact q11|with_reducible exact akeep q11|simp[*,go_sem]);replace q12 : w1.cell? ⟨v3.heap.size,9,none⟩ = some (.int .i64 a9) := bkeep hb (by first|with_reducible exact q12|with_reducible exact akeep q12|simp[*,go_sem]);replace q13 : w1.cell? ⟨v3.heap.size,10,none⟩ = some (.int .i64 a10) := bkeep hb (by first|with_reducible exact q13|with_reducible exact akeep q13|simp[*,go_sem]);skip
    clear hb
    go_wp2_with fail
    refine (rWithin HD.out).mono ?_
    rintro e w1 ⟨rfl,hb⟩
    replace hb0 := bnext (w := w) (by go_grown) hb;have hz := hb.size;(try simp only [World.size_alloc,World.size_setCell] at hz);replace q0 : w1.cell? ⟨w.heap.size + 1,0,none⟩ = some (.int .i64 ish) := bkeep hb (by first|with_reducible exact q0|with_reducible exact akeep q0|simp[*,go_sem]);replace q1 : w1.cell? ⟨w.heap.size + 1,1,none⟩ = some (.int .i64 imn) := bkeep hb (by first|with_reducible exact q1|with_reducible exact akeep q1|simp[*,go_sem]);replace q2 : w1.cell? ⟨w.heap.size + 1,2,none⟩ = some (.int .i64 icl) := bkeep hb (by first|with_reducible exact q2|with_reducible exact akeep q2|simp[*,go_sem]);replace q3 : w1.cell? ⟨v3.heap.size,0,none⟩ = some (.int .i64 a0) := bkeep hb (by first|with_reducible exact q3|with_reducible exact akeep q3|simp[*,go_sem]);replace q4 : w1.cell? ⟨v3.heap.size,1,none⟩ = some (.int .i64 a1) := bkeep hb (by first|with_reducible exact q4|with_reducible exact akeep q4|simp[*,go_sem]);replace q5 : w1.cell? ⟨v3.heap.size,2,none⟩ = some (.int .i64 a2) := bkeep hb (by first|with_reducible exact q5|with_reducible exact akeep q5|simp[*,go_sem]);replace q6 : w1.cell? ⟨v3.heap.size,3,none⟩ = some (.int .i64 a3) := bkeep hb (by first|with_reducible exact q6|with_reducible exact akeep q6|simp[*,go_sem]);replace q7 : w1.cell? ⟨v3.heap.size,4,none⟩ = some (.int .i64 a4) := bkeep hb (by first|with_reducible exact q7|with_reducible exact akeep q7|simp[*,go_sem]);replace q8 : w1.cell? ⟨v3.heap.size,5,none⟩ = some (.int .i64 a5) := bkeep hb (by first|with_reducible exact q8|with_reducible exact akeep q8|simp[*,go_sem]);replace q9 : w1.cell? ⟨v3.heap.size,6,none⟩ = some (.int .i64 a6) := bkeep hb (by first|with_reducible exact q9|with_reducible exact akeep q9|simp[*,go_sem]);replace q10 : w1.cell? ⟨v3.heap.size,7,none⟩ = some (.int .i64 a7) := bkeep hb (by first|with_reducible exact q10|with_reducible exact akeep q10|simp[*,go_sem]);replace q11 : w1.cell? ⟨v3.heap.size,8,none⟩ = some (.int .i64 a8) := bkeep hb (by first|with_reducible exact q11|with_reducible exact akeep q11|simp[*,go_sem]);replace q12 : w1.cell? ⟨v3.heap.size,9,none⟩ = some (.int .i64 a9) := bkeep hb (by first|with_reducible exact q12|with_reducible exact akeep q12|simp[*,go_sem]);replace q13 : w1.cell? ⟨v3.heap.size,10,none⟩ = some (.int .i64 a10) := bkeep hb (by first|with_reducible exact q13|with_reducible exact akeep q13|simp[*,go_sem]);skip
    clear hb
    go_wp2_with fail
    refine (rstands_eq HS.out).mono ?_
    rintro e w1 ⟨rfl,hb⟩
    replace hb0 := bnext (w := w) (by go_grown) hb;have hz := hb.size;(try simp only [World.size_alloc,World.size_setCell] at hz);obtain ⟨hc,hf⟩ := bcell hb;skip
    clear hb
    go_wp2
    all_goals go_ret
    all_goals exact ⟨rfl,by go_grown⟩
theorem ckL_long2 {ss bs : List (List Int)} {s : Bx} {xs : List It} (h : ckG ss bs s = 0) (h2 : 5 < (xs.length : Int)) : ckL ss bs s xs = 22 := by unfold ckL;rw [if_pos h,if_pos h2]
theorem ckL_no2 {ss bs : List (List Int)} {s : Bx} {xs : List It} (h : ckG ss bs s = 0) (h2 : ¬ 5 < (xs.length : Int)) (h3 : xs.all (itemB ss) = false) : ckL ss bs s xs = 22 := by unfold ckL;rw [if_pos h,if_neg h2,if_neg (by rw [h3];simp)]
set_option maxRecDepth 100000 in
set_option maxHeartbeats 2000000 in
theorem rHead {w : World} {vs vb : Value} {ss bs : List (List Int)} (h1 : RowsAt 11 w vs ss) (h2 : RowsAt 7 w vb bs) {lv : Value} {xs : List It} {bid bwi bde bce bhi bbe c : Int} (hl : RowsAt 3 w lv (xs.map rowX)) (hc : ckL ss bs ⟨bid,bwi,bde,bce,bhi,bbe⟩ xs = c) :
  Calls Tryz.prog 59 #[.agg #[vs,vb], .agg #[.int .i64 bid, .int .i64 bwi, .int .i64 bde, .int .i64 bce, .int .i64 bhi, .int .i64 bbe],lv] w (Ret w (.int .i64 c)) := by
 unfold Ret
 obtain ⟨la,lc,rfl,hll⟩ := hl.shape
 rw [List.length_map] at hl hll ⊢
 rcases ckG_or ss bs ⟨bid,bwi,bde,bce,bhi,bbe⟩ with e | e | e
 ·obtain ⟨hw,hX⟩ := ckG_0 e
  have hxx : ckX ⟨bid,bwi,bde,bce,bhi,bbe⟩ = 0 := by unfold ckX;rw [if_pos hX]
  have HXX := hid hxx;have HWW := hid hw;clear hxx
  by_cases h5 : 5 < (xs.length : Int)
  ·have hd : c = 22 := by rw [← hc];exact ckL_long2 e h5
   subst hd
   clear hc e hw hX
   go_enter Tryz.func59,Tryz.ntmps59
   go_wp2_with fail
   refine (rCheck_eq (h1.below (by go_grown)) (h2.below (by go_grown)) HWW.out).mono ?_
   rintro e w1 ⟨rfl,hb⟩
   replace hb0 := bnext (w := w) (by go_grown) hb;have hz := hb.size;(try simp only [World.size_alloc,World.size_setCell] at hz);replace q0 : w1.cell? ⟨w.heap.size,0,none⟩ = some (vs) := bkeep hb (by first|with_reducible exact q0|with_reducible exact akeep q0|simp[*,go_sem]);replace q1 : w1.cell? ⟨w.heap.size,1,none⟩ = some (vb) := bkeep hb (by first|with_reducible exact q1|with_reducible exact akeep q1|simp[*,go_sem]);replace q2 : w1.cell? ⟨w.heap.size + 1,0,none⟩ = some (.int .i64 bid) := bkeep hb (by first|with_reducible exact q2|with_reducible exact akeep q2|simp[*,go_sem]);replace q3 : w1.cell? ⟨w.heap.size + 1,1,none⟩ = some (.int .i64 bwi) := bkeep hb (by first|with_reducible exact q3|with_reducible exact akeep q3|simp[*,go_sem]);replace q4 : w1.cell? ⟨w.heap.size + 1,2,none⟩ = some (.int .i64 bde) := bkeep hb (by first|with_reducible exact q4|with_reducible exact akeep q4|simp[*,go_sem]);replace q5 : w1.cell? ⟨w.heap.size + 1,3,none⟩ = some (.int .i64 bce) := bkeep hb (by first|with_reducible exact q5|with_reducible exact akeep q5|simp[*,go_sem]);replace q6 : w1.cell? ⟨w.heap.size + 1,4,none⟩ = some (.int .i64 bhi) := bkeep hb (by first|with_reducible exact q6|with_reducible exact akeep q6|simp[*,go_sem]);replace q7 : w1.cell? ⟨w.heap.size + 1,5,none⟩ = some (.int .i64 bbe) := bkeep hb (by first|with_reducible exact q7|with_reducible exact akeep q7|simp[*,go_sem]);skip
   clear hb
   go_wp2_with fail
   refine (rCheckBox_eq HXX.out).mono ?_
   rintro e w1 ⟨rfl,hb⟩
   replace hb0 := bnext (w := w) (by go_grown) hb;have hz := hb.size;(try simp only [World.size_alloc,World.size_setCell] at hz);replace q0 : w1.cell? ⟨w.heap.size,0,none⟩ = some (vs) := bkeep hb (by first|with_reducible exact q0|with_reducible exact akeep q0|simp[*,go_sem]);replace q1 : w1.cell? ⟨w.heap.size,1,none⟩ = some (vb) := bkeep hb (by first|with_reducible exact q1|with_reducible exact akeep q1|simp[*,go_sem]);replace q2 : w1.cell? ⟨w.heap.size + 1,0,none⟩ = some (.int .i64 bid) := bkeep hb (by first|with_reducible exact q2|with_reducible exact akeep q2|simp[*,go_sem]);replace q3 : w1.cell? ⟨w.heap.size + 1,1,none⟩ = some (.int .i64 bwi) := bkeep hb (by first|with_reducible exact q3|with_reducible exact akeep q3|simp[*,go_sem]);replace q4 : w1.cell? ⟨w.heap.size + 1,2,none⟩ = some (.int .i64 bde) := bkeep hb (by first|with_reducible exact q4|with_reducible exact akeep q4|simp[*,go_sem]);replace q5 : w1.cell? ⟨w.heap.size + 1,3,none⟩ = some (.int .i64 bce) := bkeep hb (by first|with_reducible exact q5|with_reducible exact akeep q5|simp[*,go_sem]);replace q6 : w1.cell? ⟨w.heap.size + 1,4,none⟩ = some (.int .i64 bhi) := bkeep hb (by first|with_reducible exact q6|with_reducible exact akeep q6|simp[*,go_sem]);replace q7 : w1.cell? ⟨w.heap.size + 1,5,none⟩ = some (.int .i64 bbe) := bkeep hb (by first|with_reducible exact q7|with_reducible exact akeep q7|simp[*,go_sem]);skip
   clear hb
   go_wp2_with fail
   go_ret
   exact ⟨rfl,by go_grown⟩
  ·have hn5 : xs.length ≤ 5 := by omega
   have HC := hid hc;have E := hid e;clear hc e hw hX
   go_enter Tryz.func59,Tryz.ntmps59
   go_wp2_with fail
   refine (rCheck_eq (h1.below (by go_grown)) (h2.below (by go_grown)) HWW.out).mono ?_
   rintro e w1 ⟨rfl,hb⟩
   replace hb0 := bnext (w := w) (by go_grown) hb;have hz := hb.size;(try simp only [World.size_alloc,World.size_setCell] at hz);replace q0 : w1.cell? ⟨w.heap.size,0,none⟩ = some (vs) := bkeep hb (by first|with_reducible exact q0|with_reducible exact akeep q0|simp[*,go_sem]);replace q1 : w1.cell? ⟨w.heap.size,1,none⟩ = some (vb) := bkeep hb (by first|with_reducible exact q1|with_reducible exact akeep q1|simp[*,go_sem]);replace q2 : w1.cell? ⟨w.heap.size + 1,0,none⟩ = some (.int .i64 bid) := bkeep hb (by first|with_reducible exact q2|with_reducible exact akeep q2|simp[*,go_sem]);replace q3 : w1.cell? ⟨w.heap.size + 1,1,none⟩ = some (.int .i64 bwi) := bkeep hb (by first|with_reducible exact q3|with_reducible exact akeep q3|simp[*,go_sem]);replace q4 : w1.cell? ⟨w.heap.size + 1,2,none⟩ = some (.int .i64 bde) := bkeep hb (by first|with_reducible exact q4|with_reducible exact akeep q4|simp[*,go_sem]);replace q5 : w1.cell? ⟨w.heap.size + 1,3,none⟩ = some (.int .i64 bce) := bkeep hb (by first|with_reducible exact q5|with_reducible exact akeep q5|simp[*,go_sem]);replace q6 : w1.cell? ⟨w.heap.size + 1,4,none⟩ = some (.int .i64 bhi) := bkeep hb (by first|with_reducible exact q6|with_reducible exact akeep q6|simp[*,go_sem]);replace q7 : w1.cell? ⟨w.heap.size + 1,5,none⟩ = some (.int .i64 bbe) := bkeep hb (by first|with_reducible exact q7|with_reducible exact akeep q7|simp[*,go_sem]);skip
   clear hb
   go_wp2_with fail
   refine (rCheckBox_eq HXX.out).mono ?_
   rintro e w1 ⟨rfl,hb⟩
   replace hb0 := bnext (w := w) (by go_grown) hb;have hz := hb.size;(try simp only [World.size_alloc,World.size_setCell] at hz);replace q0 : w1.cell? ⟨w.heap.size,0,none⟩ = some (vs) := bkeep hb (by first|with_reducible exact q0|with_reducible exact akeep q0|simp[*,go_sem]);replace q1 : w1.cell? ⟨w.heap.size,1,none⟩ = some (vb) := bkeep hb (by first|with_reducible exact q1|with_reducible exact akeep q1|simp[*,go_sem]);replace q2 : w1.cell? ⟨w.heap.size + 1,0,none⟩ = some (.int .i64 bid) := bkeep hb (by first|with_reducible exact q2|with_reducible exact akeep q2|simp[*,go_sem]);replace q3 : w1.cell? ⟨w.heap.size + 1,1,none⟩ = some (.int .i64 bwi) := bkeep hb (by first|with_reducible exact q3|with_reducible exact akeep q3|simp[*,go_sem]);replace q4 : w1.cell? ⟨w.heap.size + 1,2,none⟩ = some (.int .i64 bde) := bkeep hb (by first|with_reducible exact q4|with_reducible exact akeep q4|simp[*,go_sem]);replace q5 : w1.cell? ⟨w.heap.size + 1,3,none⟩ = some (.int .i64 bce) := bkeep hb (by first|with_reducible exact q5|with_reducible exact akeep q5|simp[*,go_sem]);replace q6 : w1.cell? ⟨w.heap.size + 1,4,none⟩ = some (.int .i64 bhi) := bkeep hb (by first|with_reducible exact q6|with_reducible exact akeep q6|simp[*,go_sem]);replace q7 : w1.cell? ⟨w.heap.size + 1,5,none⟩ = some (.int .i64 bbe) := bkeep hb (by first|with_reducible exact q7|with_reducible exact akeep q7|simp[*,go_sem]);skip
   clear hb
   go_wp2_with fail
   obtain ⟨v1,hv1⟩ : ∃ v,v = w1 := ⟨_,rfl⟩
   subst hv1
   go_loopg [10,26] xs.length (fun gk _ kv wr => ∃ k : Nat,k ≤ xs.length ∧ gk = xs.length - k ∧ kv = .int .i64 k ∧ Hid ((xs.take k).all (itemB ss) = true) ∧ Below v1.heap.size v1 wr)
   case atStart => exact ⟨0,Nat.zero_le _,rfl,rfl,by simp [Hid],Below.refl _ _⟩
   case round =>
    obtain ⟨k,hk,hgk,rfl,HA,hB⟩ := hrel
    have HGK := hid hgk;clear hgk
    have hb1 : Below w.heap.size w wr := bnext (w := w) hb0 hB
    have p0 := bkeep hB q0
    have p1 := bkeep hB q1
    by_cases hlt : k < xs.length
    ·have hkl : (k : Int) < (xs.length : Int) := by omega
     obtain ⟨x,hxk⟩ : ∃ x,xs[k]? = some x := ⟨_,List.getElem?_eq_getElem hlt⟩
     obtain ⟨ish,imn,icl⟩ := x
     obtain ⟨a',ha,hrl0,hc0,hcc⟩ := (show RowsAt 3 wr (.slice la (xs.map rowX).length lc) (xs.map rowX) by rw [List.length_map];exact hl.below hb1).row (k := k) (by rw [List.length_map];exact hlt)
     have hat : (xs.map rowX)[k]'(by rw [List.length_map];exact hlt) = [ish,imn,icl] := by rw [List.getElem_map,(List.getElem?_eq_some_iff.1 hxk).2];rfl
     rw [hat] at hc0 hcc
     have r0 := hc0 _ rfl
     have r1 := hcc 1 _ (by decide) rfl
     have r2 := hcc 2 _ (by decide) rfl
     clear hc0 hcc hat hrl0
     subst ha
     obtain ⟨b,hb⟩ : ∃ b,itemB ss ⟨ish,imn,icl⟩ = b := ⟨_,rfl⟩
     have hke : xs[k]'hlt = ⟨ish,imn,icl⟩ := (List.getElem?_eq_some_iff.1 hxk).2
     have HB := hid hb;have HKE := hid hke;clear hb hxk hke
     go_upto_region 12 with fail
     generalize hW : World.alloc wr _ = v5
     have c0 : v5.cell? ⟨wr.heap.size,0,none⟩ = some (.int .i64 ish) := by rw [← hW];simp [go_sem]
     have c1 : v5.cell? ⟨wr.heap.size,1,none⟩ = some (.int .i64 imn) := by rw [← hW];simp [go_sem]
     have c2 : v5.cell? ⟨wr.heap.size,2,none⟩ = some (.int .i64 icl) := by rw [← hW];simp [go_sem]
     have hb : Below wr.heap.size wr v5 := by rw [← hW];exact (Below.refl _ _).alloc (Nat.le_refl _) _
     replace hB := bnext (w := v1) hB hb
     replace hb1 := bnext (w := w) hb1 hb
     replace p0 := bkeep hb p0;replace p1 := bkeep hb p1
     clear hb hW r0 r1 r2
     cases b
     ·go_wp2_with fail
      refine (rIsItem (h1.below hb1) (h2.below hb1) HWW.out HB.out).mono ?_
      rintro e w6 ⟨rfl,hb⟩
      replace hB := bnext (w := v1) hB hb
      replace hb1 := bnext (w := w) hb1 hb
      have hd : c = 22 := by rw [← HC.out];exact ckL_no2 E.out (by omega) (all_not hlt (by rw [HKE.out];exact HB.out))
      subst hd
      clear HC
      go_wp2_with fail
      go_ret
      exact ⟨rfl,hb1⟩
     ·go_wp2_with fail
      refine (rIsItem (h1.below hb1) (h2.below hb1) HWW.out HB.out).mono ?_
      rintro e w6 ⟨rfl,hb⟩
      replace hB := bnext (w := v1) hB hb
      replace hb1 := bnext (w := w) hb1 hb
      go_wp2_with fail
      go_roundg (xs.length - (k + 1))
      case measure => have h := HGK.out;omega
      case rel => exact ⟨k + 1,by omega,rfl,by go_num,all_snoc hlt HA.out (by rw [HKE.out];exact HB.out),hB⟩
    ·obtain rfl : k = xs.length := by omega
     have hd : c = 0 := by rw [← HC.out];exact ckL_good E.out (by omega) (show xs.all (itemB ss) = true from by have h := HA.out;rwa [List.take_of_length_le (Nat.le_refl _)] at h)
     subst hd
     clear HC
     go_wp2_with fail
     go_ret
     exact ⟨rfl,hb1⟩
 ·have hd : c = 12 := by rw [← hc];unfold ckL;rw [if_neg (by rw [e];decide),e]
  subst hd
  have hwb : ckW ss bs = 12 := by (rcases ckW_or (ss := ss) (bs := bs) with h | h);(exfalso;unfold ckG at e;rw [if_pos h] at e;rcases ckX_or ⟨bid,bwi,bde,bce,bhi,bbe⟩ with h2 | h2 <;> rw [h2] at e <;> cases e);exact h
  have HWW := hid hwb;clear hwb hc e
  go_enter Tryz.func59,Tryz.ntmps59
  go_wp2_with fail
  refine (rCheck_eq (h1.below (by go_grown)) (h2.below (by go_grown)) HWW.out).mono ?_
  rintro e w1 ⟨rfl,hb⟩
  replace hb0 := bnext (w := w) (by go_grown) hb;have hz := hb.size;(try simp only [World.size_alloc,World.size_setCell] at hz);obtain ⟨hc,hf⟩ := bcell hb;skip
  clear hb
  go_wp2_with fail
  go_ret
  exact ⟨rfl,by go_grown⟩
 ·have hd : c = 20 := by rw [← hc];unfold ckL;rw [if_neg (by rw [e];decide),e]
  subst hd
  have hwg : ckW ss bs = 0 ∧ ckX ⟨bid,bwi,bde,bce,bhi,bbe⟩ = 20 := by (rcases ckW_or (ss := ss) (bs := bs) with h | h);exact ⟨h,by (unfold ckG at e;rwa [if_pos h] at e)⟩;(exfalso;unfold ckG at e;rw [if_neg (by rw [h];decide)] at e;cases e)
  obtain ⟨hwa,hxb⟩ := hwg
  have HWW := hid hwa;have HXX := hid hxb;clear hwa hxb hc e
  go_enter Tryz.func59,Tryz.ntmps59
  go_wp2_with fail
  refine (rCheck_eq (h1.below (by go_grown)) (h2.below (by go_grown)) HWW.out).mono ?_
  rintro e w1 ⟨rfl,hb⟩
  replace hb0 := bnext (w := w) (by go_grown) hb;have hz := hb.size;(try simp only [World.size_alloc,World.size_setCell] at hz);replace q0 : w1.cell? ⟨w.heap.size,0,none⟩ = some (vs) := bkeep hb (by first|with_reducible exact q0|with_reducible exact akeep q0|simp[*,go_sem]);replace q1 : w1.cell? ⟨w.heap.size,1,none⟩ = some (vb) := bkeep hb (by first|with_reducible exact q1|with_reducible exact akeep q1|simp[*,go_sem]);replace q2 : w1.cell? ⟨w.heap.size + 1,0,none⟩ = some (.int .i64 bid) := bkeep hb (by first|with_reducible exact q2|with_reducible exact akeep q2|simp[*,go_sem]);replace q3 : w1.cell? ⟨w.heap.size + 1,1,none⟩ = some (.int .i64 bwi) := bkeep hb (by first|with_reducible exact q3|with_reducible exact akeep q3|simp[*,go_sem]);replace q4 : w1.cell? ⟨w.heap.size + 1,2,none⟩ = some (.int .i64 bde) := bkeep hb (by first|with_reducible exact q4|with_reducible exact akeep q4|simp[*,go_sem]);replace q5 : w1.cell? ⟨w.heap.size + 1,3,none⟩ = some (.int .i64 bce) := bkeep hb (by first|with_reducible exact q5|with_reducible exact akeep q5|simp[*,go_sem]);replace q6 : w1.cell? ⟨w.heap.size + 1,4,none⟩ = some (.int .i64 bhi) := bkeep hb (by first|with_reducible exact q6|with_reducible exact akeep q6|simp[*,go_sem]);replace q7 : w1.cell? ⟨w.heap.size + 1,5,none⟩ = some (.int .i64 bbe) := bkeep hb (by first|with_reducible exact q7|with_reducible exact akeep q7|simp[*,go_sem]);skip
  clear hb
  go_wp2_with fail
  refine (rCheckBox_eq HXX.out).mono ?_
  rintro e w1 ⟨rfl,hb⟩
  replace hb0 := bnext (w := w) (by go_grown) hb;have hz := hb.size;(try simp only [World.size_alloc,World.size_setCell] at hz);obtain ⟨hc,hf⟩ := bcell hb;skip
  clear hb
  go_wp2_with fail
  go_ret
  exact ⟨rfl,by go_grown⟩
end Go.Proofs.YtodmidchpbcnpaaGreat