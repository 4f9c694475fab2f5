/- Part of a claim. -/
import Derived.Test.YthdfnkdifjajlaaGreatDoorG1U
set_option linter.unusedVariables false
set_option linter.unusedSimpArgs false
namespace Go.Proofs.YthdfnkdifjajlaaGreatDoor
open Go.RowKit Go.Pb Go.Pb.Ware Go.Pb.Sag


theorem stands_eq {w : World} {a0 a1 a2 a3 a4 a5 a6 a7 a8 a9 a10 imn c : Int} {b : Bool} (h : Ware.stands ⟨a0,⟨a1,a2⟩,⟨a3,a4⟩,⟨a5,a6⟩,a7,⟨a8,a9⟩,a10⟩ imn = (b,c)) :
  Calls Tryz.prog 58 #[.agg #[.int .i64 a0, .int .i64 a1, .int .i64 a2, .int .i64 a3, .int .i64 a4, .int .i64 a5, .int .i64 a6, .int .i64 a7, .int .i64 a8, .int .i64 a9, .int .i64 a10], .int .i64 imn] w (Ret w (.tuple #[.bool b, .int .i64 c])) := by
 have := @Stands_any a0 a1 a2 a3 a4 a5 a6 a7 a8 a9 a10 imn w;rw [h] at this;exact this
set_option maxRecDepth 100000 in
set_option maxHeartbeats 8000000 in
theorem checkItem {w : World} {vs vb : Value} {ss bs : List (List Int)} (h1 : RowsAt 11 w vs ss) (h2 : RowsAt 7 w vb bs) {ish imn icl c : Int} (hx : ckI ss bs ⟨ish,imn,icl⟩ = c) :
  Calls Tryz.prog 39 #[.agg #[vs,vb], .agg #[.int .i64 ish, .int .i64 imn, .int .i64 icl]] w (Ret w (.int .i64 c)) := by
 unfold Ret
 rcases ckW_or (ss := ss) (bs := bs) with e | e
 ·cases hf : findR ish ss
  ·have hc : c = 21 := by rw [← hx];unfold ckI itemB;rw [if_pos e,hf];rfl
   subst hc
   have hg := getR_none (n := 11) (id := ish) e hf
   have E := hid e;have HG := hid hg;clear e hx hg hf
   go_enter Tryz.func39,Tryz.ntmps39
   go_wp2_with fail
   refine (wCheck_eq (h1.below (by go_grown)) (h2.below (by go_grown)) E.out).mono ?_
   rintro e w1 ⟨rfl,hb⟩
   replace hb0 := bnext (w := w) (by go_grown) hb;have hz := hb.size;(try simp only [World.size_alloc,World.size_setCell] at hz);replace q0 : w1.cell? ⟨w.heap.size,0,none⟩ = some (vs) := bkeep hb (by first|with_reducible exact q0|with_reducible exact akeep q0|simp[*,go_sem]);replace q1 : w1.cell? ⟨w.heap.size,1,none⟩ = some (vb) := bkeep hb (by first|with_reducible exact q1|with_reducible exact akeep q1|simp[*,go_sem]);replace q2 : w1.cell? ⟨w.heap.size + 1,0,none⟩ = some (.int .i64 ish) := bkeep hb (by first|with_reducible exact q2|with_reducible exact akeep q2|simp[*,go_sem]);replace q3 : w1.cell? ⟨w.heap.size + 1,1,none⟩ = some (.int .i64 imn) := bkeep hb (by first|with_reducible exact q3|with_reducible exact akeep q3|simp[*,go_sem]);replace q4 : w1.cell? ⟨w.heap.size + 1,2,none⟩ = some (.int .i64 icl) := bkeep hb (by first|with_reducible exact q4|with_reducible exact akeep q4|simp[*,go_sem]);skip
   clear hb
   go_wp2_with fail
   refine (wShape (h1.below (by go_grown)) (h2.below (by go_grown)) (show _ = ([0,0,0,0,0,0,0,0,0,0,0],3) from HG.out)).mono ?_
   rintro e w1 ⟨rfl,hb⟩
   replace hb0 := bnext (w := w) (by go_grown) hb;have hz := hb.size;(try simp only [World.size_alloc,World.size_setCell] at hz);replace q0 : w1.cell? ⟨w.heap.size + 1,0,none⟩ = some (.int .i64 ish) := bkeep hb (by first|with_reducible exact q0|with_reducible exact akeep q0|simp[*,go_sem]);replace q1 : w1.cell? ⟨w.heap.size + 1,1,none⟩ = some (.int .i64 imn) := bkeep hb (by first|with_reducible exact q1|with_reducible exact akeep q1|simp[*,go_sem]);replace q2 : w1.cell? ⟨w.heap.size + 1,2,none⟩ = some (.int .i64 icl) := bkeep hb (by first|with_reducible exact q2|with_reducible exact akeep q2|simp[*,go_sem]);skip
   clear hb
   go_wp2
   go_ret
   exact ⟨rfl,by go_grown⟩
  ·rename_i r
   have hrl : r.length = 11 := (h1.i64 r (findR_mem hf).1).1
   obtain ⟨a0,a1,a2,a3,a4,a5,a6,a7,a8,a9,a10,rfl⟩ := len11 hrl
   have hg := getR_some (n := 11) (bs := bs) e hf
   obtain ⟨b,cc,hs⟩ : ∃ b cc,Ware.stands ⟨a0,⟨a1,a2⟩,⟨a3,a4⟩,⟨a5,a6⟩,a7,⟨a8,a9⟩,a10⟩ imn = (b,cc) := ⟨_,_,rfl⟩
   obtain ⟨d,hd⟩ : ∃ d,btw icl 0 50 = d := ⟨_,rfl⟩
   have hc : c = if (b && d) = true then 0 else 21 := by rw [← hx];unfold ckI itemB;rw [if_pos e,hf];dsimp only;have h3 : (Ware.stands (shR [a0,a1,a2,a3,a4,a5,a6,a7,a8,a9,a10]) imn).1 = b := congrArg Prod.fst hs;simp only [h3,hd]
   have E := hid e;have HG := hid hg;have HS := hid hs;have HD := hid hd;clear e hx hg hf hs hd hrl
   cases b <;> cases d <;> simp only [Bool.and_true,Bool.true_and,Bool.and_false,Bool.false_and,if_true,if_false,Bool.false_eq_true] at hc <;> subst hc
   ·go_enter Tryz.func39,Tryz.ntmps39
    go_wp2_with fail
    refine (wCheck_eq (h1.below (by go_grown)) (h2.below (by go_grown)) E.out).mono ?_
    rintro e w1 ⟨rfl,hb⟩
    replace hb0 := bnext (w := w) (by go_grown) hb;have hz := hb.size;(try simp only [World.size_alloc,World.size_setCell] at hz);replace q0 : w1.cell? ⟨w.heap.size,0,none⟩ = some (vs) := bkeep hb (by first|with_reducible exact q0|with_reducible exact akeep q0|simp[*,go_sem]);replace q1 : w1.cell? ⟨w.heap.size,1,none⟩ = some (vb) := bkeep hb (by first|with_reducible exact q1|with_reducible exact akeep q1|simp[*,go_sem]);replace q2 : w1.cell? ⟨w.heap.size + 1,0,none⟩ = some (.int .i64 ish) := bkeep hb (by first|with_reducible exact q2|with_reducible exact akeep q2|simp[*,go_sem]);replace q3 : w1.cell? ⟨w.heap.size + 1,1,none⟩ = some (.int .i64 imn) := bkeep hb (by first|with_reducible exact q3|with_reducible exact akeep q3|simp[*,go_sem]);replace q4 : w1.cell? ⟨w.heap.size + 1,2,none⟩ = some (.int .i64 icl) := bkeep hb (by first|with_reducible exact q4|with_reducible exact akeep q4|simp[*,go_sem]);skip
    clear hb
    go_wp2_with fail
    refine (wShape (h1.below (by go_grown)) (h2.below (by go_grown)) HG.out).mono ?_
    rintro e w1 ⟨rfl,hb⟩
    replace hb0 := bnext (w := w) (by go_grown) hb;have hz := hb.size;(try simp only [World.size_alloc,World.size_setCell] at hz);replace q0 : w1.cell? ⟨w.heap.size + 1,0,none⟩ = some (.int .i64 ish) := bkeep hb (by first|with_reducible exact q0|with_reducible exact akeep q0|simp[*,go_sem]);replace q1 : w1.cell? ⟨w.heap.size + 1,1,none⟩ = some (.int .i64 imn) := bkeep hb (by first|with_reducible exact q1|with_reducible exact akeep q1|simp[*,go_sem]);replace q2 : w1.cell? ⟨w.heap.size + 1,2,none⟩ = some (.int .i64 icl) := bkeep hb (by first|with_reducible exact q2|with_reducible exact akeep q2|simp[*,go_sem]);skip
    clear hb
    obtain ⟨v3,hv3⟩ : ∃ v,v = w1 := ⟨_,rfl⟩
    subst hv3
    go_wp2_with fail
    refine (stands_eq HS.out).mono ?_
    rintro e w1 ⟨rfl,hb⟩
    replace hb0 := bnext (w := w) (by go_grown) hb;have hz := hb.size;(try simp only [World.size_alloc,World.size_setCell] at hz);replace q0 : w1.cell? ⟨w.heap.size + 1,0,none⟩ = some (.int .i64 ish) := bkeep hb (by first|with_reducible exact q0|with_reducible exact akeep q0|simp[*,go_sem]);replace q1 : w1.cell? ⟨w.heap.size + 1,1,none⟩ = some (.int .i64 imn) := bkeep hb (by first|with_reducible exact q1|with_reducible exact akeep q1|simp[*,go_sem]);replace q2 : w1.cell? ⟨w.heap.size + 1,2,none⟩ = some (.int .i64 icl) := bkeep hb (by first|with_reducible exact q2|with_reducible exact akeep q2|simp[*,go_sem]);skip
    clear hb
    go_wp2_with ((go_at_call 30;refine (sBetween HD.out).mono ?_;rintro e w1 ⟨rfl,hb⟩;replace hb0 := bnext (w := w) (by go_grown) hb;have hz := hb.size;(try simp only [World.size_alloc,World.size_setCell] at hz);obtain ⟨hc,hf⟩ := bcell hb;clear hb))
    all_goals go_ret
    all_goals exact ⟨rfl,by go_grown⟩
   ·go_enter Tryz.func39,Tryz.ntmps39
    go_wp2_with fail
    refine (wCheck_eq (h1.below (by go_grown)) (h2.below (by go_grown)) E.out).mono ?_
    rintro e w1 ⟨rfl,hb⟩
    replace hb0 := bnext (w := w) (by go_grown) hb;have hz := hb.size;(try simp only [World.size_alloc,World.size_setCell] at hz);replace q0 : w1.cell? ⟨w.heap.size,0,none⟩ = some (vs) := bkeep hb (by first|with_reducible exact q0|with_reducible exact akeep q0|simp[*,go_sem]);replace q1 : w1.cell? ⟨w.heap.size,1,none⟩ = some (vb) := bkeep hb (by first|with_reducible exact q1|with_reducible exact akeep q1|simp[*,go_sem]);replace q2 : w1.cell? ⟨w.heap.size + 1,0,none⟩ = some (.int .i64 ish) := bkeep hb (by first|with_reducible exact q2|with_reducible exact akeep q2|simp[*,go_sem]);replace q3 : w1.cell? ⟨w.heap.size + 1,1,none⟩ = some (.int .i64 imn) := bkeep hb (by first|with_reducible exact q3|with_reducible exact akeep q3|simp[*,go_sem]);replace q4 : w1.cell? ⟨w.heap.size + 1,2,none⟩ = some (.int .i64 icl) := bkeep hb (by first|with_reducible exact q4|with_reducible exact akeep q4|simp[*,go_sem]);skip
    clear hb
    go_wp2_with fail
    refine (wShape (h1.below (by go_grown)) (h2.below (by go_grown)) HG.out).mono ?_
    rintro e w1 ⟨rfl,hb⟩
    replace hb0 := bnext (w := w) (by go_grown) hb;have hz := hb.size;(try simp only [World.size_alloc,World.size_setCell] at hz);replace q0 : w1.cell? ⟨w.heap.size + 1,0,none⟩ = some (.int .i64 ish) := bkeep hb (by first|with_reducible exact q0|with_reducible exact akeep q0|simp[*,go_sem]);replace q1 : w1.cell? ⟨w.heap.size + 1,1,none⟩ = some (.int .i64 imn) := bkeep hb (by first|with_reducible exact q1|with_reducible exact akeep q1|simp[*,go_sem]);replace q2 : w1.cell? ⟨w.heap.size + 1,2,none⟩ = some (.int .i64 icl) := bkeep hb (by first|with_reducible exact q2|with_reducible exact akeep q2|simp[*,go_sem]);skip
    clear hb
    obtain ⟨v3,hv3⟩ : ∃ v,v = w1 := ⟨_,rfl⟩
    subst hv3
    go_wp2_with fail
    refine (stands_eq HS.out).mono ?_
    rintro e w1 ⟨rfl,hb⟩
    replace hb0 := bnext (w := w) (by go_grown) hb;have hz := hb.size;(try simp only [World.size_alloc,World.size_setCell] at hz);replace q0 : w1.cell? ⟨w.heap.size + 1,0,none⟩ = some (.int .i64 ish) := bkeep hb (by first|with_reducible exact q0|with_reducible exact akeep q0|simp[*,go_sem]);replace q1 : w1.cell? ⟨w.heap.size + 1,1,none⟩ = some (.int .i64 imn) := bkeep hb (by first|with_reducible exact q1|with_reducible exact akeep q1|simp[*,go_sem]);replace q2 : w1.cell? ⟨w.heap.size + 1,2,none⟩ = some (.int .i64 icl) := bkeep hb (by first|with_reducible exact q2|with_reducible exact akeep q2|simp[*,go_sem]);skip
    clear hb
    go_wp2_with ((go_at_call 30;refine (sBetween HD.out).mono ?_;rintro e w1 ⟨rfl,hb⟩;replace hb0 := bnext (w := w) (by go_grown) hb;have hz := hb.size;(try simp only [World.size_alloc,World.size_setCell] at hz);obtain ⟨hc,hf⟩ := bcell hb;clear hb))
    all_goals go_ret
    all_goals exact ⟨rfl,by go_grown⟩
   ·go_enter Tryz.func39,Tryz.ntmps39
    go_wp2_with fail
    refine (wCheck_eq (h1.below (by go_grown)) (h2.below (by go_grown)) E.out).mono ?_
    rintro e w1 ⟨rfl,hb⟩
    replace hb0 := bnext (w := w) (by go_grown) hb;have hz := hb.size;(try simp only [World.size_alloc,World.size_setCell] at hz);replace q0 : w1.cell? ⟨w.heap.size,0,none⟩ = some (vs) := bkeep hb (by first|with_reducible exact q0|with_reducible exact akeep q0|simp[*,go_sem]);replace q1 : w1.cell? ⟨w.heap.size,1,none⟩ = some (vb) := bkeep hb (by first|with_reducible exact q1|with_reducible exact akeep q1|simp[*,go_sem]);replace q2 : w1.cell? ⟨w.heap.size + 1,0,none⟩ = some (.int .i64 ish) := bkeep hb (by first|with_reducible exact q2|with_reducible exact akeep q2|simp[*,go_sem]);replace q3 : w1.cell? ⟨w.heap.size + 1,1,none⟩ = some (.int .i64 imn) := bkeep hb (by first|with_reducible exact q3|with_reducible exact akeep q3|simp[*,go_sem]);replace q4 : w1.cell? ⟨w.heap.size + 1,2,none⟩ = some (.int .i64 icl) := bkeep hb (by first|with_reducible exact q4|with_reducible exact akeep q4|simp[*,go_sem]);skip
    clear hb
    go_wp2_with fail
    refine (wShape (h1.below (by go_grown)) (h2.below (by go_grown)) HG.out).mono ?_
    rintro e w1 ⟨rfl,hb⟩
    replace hb0 := bnext (w := w) (by go_grown) hb;have hz := hb.size;(try simp only [World.size_alloc,World.size_setCell] at hz);replace q0 : w1.cell? ⟨w.heap.size + 1,0,none⟩ = some (.int .i64 ish) := bkeep hb (by first|with_reducible exact q0|with_reducible exact akeep q0|simp[*,go_sem]);replace q1 : w1.cell? ⟨w.heap.size + 1,1,none⟩ = some (.int .i64 imn) := bkeep hb (by first|with_reducible exact q1|with_reducible exact akeep q1|simp[*,go_sem]);replace q2 : w1.cell? ⟨w.heap.size + 1,2,none⟩ = some (.int .i64 icl) := bkeep hb (by first|with_reducible exact q2|with_reducible exact akeep q2|simp[*,go_sem]);skip
    clear hb
    obtain ⟨v3,hv3⟩ : ∃ v,v = w1 := ⟨_,rfl⟩
    subst hv3
    go_wp2_with fail
    refine (stands_eq HS.out).mono ?_
    rintro e w1 ⟨rfl,hb⟩
    replace hb0 := bnext (w := w) (by go_grown) hb;have hz := hb.size;(try simp only [World.size_alloc,World.size_setCell] at hz);replace q0 : w1.cell? ⟨w.heap.size + 1,0,none⟩ = some (.int .i64 ish) := bkeep hb (by first|with_reducible exact q0|with_reducible exact akeep q0|simp[*,go_sem]);replace q1 : w1.cell? ⟨w.heap.size + 1,1,none⟩ = some (.int .i64 imn) := bkeep hb (by first|with_reducible exact q1|with_reducible exact akeep q1|simp[*,go_sem]);replace q2 : w1.cell? ⟨w.heap.size + 1,2,none⟩ = some (.int .i64 icl) := bkeep hb (by first|with_reducible exact q2|with_reducible exact akeep q2|simp[*,go_sem]);skip
    clear hb
    go_wp2_with ((go_at_call 30;refine (sBetween HD.out).mono ?_;rintro e w1 ⟨rfl,hb⟩;replace hb0 := bnext (w := w) (by go_grown) hb;have hz := hb.size;(try simp only [World.size_alloc,World.size_setCell] at hz);obtain ⟨hc,hf⟩ := bcell hb;clear hb))
    all_goals go_ret
    all_goals exact ⟨rfl,by go_grown⟩
   ·go_enter Tryz.func39,Tryz.ntmps39
    go_wp2_with fail
    refine (wCheck_eq (h1.below (by go_grown)) (h2.below (by go_grown)) E.out).mono ?_
    rintro e w1 ⟨rfl,hb⟩
    replace hb0 := bnext (w := w) (by go_grown) hb;have hz := hb.size;(try simp only [World.size_alloc,World.size_setCell] at hz);replace q0 : w1.cell? ⟨w.heap.size,0,none⟩ = some (vs) := bkeep hb (by first|with_reducible exact q0|with_reducible exact akeep q0|simp[*,go_sem]);replace q1 : w1.cell? ⟨w.heap.size,1,none⟩ = some (vb) := bkeep hb (by first|with_reducible exact q1|with_reducible exact akeep q1|simp[*,go_sem]);replace q2 : w1.cell? ⟨w.heap.size + 1,0,none⟩ = some (.int .i64 ish) := bkeep hb (by first|with_reducible exact q2|with_reducible exact akeep q2|simp[*,go_sem]);replace q3 : w1.cell? ⟨w.heap.size + 1,1,none⟩ = some (.int .i64 imn) := bkeep hb (by first|with_reducible exact q3|with_reducible exact akeep q3|simp[*,go_sem]);replace q4 : w1.cell? ⟨w.heap.size + 1,2,none⟩ = some (.int .i64 icl) := bkeep hb (by first|with_reducible exact q4|with_reducible exact akeep q4|simp[*,go_sem]);skip
    clear hb
    go_wp2_with fail
    refine (wShape (h1.below (by go_grown)) (h2.below (by go_grown)) HG.out).mono ?_
    rintro e w1 ⟨rfl,hb⟩
    replace hb0 := bnext (w := w) (by go_grown) hb;have hz := hb.size;(try simp only [World.size_alloc,World.size_setCell] at hz);replace q0 : w1.cell? ⟨w.heap.size + 1,0,none⟩ = some (.int .i64 ish) := bkeep hb (by first|with_reducible exact q0|with_reducible exact akeep q0|simp[*,go_sem]);replace q1 : w1.cell? ⟨w.heap.size + 1,1,none⟩ = some (.int .i64 imn) := bkeep hb (by first|with_reducible exact q1|with_reducible exact akeep q1|simp[*,go_sem]);replace q2 : w1.cell? ⟨w.heap.size + 1,2,none⟩ = some (.int .i64 icl) := bkeep hb (by first|with_reducible exact q2|with_reducible exact akeep q2|simp[*,go_sem]);skip
    clear hb
    obtain ⟨v3,hv3⟩ : ∃ v,v = w1 := ⟨_,rfl⟩
    subst hv3
    go_wp2_with fail
    refine (stands_eq HS.out).mono ?_
    rintro e w1 ⟨rfl,hb⟩
    replace hb0 := bnext (w := w) (by go_grown) hb;have hz := hb.size;(try simp only [World.size_alloc,World.size_setCell] at hz);replace q0 : w1.cell? ⟨w.heap.size + 1,0,none⟩ = some (.int .i64 ish) := bkeep hb (by first|with_reducible exact q0|with_reducible exact akeep q0|simp[*,go_sem]);replace q1 : w1.cell? ⟨w.heap.size + 1,1,none⟩ = some (.int .i64 imn) := bkeep hb (by first|with_reducible exact q1|with_reducible exact akeep q1|simp[*,go_sem]);replace q2 : w1.cell? ⟨w.heap.size + 1,2,none⟩ = some (.int .i64 icl) := bkeep hb (by first|with_reducible exact q2|with_reducible exact akeep q2|simp[*,go_sem]);skip
    clear hb
    go_wp2_with ((go_at_call 30;refine (sBetween HD.out).mono ?_;rintro e w1 ⟨rfl,hb⟩;replace hb0 := bnext (w := w) (by go_grown) hb;have hz := hb.size;(try simp only [World.size_alloc,World.size_setCell] at hz);obtain ⟨hc,hf⟩ := bcell hb;clear hb))
    all_goals go_ret
    all_goals exact ⟨rfl,by go_grown⟩
 ·have hc : c = 12 := by rw [← hx];unfold ckI;rw [e];rfl
  subst hc
  have E := hid e;clear e hx
  go_enter Tryz.func39,Tryz.ntmps39
  go_wp2_with fail
  refine (wCheck_eq (h1.below (by go_grown)) (h2.below (by go_grown)) E.out).mono ?_
  rintro e w1 ⟨rfl,hb⟩
  replace hb0 := bnext (w := w) (by go_grown) hb;have hz := hb.size;(try simp only [World.size_alloc,World.size_setCell] at hz);replace q0 : w1.cell? ⟨w.heap.size,0,none⟩ = some (vs) := bkeep hb (by first|with_reducible exact q0|with_reducible exact akeep q0|simp[*,go_sem]);replace q1 : w1.cell? ⟨w.heap.size,1,none⟩ = some (vb) := bkeep hb (by first|with_reducible exact q1|with_reducible exact akeep q1|simp[*,go_sem]);replace q2 : w1.cell? ⟨w.heap.size + 1,0,none⟩ = some (.int .i64 ish) := bkeep hb (by first|with_reducible exact q2|with_reducible exact akeep q2|simp[*,go_sem]);replace q3 : w1.cell? ⟨w.heap.size + 1,1,none⟩ = some (.int .i64 imn) := bkeep hb (by first|with_reducible exact q3|with_reducible exact akeep q3|simp[*,go_sem]);replace q4 : w1.cell? ⟨w.heap.size + 1,2,none⟩ = some (.int .i64 icl) := bkeep hb (by first|with_reducible exact q4|with_reducible exact akeep q4|simp[*,go_sem]);skip
  clear hb
  go_wp2
  go_ret
  exact ⟨rfl,by go_grown⟩
set_option maxRecDepth 100000 in
set_option maxHeartbeats 4000000 in
theorem checkGiven {w : World} {vs vb : Value} {ss bs : List (List Int)} (h1 : RowsAt 11 w vs ss) (h2 : RowsAt 7 w vb bs) {bid bwi bde bce bhi bbe c : Int} (hx : ckG ss bs ⟨bid,bwi,bde,bce,bhi,bbe⟩ = c) :
  Calls Tryz.prog 38 #[.agg #[vs,vb], .agg #[.int .i64 bid, .int .i64 bwi, .int .i64 bde, .int .i64 bce, .int .i64 bhi, .int .i64 bbe]] w (Ret w (.int .i64 c)) := by
 unfold Ret
 rcases ckW_or (ss := ss) (bs := bs) with e | e
 ·have hc : ckX ⟨bid,bwi,bde,bce,bhi,bbe⟩ = c := by rw [← hx];unfold ckG;rw [if_pos e]
  have E := hid e;have HC := hid hc;clear e hx hc
  go_enter Tryz.func38,Tryz.ntmps38
  go_wp2_with fail
  refine (wCheck_eq (h1.below (by go_grown)) (h2.below (by go_grown)) E.out).mono ?_
  rintro e w1 ⟨rfl,hb⟩
  replace hb0 := bnext (w := w) (by go_grown) hb;have hz := hb.size;(try simp only [World.size_alloc,World.size_setCell] at hz);replace q0 : w1.cell? ⟨w.heap.size,0,none⟩ = some (vs) := bkeep hb (by first|with_reducible exact q0|with_reducible exact akeep q0|simp[*,go_sem]);replace q1 : w1.cell? ⟨w.heap.size,1,none⟩ = some (vb) := bkeep hb (by first|with_reducible exact q1|with_reducible exact akeep q1|simp[*,go_sem]);replace q2 : w1.cell? ⟨w.heap.size + 1,0,none⟩ = some (.int .i64 bid) := bkeep hb (by first|with_reducible exact q2|with_reducible exact akeep q2|simp[*,go_sem]);replace q3 : w1.cell? ⟨w.heap.size + 1,1,none⟩ = some (.int .i64 bwi) := bkeep hb (by first|with_reducible exact q3|with_reducible exact akeep q3|simp[*,go_sem]);replace q4 : w1.cell? ⟨w.heap.size + 1,2,none⟩ = some (.int .i64 bde) := bkeep hb (by first|with_reducible exact q4|with_reducible exact akeep q4|simp[*,go_sem]);replace q5 : w1.cell? ⟨w.heap.size + 1,3,none⟩ = some (.int .i64 bce) := bkeep hb (by first|with_reducible exact q5|with_reducible exact akeep q5|simp[*,go_sem]);replace q6 : w1.cell? ⟨w.heap.size + 1,4,none⟩ = some (.int .i64 bhi) := bkeep hb (by first|with_reducible exact q6|with_reducible exact akeep q6|simp[*,go_sem]);replace q7 : w1.cell? ⟨w.heap.size + 1,5,none⟩ = some (.int .i64 bbe) := bkeep hb (by first|with_reducible exact q7|with_reducible exact akeep q7|simp[*,go_sem]);skip
  clear hb
  go_wp2_with ((go_at_call 56;refine (checkBox_eq HC.out).mono ?_;rintro e w1 ⟨rfl,hb⟩;replace hb0 := bnext (w := w) (by go_grown) hb;have hz := hb.size;(try simp only [World.size_alloc,World.size_setCell] at hz);obtain ⟨hc,hf⟩ := bcell hb;clear hb))
  go_ret
  exact ⟨rfl,by go_grown⟩
 ·have hc : c = 12 := by rw [← hx];unfold ckG;rw [e];rfl
  subst hc
  have E := hid e;clear e hx
  go_enter Tryz.func38,Tryz.ntmps38
  go_wp2_with fail
  refine (wCheck_eq (h1.below (by go_grown)) (h2.below (by go_grown)) E.out).mono ?_
  rintro e w1 ⟨rfl,hb⟩
  replace hb0 := bnext (w := w) (by go_grown) hb;have hz := hb.size;(try simp only [World.size_alloc,World.size_setCell] at hz);replace q0 : w1.cell? ⟨w.heap.size,0,none⟩ = some (vs) := bkeep hb (by first|with_reducible exact q0|with_reducible exact akeep q0|simp[*,go_sem]);replace q1 : w1.cell? ⟨w.heap.size,1,none⟩ = some (vb) := bkeep hb (by first|with_reducible exact q1|with_reducible exact akeep q1|simp[*,go_sem]);replace q2 : w1.cell? ⟨w.heap.size + 1,0,none⟩ = some (.int .i64 bid) := bkeep hb (by first|with_reducible exact q2|with_reducible exact akeep q2|simp[*,go_sem]);replace q3 : w1.cell? ⟨w.heap.size + 1,1,none⟩ = some (.int .i64 bwi) := bkeep hb (by first|with_reducible exact q3|with_reducible exact akeep q3|simp[*,go_sem]);replace q4 : w1.cell? ⟨w.heap.size + 1,2,none⟩ = some (.int .i64 bde) := bkeep hb (by first|with_reducible exact q4|with_reducible exact akeep q4|simp[*,go_sem]);replace q5 : w1.cell? ⟨w.heap.size + 1,3,none⟩ = some (.int .i64 bce) := bkeep hb (by first|with_reducible exact q5|with_reducible exact akeep q5|simp[*,go_sem]);replace q6 : w1.cell? ⟨w.heap.size + 1,4,none⟩ = some (.int .i64 bhi) := bkeep hb (by first|with_reducible exact q6|with_reducible exact akeep q6|simp[*,go_sem]);replace q7 : w1.cell? ⟨w.heap.size + 1,5,none⟩ = some (.int .i64 bbe) := bkeep hb (by first|with_reducible exact q7|with_reducible exact akeep q7|simp[*,go_sem]);skip
  clear hb
  go_wp2
  go_ret
  exact ⟨rfl,by go_grown⟩
end Go.Proofs.YthdfnkdifjajlaaGreatDoor