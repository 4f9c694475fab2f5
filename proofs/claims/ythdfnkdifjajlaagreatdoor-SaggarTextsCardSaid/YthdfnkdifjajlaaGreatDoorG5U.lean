/- Part of a claim. -/
import Derived.Test.YthdfnkdifjajlaaGreatDoorW1U
import Derived.Test.YthdfnkdifjajlaaGreatDoorKLibU
import Derived.Test.YthdfnkdifjajlaaGreatDoorKSdU
import Derived.BigQuiet
import Derived.Deep.QuietTactic
set_option linter.unusedVariables false
set_option linter.unusedSimpArgs false
namespace Go.Proofs.YthdfnkdifjajlaaGreatDoor
open Go.RowKit Go.Pb Go.Pb.Ware Go.Pb.Sag


set_option maxRecDepth 100000 in
set_option maxHeartbeats 1000000 in
theorem sides_true {w : World} {fw fd fh fg : Int} :
  Calls Tryz.prog 116 #[.agg #[.int .i64 fw, .int .i64 fd, .int .i64 fh, .int .i64 fg], .bool true] w (Ret w (.tuple #[.int .i64 fd, .int .i64 fw])) := by
 unfold Ret
 go_enter Tryz.func116,Tryz.ntmps116
 go_wp2
 refine wp_region_qb (by kernel_rfl) (by kernel_rfl) fun hc => ?_
 repeat (go_big_quiet_step (fail))
 (refine wpQuiet_nil ?_;intro w1 hb;replace hb0 := bnext (w := w) (by go_grown) hb;have hz := hb.size;(try simp only [World.size_alloc,World.size_setCell] at hz);replace q0 : w1.cell? ⟨w.heap.size,0,none⟩ = some (.int .i64 fw) := bkeep hb (by first|with_reducible exact q0|with_reducible exact akeep q0|simp[*,go_sem]);replace q1 : w1.cell? ⟨w.heap.size,1,none⟩ = some (.int .i64 fd) := bkeep hb (by first|with_reducible exact q1|with_reducible exact akeep q1|simp[*,go_sem]);replace q2 : w1.cell? ⟨w.heap.size,2,none⟩ = some (.int .i64 fh) := bkeep hb (by first|with_reducible exact q2|with_reducible exact akeep q2|simp[*,go_sem]);replace q3 : w1.cell? ⟨w.heap.size,3,none⟩ = some (.int .i64 fg) := bkeep hb (by first|with_reducible exact q3|with_reducible exact akeep q3|simp[*,go_sem]);clear hb)
 go_wp2
 go_ret2
 exact ⟨rfl,by go_grown⟩
set_option maxRecDepth 100000 in
set_option maxHeartbeats 1000000 in
theorem sides_false {w : World} {fw fd fh fg : Int} :
  Calls Tryz.prog 116 #[.agg #[.int .i64 fw, .int .i64 fd, .int .i64 fh, .int .i64 fg], .bool false] w (Ret w (.tuple #[.int .i64 fw, .int .i64 fd])) := by
 unfold Ret
 go_enter Tryz.func116,Tryz.ntmps116
 go_wp2
 refine wp_region_qb (by kernel_rfl) (by kernel_rfl) fun hc => ?_
 repeat (go_big_quiet_step (fail))
 (refine wpQuiet_nil ?_;intro w1 hb;replace hb0 := bnext (w := w) (by go_grown) hb;have hz := hb.size;(try simp only [World.size_alloc,World.size_setCell] at hz);replace q0 : w1.cell? ⟨w.heap.size,0,none⟩ = some (.int .i64 fw) := bkeep hb (by first|with_reducible exact q0|with_reducible exact akeep q0|simp[*,go_sem]);replace q1 : w1.cell? ⟨w.heap.size,1,none⟩ = some (.int .i64 fd) := bkeep hb (by first|with_reducible exact q1|with_reducible exact akeep q1|simp[*,go_sem]);replace q2 : w1.cell? ⟨w.heap.size,2,none⟩ = some (.int .i64 fh) := bkeep hb (by first|with_reducible exact q2|with_reducible exact akeep q2|simp[*,go_sem]);replace q3 : w1.cell? ⟨w.heap.size,3,none⟩ = some (.int .i64 fg) := bkeep hb (by first|with_reducible exact q3|with_reducible exact akeep q3|simp[*,go_sem]);clear hb)
 go_wp2
 go_ret2
 exact ⟨rfl,by go_grown⟩
theorem sides_any {w : World} {fw fd fh fg : Int} {t : Bool} {a b : Int} (h : sideV ⟨fw,fd,fh,fg⟩ t = (a,b)) :
  Calls Tryz.prog 116 #[.agg #[.int .i64 fw, .int .i64 fd, .int .i64 fh, .int .i64 fg], .bool t] w (Ret w (.tuple #[.int .i64 a, .int .i64 b])) := by
 cases t
 ·injection h with h3 h4;subst h3;subst h4;exact sides_false
 ·injection h with h3 h4;subst h3;subst h4;exact sides_true
set_option maxRecDepth 100000 in
set_option maxHeartbeats 1000000 in
theorem with_any {w : World} {c d : Nat} (hc : c < 2 ^ 36) (hd : d < 2 ^ 36) :
  Calls Tryz.prog 67 #[.int .u64 (c : Nat), .int .u64 (d : Nat)] w (Ret w (.int .u64 (c ||| d : Nat))) := by
 unfold Ret
 have h := u64_or_nat c d (by omega) (by omega)
 go_enter Tryz.func67,Tryz.ntmps67
 go_wp2
 go_ret
 exact ⟨by rw [← h];rfl,by go_grown⟩
set_option maxRecDepth 100000 in
set_option maxHeartbeats 1000000 in
theorem meets_any {w : World} {c d : Nat} {b : Bool} (hc : c < 2 ^ 36) (hd : d < 2 ^ 36) (hb : (c &&& d != 0) = b) :
  Calls Tryz.prog 66 #[.int .u64 (c : Nat), .int .u64 (d : Nat)] w (Ret w (.bool b)) := by
 unfold Ret
 subst hb
 have h := u64_and_nat c d (by omega) (by omega)
 go_enter Tryz.func66,Tryz.ntmps66
 go_wp2
 go_ret
 have e2 : (((c &&& d : Nat) : Int) != 0) = (c &&& d != 0) := by rw [Bool.eq_iff_iff];simp only [bne_iff_ne,ne_eq];omega
 exact ⟨congrArg (fun b => Ending.returned (.bool b)) e2,by go_grown⟩
set_option maxRecDepth 100000 in
set_option maxHeartbeats 1000000 in
theorem set_any {w : World} {c y x p : Nat} (hc : c < 2 ^ 36) (hy : y ≤ 5) (hx : x ≤ 5) (q0 : w.cell? ⟨p,0,none⟩ = some (.int .u64 (c : Nat))) (f0 : w.frozen? ⟨p,0,none⟩ = false) :
  Calls Tryz.prog 118 #[.pointer (some ⟨p,0,none⟩), .int .i64 (y : Nat), .int .i64 (x : Nat)] w (fun e w' => e = .returned (.tuple #[]) ∧ w.grownBy w' (some p) ∧ w'.cell? ⟨p,0,none⟩ = some (.int .u64 (c ||| bitAt y x : Nat)) ∧ w'.frozen? ⟨p,0,none⟩ = false) := by
 have h := or_bit hc hy hx
 have hb0 : Below w.heap.size w w := Below.refl _ _
 have hlt := World.block_lt_of_cell? w _ q0
 go_enter Tryz.func118,Tryz.ntmps118
 refine wp_region_gb [0,1,2,3,4,5,6,7,8,9] 1 (by kernel_rfl) rfl (by kernel_rfl) fun hc => ?_
 simp only [named,List.filterMap_cons,List.filterMap_nil,List.getElem?_toArray,List.getElem?_cons_succ,List.getElem?_cons_zero]
 show wpQuiet _ _ _ _ [_,_,_,_,_,_,_,_,_,_] _
 have x0 := fun x => (hc x (p) 0 (by simp (maxDischargeDepth := 9) [*,go_sem])).trans (show _ = some (.int .u64 (c : Nat)) by simp (maxDischargeDepth := 9) [*,go_sem])
 repeat (go_big_quiet_step (fail))
 (refine wpQuiet_nil ?_;intro w1 hb;replace hb0 := bnext (w := w) (by go_grown) hb;have hz := hb.size;(try simp only [World.size_alloc,World.size_setCell] at hz);replace f0 : w1.frozen? ⟨p,0,none⟩ = false := bfree (v := .int .u64 (c : Nat)) hb (by first|with_reducible exact q0|with_reducible exact akeep q0|simp[*,go_sem]) (by first|with_reducible exact f0|with_reducible exact afree q0 f0|simp[*,go_sem]);replace q0 : w1.cell? ⟨p,0,none⟩ = some (.int .u64 (c : Nat)) := bkeep hb (by first|with_reducible exact q0|with_reducible exact akeep q0|simp[*,go_sem]);clear hb)
 refine wpAny_ready (rs := [10]) (by kernel_rfl) (by simp) ?_
 refine AllReady.cons rfl (fun K hK => ?_) AllReady.nil
 go_simp
 refine hK _ _ ?_;clear hK K
 refine wpAny_done (by kernel_rfl) ?_ _
 go_wp2
 go_end0
 exact ⟨rfl,grown_set hb0 _ _ _,by simp [go_sem, *],by simp [go_sem, *]⟩
set_option maxRecDepth 100000 in
set_option maxHeartbeats 4000000 in
theorem forCells_set {w : World} {fw fd fh fg : Int} {y x p : Nat} {t : Bool} (h1 : 0 ≤ (sideV ⟨fw,fd,fh,fg⟩ t).1 ∧ (x : Int) + (sideV ⟨fw,fd,fh,fg⟩ t).1 ≤ 6) (h2 : 0 ≤ (sideV ⟨fw,fd,fh,fg⟩ t).2 ∧ (y : Int) + (sideV ⟨fw,fd,fh,fg⟩ t).2 ≤ 6) (c0 : w.cell? ⟨p,0,none⟩ = some (.int .u64 (0 : Nat))) (f0 : w.frozen? ⟨p,0,none⟩ = false) :
  Calls Tryz.prog 117 #[.agg #[.int .i64 fw, .int .i64 fd, .int .i64 fh, .int .i64 fg], .agg #[.int .i64 (y : Nat), .int .i64 (x : Nat), .bool t], .func (.func 118) #[.pointer (some ⟨p,0,none⟩)] #[]] w (fun e w' => e = .returned (.tuple #[]) ∧ Below p w w' ∧ w'.cell? ⟨p,0,none⟩ = some (.int .u64 (boxM y x (sideV ⟨fw,fd,fh,fg⟩ t).1.toNat (sideV ⟨fw,fd,fh,fg⟩ t).2.toNat : Nat)) ∧ w'.frozen? ⟨p,0,none⟩ = false) := by
 have hplt := World.block_lt_of_cell? w _ c0
 obtain ⟨a,b,hs⟩ : ∃ a b,sideV ⟨fw,fd,fh,fg⟩ t = (a,b) := ⟨_,_,rfl⟩
 rw [hs] at h1 h2 ⊢
 dsimp only at h1 h2 ⊢
 obtain ⟨wi,rfl⟩ : ∃ n : Nat,a = n := ⟨a.toNat,by omega⟩
 obtain ⟨de,rfl⟩ : ∃ n : Nat,b = n := ⟨b.toNat,by omega⟩
 simp only [Int.toNat_natCast]
 have HS := hid hs;clear hs
 go_enter Tryz.func117,Tryz.ntmps117
 go_wp2_with fail
 refine (sides_any HS.out).mono ?_
 rintro e w1 ⟨rfl,hb⟩
 have hb1 : Below w.heap.size w w1 := bnext (w := w) (by go_grown) hb
 have hz := hb.size
 simp only [World.size_alloc] at hz
 have q0 : w1.cell? ⟨w.heap.size + 1,0,none⟩ = some (.int .i64 (y : Nat)) := bkeep hb (by simp [go_sem])
 have q1 : w1.cell? ⟨w.heap.size + 1,1,none⟩ = some (.int .i64 (x : Nat)) := bkeep hb (by simp [go_sem])
 have q2 : w1.cell? ⟨w.heap.size + 1,2,none⟩ = some (.bool t) := bkeep hb (by simp [go_sem])
 replace c0 := bkeep hb1 c0
 have f1 : w1.frozen? ⟨p,0,none⟩ = false := (hb1.frozen hplt).trans f0
 have hB : Below p w w1 := hb1.mono (by omega)
 clear hb hb1 f0
 go_wp2_with fail
 go_loopw [18] (fun iv wr => ∃ k : Nat,k ≤ de ∧ iv = .int .i64 k ∧ wr.cell? ⟨p,0,none⟩ = some (.int .u64 (boxM y x wi k : Nat)) ∧ wr.frozen? ⟨p,0,none⟩ = false ∧ Below p w wr ∧ w.heap.size + 2 ≤ wr.heap.size ∧ wr.cell? ⟨w.heap.size + 1,0,none⟩ = some (.int .i64 (y : Nat)) ∧ wr.cell? ⟨w.heap.size + 1,1,none⟩ = some (.int .i64 (x : Nat)) ∧ wr.cell? ⟨w.heap.size + 1,2,none⟩ = some (.bool t)) (fun iv _ => de - (intOf iv).toNat)
 case atStart => exact ⟨0,Nat.zero_le _,rfl,c0,f1,hB,by omega,q0,q1,q2⟩
 case round =>
  clear c0 f1 hB q0 q1 q2 hz
  obtain ⟨k,hk,rfl,c0,f1,hB,hz,q0,q1,q2⟩ := hrel
  by_cases hlt : k < de
  ·obtain ⟨v3,hv3⟩ : ∃ v,v = wr := ⟨_,rfl⟩
   subst hv3
   go_wp2_with fail
   go_loopw [22] (fun iv wr => ∃ j : Nat,j ≤ wi ∧ iv = .int .i64 j ∧ wr.cell? ⟨p,0,none⟩ = some (.int .u64 (boxM y x wi k ||| rowM (y + k) x j : Nat)) ∧ wr.frozen? ⟨p,0,none⟩ = false ∧ Below p w wr ∧ w.heap.size + 2 ≤ wr.heap.size ∧ wr.cell? ⟨w.heap.size + 1,0,none⟩ = some (.int .i64 (y : Nat)) ∧ wr.cell? ⟨w.heap.size + 1,1,none⟩ = some (.int .i64 (x : Nat)) ∧ wr.cell? ⟨w.heap.size + 1,2,none⟩ = some (.bool t)) (fun iv _ => wi - (intOf iv).toNat)
   case atStart => exact ⟨0,Nat.zero_le _,rfl,by rw [rowM,Nat.or_zero];exact c0,f1,hB,by omega,q0,q1,q2⟩
   case round =>
    clear c0 f1 hB q0 q1 q2 hz
    obtain ⟨j,hj,rfl,c0,f1,hB,hz,q0,q1,q2⟩ := hrel
    by_cases hlt2 : j < wi
    ·have hy5 : y + k ≤ 5 := by omega
     have hx5 : x + j ≤ 5 := by omega
     have hm := Nat.or_lt_two_pow (box_lt (y := y) (k := k) (show x + wi ≤ 6 by omega) (by omega)) (row_lt (x := x) (k := j) hy5 (by omega))
     have HM := hid hm;clear hm
     go_wp2_with fail
     refine (show Calls Tryz.prog 118 #[.pointer (some ⟨p,0,none⟩), .int .i64 ((y : Int) + k), .int .i64 ((x : Int) + j)] _ _ from by have h := set_any (y := y + k) (x := x + j) HM.out hy5 hx5 c0 f1;rw [Int.natCast_add,Int.natCast_add] at h;exact h).mono ?_
     rintro e w4 ⟨rfl,hg,c1,f2⟩
     have q0' := grown_kept hg q0 (by simp;omega)
     have q1' := grown_kept hg q1 (by simp;omega)
     have q2' := grown_kept hg q2 (by simp;omega)
     have hB2 := hB.grown hg (by omega) (fun k h => by injection h with h;omega)
     have hz2 := hg.size
     clear hg c0 f1 q0 q1 q2 hB
     go_wp2_with fail
     go_roundw
     case rel => exact ⟨j + 1,by omega,by go_num,by rw [rowM, ← Nat.or_assoc];exact c1,f2,hB2,by omega,q0',q1',q2'⟩
     case measure => first | (simp [intOf];done) | (simp [intOf];omega)
    ·obtain rfl : j = wi := by omega
     go_wp2_with fail
     go_roundw
     case rel => exact ⟨k + 1,by omega,by go_num,by rw [boxM];exact c0,f1,hB,by omega,q0,q1,q2⟩
     case measure => first | (simp [intOf];done) | (simp [intOf];omega)
  ·obtain rfl : k = de := by omega
   go_wp2_with fail
   go_end0
   exact ⟨rfl,hB,c0,f1⟩
set_option maxRecDepth 100000 in
set_option maxHeartbeats 2000000 in
theorem covered_any {w : World} {fw fd fh fg : Int} {y x : Nat} {t : Bool} (h1 : 0 ≤ (sideV ⟨fw,fd,fh,fg⟩ t).1 ∧ (x : Int) + (sideV ⟨fw,fd,fh,fg⟩ t).1 ≤ 6) (h2 : 0 ≤ (sideV ⟨fw,fd,fh,fg⟩ t).2 ∧ (y : Int) + (sideV ⟨fw,fd,fh,fg⟩ t).2 ≤ 6) :
  Calls Tryz.prog 96 #[.agg #[.int .i64 fw, .int .i64 fd, .int .i64 fh, .int .i64 fg], .agg #[.int .i64 (y : Nat), .int .i64 (x : Nat), .bool t]] w (Ret w (.int .u64 (maskOf ⟨fw,fd,fh,fg⟩ ⟨y,x,t⟩ : Nat))) := by
 unfold Ret
 have hb0 : Below w.heap.size w w := Below.refl _ _
 go_enter Tryz.func96,Tryz.ntmps96
 go_wp2_with fail
 refine (forCells_set (p := w.heap.size + 2) h1 h2 (by simp [go_sem]) (by simp [go_sem])).mono ?_
 rintro e w1 ⟨rfl,hB,c1,f1⟩
 have hb1 : Below w.heap.size w w1 := (show Below w.heap.size w _ from by go_grown).trans (hB.mono (by omega))
 go_wp2
 go_ret
 exact ⟨rfl,hb1⟩
set_option maxRecDepth 100000 in
set_option maxHeartbeats 2000000 in
theorem area_any {w : World} {lv : Value} {fs : List Ft} (hl : FeetAt w lv fs) (hok : ∀ f ∈ fs,FtOk f) (hn : fs.length ≤ 1000) :
  Calls Tryz.prog 73 #[lv] w (Ret w (.int .i64 (areaL fs))) := by
 unfold Ret
 obtain ⟨la,lc,rfl,hll⟩ := hl.shape
 rw [List.length_map] at hll
 go_enter Tryz.func73,Tryz.ntmps73
 simp only [List.length_map]
 go_wp2_with fail
 go_loopw [3,8] (fun nv iv wr => ∃ k : Nat,k ≤ fs.length ∧ iv = .int .i64 k ∧ nv = .int .i64 (areaL (fs.take k)) ∧ Below w.heap.size w wr) (fun _ iv _ => fs.length - (intOf iv).toNat)
 case atStart => exact ⟨0,Nat.zero_le _,rfl,by simp [areaL],by go_grown⟩
 case round =>
  obtain ⟨k,hk,rfl,rfl,hb0⟩ := hrel
  have hzz := hb0.size
  by_cases hlt : k < fs.length
  ·obtain ⟨a',ha,hrl,hc0,hcc⟩ := (hl.below hb0).row (k := k) (by rw [List.length_map];exact hlt)
   subst ha
   obtain ⟨f,hf⟩ : ∃ f,f = fs[k] := ⟨_,rfl⟩
   have hat : (fs.map rowF)[k]'(by rw [List.length_map];exact hlt) = [f.wide,f.deep,f.high,f.weight] := by rw [List.getElem_map, ← hf];rfl
   rw [hat] at hc0 hcc
   have r0 := hc0 _ rfl
   have r1 := hcc 1 _ (by decide) rfl
   have r2 := hcc 2 _ (by decide) rfl
   have r3 := hcc 3 _ (by decide) rfl
   clear hc0 hcc hat hrl
   have hfo := hok f (by rw [hf];exact List.getElem_mem hlt)
   unfold FtOk at hfo
   have hbd := areaL_bd hok k
   have hsu : areaL (fs.take (k + 1)) = areaL (fs.take k) + f.wide * f.deep := by rw [hf];exact areaL_snoc hlt
   have hbd2 := areaL_bd hok (k + 1)
   rw [hsu] at hbd2
   have HSU := hid hsu;clear hsu
   have HF := hid hf;clear hf
   obtain ⟨fw,fd,fh,fg⟩ := f
   dsimp only at *
   generalize areaL (fs.take k) = n at *
   have hmm := mul_bd fw fd 2100 2100 (by omega) (by omega) (by omega) (by omega)
   go_wp2_with fail
   go_roundw
   case rel => exact ⟨k + 1,by omega,by go_num,by rw [HSU.out],by go_grown⟩
   case measure => first | (simp [intOf];done) | (simp [intOf];omega)
  ·obtain rfl : k = fs.length := by omega
   rw [List.take_length] at *
   go_wp2_with fail
   go_ret
   exact ⟨rfl,hb0⟩
set_option maxRecDepth 100000 in
set_option maxHeartbeats 2000000 in
theorem weight_any {w : World} {lv : Value} {fs : List Ft} (hl : FeetAt w lv fs) (hok : ∀ f ∈ fs,FtOk f) (hn : fs.length ≤ 1000) :
  Calls Tryz.prog 72 #[lv] w (Ret w (.int .i64 (weightL fs))) := by
 unfold Ret
 obtain ⟨la,lc,rfl,hll⟩ := hl.shape
 rw [List.length_map] at hll
 go_enter Tryz.func72,Tryz.ntmps72
 simp only [List.length_map]
 go_wp2_with fail
 go_loopw [3,8] (fun nv iv wr => ∃ k : Nat,k ≤ fs.length ∧ iv = .int .i64 k ∧ nv = .int .i64 (weightL (fs.take k)) ∧ Below w.heap.size w wr) (fun _ iv _ => fs.length - (intOf iv).toNat)
 case atStart => exact ⟨0,Nat.zero_le _,rfl,by simp [weightL],by go_grown⟩
 case round =>
  obtain ⟨k,hk,rfl,rfl,hb0⟩ := hrel
  have hzz := hb0.size
  by_cases hlt : k < fs.length
  ·obtain ⟨a',ha,hrl,hc0,hcc⟩ := (hl.below hb0).row (k := k) (by rw [List.length_map];exact hlt)
   subst ha
   obtain ⟨f,hf⟩ : ∃ f,f = fs[k] := ⟨_,rfl⟩
   have hat : (fs.map rowF)[k]'(by rw [List.length_map];exact hlt) = [f.wide,f.deep,f.high,f.weight] := by rw [List.getElem_map, ← hf];rfl
   rw [hat] at hc0 hcc
   have r0 := hc0 _ rfl
   have r1 := hcc 1 _ (by decide) rfl
   have r2 := hcc 2 _ (by decide) rfl
   have r3 := hcc 3 _ (by decide) rfl
   clear hc0 hcc hat hrl
   have hfo := hok f (by rw [hf];exact List.getElem_mem hlt)
   unfold FtOk at hfo
   have hbd := weightL_bd hok k
   have hsu : weightL (fs.take (k + 1)) = weightL (fs.take k) + f.weight := by rw [hf];exact weightL_snoc hlt
   have hbd2 := weightL_bd hok (k + 1)
   rw [hsu] at hbd2
   have HSU := hid hsu;clear hsu
   have HF := hid hf;clear hf
   obtain ⟨fw,fd,fh,fg⟩ := f
   dsimp only at *
   generalize weightL (fs.take k) = n at *
   have hmm := mul_bd fw fd 2100 2100 (by omega) (by omega) (by omega) (by omega)
   go_wp2_with fail
   go_roundw
   case rel => exact ⟨k + 1,by omega,by go_num,by rw [HSU.out],by go_grown⟩
   case measure => first | (simp [intOf];done) | (simp [intOf];omega)
  ·obtain rfl : k = fs.length := by omega
   rw [List.take_length] at *
   go_wp2_with fail
   go_ret
   exact ⟨rfl,hb0⟩
end Go.Proofs.YthdfnkdifjajlaaGreatDoor