/- Part of a claim. -/
import Derived.Test.YtodmidchpbcnpaaGreatG10X
import Derived.Test.YtodmidchpbcnpaaGreatKSdX
set_option linter.unusedVariables false
set_option linter.unusedSimpArgs false
namespace Go.Proofs.YtodmidchpbcnpaaGreat
open Go.RowKit Go.Pb Go.Pb.Ware Go.Pb.Sag


theorem covered_eq {w : World} {fw fd fh fg : Int} {y x : Nat} {t : Bool} {m : Nat} (h1 : 0 ≤ (sideV ⟨fw,fd,fh,fg⟩ t).1 ∧ (x : Int) + (sideV ⟨fw,fd,fh,fg⟩ t).1 ≤ 6) (h2 : 0 ≤ (sideV ⟨fw,fd,fh,fg⟩ t).2 ∧ (y : Int) + (sideV ⟨fw,fd,fh,fg⟩ t).2 ≤ 6) (h : maskOf ⟨fw,fd,fh,fg⟩ ⟨y,x,t⟩ = m) :
  Calls Tryz.prog 133 #[.agg #[.int .i64 fw, .int .i64 fd, .int .i64 fh, .int .i64 fg], .agg #[.int .i64 (y : Nat), .int .i64 (x : Nat), .bool t]] w (Ret w (.int .u64 (m : Nat))) := by subst h;exact covered_any h1 h2
set_option maxRecDepth 100000 in
set_option maxHeartbeats 1000000 in
theorem isPacking_any {w : World} {bid bwi bde bce bhi bbe : Int} {lv pv : Value} {fs : List Ft} {qs : List Sq} (hX : boxOk ⟨bid,bwi,bde,bce,bhi,bbe⟩ = true) (hl : FeetAt w lv fs) (hok : ∀ f ∈ fs,FtOk f) (hn : fs.length ≤ 1000) (hp : StAt w pv qs) {b : Bool} (hb : packB ⟨bid,bwi,bde,bce,bhi,bbe⟩ fs qs = b) :
  Calls Tryz.prog 83 #[.agg #[.int .i64 bid, .int .i64 bwi, .int .i64 bde, .int .i64 bce, .int .i64 bhi, .int .i64 bbe],lv,pv] w (Ret w (.bool b)) := by
 unfold Ret
 obtain ⟨la,lc,rfl,hll⟩ := hl.shape
 obtain ⟨pa,pc,rfl,hpl,hpc⟩ := hp.shape
 rw [List.length_map] at hl ⊢
 rw [List.length_map] at hll
 unfold packB at hb
 obtain ⟨t1,ht1⟩ : ∃ t,troubleB ⟨bid,bwi,bde,bce,bhi,bbe⟩ fs 1 = t := ⟨_,rfl⟩
 obtain ⟨t3,ht3⟩ : ∃ t,troubleB ⟨bid,bwi,bde,bce,bhi,bbe⟩ fs 3 = t := ⟨_,rfl⟩
 rw [ht1,ht3] at hb
 have HT1 := hid ht1;have HT3 := hid ht3;clear ht1 ht3
 have hpn : (qs.length : Int) ≤ 9223372036854775807 := by omega
 by_cases hlen : qs.length = fs.length
 ·cases t1
  ·cases t3
   ·have hb2 : placeB ⟨bid,bwi,bde,bce,bhi,bbe⟩ fs qs 0 = b := by rw [← hb];simp [hlen]
    have HB := hid hb2;clear hb hb2
    go_enter Tryz.func83,Tryz.ntmps83
    go_wp2_with fail
    refine (trouble1 hX (hl.below (by go_grown)) hok hn HT1.out).mono ?_
    rintro e w1 ⟨rfl,hb⟩
    replace hb0 := bnext (w := w) (by go_grown) hb;have hz := hb.size;(try simp only [World.size_alloc,World.size_setCell] at hz);replace q0 : w1.cell? ⟨w.heap.size,0,none⟩ = some (.int .i64 bid) := bkeep hb (by first|with_reducible exact q0|with_reducible exact akeep q0|simp[*,go_sem]);replace q1 : w1.cell? ⟨w.heap.size,1,none⟩ = some (.int .i64 bwi) := bkeep hb (by first|with_reducible exact q1|with_reducible exact akeep q1|simp[*,go_sem]);replace q2 : w1.cell? ⟨w.heap.size,2,none⟩ = some (.int .i64 bde) := bkeep hb (by first|with_reducible exact q2|with_reducible exact akeep q2|simp[*,go_sem]);replace q3 : w1.cell? ⟨w.heap.size,3,none⟩ = some (.int .i64 bce) := bkeep hb (by first|with_reducible exact q3|with_reducible exact akeep q3|simp[*,go_sem]);replace q4 : w1.cell? ⟨w.heap.size,4,none⟩ = some (.int .i64 bhi) := bkeep hb (by first|with_reducible exact q4|with_reducible exact akeep q4|simp[*,go_sem]);replace q5 : w1.cell? ⟨w.heap.size,5,none⟩ = some (.int .i64 bbe) := bkeep hb (by first|with_reducible exact q5|with_reducible exact akeep q5|simp[*,go_sem]);skip
    clear hb
    go_wp2_with fail
    refine (trouble3 hX (hl.below (by go_grown)) hok hn HT3.out).mono ?_
    rintro e w1 ⟨rfl,hb⟩
    replace hb0 := bnext (w := w) (by go_grown) hb;have hz := hb.size;(try simp only [World.size_alloc,World.size_setCell] at hz);replace q0 : w1.cell? ⟨w.heap.size,0,none⟩ = some (.int .i64 bid) := bkeep hb (by first|with_reducible exact q0|with_reducible exact akeep q0|simp[*,go_sem]);replace q1 : w1.cell? ⟨w.heap.size,1,none⟩ = some (.int .i64 bwi) := bkeep hb (by first|with_reducible exact q1|with_reducible exact akeep q1|simp[*,go_sem]);replace q2 : w1.cell? ⟨w.heap.size,2,none⟩ = some (.int .i64 bde) := bkeep hb (by first|with_reducible exact q2|with_reducible exact akeep q2|simp[*,go_sem]);replace q3 : w1.cell? ⟨w.heap.size,3,none⟩ = some (.int .i64 bce) := bkeep hb (by first|with_reducible exact q3|with_reducible exact akeep q3|simp[*,go_sem]);replace q4 : w1.cell? ⟨w.heap.size,4,none⟩ = some (.int .i64 bhi) := bkeep hb (by first|with_reducible exact q4|with_reducible exact akeep q4|simp[*,go_sem]);replace q5 : w1.cell? ⟨w.heap.size,5,none⟩ = some (.int .i64 bbe) := bkeep hb (by first|with_reducible exact q5|with_reducible exact akeep q5|simp[*,go_sem]);skip
    clear hb
    go_wp2_with fail
    go_loopw [7,28] (fun tv iv wr => ∃ k t : Nat,k ≤ fs.length ∧ iv = .int .i64 k ∧ tv = .int .u64 (t : Nat) ∧ t < 2 ^ 36 ∧ Hid (placeB ⟨bid,bwi,bde,bce,bhi,bbe⟩ (fs.drop k) (qs.drop k) t = b) ∧ Below w.heap.size w wr ∧ w.heap.size + 1 ≤ wr.heap.size ∧ wr.cell? ⟨w.heap.size,0,none⟩ = some (.int .i64 bid) ∧ wr.cell? ⟨w.heap.size,1,none⟩ = some (.int .i64 bwi) ∧ wr.cell? ⟨w.heap.size,2,none⟩ = some (.int .i64 bde) ∧ wr.cell? ⟨w.heap.size,3,none⟩ = some (.int .i64 bce) ∧ wr.cell? ⟨w.heap.size,4,none⟩ = some (.int .i64 bhi) ∧ wr.cell? ⟨w.heap.size,5,none⟩ = some (.int .i64 bbe)) (fun _ iv _ => fs.length - (intOf iv).toNat)
    case atStart => exact ⟨0,0,Nat.zero_le _,rfl,rfl,by decide,HB,by go_grown,by omega,q0,q1,q2,q3,q4,q5⟩
    case round =>
     clear q0 q1 q2 q3 q4 q5
     obtain ⟨k,t,hk,rfl,rfl,ht,HP,hb0,hz0,q0,q1,q2,q3,q4,q5⟩ := hrel
     by_cases hlt : k < fs.length
     ·obtain ⟨a',ha,hrl,hc0,hcc⟩ := (show RowsAt 4 wr (.slice la (fs.map rowF).length lc) (fs.map rowF) by rw [List.length_map];exact hl.below hb0).row (k := k) (by rw [List.length_map];exact hlt)
      subst ha
      obtain ⟨f,hf⟩ : ∃ f,f = fs[k] := ⟨_,rfl⟩
      have hfo := hok f (by rw [hf];exact List.getElem_mem hlt)
      obtain ⟨fw,fd,fh,fg⟩ := f
      have hat : (fs.map rowF)[k]'(by rw [List.length_map];exact hlt) = [fw,fd,fh,fg] := by rw [List.getElem_map, ← hf];rfl
      rw [hat] at hc0 hcc
      have r0 := hc0 _ rfl
      have r1 := hcc 1 _ (by decide) rfl
      have r2 := hcc 2 _ (by decide) rfl
      have r3 := hcc 3 _ (by decide) rfl
      clear hc0 hcc hat hrl
      have hkq : k < qs.length := by omega
      have hpst := place_step hlt hkq HP.out
      rw [← hf] at hpst
      obtain ⟨a2,ha2,s0,s1,s2⟩ := (hp.below hb0).row hkq
      subst ha2
      obtain ⟨sq,hsq⟩ : ∃ q,q = qs[k] := ⟨_,rfl⟩
      rw [← hsq] at hpst s0 s1 s2
      obtain ⟨py,px,pt⟩ := sq
      dsimp only at s0 s1 s2 hpst
      have hkqi : (k : Int) < (qs.length : Int) := by omega
      have hkfi : (k : Int) < (fs.length : Int) := by omega
      obtain ⟨an,han⟩ : ∃ an,anySt py px pt (standsL ⟨bid,bwi,bde,bce,bhi,bbe⟩ ⟨fw,fd,fh,fg⟩) = an := ⟨_,rfl⟩
      rw [han] at hpst
      have HAN := hid han;have HST := hid hpst;clear hpst HP hf hsq
      go_upto_region 7 with fail
      obtain ⟨W7,hW7⟩ : ∃ W7,wr.alloc (.cells #[.int .i64 fw, .int .i64 fd, .int .i64 fh, .int .i64 fg] 34) = W7 := ⟨_,rfl⟩
      replace q0 := akeep (o := .cells #[.int .i64 fw, .int .i64 fd, .int .i64 fh, .int .i64 fg] 34) q0;rw [hW7] at q0
      replace q1 := akeep (o := .cells #[.int .i64 fw, .int .i64 fd, .int .i64 fh, .int .i64 fg] 34) q1;rw [hW7] at q1
      replace q2 := akeep (o := .cells #[.int .i64 fw, .int .i64 fd, .int .i64 fh, .int .i64 fg] 34) q2;rw [hW7] at q2
      replace q3 := akeep (o := .cells #[.int .i64 fw, .int .i64 fd, .int .i64 fh, .int .i64 fg] 34) q3;rw [hW7] at q3
      replace q4 := akeep (o := .cells #[.int .i64 fw, .int .i64 fd, .int .i64 fh, .int .i64 fg] 34) q4;rw [hW7] at q4
      replace q5 := akeep (o := .cells #[.int .i64 fw, .int .i64 fd, .int .i64 fh, .int .i64 fg] 34) q5;rw [hW7] at q5
      replace s0 := akeep (o := .cells #[.int .i64 fw, .int .i64 fd, .int .i64 fh, .int .i64 fg] 34) s0;rw [hW7] at s0
      replace s1 := akeep (o := .cells #[.int .i64 fw, .int .i64 fd, .int .i64 fh, .int .i64 fg] 34) s1;rw [hW7] at s1
      replace s2 := akeep (o := .cells #[.int .i64 fw, .int .i64 fd, .int .i64 fh, .int .i64 fg] 34) s2;rw [hW7] at s2
      have e0 : W7.cell? ⟨wr.heap.size,0,none⟩ = some (.int .i64 fw) := by rw [← hW7];simp [go_sem]
      have e1 : W7.cell? ⟨wr.heap.size,1,none⟩ = some (.int .i64 fd) := by rw [← hW7];simp [go_sem]
      have e2 : W7.cell? ⟨wr.heap.size,2,none⟩ = some (.int .i64 fh) := by rw [← hW7];simp [go_sem]
      have e3 : W7.cell? ⟨wr.heap.size,3,none⟩ = some (.int .i64 fg) := by rw [← hW7];simp [go_sem]
      have hb7 : Below w.heap.size w W7 := by rw [← hW7];exact hb0.alloc (by omega) _
      have hz7 : W7.heap.size = wr.heap.size + 1 := by rw [← hW7];simp
      rw [hW7]
      clear hW7 r0 r1 r2 r3
      have hne : ¬ wr.heap.size = w.heap.size := by omega
      have hne2 : ¬ w.heap.size = wr.heap.size := by omega
      have HZ7 := hid hz7;clear hz7
      have t0 := fun x : BW W7 => bkeep x.below s0
      have t1 := fun x : BW W7 => bkeep x.below s1
      have t2 := fun x : BW W7 => bkeep x.below s2
      refine wp_region_qb (by kernel_rfl) (by kernel_rfl) fun hc => ?_
      repeat (go_big_quiet_step ((go_at_call 132;exact BW.call _ (isStand_any hX hfo HAN.out))))
      (refine wpQuiet_nil ?_;intro w1 hb;have hb8 := bnext (w := w) hb7 hb;have hz8 := hb.size;replace q0 := bkeep hb q0;replace q1 := bkeep hb q1;replace q2 := bkeep hb q2;replace q3 := bkeep hb q3;replace q4 := bkeep hb q4;replace q5 := bkeep hb q5;replace e0 := bkeep hb e0;replace e1 := bkeep hb e1;replace e2 := bkeep hb e2;replace e3 := bkeep hb e3;replace s0 := bkeep hb s0;replace s1 := bkeep hb s1;replace s2 := bkeep hb s2;clear hb)
      clear t0 t1 t2
      cases an
      ·have hb2 : b = false := HST.out
       go_wp2_with fail
       go_ret
       exact ⟨ret_bool hb2.symm,hb8⟩
      ·obtain ⟨m,n,hm,hn2,g1,g2⟩ := any_open hX hfo HAN.out
       subst hm;subst hn2
       have hmk := mask_lt g1 g2
       obtain ⟨mk,hmq⟩ : ∃ mk,maskOf ⟨fw,fd,fh,fg⟩ ⟨m,n,pt⟩ = mk := ⟨_,rfl⟩
       have hst := HST.out
       have hmq2 : maskQ ⟨fw,fd,fh,fg⟩ ⟨m,n,pt⟩ = mk := by rw [← hmq];rfl
       rw [hmq2] at hst
       rw [hmq] at hmk
       obtain ⟨me,hme⟩ : ∃ me,(t &&& mk != 0) = me := ⟨_,rfl⟩
       rw [hme] at hst
       have HST2 := hid hst;have HMQ := hid hmq;have HME := hid hme;clear hst hmq hmq2 hme HST
       go_upto_region 9 with fail
       have t0 := fun x : BW w1 => bkeep x.below s0
       have t1 := fun x : BW w1 => bkeep x.below s1
       have t2 := fun x : BW w1 => bkeep x.below s2
       refine wp_region_qb (by kernel_rfl) (by kernel_rfl) fun hc => ?_
       repeat (go_big_quiet_step ((go_at_call 133;exact BW.call _ (covered_eq g1 g2 HMQ.out))))
       (refine wpQuiet_nil ?_;intro w2 hb;have hb9 := bnext (w := w) hb8 hb;have hz9 := hb.size;replace q0 := bkeep hb q0;replace q1 := bkeep hb q1;replace q2 := bkeep hb q2;replace q3 := bkeep hb q3;replace q4 := bkeep hb q4;replace q5 := bkeep hb q5;replace e0 := bkeep hb e0;replace e1 := bkeep hb e1;replace e2 := bkeep hb e2;replace e3 := bkeep hb e3;replace s0 := bkeep hb s0;replace s1 := bkeep hb s1;replace s2 := bkeep hb s2;clear hb)
       clear t0 t1 t2
       cases me
       ·go_wp2_with (first | (go_at_call 130;refine (meets_any ht hmk HME.out).mono ?_;rintro e w3 ⟨rfl,hb⟩;have hb10 := bnext (w := w) hb9 hb;have hz10 := hb.size;replace q0 := bkeep hb q0;replace q1 := bkeep hb q1;replace q2 := bkeep hb q2;replace q3 := bkeep hb q3;replace q4 := bkeep hb q4;replace q5 := bkeep hb q5;clear hb) | (go_at_call 131;refine (with_any ht hmk).mono ?_;rintro e w4 ⟨rfl,hb⟩;have hb11 := bnext (w := w) hb10 hb;have hz11 := hb.size;replace q0 := bkeep hb q0;replace q1 := bkeep hb q1;replace q2 := bkeep hb q2;replace q3 := bkeep hb q3;replace q4 := bkeep hb q4;replace q5 := bkeep hb q5;clear hb))
        go_roundw
        case rel => have hz77 := HZ7.out;exact ⟨k + 1,t ||| mk,by omega,by go_num,rfl,Nat.or_lt_two_pow ht hmk,(show placeB _ _ _ _ = b from by have h := HST2.out;simpa using h.symm),hb11,by omega,q0,q1,q2,q3,q4,q5⟩
        case measure => first | (simp [intOf];done) | (simp [intOf];omega)
       ·have hb2 : b = false := by have h := HST2.out;simpa using h
        go_wp2_with (go_at_call 130;refine (meets_any ht hmk HME.out).mono ?_;rintro e w3 ⟨rfl,hb⟩;have hb10 := bnext (w := w) hb9 hb;have hz10 := hb.size;replace q0 := bkeep hb q0;replace q1 := bkeep hb q1;replace q2 := bkeep hb q2;replace q3 := bkeep hb q3;replace q4 := bkeep hb q4;replace q5 := bkeep hb q5;clear hb)
        go_ret
        exact ⟨ret_bool hb2.symm,hb10⟩
     ·have hb2 : b = true := place_end (by omega) (by omega) HP.out
      go_wp2_with fail
      go_ret
      exact ⟨ret_bool hb2.symm,hb0⟩
   ·have hb2 : b = false := by rw [← hb];simp [hlen]
    subst hb2
    clear hb
    go_enter Tryz.func83,Tryz.ntmps83
    go_wp2_with fail
    refine (trouble1 hX (hl.below (by go_grown)) hok hn HT1.out).mono ?_
    rintro e w1 ⟨rfl,hb⟩
    replace hb0 := bnext (w := w) (by go_grown) hb;have hz := hb.size;(try simp only [World.size_alloc,World.size_setCell] at hz);replace q0 : w1.cell? ⟨w.heap.size,0,none⟩ = some (.int .i64 bid) := bkeep hb (by first|with_reducible exact q0|with_reducible exact akeep q0|simp[*,go_sem]);replace q1 : w1.cell? ⟨w.heap.size,1,none⟩ = some (.int .i64 bwi) := bkeep hb (by first|with_reducible exact q1|with_reducible exact akeep q1|simp[*,go_sem]);replace q2 : w1.cell? ⟨w.heap.size,2,none⟩ = some (.int .i64 bde) := bkeep hb (by first|with_reducible exact q2|with_reducible exact akeep q2|simp[*,go_sem]);replace q3 : w1.cell? ⟨w.heap.size,3,none⟩ = some (.int .i64 bce) := bkeep hb (by first|with_reducible exact q3|with_reducible exact akeep q3|simp[*,go_sem]);replace q4 : w1.cell? ⟨w.heap.size,4,none⟩ = some (.int .i64 bhi) := bkeep hb (by first|with_reducible exact q4|with_reducible exact akeep q4|simp[*,go_sem]);replace q5 : w1.cell? ⟨w.heap.size,5,none⟩ = some (.int .i64 bbe) := bkeep hb (by first|with_reducible exact q5|with_reducible exact akeep q5|simp[*,go_sem]);skip
    clear hb
    go_wp2_with fail
    refine (trouble3 hX (hl.below (by go_grown)) hok hn HT3.out).mono ?_
    rintro e w1 ⟨rfl,hb⟩
    replace hb0 := bnext (w := w) (by go_grown) hb;have hz := hb.size;(try simp only [World.size_alloc,World.size_setCell] at hz);replace q0 : w1.cell? ⟨w.heap.size,0,none⟩ = some (.int .i64 bid) := bkeep hb (by first|with_reducible exact q0|with_reducible exact akeep q0|simp[*,go_sem]);replace q1 : w1.cell? ⟨w.heap.size,1,none⟩ = some (.int .i64 bwi) := bkeep hb (by first|with_reducible exact q1|with_reducible exact akeep q1|simp[*,go_sem]);replace q2 : w1.cell? ⟨w.heap.size,2,none⟩ = some (.int .i64 bde) := bkeep hb (by first|with_reducible exact q2|with_reducible exact akeep q2|simp[*,go_sem]);replace q3 : w1.cell? ⟨w.heap.size,3,none⟩ = some (.int .i64 bce) := bkeep hb (by first|with_reducible exact q3|with_reducible exact akeep q3|simp[*,go_sem]);replace q4 : w1.cell? ⟨w.heap.size,4,none⟩ = some (.int .i64 bhi) := bkeep hb (by first|with_reducible exact q4|with_reducible exact akeep q4|simp[*,go_sem]);replace q5 : w1.cell? ⟨w.heap.size,5,none⟩ = some (.int .i64 bbe) := bkeep hb (by first|with_reducible exact q5|with_reducible exact akeep q5|simp[*,go_sem]);skip
    clear hb
    go_wp2_with fail
    all_goals go_ret
    all_goals exact ⟨rfl,by go_grown⟩
  ·have hb2 : b = false := by rw [← hb];simp [hlen]
   subst hb2
   clear hb
   go_enter Tryz.func83,Tryz.ntmps83
   go_wp2_with fail
   refine (trouble1 hX (hl.below (by go_grown)) hok hn HT1.out).mono ?_
   rintro e w1 ⟨rfl,hb⟩
   replace hb0 := bnext (w := w) (by go_grown) hb;have hz := hb.size;(try simp only [World.size_alloc,World.size_setCell] at hz);replace q0 : w1.cell? ⟨w.heap.size,0,none⟩ = some (.int .i64 bid) := bkeep hb (by first|with_reducible exact q0|with_reducible exact akeep q0|simp[*,go_sem]);replace q1 : w1.cell? ⟨w.heap.size,1,none⟩ = some (.int .i64 bwi) := bkeep hb (by first|with_reducible exact q1|with_reducible exact akeep q1|simp[*,go_sem]);replace q2 : w1.cell? ⟨w.heap.size,2,none⟩ = some (.int .i64 bde) := bkeep hb (by first|with_reducible exact q2|with_reducible exact akeep q2|simp[*,go_sem]);replace q3 : w1.cell? ⟨w.heap.size,3,none⟩ = some (.int .i64 bce) := bkeep hb (by first|with_reducible exact q3|with_reducible exact akeep q3|simp[*,go_sem]);replace q4 : w1.cell? ⟨w.heap.size,4,none⟩ = some (.int .i64 bhi) := bkeep hb (by first|with_reducible exact q4|with_reducible exact akeep q4|simp[*,go_sem]);replace q5 : w1.cell? ⟨w.heap.size,5,none⟩ = some (.int .i64 bbe) := bkeep hb (by first|with_reducible exact q5|with_reducible exact akeep q5|simp[*,go_sem]);skip
   clear hb
   go_wp2_with fail
   all_goals go_ret
   all_goals exact ⟨rfl,by go_grown⟩
 ·have hlen2 : ((qs.length : Int) = (fs.length : Int)) = False := by simp;omega
  have hlen3 : ¬ (qs.length : Int) = (fs.length : Int) := by omega
  have hb2 : b = false := by rw [← hb];simp [hlen]
  subst hb2
  clear hb
  go_enter Tryz.func83,Tryz.ntmps83
  go_wp2_with fail
  all_goals go_ret
  all_goals exact ⟨rfl,by go_grown⟩
end Go.Proofs.YtodmidchpbcnpaaGreat