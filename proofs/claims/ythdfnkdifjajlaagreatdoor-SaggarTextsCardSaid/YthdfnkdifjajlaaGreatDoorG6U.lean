/- Part of a claim. -/
import Derived.Test.YthdfnkdifjajlaaGreatDoorG5U
import Derived.Test.YthdfnkdifjajlaaGreatDoorKSdU
import Derived.Sort.CutIn
set_option linter.unusedVariables false
set_option linter.unusedSimpArgs false
namespace Go.Proofs.YthdfnkdifjajlaaGreatDoor
open Go.RowKit Go.Pb Go.Pb.Ware Go.Pb.Sag


open Go.Shelf
attribute [local go_sem] Oper.semAt_some
set_option maxRecDepth 100000 in
set_option maxHeartbeats 2000000 in
theorem stands_any {w : World} {bid bwi bde bce bhi bbe fw fd fh fg : Int} :
  Calls Tryz.prog 95 #[.agg #[.int .i64 bid, .int .i64 bwi, .int .i64 bde, .int .i64 bce, .int .i64 bhi, .int .i64 bbe], .agg #[.int .i64 fw, .int .i64 fd, .int .i64 fh, .int .i64 fg]] w (fun e w' => ∃ lb,e = .returned (.func (.func 115) #[] lb) ∧ StandsIn w.heap.size w'.heap.size ⟨bid,bwi,bde,bce,bhi,bbe⟩ ⟨fw,fd,fh,fg⟩ lb w' ∧ Below w.heap.size w w' ∧ w.heap.size ≤ w'.heap.size) := by
 by_cases h : fw = fd
 ·subst h
  go_enter Tryz.func95,Tryz.ntmps95
  go_wp2
  go_ret
  refine ⟨_,rfl,⟨w.heap.size,w.heap.size + 3,w.heap.size + 1,w.heap.size + 2, ?_⟩,by go_grown,by first | (simp;done) | (simp;omega)⟩
  have hw : (Sag.ways ⟨fw,fw,fh,fg⟩).length = 1 := by unfold Sag.ways;simp
  rw [hw]
  refine ⟨⟨by omega,by first | (simp;done) | (simp;omega)⟩,⟨by omega,by first | (simp;done) | (simp;omega)⟩,⟨by omega,by first | (simp;done) | (simp;omega)⟩,⟨by omega,by first | (simp;done) | (simp;omega)⟩,rfl, ?_, ?_, ?_,⟨?_, ?_⟩, ?_, ?_, ?_, ?_⟩ <;> simp [go_sem]
 ·go_enter Tryz.func95,Tryz.ntmps95
  go_wp2
  go_ret
  refine ⟨_,rfl,⟨w.heap.size,w.heap.size + 3,w.heap.size + 1,w.heap.size + 2, ?_⟩,by go_grown,by first | (simp;done) | (simp;omega)⟩
  have hw : (Sag.ways ⟨fw,fd,fh,fg⟩).length = 2 := by unfold Sag.ways;simp [h]
  rw [hw]
  refine ⟨⟨by omega,by first | (simp;done) | (simp;omega)⟩,⟨by omega,by first | (simp;done) | (simp;omega)⟩,⟨by omega,by first | (simp;done) | (simp;omega)⟩,⟨by omega,by first | (simp;done) | (simp;omega)⟩,rfl, ?_, ?_, ?_,⟨?_, ?_⟩, ?_, ?_, ?_, ?_⟩ <;> simp [go_sem]
def SeqOf {α : Type} (F : Fence) (n : Nat) (P : Program) (g : Nat) (lb : Array Value) (encs : α → Array Value) (Kp : World → World → Prop) (all : List α) (w : World) : Prop :=
 ∀ (l : Nat) (J Jx : List α → World → Prop) (W : World),Below w.heap.size w W → AbidesFrom W.heap.size J → AbidesFrom W.heap.size Jx →
  (∀ pre x W1,J pre W1 → pre.length < all.length → x ∈ all → YieldAt F (n - 1) P l (encs x) W1 fun e W' =>
   (e = .returned (.bool true) ∧ J (pre ++ [x]) W' ∧ Kp W1 W') ∨ (e = .returned (.bool false) ∧ Jx (pre ++ [x]) W')) →
  J [] W →
  CallsIn F n P g (#[.func (.yield l) #[] #[]] ++ lb) W fun e W' => (∃ v,e = .returned v) ∧ ((∃ xs,xs = all ∧ J xs W') ∨ (∃ pre,pre <+: all ∧ Jx pre W'))
theorem SeqOf.stops {α : Type} {F : Fence} {n : Nat} {P : Program} {g : Nat} {lb : Array Value} {encs : α → Array Value} {Kp : World → World → Prop} {all : List α} {w : World} (h : SeqOf F n P g lb encs Kp all w) :
  SeqStopsK F n P g lb encs Kp (fun ys => ys = all) (fun pre => pre <+: all) all.length w :=
 fun l J Jx W hW hJ hJx hY hj => h l J Jx W hW hJ hJx (fun pre x W1 h1 h2 _ => hY pre x W1 h1 h2) hj
theorem SeqOf.stopsM {α : Type} {F : Fence} {n : Nat} {P : Program} {g : Nat} {lb : Array Value} {encs : α → Array Value} {Kp : World → World → Prop} {all : List α} {w : World} (h : SeqOf F n P g lb encs Kp all w) :
  SeqStopsK F n P g lb (fun x : {x : α // x ∈ all} => encs x.1) Kp (fun ys => ys.map (·.1) = all) (fun pre => pre.map (·.1) <+: all) all.length w := by
 intro l J Jx W hW hJ hJx hY hj
 have hl : ∀ {K : List {x : α // x ∈ all} → World → Prop},AbidesFrom W.heap.size K → AbidesFrom W.heap.size (fun ys W => ∃ zs : List {x : α // x ∈ all},zs.map (·.1) = ys ∧ K zs W) :=
  fun hK s A B row hs hg hr => by obtain ⟨zs,e,hz⟩ := hs;exact ⟨zs,e,hK _ _ _ _ hz hg hr⟩
 refine CallsIn.mono (h l (fun ys W => ∃ zs : List {x : α // x ∈ all},zs.map (·.1) = ys ∧ J zs W) (fun ys W => ∃ zs : List {x : α // x ∈ all},zs.map (·.1) = ys ∧ Jx zs W) W hW (hl hJ) (hl hJx) (fun pre x W1 h1 h2 hm => ?_) ⟨[],rfl,hj⟩) ?_
 ·obtain ⟨zs,rfl,hz⟩ := h1
  obtain ⟨fn,tmps,assign,body,hyy,hR⟩ := hY zs ⟨x,hm⟩ W1 hz (by simpa using h2)
  refine ⟨fn,tmps,assign,body,hyy,RoundIn.mono hR ?_⟩
  rintro e w' (⟨a,b,c⟩ | ⟨a,b⟩)
  ·exact .inl ⟨a,⟨zs ++ [⟨x,hm⟩],by simp,b⟩,c⟩
  ·exact .inr ⟨a,⟨zs ++ [⟨x,hm⟩],by simp,b⟩⟩
 ·rintro e w' ⟨hv,⟨xs,rfl,zs,e1,hz⟩ | ⟨pre,hp,zs,rfl,hz⟩⟩
  ·exact ⟨hv, .inl ⟨zs,e1,hz⟩⟩
  ·exact ⟨hv, .inr ⟨zs,hp,hz⟩⟩
set_option maxRecDepth 100000 in
set_option maxHeartbeats 8000000 in
theorem stands_of {n lo hi : Nat} (hn : 1 ≤ n) {w : World} {bid bwi bde bce bhi bbe fw fd fh fg : Int} {lb : Array Value} (hX : boxOk ⟨bid,bwi,bde,bce,bhi,bbe⟩ = true) (hF : FtOk ⟨fw,fd,fh,fg⟩) (h : StandsIn lo hi ⟨bid,bwi,bde,bce,bhi,bbe⟩ ⟨fw,fd,fh,fg⟩ lb w) (hhi : hi ≤ w.heap.size) :
  SeqOf Fence.wide n Tryz.prog 115 lb encS (KeepSeg lo hi) (standsL ⟨bid,bwi,bde,bce,bhi,bbe⟩ ⟨fw,fd,fh,fg⟩) w := fun l J Jx W hW hJ hJx hY hj0 => by
 have hX2 := boxOk_iff.1 hX
 dsimp only at hX2
 have hF2 := hF
 unfold FtOk at hF2
 dsimp only at hF2
 have hk0 : KeepSeg lo hi w W := KeepSeg.of_below (hW.mono hhi)
 obtain ⟨p,q,r,b,hp,hq,hr,hb,rfl,g0,g1,g2,⟨g3,g4⟩,g5,g6,g7,g8⟩ := h.keep hk0
 dsimp only at g0 g1 g2 g5 g6 g7 g8
 have hWs := hW.size
 have hhW : hi ≤ W.heap.size := by omega
 obtain ⟨wN,hwN⟩ : ∃ m : Nat,bwi = m := ⟨bwi.toNat,by omega⟩
 obtain ⟨dN,hdN⟩ : ∃ m : Nat,bde = m := ⟨bde.toNat,by omega⟩
 subst hwN;subst hdN
 have hwl := Sag.ways_len ⟨fw,fd,fh,fg⟩
 refine callsIn_of_wp Tryz.func115 rfl trivial ?_ rfl
 simp only [Tryz.ntmps115,List.size_toArray,List.length_cons,List.length_nil,Nat.reduceAdd,Nat.reduceSub,Array.replicate_succ,Array.replicate_zero,List.push_toArray,List.append_toArray,List.nil_append,List.cons_append]
 gi_wp2
 gi_loopw [13] (fun i wr => ∃ y : Nat,y ≤ dN ∧ i = .int .i64 y ∧ J (standsN ⟨bid,wN,dN,bce,bhi,bbe⟩ ⟨fw,fd,fh,fg⟩ y) wr ∧ KeepSeg lo hi W wr ∧ W.heap.size ≤ wr.heap.size) (fun i _ => dN - (intOf i).toNat)
 case atStart => exact ⟨0,Nat.zero_le _,rfl,hj0,KeepSeg.refl,Nat.le_refl _⟩
 case round =>
  obtain ⟨y,hy,rfl,hJs,hk1,hz1⟩ := hrel
  by_cases hlt : y < dN
  ·have c0 := hk1.cell hp.1 hp.2 g0
   have c1 := hk1.cell hp.1 hp.2 g1
   have c2 := hk1.cell hq.1 hq.2 g2
   have c3 := hk1.cell hb.1 hb.2 g3
   have c4 := hk1.cell hb.1 hb.2 g4
   have c5 := hk1.cell hr.1 hr.2 g5
   have c6 := hk1.cell hr.1 hr.2 g6
   have c7 := hk1.cell hr.1 hr.2 g7
   have c8 := hk1.cell hr.1 hr.2 g8
   gi_wp2
   gi_loopw [18] (fun i wr => ∃ x : Nat,x ≤ wN ∧ i = .int .i64 x ∧ J (standsN ⟨bid,wN,dN,bce,bhi,bbe⟩ ⟨fw,fd,fh,fg⟩ y ++ rowL ⟨bid,wN,dN,bce,bhi,bbe⟩ ⟨fw,fd,fh,fg⟩ y x) wr ∧ KeepSeg lo hi W wr ∧ W.heap.size ≤ wr.heap.size) (fun i _ => wN - (intOf i).toNat)
   case atStart => exact ⟨0,Nat.zero_le _,rfl,by rw [rowL,List.append_nil];exact hJs,hk1,hz1⟩
   case round =>
    clear c0 c1 c2 c3 c4 c5 c6 c7 c8
    obtain ⟨x,hx,rfl,hJ2,hk2,hz2⟩ := hrel
    by_cases hlt2 : x < wN
    ·have c0 := hk2.cell hp.1 hp.2 g0
     have c1 := hk2.cell hp.1 hp.2 g1
     have c2 := hk2.cell hq.1 hq.2 g2
     have c3 := hk2.cell hb.1 hb.2 g3
     have c4 := hk2.cell hb.1 hb.2 g4
     have c5 := hk2.cell hr.1 hr.2 g5
     have c6 := hk2.cell hr.1 hr.2 g6
     have c7 := hk2.cell hr.1 hr.2 g7
     have c8 := hk2.cell hr.1 hr.2 g8
     gi_wp2
     gi_loopw [23] (fun i wr => ∃ k : Nat,k ≤ (Sag.ways ⟨fw,fd,fh,fg⟩).length ∧ i = .int .i64 k ∧ J (standsN ⟨bid,wN,dN,bce,bhi,bbe⟩ ⟨fw,fd,fh,fg⟩ y ++ rowL ⟨bid,wN,dN,bce,bhi,bbe⟩ ⟨fw,fd,fh,fg⟩ y x ++ cellL ⟨bid,wN,dN,bce,bhi,bbe⟩ ⟨fw,fd,fh,fg⟩ y x k) wr ∧ KeepSeg lo hi W wr ∧ W.heap.size ≤ wr.heap.size) (fun i _ => 2 - (intOf i).toNat)
     case atStart => exact ⟨0,Nat.zero_le _,rfl,by rw [show cellL ⟨bid,wN,dN,bce,bhi,bbe⟩ ⟨fw,fd,fh,fg⟩ y x 0 = [] from by simp [cellL],List.append_nil];exact hJ2,hk2,hz2⟩
     case round =>
      clear c0 c1 c2 c3 c4 c5 c6 c7 c8
      obtain ⟨k,hk,rfl,hJ3,hk3,hz3⟩ := hrel
      by_cases hlt3 : k < (Sag.ways ⟨fw,fd,fh,fg⟩).length
      ·obtain ⟨t,ht,ct⟩ : ∃ t,(Sag.ways ⟨fw,fd,fh,fg⟩)[k]? = some t ∧ wr.cell? ⟨b,k,none⟩ = some (.bool t) := by
        have c3 := hk3.cell hb.1 hb.2 g3
        have c4 := hk3.cell hb.1 hb.2 g4
        have hk01 : k = 0 ∨ k = 1 := by omega
        rcases hk01 with rfl | rfl
        ·exact ⟨false,by unfold Sag.ways;split <;> rfl,c3⟩
        ·refine ⟨true, ?_,c4⟩
         unfold Sag.ways at hlt3 ⊢
         split at hlt3 <;> rename_i hw
         ·simp at hlt3
         ·rw [if_neg hw];rfl
       have c0 := hk3.cell hp.1 hp.2 g0
       have c1 := hk3.cell hp.1 hp.2 g1
       have c2 := hk3.cell hq.1 hq.2 g2
       have c3 := hk3.cell hb.1 hb.2 g3
       have c4 := hk3.cell hb.1 hb.2 g4
       have c5 := hk3.cell hr.1 hr.2 g5
       have c6 := hk3.cell hr.1 hr.2 g6
       have c7 := hk3.cell hr.1 hr.2 g7
       have c8 := hk3.cell hr.1 hr.2 g8
       clear c3 c4
       obtain ⟨a,d,hs⟩ : ∃ a d,sideV ⟨fw,fd,fh,fg⟩ t = (a,d) := ⟨_,_,rfl⟩
       have hsb : (1 ≤ a ∧ a ≤ 2100) ∧ (1 ≤ d ∧ d ≤ 2100) := by cases t <;> (injection hs with h3 h4;dsimp only at h3 h4;omega)
       have hok : okAt ⟨bid,wN,dN,bce,bhi,bbe⟩ ⟨fw,fd,fh,fg⟩ ⟨y,x,t⟩ = (decide ((x : Int) + a ≤ (wN : Int)) && decide ((y : Int) + d ≤ (dN : Int))) := by unfold okAt;dsimp only;rw [hs]
       have HS := hid hs;clear hs
       have hk9 : k ≤ 1 := by omega
       gi_upto_region 10 with (refine ⟨trivial, ?_⟩;gi_at_call 116;refine (callsIn_wide.2 (sides_any HS.out)).mono ?_;rintro e w1 ⟨rfl,hB⟩)
       replace c0 := bkeep hB c0
       replace c1 := bkeep hB c1
       clear c2 c5 c6 c7 c8 ct
       have hJ4 := hJ _ _ _ none hJ3 (grown_of_below hB) (fun r e => by cases e)
       have hk4 : KeepSeg lo hi W w1 := hk3.trans (KeepSeg.of_below (hB.mono (by omega)))
       have hz4 : W.heap.size ≤ w1.heap.size := Nat.le_trans hz3 hB.size
       have HOK := hid hok
       clear hok hJ3 hk3 hB hk1 hk2 hJs hJ2
       have hw1 : wrap64 ((x : Int) + a) = (x : Int) + a := IntWalk.wrap64_in _ (by omega)
       have hw2 : wrap64 ((y : Int) + d) = (y : Int) + d := IntWalk.wrap64_in _ (by omega)
       by_cases hc1 : (x : Int) + a ≤ (wN : Int)
       ·have u1 : wrap64 ((x : Int) + a) ≤ (wN : Int) := by rw [hw1];exact hc1
        have v1 : decide (wrap64 ((x : Int) + a) ≤ (wN : Int)) = true := decide_eq_true u1
        have x1 : decide ((x : Int) + a ≤ (wN : Int)) = true := decide_eq_true hc1
        by_cases hc2 : (y : Int) + d ≤ (dN : Int)
        ·have u2 : wrap64 ((y : Int) + d) ≤ (dN : Int) := by rw [hw2];exact hc2
         have v2 : decide (wrap64 ((y : Int) + d) ≤ (dN : Int)) = true := decide_eq_true u2
         have x2 : decide ((y : Int) + d ≤ (dN : Int)) = true := decide_eq_true hc2
         have hd1 := x1;have hd2 := x2
         have ho2 : okAt ⟨bid,wN,dN,bce,bhi,bbe⟩ ⟨fw,fd,fh,fg⟩ ⟨y,x,t⟩ = true := by rw [HOK.out,hd1,hd2];rfl
         have hce := cellL_yes ht ho2
         have hpre := pre_stands (s := ⟨bid,wN,dN,bce,bhi,bbe⟩) (f := ⟨fw,fd,fh,fg⟩) (y := y) (x := x) (k := k + 1) (by simpa using hlt) (by simpa using hlt2)
         rw [hce, ← List.append_assoc] at hpre
         have hlen := hpre.length_le
         rw [List.length_append,List.length_singleton] at hlen
         have hmem := hpre.subset (List.mem_append_right _ (List.mem_singleton.2 rfl))
         obtain ⟨fn,tmps,assign,body,hyy,hR⟩ := hY _ ⟨y,x,t⟩ _ hJ4 (by omega) hmem
         clear hmem
         have HPRE := hid hpre;have HCE := hid hce;clear hpre hce hlen ho2
         simp only [encS] at hyy hR
         gi_wp2
         refine RoundIn.mono hR ?_
         rintro e W3 (⟨rfl,hJ5,hk5⟩ | ⟨rfl,hJx5⟩)
         ·gi_wp2
          go_roundw
          case rel => exact ⟨k + 1,by omega,by go_num,by rw [HCE.out, ← List.append_assoc];exact hJ5,hk4.trans hk5,Nat.le_trans hz4 hk5.1⟩
          case measure => first | (simp [intOf];done) | (simp [intOf];omega)
         ·gi_wp2
          refine bodyPost_ret (results_none rfl _ _ _) rfl ?_
          exact ⟨⟨_,rfl⟩, .inr ⟨_,HPRE.out,hJx5⟩⟩
        ·have t2 : (dN : Int) < (y : Int) + d := by omega
         have u2 : (dN : Int) < wrap64 ((y : Int) + d) := by rw [hw2];exact t2
         have y2 : ¬ wrap64 ((y : Int) + d) ≤ (dN : Int) := by omega
         have v2 : decide (wrap64 ((y : Int) + d) ≤ (dN : Int)) = false := decide_eq_false y2
         have x2 : decide ((y : Int) + d ≤ (dN : Int)) = false := decide_eq_false hc2
         have ho2 : okAt ⟨bid,wN,dN,bce,bhi,bbe⟩ ⟨fw,fd,fh,fg⟩ ⟨y,x,t⟩ = false := by rw [HOK.out];simp only [x2,Bool.false_and,Bool.and_false]
         have HO := hid ho2;clear ho2
         gi_wp2
         refine ⟨fun f h => (by cases h), ?_⟩
         gi_wp2
         go_roundw
         case rel => exact ⟨k + 1,by omega,by go_num,by rw [cellL_no ht HO.out];exact hJ4,hk4,hz4⟩
         case measure => first | (simp [intOf];done) | (simp [intOf];omega)
       ·have t1 : (wN : Int) < (x : Int) + a := by omega
        have u1 : (wN : Int) < wrap64 ((x : Int) + a) := by rw [hw1];exact t1
        have y1 : ¬ wrap64 ((x : Int) + a) ≤ (wN : Int) := by omega
        have v1 : decide (wrap64 ((x : Int) + a) ≤ (wN : Int)) = false := decide_eq_false y1
        have x1 : decide ((x : Int) + a ≤ (wN : Int)) = false := decide_eq_false hc1
        have ho2 : okAt ⟨bid,wN,dN,bce,bhi,bbe⟩ ⟨fw,fd,fh,fg⟩ ⟨y,x,t⟩ = false := by rw [HOK.out];simp only [x1,Bool.false_and,Bool.and_false]
        have HO := hid ho2;clear ho2
        gi_wp2
        refine ⟨fun f h => (by cases h), ?_⟩
        gi_wp2
        go_roundw
        case rel => exact ⟨k + 1,by omega,by go_num,by rw [cellL_no ht HO.out];exact hJ4,hk4,hz4⟩
        case measure => first | (simp [intOf];done) | (simp [intOf];omega)
      ·obtain rfl : k = (Sag.ways ⟨fw,fd,fh,fg⟩).length := by omega
       gi_wp2
       go_roundw
       case rel => exact ⟨x + 1,by omega,by go_num,by rw [rowL, ← List.append_assoc];exact hJ3,hk3,hz3⟩
       case measure => first | (simp [intOf];done) | (simp [intOf];omega)
    ·obtain rfl : x = wN := by omega
     gi_wp2
     go_roundw
     case rel => exact ⟨y + 1,by omega,by go_num,by rw [standsN];exact hJ2,hk2,hz2⟩
     case measure => first | (simp [intOf];done) | (simp [intOf];omega)
  ·obtain rfl : y = dN := by omega
   gi_wp2
   go_end0
   exact ⟨⟨_,rfl⟩, .inl ⟨_,rfl,hJs⟩⟩
theorem stands_stops {n lo hi : Nat} (hn : 1 ≤ n) {w : World} {bid bwi bde bce bhi bbe fw fd fh fg : Int} {lb : Array Value} (hX : boxOk ⟨bid,bwi,bde,bce,bhi,bbe⟩ = true) (hF : FtOk ⟨fw,fd,fh,fg⟩) (h : StandsIn lo hi ⟨bid,bwi,bde,bce,bhi,bbe⟩ ⟨fw,fd,fh,fg⟩ lb w) (hhi : hi ≤ w.heap.size) :
  SeqStopsK Fence.wide n Tryz.prog 115 lb encS (KeepSeg lo hi) (fun ys => ys = standsL ⟨bid,bwi,bde,bce,bhi,bbe⟩ ⟨fw,fd,fh,fg⟩) (fun pre => pre <+: standsL ⟨bid,bwi,bde,bce,bhi,bbe⟩ ⟨fw,fd,fh,fg⟩) (standsL ⟨bid,bwi,bde,bce,bhi,bbe⟩ ⟨fw,fd,fh,fg⟩).length w := (stands_of hn hX hF h hhi).stops
theorem stands_stopsM {n lo hi : Nat} (hn : 1 ≤ n) {w : World} {bid bwi bde bce bhi bbe fw fd fh fg : Int} {lb : Array Value} (hX : boxOk ⟨bid,bwi,bde,bce,bhi,bbe⟩ = true) (hF : FtOk ⟨fw,fd,fh,fg⟩) (h : StandsIn lo hi ⟨bid,bwi,bde,bce,bhi,bbe⟩ ⟨fw,fd,fh,fg⟩ lb w) (hhi : hi ≤ w.heap.size) :
  SeqStopsK Fence.wide n Tryz.prog 115 lb (fun x : {x : St // x ∈ standsL ⟨bid,bwi,bde,bce,bhi,bbe⟩ ⟨fw,fd,fh,fg⟩} => encS x.1) (KeepSeg lo hi) (fun ys => ys.map (·.1) = standsL ⟨bid,bwi,bde,bce,bhi,bbe⟩ ⟨fw,fd,fh,fg⟩) (fun pre => pre.map (·.1) <+: standsL ⟨bid,bwi,bde,bce,bhi,bbe⟩ ⟨fw,fd,fh,fg⟩) (standsL ⟨bid,bwi,bde,bce,bhi,bbe⟩ ⟨fw,fd,fh,fg⟩).length w := (stands_of hn hX hF h hhi).stopsM
end Go.Proofs.YthdfnkdifjajlaaGreatDoor