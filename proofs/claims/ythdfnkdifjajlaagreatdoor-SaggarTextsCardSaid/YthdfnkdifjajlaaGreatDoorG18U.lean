/- Part of a claim. -/
import Derived.Test.YthdfnkdifjajlaaGreatDoorG10U
import Derived.Test.YthdfnkdifjajlaaGreatDoorKG50U
import Derived.Test.YthdfnkdifjajlaaGreatDoorKSdU
import Derived.Deep.DeepMust
import Derived.WalkMore
import Derived.Deep.LoopGhost
set_option linter.unusedVariables false
set_option linter.unusedSimpArgs false
namespace Go.Proofs.YthdfnkdifjajlaaGreatDoor
open Go.RowKit Go.Pb Go.Pb.Ware Go.Pb.Sag


theorem made_stands {w : World} {base n : Nat} {B : Nat} (h : w.ownsRow base 37 3 (.slice (some ⟨B,0,none⟩) n n) n (madeCells (Value.agg #[.int .i64 0, .int .i64 0, .bool false]).cells (n * 3)).toList) : PAt w B (List.replicate n ⟨0,0,false⟩) := by
 obtain ⟨_,h⟩ := h
 rcases h with ⟨h1,_⟩ | ⟨g,cap,cur,h1,h2,h3,h4,h5,h6,h7⟩
 ·cases h1
 injection h1 with e1 _ e2
 injection e1 with e1
 injection e1 with e1
 subst e1;subst e2
 intro k q hq j u hu
 have hk : k < n := by have := (List.getElem?_eq_some_iff.1 hq).1;simpa using this
 have hq2 : q = ⟨0,0,false⟩ := by have := (List.getElem?_eq_some_iff.1 hq).2;simpa using this.symm
 subst hq2
 have hj : j < 3 := by have := (List.getElem?_eq_some_iff.1 hu).1;simpa [cellsP] using this
 have hlt : k * 3 + j < n * 3 := by omega
 have h8 : (cur.toList.take (n * 3))[k * 3 + j]? = some u := by
  rw [h7]
  rw [Array.getElem?_toList]
  unfold madeCells
  rw [Array.getElem?_map,Array.getElem?_range,if_pos hlt]
  show some _ = some u
  congr 1
  have hm : (k * 3 + j) % 3 = j := by omega
  show (#[Value.int .i64 0, .int .i64 0, .bool false] : Array Value)[(k * 3 + j) % 3]! = u
  rw [hm]
  rcases (show j = 0 ∨ j = 1 ∨ j = 2 by omega) with rfl | rfl | rfl <;> (injection hu)
 rw [List.getElem?_take,if_pos hlt] at h8
 refine ⟨?_, ?_⟩
 ·simp only [World.cell?,h3];simpa using h8
 ·simp [World.frozen?,h3]
set_option maxRecDepth 100000 in
set_option maxHeartbeats 1000000 in
theorem searchP {w : World} {bid bwi bde bce bhi bbe : Int} {lv : Value} {fs : List Ft} {cv0 : Value} {J : Nat → World → Prop} {Jx : World → Prop} (hX : boxOk ⟨bid,bwi,bde,bce,bhi,bbe⟩ = true) (hl : FeetAt w lv fs) (hok : ∀ f ∈ fs,FtOk f) (hn : fs.length ≤ 5) (hJ : ∀ m W W',J m W → Below w.heap.size W W' → J m W') (h0 : J 0 w) (hshow : ∀ (m : Nat) (W : World) (pv : Value) (q : List St),(shownL ⟨bid,bwi,bde,bce,bhi,bbe⟩ fs)[m]? = some q → J m W → w.heap.size ≤ W.heap.size → StAt W pv (q.map toSq) → Calls Tryz.prog 44 #[pv,cv0] W (fun e W' => ∃ b,e = .returned (.bool b) ∧ KeepSeg w.heap.size W.heap.size W W' ∧ (b = true → J (m + 1) W') ∧ (b = false → Jx W'))) (hspots : ∀ (W : World) (v : Value),FeetAt W v fs → Calls Tryz.prog 65 #[.agg #[.int .i64 bid, .int .i64 bwi, .int .i64 bde, .int .i64 bce, .int .i64 bhi, .int .i64 bbe],v] W (fun e W' => ∃ u,e = .returned u ∧ Below W.heap.size W W' ∧ SpotsIn W.heap.size W'.heap.size u (fs.map (spotsL ⟨bid,bwi,bde,bce,bhi,bbe⟩)) W' ∧ W.heap.size ≤ W'.heap.size)) :
  Calls Tryz.prog 43 #[.agg #[.int .i64 bid, .int .i64 bwi, .int .i64 bde, .int .i64 bce, .int .i64 bhi, .int .i64 bbe],lv, .func (.func 44) #[] #[cv0]] w (fun e w' => e = .returned (.tuple #[]) ∧ (J (shownL ⟨bid,bwi,bde,bce,bhi,bbe⟩ fs).length w' ∨ Jx w')) := by
 obtain ⟨i0,hi,hz0,hz1,hz2⟩ := info_parts Tryz.infoS
 obtain ⟨la,lc,rfl,hll⟩ := hl.shape
 rw [List.length_map] at hl hll ⊢
 obtain ⟨b,hb⟩ : ∃ b,plainB ⟨bid,bwi,bde,bce,bhi,bbe⟩ fs = b := ⟨_,rfl⟩
 have HB := hid hb
 have HS := hid hshow;have HP := hid hspots;have HJ := hid hJ;clear hshow hspots hJ
 go_enter Tryz.func43,Tryz.ntmps43
 go_wp2_with fail
 go_step3
 go_wp2_with fail
 refine (plain_any hX (hl.below (by go_grown)) hok (by omega) HB.out).mono ?_
 rintro e w1 ⟨rfl,hb⟩
 replace hb0 := bnext (w := w) (by go_grown) hb;have hz := hb.size;(try simp only [World.size_alloc,World.size_setCell] at hz);replace q0 : w1.cell? ⟨w.heap.size,0,none⟩ = some (.int .i64 bid) := bkeep hb (by first|with_reducible exact q0|with_reducible exact akeep q0|simp[*,go_sem]);replace q1 : w1.cell? ⟨w.heap.size,1,none⟩ = some (.int .i64 bwi) := bkeep hb (by first|with_reducible exact q1|with_reducible exact akeep q1|simp[*,go_sem]);replace q2 : w1.cell? ⟨w.heap.size,2,none⟩ = some (.int .i64 bde) := bkeep hb (by first|with_reducible exact q2|with_reducible exact akeep q2|simp[*,go_sem]);replace q3 : w1.cell? ⟨w.heap.size,3,none⟩ = some (.int .i64 bce) := bkeep hb (by first|with_reducible exact q3|with_reducible exact akeep q3|simp[*,go_sem]);replace q4 : w1.cell? ⟨w.heap.size,4,none⟩ = some (.int .i64 bhi) := bkeep hb (by first|with_reducible exact q4|with_reducible exact akeep q4|simp[*,go_sem]);replace q5 : w1.cell? ⟨w.heap.size,5,none⟩ = some (.int .i64 bbe) := bkeep hb (by first|with_reducible exact q5|with_reducible exact akeep q5|simp[*,go_sem]);skip
 clear hb
 cases b
 ·have hsh : shownL ⟨bid,bwi,bde,bce,bhi,bbe⟩ fs = packsF (fs.map (spotsL ⟨bid,bwi,bde,bce,bhi,bbe⟩)) 0 := by unfold shownL allPacks;rw [hb];rfl
  obtain ⟨v1,hv1⟩ : ∃ v,v = w1 := ⟨_,rfl⟩
  subst hv1
  go_wp2_with fail
  refine (HP.out _ _ (hl.below hb0)).mono ?_
  rintro e w1 ⟨sv,rfl,hb3,hsp,hz3⟩
  have hb1 := bnext (w := w) hb0 hb3
  obtain ⟨v2,hv2⟩ : ∃ v,v = w1 := ⟨_,rfl⟩
  subst hv2
  obtain ⟨G,hG,hGv,hGs⟩ := hsp
  rw [List.length_map] at hGv
  subst hGv
  go_wp2_with (at_make;refine wpList_make_full _ rfl _ _ 22 rfl v2.heap.size 37 i0 (.agg #[.int .i64 0, .int .i64 0, .bool false]) 3 Tryz.underlying22 hi hz0 hz1 .i64 .i64 _ _ fs.length rfl rfl rfl rfl (by rw [hz2];omega) (by unfold maxLen;omega) (Nat.le_refl _) ?_;intro w5 ho5 hg5;have hP0 := made_stands ho5;have hb5 : Below v2.heap.size v2 w5 := (Below.refl _ v2).grown hg5 (Nat.le_refl _) (fun k h => by cases h);have hz5 := World.ownsRow.lt ho5 v2.heap.size rfl;clear ho5 hg5)
  go_step3
  have hw5 := hz5.2
  obtain ⟨W6,hW6⟩ : ∃ W6,((w5.alloc (.cells #[.int .i64 0, .int .i64 0, .int .i64 0, .int .i64 0, .int .i64 0, .int .i64 0] 128)).alloc (.cells #[.int .u64 0, .int .u64 0, .int .u64 0, .int .u64 0, .int .u64 0, .int .u64 0] 131)) = W6 := ⟨_,rfl⟩
  have hb6 : Below w5.heap.size w5 W6 := by rw [← hW6];exact ((Below.refl _ _).alloc (Nat.le_refl _) _).alloc (by simp) _
  have hz6 : W6.heap.size = w5.heap.size + 2 := by rw [← hW6];simp
  have hN6 : NAt .i64 W6 w5.heap.size (fun _ => 0) := by
   intro k hk
   rw [← hW6]
   rcases (show k = 0 ∨ k = 1 ∨ k = 2 ∨ k = 3 ∨ k = 4 ∨ k = 5 by omega) with rfl | rfl | rfl | rfl | rfl | rfl <;> simp [go_sem]
  have hT6 : NAt .u64 W6 (w5.heap.size + 1) (fun _ => 0) := by
   intro k hk
   rw [← hW6]
   rcases (show k = 0 ∨ k = 1 ∨ k = 2 ∨ k = 3 ∨ k = 4 ∨ k = 5 by omega) with rfl | rfl | rfl | rfl | rfl | rfl <;> simp [go_sem]
  rw [hW6]
  clear hW6
  go_wp2_with fail
  obtain ⟨sp,hspe⟩ : ∃ sp,fs.map (spotsL ⟨bid,bwi,bde,bce,bhi,bbe⟩) = sp := ⟨_,rfl⟩
  rw [hspe] at hsh hGs
  have hspn : sp.length = fs.length := by rw [← hspe,List.length_map]
  obtain ⟨n,hnn⟩ : ∃ n,fs.length = n := ⟨_,rfl⟩
  rw [hnn] at hspn hn hP0 hll ⊢
  obtain ⟨SV,hSV⟩ : ∃ SV,(Value.slice (some ⟨G,0,none⟩) n n) = SV := ⟨_,rfl⟩
  have hS6 : SpotsIn v1.heap.size v2.heap.size SV sp W6 := SpotsIn.keep ⟨G,hG,by rw [← hSV,hspn],hGs⟩ (KeepSeg.of_below (hb5.trans (hb6.mono (by omega))))
  have hP6 : PAt W6 v2.heap.size (List.replicate n ⟨0,0,false⟩) := hP0.keep (hb6.block _ (by omega))
  have hJ6 : J 0 W6 := HJ.out _ _ _ h0 (hb1.trans ((hb5.trans (hb6.mono (by omega))).mono (by have := hb1.size;omega)))
  rw [hSV]
  go_loopg [10] (left 2000 n (lenS sp) (fun _ => 0) 1 * 2 + 1) (fun gk iv wr => ∃ (d m : Nat) (p : List St) (nx tk : Nat → Nat),gk = left 2000 n (lenS sp) nx d * 2 + d ∧ iv = .int .i64 ((d : Int) - 1) ∧ d ≤ n + 1 ∧ p.length = n ∧ (∀ j,j < 6 → tk j < 2 ^ 36 ∧ nx j ≤ 1000) ∧ Hid ((shownL ⟨bid,bwi,bde,bce,bhi,bbe⟩ fs).drop m = remD sp p nx tk d) ∧ m ≤ (shownL ⟨bid,bwi,bde,bce,bhi,bbe⟩ fs).length ∧ J m wr ∧ SpotsIn v1.heap.size v2.heap.size SV sp wr ∧ PAt wr v2.heap.size p ∧ NAt .i64 wr w5.heap.size nx ∧ NAt .u64 wr (w5.heap.size + 1) tk ∧ w5.heap.size + 2 ≤ wr.heap.size)
  case atStart => exact ⟨1,0,List.replicate n ⟨0,0,false⟩,fun _ => 0,fun _ => 0,rfl,rfl,by omega,List.length_replicate,fun j _ => ⟨Nat.pow_pos (by decide),Nat.zero_le _⟩,(by rw [Hid,List.drop_zero,hsh];exact (start_show sp _ (by rw [List.length_replicate,hspn]) _ _ rfl rfl).symm),by omega,hJ6,hS6,hP6,hN6,hT6,by omega⟩
  case round =>
   obtain ⟨d,m,p,nx,tk,hgk,rfl,hd,hpl,hbt,HR,hm,hJm,hS,hPP,hNN,hTT,hzr⟩ := hrel
   cases d with
   | zero =>
    have hmt := drop_done hm HR.out
    have HM := hid hmt;clear hmt
    go_wp2_with fail
    rw [Exit.noGoto_normal]
    go_end0
    exact ⟨rfl, .inl (by rw [← HM.out];exact hJm)⟩
   | succ i =>
    rw [show (((i + 1 : Nat) : Int) - 1) = (i : Int) by omega]
    have hii : (0 : Int) ≤ (i : Int) := by omega
    by_cases hin : i = n
    ·subst hin
     have hl : lenS sp i = 0 := by unfold lenS;rw [List.getD_eq_getElem?_getD,List.getElem?_eq_none (by omega)];rfl
     have hbk := left_back (B := 2000) (n := i) (len := lenS sp) (nx := nx) (i := i) (by omega)
     have HMS := hid (show left 2000 i (lenS sp) nx i * 2 + i < gk by omega)
     clear hl hbk
     have hfs : toShow sp p nx tk i = p :: levs sp p nx tk i := by rw [← hspn];exact full_show _ _ _ _
     have hdr := HR.out
     rw [show remD sp p nx tk (i + 1) = toShow sp p nx tk i from rfl,hfs] at hdr
     obtain ⟨hd1,hd2,hd3⟩ := drop_head hdr
     have hst := hPP.stAt (by omega)
     rw [hpl] at hst
     have hcall := HS.out m wr _ p hd1 hJm (by omega) hst
     have HD := hid hd2;clear hd1 hd2 hdr hfs hst
     go_wp2_with fail
     refine hcall.mono ?_
     rintro e w8 ⟨b,rfl,hks,hb1,hb2⟩
     have hk1 := hks.1
     have hk0 := hks.2
     have hS2 := hS.keep (lo := v1.heap.size) (hi := v2.heap.size) ⟨hks.1,fun k h1 h2 => hk0 k (by omega) (by omega)⟩
     have hP2 := hPP.keep (hk0 v2.heap.size (by omega) (by omega))
     have hN2 := hNN.keep (hk0 w5.heap.size (by omega) (by omega))
     have hT2 := hTT.keep (hk0 (w5.heap.size + 1) (by omega) (by omega))
     cases b
     ·go_wp2_with fail
      rw [Exit.noGoto_normal]
      go_end0
      exact ⟨rfl, .inr (hb2 (by first | rfl | trivial))⟩
     ·have hJ2 := hb1 (by first | rfl | trivial)
      go_wp2_with fail
      go_roundg (left 2000 i (lenS sp) nx i * 2 + i)
      case measure => exact HMS.out
      case rel => exact ⟨i,m + 1,p,nx,tk,rfl,by go_num,by omega,hpl,hbt,(by rw [Hid,HD.out];exact remD_levs (by omega)),by omega,hJ2,hS2,hP2,hN2,hT2,by omega⟩
    ·have hlt : i < n := by omega
     have hne : ¬ (i : Int) = (n : Int) := by omega
     subst hSV
     have hsi : i < sp.length := by omega
     have HPL := hid hpl;have HSN := hid hspn;clear hpl hspn
     obtain ⟨GK,rfl⟩ : ∃ GK,GK = gk := ⟨gk,rfl⟩
     have hhr : (shownL ⟨bid,bwi,bde,bce,bhi,bbe⟩ fs).drop m = toShow sp p nx tk i := HR.out
     have HR1 := hid hhr;clear hhr HR
     have hgk2 : left 2000 n (lenS sp) nx (i + 1) * 2 + (i + 1) = GK := hgk.symm
     have HGK := hid hgk2
     clear hgk2 hgk
     go_wp2_with fail
     rw [show (((i : Nat) : Int) == ((n : Nat) : Int)) = false from beq_eq_false_iff_ne.mpr hne]
     go_loopg [10] (lenS sp i - nx i) (fun g2 iv wr => ∃ (nx2 : Nat → Nat),iv = .int .i64 (i : Int) ∧ g2 = lenS sp i - nx2 i ∧ left 2000 n (lenS sp) nx2 (i + 1) ≤ left 2000 n (lenS sp) nx (i + 1) ∧ (∀ j,j < 6 → nx2 j ≤ 1000) ∧ Hid ((shownL ⟨bid,bwi,bde,bce,bhi,bbe⟩ fs).drop m = toShow sp p nx2 tk i) ∧ J m wr ∧ SpotsIn v1.heap.size v2.heap.size (.slice (some ⟨G,0,none⟩) n n) sp wr ∧ PAt wr v2.heap.size p ∧ NAt .i64 wr w5.heap.size nx2 ∧ NAt .u64 wr (w5.heap.size + 1) tk ∧ w5.heap.size + 2 ≤ wr.heap.size)
     case atStart => exact ⟨nx,rfl,rfl,Nat.le_refl _,fun j hj => (hbt j hj).2,HR1,hJm,hS,hPP,hNN,hTT,hzr⟩
     case round =>
      skip
      clear hJm hS hPP hNN hTT hzr HR1
      obtain ⟨nx2,rfl,hg2,hlf,hb2,HR2,hJm,hS,hPP,hNN,hTT,hzr⟩ := hrel
      obtain ⟨g',hg',e',hs'⟩ := hS
      obtain rfl : G = g' := by injection e' with e1 _ _;injection e1 with e1;injection e1
      obtain ⟨l,hl⟩ : ∃ l,sp[i]? = some l := ⟨_,List.getElem?_eq_getElem hsi⟩
      have hlen : lenS sp i = l.length := by unfold lenS;rw [List.getD_eq_getElem?_getD,hl];rfl
      obtain ⟨la2,lc2,c0,hll2,hrow⟩ := hs' i l hl
      have hS : SpotsIn v1.heap.size v2.heap.size (.slice (some ⟨G,0,none⟩) n n) sp wr := ⟨G,hg',e',hs'⟩
      have HSP := hid hs'
      clear e' hs'
      have c1 := (hNN i (by omega)).1
      have hi6 : (i : Int) < 6 := by omega
      have hiN : (i : Int) < (n : Int) := by omega
      have x0 := fun x : BW wr => bkeep x.below c0
      have x1 := fun x : BW wr => bkeep x.below c1
      go_upto_region 11 with fail
      refine wp_region_qb (by kernel_rfl) (by kernel_rfl) fun hc => ?_
      repeat (go_big_quiet_step (fail))
      (refine wpQuiet_nil ?_;intro w1 hb;have hS2 := hS.keep (KeepSeg.of_below (lo := v1.heap.size) (hi := v2.heap.size) (hb.mono (by omega)));have hP2 := hPP.keep (hb.block v2.heap.size (by omega));have hN2 := hNN.keep (hb.block w5.heap.size (by omega));have hT2 := hTT.keep (hb.block (w5.heap.size + 1) (by omega));have hJ2 := HJ.out _ _ _ hJm (hb.mono (by omega));have hzr2 := hb.size;clear hS hPP hNN hTT hJm;have hS := hS2;have hPP := hP2;have hNN := hN2;have hTT := hT2;have hJm := hJ2;clear hS2 hP2 hN2 hT2 hJ2)
      clear x0 x1 c0 c1 hrow hll2 HSP
      by_cases hnl : nx2 i < l.length
      ·have hnli : (nx2 i : Int) < (l.length : Int) := by omega
       obtain ⟨v7,hv7⟩ : ∃ v,v = w1 := ⟨_,rfl⟩
       subst hv7
       obtain ⟨gX,hgX,eX,hsX⟩ := hS
       obtain rfl : G = gX := by injection eX with e1 _ _;injection e1 with e1;injection e1
       obtain ⟨la2,lc2,c0,hll2,hrow⟩ := hsX i l hl
       have hS : SpotsIn v1.heap.size v2.heap.size (.slice (some ⟨G,0,none⟩) n n) sp v7 := ⟨G,hgX,eX,hsX⟩
       clear eX hsX
       have c1 := (hNN i (by omega)).1
       obtain ⟨a,ha⟩ : ∃ a,l[nx2 i]? = some a := ⟨_,List.getElem?_eq_getElem hnl⟩
       obtain ⟨b,hbb,rfl,hcs⟩ := hrow _ a ha
       obtain ⟨⟨ay,ax,at'⟩,am⟩ := a
       have d0 := hcs 0 _ rfl
       have d1 := hcs 1 _ rfl
       have d2 := hcs 2 _ rfl
       have d3 := hcs 3 _ rfl
       rw [Nat.add_zero] at d0
       dsimp only at d0 d1 d2 d3
       clear hcs hrow
       have HA := hid ha
       clear ha
       go_upto_region 12 with fail
       refine wp_region_Rs [(9,NewCells v7.heap.size [.int .i64 0, .int .i64 0, .bool false, .int .u64 0])] [0,1,2,3,4,5,6,7,8,9] 1 (by kernel_rfl) rfl (by simp only [List.forall_mem_cons];exact ⟨keeps_new,fun _ h => by cases h⟩) (by kernel_rfl) ?_
       simp only [numbered,List.filterMap_cons,List.filterMap_nil,List.getElem?_toArray,List.getElem?_cons_succ,List.getElem?_cons_zero,Option.map_some]
       show wpS _ _ _ _ _ _ _ [(_,_),(_,_),(_,_),(_,_),(_,_),(_,_),(_,_),(_,_),(_,_),(_,_)] _ _
       (refine wpS_quiet rfl rfl ?_;intro K hK inst hx;go_big_quiet_op;(first | go_big_quiet_on | (refine ⟨_,fun _ => rfl, ?_⟩;go_big_quiet_on));clear hx inst)
       (refine wpS_quiet rfl rfl ?_;intro K hK inst hx;go_big_quiet_op;(first | go_big_quiet_on | (refine ⟨_,fun _ => rfl, ?_⟩;go_big_quiet_on));clear hx inst)
       (refine wpS_quiet rfl rfl ?_;intro K hK inst hx;go_big_quiet_op;(first | go_big_quiet_on | (refine ⟨_,fun _ => rfl, ?_⟩;go_big_quiet_on));clear hx inst)
       (refine wpS_quiet rfl rfl ?_;intro K hK inst hx;have s_c0 := fun x => (fun _ => bkeep (BQ.below x) c0) (hx x);go_big_quiet_op;(first | go_big_quiet_on | (refine ⟨_,fun _ => rfl, ?_⟩;go_big_quiet_on));clear hx inst)
       (refine wpS_quiet rfl rfl ?_;intro K hK inst hx;go_big_quiet_op;(first | go_big_quiet_on | (refine ⟨_,fun _ => rfl, ?_⟩;go_big_quiet_on));clear hx inst)
       (refine wpS_quiet rfl rfl ?_;intro K hK inst hx;go_big_quiet_op;(first | go_big_quiet_on | (refine ⟨_,fun _ => rfl, ?_⟩;go_big_quiet_on));clear hx inst)
       (refine wpS_quiet rfl rfl ?_;intro K hK inst hx;have s_c1 := fun x => (fun _ => bkeep (BQ.below x) c1) (hx x);go_big_quiet_op;(first | go_big_quiet_on | (refine ⟨_,fun _ => rfl, ?_⟩;go_big_quiet_on));clear hx inst)
       (refine wpS_quiet rfl rfl ?_;intro K hK inst hx;go_big_quiet_op;(first | go_big_quiet_on | (refine ⟨_,fun _ => rfl, ?_⟩;go_big_quiet_on));clear hx inst)
       (refine wpS_quiet rfl rfl ?_;intro K hK inst hx;have s_d0 := fun x => (fun _ => bkeep (BQ.below x) d0) (hx x);have s_d1 := fun x => (fun _ => bkeep (BQ.below x) d1) (hx x);have s_d2 := fun x => (fun _ => bkeep (BQ.below x) d2) (hx x);have s_d3 := fun x => (fun _ => bkeep (BQ.below x) d3) (hx x);go_big_quiet_op;(first | go_big_quiet_on | (refine ⟨_,fun _ => rfl, ?_⟩;go_big_quiet_on));clear hx inst)
       refine wpS_fresh rfl rfl (fun w' hb hF => ?_) ?_
       ·change freshAt _ _ _ (NewCells v7.heap.size [.int .i64 0, .int .i64 0, .bool false, .int .u64 0]) _;unfold freshAt;go_simp;exact new_of hb
       intro v W hv;simp only [pOf,List.lookup_cons,Nat.reduceBEq,beq_self_eq_true] at hv;obtain ⟨B9,hB9,rfl,_⟩ := hv
       simp only [Act.put,List.setIfInBounds_toArray,List.set_cons_succ,List.set_cons_zero]
       refine wpS_nil ?_
       intro w2 hall
       have hb := hall.1
       have hN : NewCells v7.heap.size [.int .i64 0, .int .i64 0, .bool false, .int .u64 0] (.pointer (some ⟨B9,0,none⟩)) w2 := hall.2 9 _ rfl
       obtain ⟨B',hB',hv',hn⟩ := hN
       obtain rfl : B9 = B' := by simpa using hv'
       have nB90 := (hn 0 _ rfl).1
       have mB90 := (hn 0 _ rfl).2
       have nB91 := (hn 1 _ rfl).1
       have mB91 := (hn 1 _ rfl).2
       have nB92 := (hn 2 _ rfl).1
       have mB92 := (hn 2 _ rfl).2
       have nB93 := (hn 3 _ rfl).1
       have mB93 := (hn 3 _ rfl).2
       clear hn hv'
       clear hall
       refine wpAny_ready (rs := [10]) (by kernel_rfl) (by simp) ?_
       refine AllReady.cons rfl (fun K hK => ?_) AllReady.nil
       go_simp
       refine hK _ _ ?_;clear hK K
       refine wpAny_done (by kernel_rfl) ?_ _
       go_upto_region 13 with fail
       generalize hW4 : (World.setCell (World.setCell (World.setCell (World.setCell w2 ⟨B9,0,none⟩ _) ⟨B9,1,none⟩ _) ⟨B9,2,none⟩ _) ⟨B9,3,none⟩ _) = W4
       have hbB : Below v7.heap.size v7 W4 := by rw [← hW4];exact ((((hb.setCell (p := ⟨B9,0,none⟩) hB' _).setCell (p := ⟨B9,1,none⟩) hB' _).setCell (p := ⟨B9,2,none⟩) hB' _).setCell (p := ⟨B9,3,none⟩) hB' _)
       have f0 : W4.cell? ⟨B9,0,none⟩ = some (.int .i64 (ay : Int)) := by rw [← hW4];simp [go_sem,nB90,nB91,nB92,nB93]
       have f1 : W4.cell? ⟨B9,1,none⟩ = some (.int .i64 (ax : Int)) := by rw [← hW4];simp [go_sem,nB90,nB91,nB92,nB93]
       have f2 : W4.cell? ⟨B9,2,none⟩ = some (.bool at') := by rw [← hW4];simp [go_sem,nB90,nB91,nB92,nB93]
       have f3 : W4.cell? ⟨B9,3,none⟩ = some (.int .u64 (am : Int)) := by rw [← hW4];simp [go_sem,nB90,nB91,nB92,nB93]
       clear hW4 hb nB90 mB90 nB91 mB91 nB92 mB92 nB93 mB93
       have hb := hbB;clear hbB
       have hS2 := hS.keep (KeepSeg.of_below (lo := v1.heap.size) (hi := v2.heap.size) (hb.mono (by omega)))
       have hP2 := hPP.keep (hb.block v2.heap.size (by omega))
       have hN2 := hNN.keep (hb.block w5.heap.size (by omega))
       have hT2 := hTT.keep (hb.block (w5.heap.size + 1) (by omega))
       have hJ2 := HJ.out _ _ _ hJm (hb.mono (by omega))
       have hzr2 := hb.size
       clear hS hPP hNN hTT hJm
       have hS := hS2;have hPP := hP2;have hNN := hN2;have hTT := hT2;have hJm := hJ2;clear hS2 hP2 hN2 hT2 hJ2
       clear hb
       clear c0 c1 d0 d1 d2 d3
       have hB9l := World.block_lt_of_cell? W4 _ f0
       have c1 := (hNN i (by omega)).1
       have g1 := (hNN i (by omega)).2
       go_upto_region 14 with fail
       have hNs := hNN.set (v := nx2 i + 1) (show i < 6 by omega)
       rw [show ((nx2 i + 1 : Nat) : Int) = (nx2 i : Int) + 1 by omega] at hNs
       obtain ⟨W7,hW7⟩ : ∃ W7,W4.setCell ⟨w5.heap.size,i,none⟩ (.int .i64 ((nx2 i : Int) + 1)) = W7 := ⟨_,rfl⟩
       rw [hW7] at hNs ⊢
       have hset : ∀ k,k ≠ w5.heap.size → W7.heap[k]? = W4.heap[k]? := fun k hk => by rw [← hW7];exact Below.heap_setCell _ _ _ _ hk
       have hb7 : Below w.heap.size W4 W7 := by rw [← hW7];exact (Below.refl _ _).setCell (p := ⟨w5.heap.size,i,none⟩) (by have := hb1.size;show w.heap.size ≤ w5.heap.size;omega) _
       have hz7 := hb7.size
       have hS := hS.keep (lo := v1.heap.size) (hi := v2.heap.size) (W' := W7) ⟨hz7,fun k h1 h2 => hset k (by omega)⟩
       have hPP := hPP.keep (W' := W7) (hset _ (by omega))
       have hTT := hTT.keep (W' := W7) (hset _ (by omega))
       have hJm := HJ.out _ _ _ hJm hb7
       have f0 : W7.cell? ⟨B9,0,none⟩ = some (.int .i64 (ay : Int)) := (World.cell?_of_block (w := W4) (a := ⟨B9,0,none⟩) (hset B9 (by omega))).trans f0
       have f1 : W7.cell? ⟨B9,1,none⟩ = some (.int .i64 (ax : Int)) := (World.cell?_of_block (w := W4) (a := ⟨B9,1,none⟩) (hset B9 (by omega))).trans f1
       have f2 : W7.cell? ⟨B9,2,none⟩ = some (.bool at') := (World.cell?_of_block (w := W4) (a := ⟨B9,2,none⟩) (hset B9 (by omega))).trans f2
       have f3 : W7.cell? ⟨B9,3,none⟩ = some (.int .u64 (am : Int)) := (World.cell?_of_block (w := W4) (a := ⟨B9,3,none⟩) (hset B9 (by omega))).trans f3
       clear hNN hset hb7 hW7 c1 g1
       have hNN := hNs;clear hNs
       have c2 := (hTT i (by omega)).1
       have hmk : am < 2 ^ 36 := spots_mask hX hok (by rw [hspe];exact hl) HA.out
       have htk := (hbt i (by omega)).1
       obtain ⟨me,hme⟩ : ∃ me,(tk i &&& am != 0) = me := ⟨_,rfl⟩
       have HME := hid hme
       clear hme
       have x_c2 := fun x : BW W7 => bkeep x.below c2
       have x_f3 := fun x : BW W7 => bkeep x.below f3
       refine wp_region_qb (by kernel_rfl) (by kernel_rfl) fun hc => ?_
       repeat (go_big_quiet_step ((go_at_call 66;exact BW.call _ (meets_any htk hmk HME.out))))
       (refine wpQuiet_nil ?_;intro w1 hb;replace f0 := bkeep hb f0;replace f1 := bkeep hb f1;replace f2 := bkeep hb f2;replace f3 := bkeep hb f3;have hS2 := hS.keep (KeepSeg.of_below (lo := v1.heap.size) (hi := v2.heap.size) (hb.mono (by omega)));have hP2 := hPP.keep (hb.block v2.heap.size (by omega));have hN2 := hNN.keep (hb.block w5.heap.size (by omega));have hT2 := hTT.keep (hb.block (w5.heap.size + 1) (by omega));have hJ2 := HJ.out _ _ _ hJm (hb.mono (by omega));have hzr2 := hb.size;clear hS hPP hNN hTT hJm;have hS := hS2;have hPP := hP2;have hNN := hN2;have hTT := hT2;have hJm := hJ2;clear hS2 hP2 hN2 hT2 hJ2)
       clear x_c2 x_f3 c2
       have hgd : sp.getD i [] = l := by rw [List.getD_eq_getElem?_getD,hl];rfl
       have hget : (sp.getD i [])[nx2 i]? = some (⟨ay,ax,at'⟩,am) := by rw [hgd];exact HA.out
       have HGET := hid hget;clear hget hgd
       have hll3 : l.length ≤ 1000 := by omega
       have hnl2 : nx2 i < lenS sp i := by omega
       cases me
       ·have hpi : i < p.length := by have := HPL.out;omega
        have o0 := hPP i p[i] (List.getElem?_eq_getElem hpi) 0 _ rfl
        have o1 := hPP i p[i] (List.getElem?_eq_getElem hpi) 1 _ rfl
        have o2 := hPP i p[i] (List.getElem?_eq_getElem hpi) 2 _ rfl
        rw [Nat.add_zero] at o0
        obtain ⟨o0,u0⟩ := o0
        obtain ⟨o1,u1⟩ := o1
        obtain ⟨o2,u2⟩ := o2
        go_upto_region 16 with fail
        have hPs := hPP.set (a := ⟨ay,ax,at'⟩) hpi
        dsimp only at hPs
        obtain ⟨W8,hW8⟩ : ∃ W8,((w1.setCell ⟨v2.heap.size,i * 3,none⟩ (.int .i64 (ay : Int))).setCell ⟨v2.heap.size,i * 3 + 1,none⟩ (.int .i64 (ax : Int))).setCell ⟨v2.heap.size,i * 3 + 2,none⟩ (.bool at') = W8 := ⟨_,rfl⟩
        rw [hW8] at hPs ⊢
        have hset : ∀ k,k ≠ v2.heap.size → W8.heap[k]? = w1.heap[k]? := fun k hk => by rw [← hW8];exact (Below.heap_setCell _ _ _ _ hk).trans ((Below.heap_setCell _ _ _ _ hk).trans (Below.heap_setCell _ _ _ _ hk))
        have hv2w : w.heap.size ≤ v2.heap.size := hb1.size
        have hb8 : Below w.heap.size w1 W8 := by rw [← hW8];exact (((Below.refl _ _).setCell (p := ⟨v2.heap.size,i * 3,none⟩) hv2w _).setCell (p := ⟨v2.heap.size,i * 3 + 1,none⟩) hv2w _).setCell (p := ⟨v2.heap.size,i * 3 + 2,none⟩) hv2w _
        have hz8 := hb8.size
        have hS := hS.keep (lo := v1.heap.size) (hi := v2.heap.size) (W' := W8) ⟨hz8,fun k h1 h2 => hset k (by omega)⟩
        have hNN := hNN.keep (W' := W8) (hset _ (by omega))
        have hTT := hTT.keep (W' := W8) (hset _ (by omega))
        have hJm := HJ.out _ _ _ hJm hb8
        have f0 : W8.cell? ⟨B9,0,none⟩ = some (.int .i64 (ay : Int)) := (World.cell?_of_block (w := w1) (a := ⟨B9,0,none⟩) (hset B9 (by omega))).trans f0
        have f1 : W8.cell? ⟨B9,1,none⟩ = some (.int .i64 (ax : Int)) := (World.cell?_of_block (w := w1) (a := ⟨B9,1,none⟩) (hset B9 (by omega))).trans f1
        have f2 : W8.cell? ⟨B9,2,none⟩ = some (.bool at') := (World.cell?_of_block (w := w1) (a := ⟨B9,2,none⟩) (hset B9 (by omega))).trans f2
        have f3 : W8.cell? ⟨B9,3,none⟩ = some (.int .u64 (am : Int)) := (World.cell?_of_block (w := w1) (a := ⟨B9,3,none⟩) (hset B9 (by omega))).trans f3
        clear hPP hset hb8 hW8 o0 o1 o2 u0 u1 u2
        have hPP := hPs;clear hPs
        have c2 := (hTT i (by omega)).1
        have c3 := (hTT (i + 1) (by omega)).1
        have g3 := (hTT (i + 1) (by omega)).2
        have hi7 : (i : Int) + 1 < 6 := by omega
        have x_c2 := fun x : BW W8 => bkeep x.below c2
        have x_f3 := fun x : BW W8 => bkeep x.below f3
        refine wp_region_gb [0,1,2,3,4,5,6,7,8] 1 (by kernel_rfl) rfl (by kernel_rfl) fun hc => ?_
        simp only [named,List.filterMap_cons,List.filterMap_nil,List.getElem?_toArray,List.getElem?_cons_succ,List.getElem?_cons_zero]
        show wpQuiet _ _ _ _ [_,_,_,_,_,_,_,_,_] _
        repeat (go_big_quiet_step ((go_at_call 67;exact BW.call _ (with_any htk hmk))))
        (refine wpQuiet_nil ?_;intro w9 hb;have hS2 := hS.keep (KeepSeg.of_below (lo := v1.heap.size) (hi := v2.heap.size) (hb.mono (by omega)));have hP2 := hPP.keep (hb.block v2.heap.size (by omega));have hN2 := hNN.keep (hb.block w5.heap.size (by omega));have hT2 := hTT.keep (hb.block (w5.heap.size + 1) (by omega));have hJ2 := HJ.out _ _ _ hJm (hb.mono (by omega));have hzr2 := hb.size;clear hS hPP hNN hTT hJm;have hS := hS2;have hPP := hP2;have hNN := hN2;have hTT := hT2;have hJm := hJ2;clear hS2 hP2 hN2 hT2 hJ2)
        clear x_c2 x_f3 c2 c3 g3
        have c3 := (hTT (i + 1) (by omega)).1
        have g3 := (hTT (i + 1) (by omega)).2
        refine wpAny_ready (rs := [9]) (by kernel_rfl) (by simp) ?_
        refine AllReady.cons rfl (fun K hK => ?_) AllReady.nil
        go_simp
        refine hK _ _ ?_;clear hK K
        refine wpAny_done (by kernel_rfl) ?_ _
        go_upto_region 17 with fail
        have hTs := hTT.set (v := tk i ||| am) (show i + 1 < 6 by omega)
        obtain ⟨W10,hW10⟩ : ∃ W10,w9.setCell ⟨w5.heap.size + 1,i + 1,none⟩ (.int .u64 ((tk i ||| am : Nat) : Int)) = W10 := ⟨_,rfl⟩
        rw [hW10] at hTs ⊢
        have hset : ∀ k,k ≠ w5.heap.size + 1 → W10.heap[k]? = w9.heap[k]? := fun k hk => by rw [← hW10];exact Below.heap_setCell _ _ _ _ hk
        have hb10 : Below w.heap.size w9 W10 := by rw [← hW10];exact (Below.refl _ _).setCell (p := ⟨w5.heap.size + 1,i + 1,none⟩) (by show w.heap.size ≤ w5.heap.size + 1;have := hb1.size;omega) _
        have hz10 := hb10.size
        have hS := hS.keep (lo := v1.heap.size) (hi := v2.heap.size) (W' := W10) ⟨hz10,fun k h1 h2 => hset k (by omega)⟩
        have hPP := hPP.keep (W' := W10) (hset _ (by omega))
        have hNN := hNN.keep (W' := W10) (hset _ (by omega))
        have hJm := HJ.out _ _ _ hJm hb10
        clear hTT hset hb10 hW10
        have hTT := hTs;clear hTs
        have c1 := (hNN (i + 1) (by omega)).1
        have g1 := (hNN (i + 1) (by omega)).2
        go_upto_region 18 with fail
        have hNs := hNN.set (v := 0) (show i + 1 < 6 by omega)
        rw [show ((0 : Nat) : Int) = 0 from rfl] at hNs
        obtain ⟨W11,hW11⟩ : ∃ W11,W10.setCell ⟨w5.heap.size,i + 1,none⟩ (.int .i64 0) = W11 := ⟨_,rfl⟩
        rw [hW11] at hNs ⊢
        have hset : ∀ k,k ≠ w5.heap.size → W11.heap[k]? = W10.heap[k]? := fun k hk => by rw [← hW11];exact Below.heap_setCell _ _ _ _ hk
        have hb11 : Below w.heap.size W10 W11 := by rw [← hW11];exact (Below.refl _ _).setCell (p := ⟨w5.heap.size,i + 1,none⟩) (by show w.heap.size ≤ w5.heap.size;have := hb1.size;omega) _
        have hz11 := hb11.size
        have hS := hS.keep (lo := v1.heap.size) (hi := v2.heap.size) (W' := W11) ⟨hz11,fun k h1 h2 => hset k (by omega)⟩
        have hPP := hPP.keep (W' := W11) (hset _ (by omega))
        have hTT := hTT.keep (W' := W11) (hset _ (by omega))
        have hJm := HJ.out _ _ _ hJm hb11
        clear hNN hset hb11 hW11 c1 g1
        have hNN := hNs;clear hNs
        have hlB : lenS sp (i + 1) < 2000 := by
         obtain ⟨gX,hgX,eX,hsX⟩ := hS
         unfold lenS
         rw [List.getD_eq_getElem?_getD]
         rcases Nat.lt_or_ge (i + 1) sp.length with h | h
         ·obtain ⟨_,_,_,hq,_⟩ := hsX (i + 1) sp[i + 1] (List.getElem?_eq_getElem h)
          rw [List.getElem?_eq_getElem h]
          show sp[i + 1].length < 2000
          omega
         ·rw [List.getElem?_eq_none h]
          exact (by decide : (0 : Nat) < 2000)
        have hld := left_deeper (B := 2000) (n := n) (len := lenS sp) (nx := nx2) (i := i) hlt hlB hnl2
        have hgk3 := HGK.out
        have HMS := hid (show left 2000 n (lenS sp) (upd1 (upd1 nx2 i (nx2 i + 1)) (i + 1) 0) (i + 2) * 2 + (i + 2) < GK by omega)
        clear hgk3 hld hlB
        have hbt2 : ∀ j,j < 6 → upd1 tk (i + 1) (tk i ||| am) j < 2 ^ 36 ∧ upd1 (upd1 nx2 i (nx2 i + 1)) (i + 1) 0 j ≤ 1000 := fun j hj => by (by_cases e : j = i + 1);(subst e;rw [upd1_at,upd1_at];exact ⟨Nat.or_lt_two_pow htk hmk,Nat.zero_le _⟩);(rw [upd1_ne _ _ e,upd1_ne _ _ e];refine ⟨(hbt j hj).1, ?_⟩;(by_cases e2 : j = i);(subst e2;rw [upd1_at];omega);(rw [upd1_ne _ _ e2];exact hb2 j hj))
        go_wp2_with fail
        go_roundg (left 2000 n (lenS sp) (upd1 (upd1 nx2 i (nx2 i + 1)) (i + 1) 0) (i + 2) * 2 + (i + 2))
        case measure => exact HMS.out
        case rel => exact ⟨i + 2,m,p.set i ⟨ay,ax,at'⟩,upd1 (upd1 nx2 i (nx2 i + 1)) (i + 1) 0,upd1 tk (i + 1) (tk i ||| am),rfl,by go_num,by omega,(by rw [List.length_set];exact HPL.out),hbt2,(by rw [Hid,HR2.out];exact (go_deeper hsi (HPL.out.trans HSN.out.symm) HGET.out HME.out).symm),hm,hJm,hS,hPP,hNN,hTT,by omega⟩
       ·have hgk5 : lenS sp i - (nx2 i + 1) < l.length - nx2 i := by omega
        have HM5 := hid hgk5;clear hgk5
        have hp6 : ∀ j,j < 6 → upd1 nx2 i (nx2 i + 1) j ≤ 1000 := fun j hj => by (by_cases e : j = i);(subst e;rw [upd1_at];omega);(rw [upd1_ne _ _ e];exact hb2 j hj)
        have hl6 : left 2000 n (lenS sp) (upd1 nx2 i (nx2 i + 1)) (i + 1) ≤ left 2000 n (lenS sp) nx (i + 1) := Nat.le_trans (Nat.le_of_lt (left_past (by decide) hnl2)) hlf
        have HL6 := hid hl6;clear hl6
        go_wp2_with fail
        go_roundg (lenS sp i - (nx2 i + 1))
        case measure => exact HM5.out
        case rel => exact ⟨upd1 nx2 i (nx2 i + 1),rfl,by rw [upd1_at],HL6.out,hp6,(by rw [Hid,HR2.out];exact (go_past hsi HGET.out HME.out).symm),hJm,hS,hPP,hNN,hTT,by omega⟩
      ·have hnli : ¬ (nx2 i : Int) < (l.length : Int) := by omega
       have hnlj : (l.length : Int) ≤ (nx2 i : Int) := by omega
       have hbk := left_back (B := 2000) (n := n) (len := lenS sp) (nx := nx2) (i := i) (by omega)
       have hgk3 := HGK.out
       have HMS := hid (show left 2000 n (lenS sp) nx2 i * 2 + i < GK by omega)
       clear hgk3
       have HGB := hid (go_back (p := p) (tk := tk) hsi (show (sp.getD i []).length ≤ nx2 i from by show lenS sp i ≤ nx2 i;omega))
       have hbt2 : ∀ j,j < 6 → tk j < 2 ^ 36 ∧ nx2 j ≤ 1000 := fun j hj => ⟨(hbt j hj).1,hb2 j hj⟩
       clear hbk
       go_wp2_with fail
       go_roundg (left 2000 n (lenS sp) nx2 i * 2 + i)
       case measure => exact HMS.out
       case rel => exact ⟨i,m,p,nx2,tk,rfl,by go_num,by omega,HPL.out,hbt2,(by rw [Hid,HR2.out,HGB.out];exact remD_levs (by omega)),hm,hJm,hS,hPP,hNN,hTT,by omega⟩
 ·go_wp2_with fail
  rw [Exit.noGoto_ret]
  refine bodyPost_ret (results_none rfl _ _ _) rfl ?_
  exact ⟨rfl, .inl (by rw [show shownL ⟨bid,bwi,bde,bce,bhi,bbe⟩ fs = [] from by unfold shownL;rw [hb];rfl];exact HJ.out _ _ _ h0 hb0)⟩
set_option maxRecDepth 100000 in
set_option maxHeartbeats 1000000 in
theorem searchN {w : World} {bid bwi bde bce bhi bbe : Int} {lv : Value} {fs : List Ft} {cv0 cv1 cv2 cv3 : Value} {J : Nat → World → Prop} {Jx : World → Prop} (hX : boxOk ⟨bid,bwi,bde,bce,bhi,bbe⟩ = true) (hl : FeetAt w lv fs) (hok : ∀ f ∈ fs,FtOk f) (hn : fs.length ≤ 5) (hJ : ∀ m W W',J m W → Below w.heap.size W W' → J m W') (h0 : J 0 w) (hshow : ∀ (m : Nat) (W : World) (pv : Value) (q : List St),(shownL ⟨bid,bwi,bde,bce,bhi,bbe⟩ fs)[m]? = some q → J m W → w.heap.size ≤ W.heap.size → StAt W pv (q.map toSq) → Calls Tryz.prog 62 #[pv,cv0,cv1,cv2,cv3] W (fun e W' => ∃ b,e = .returned (.bool b) ∧ KeepSeg w.heap.size W.heap.size W W' ∧ (b = true → J (m + 1) W') ∧ (b = false → Jx W'))) (hspots : ∀ (W : World) (v : Value),FeetAt W v fs → Calls Tryz.prog 65 #[.agg #[.int .i64 bid, .int .i64 bwi, .int .i64 bde, .int .i64 bce, .int .i64 bhi, .int .i64 bbe],v] W (fun e W' => ∃ u,e = .returned u ∧ Below W.heap.size W W' ∧ SpotsIn W.heap.size W'.heap.size u (fs.map (spotsL ⟨bid,bwi,bde,bce,bhi,bbe⟩)) W' ∧ W.heap.size ≤ W'.heap.size)) :
  Calls Tryz.prog 43 #[.agg #[.int .i64 bid, .int .i64 bwi, .int .i64 bde, .int .i64 bce, .int .i64 bhi, .int .i64 bbe],lv, .func (.func 62) #[] #[cv0,cv1,cv2,cv3]] w (fun e w' => e = .returned (.tuple #[]) ∧ (J (shownL ⟨bid,bwi,bde,bce,bhi,bbe⟩ fs).length w' ∨ Jx w')) := by
 obtain ⟨i0,hi,hz0,hz1,hz2⟩ := info_parts Tryz.infoS
 obtain ⟨la,lc,rfl,hll⟩ := hl.shape
 rw [List.length_map] at hl hll ⊢
 obtain ⟨b,hb⟩ : ∃ b,plainB ⟨bid,bwi,bde,bce,bhi,bbe⟩ fs = b := ⟨_,rfl⟩
 have HB := hid hb
 have HS := hid hshow;have HP := hid hspots;have HJ := hid hJ;clear hshow hspots hJ
 go_enter Tryz.func43,Tryz.ntmps43
 go_wp2_with fail
 go_step3
 go_wp2_with fail
 refine (plain_any hX (hl.below (by go_grown)) hok (by omega) HB.out).mono ?_
 rintro e w1 ⟨rfl,hb⟩
 replace hb0 := bnext (w := w) (by go_grown) hb;have hz := hb.size;(try simp only [World.size_alloc,World.size_setCell] at hz);replace q0 : w1.cell? ⟨w.heap.size,0,none⟩ = some (.int .i64 bid) := bkeep hb (by first|with_reducible exact q0|with_reducible exact akeep q0|simp[*,go_sem]);replace q1 : w1.cell? ⟨w.heap.size,1,none⟩ = some (.int .i64 bwi) := bkeep hb (by first|with_reducible exact q1|with_reducible exact akeep q1|simp[*,go_sem]);replace q2 : w1.cell? ⟨w.heap.size,2,none⟩ = some (.int .i64 bde) := bkeep hb (by first|with_reducible exact q2|with_reducible exact akeep q2|simp[*,go_sem]);replace q3 : w1.cell? ⟨w.heap.size,3,none⟩ = some (.int .i64 bce) := bkeep hb (by first|with_reducible exact q3|with_reducible exact akeep q3|simp[*,go_sem]);replace q4 : w1.cell? ⟨w.heap.size,4,none⟩ = some (.int .i64 bhi) := bkeep hb (by first|with_reducible exact q4|with_reducible exact akeep q4|simp[*,go_sem]);replace q5 : w1.cell? ⟨w.heap.size,5,none⟩ = some (.int .i64 bbe) := bkeep hb (by first|with_reducible exact q5|with_reducible exact akeep q5|simp[*,go_sem]);skip
 clear hb
 cases b
 ·have hsh : shownL ⟨bid,bwi,bde,bce,bhi,bbe⟩ fs = packsF (fs.map (spotsL ⟨bid,bwi,bde,bce,bhi,bbe⟩)) 0 := by unfold shownL allPacks;rw [hb];rfl
  obtain ⟨v1,hv1⟩ : ∃ v,v = w1 := ⟨_,rfl⟩
  subst hv1
  go_wp2_with fail
  refine (HP.out _ _ (hl.below hb0)).mono ?_
  rintro e w1 ⟨sv,rfl,hb3,hsp,hz3⟩
  have hb1 := bnext (w := w) hb0 hb3
  obtain ⟨v2,hv2⟩ : ∃ v,v = w1 := ⟨_,rfl⟩
  subst hv2
  obtain ⟨G,hG,hGv,hGs⟩ := hsp
  rw [List.length_map] at hGv
  subst hGv
  go_wp2_with (at_make;refine wpList_make_full _ rfl _ _ 22 rfl v2.heap.size 37 i0 (.agg #[.int .i64 0, .int .i64 0, .bool false]) 3 Tryz.underlying22 hi hz0 hz1 .i64 .i64 _ _ fs.length rfl rfl rfl rfl (by rw [hz2];omega) (by unfold maxLen;omega) (Nat.le_refl _) ?_;intro w5 ho5 hg5;have hP0 := made_stands ho5;have hb5 : Below v2.heap.size v2 w5 := (Below.refl _ v2).grown hg5 (Nat.le_refl _) (fun k h => by cases h);have hz5 := World.ownsRow.lt ho5 v2.heap.size rfl;clear ho5 hg5)
  go_step3
  have hw5 := hz5.2
  obtain ⟨W6,hW6⟩ : ∃ W6,((w5.alloc (.cells #[.int .i64 0, .int .i64 0, .int .i64 0, .int .i64 0, .int .i64 0, .int .i64 0] 128)).alloc (.cells #[.int .u64 0, .int .u64 0, .int .u64 0, .int .u64 0, .int .u64 0, .int .u64 0] 131)) = W6 := ⟨_,rfl⟩
  have hb6 : Below w5.heap.size w5 W6 := by rw [← hW6];exact ((Below.refl _ _).alloc (Nat.le_refl _) _).alloc (by simp) _
  have hz6 : W6.heap.size = w5.heap.size + 2 := by rw [← hW6];simp
  have hN6 : NAt .i64 W6 w5.heap.size (fun _ => 0) := by
   intro k hk
   rw [← hW6]
   rcases (show k = 0 ∨ k = 1 ∨ k = 2 ∨ k = 3 ∨ k = 4 ∨ k = 5 by omega) with rfl | rfl | rfl | rfl | rfl | rfl <;> simp [go_sem]
  have hT6 : NAt .u64 W6 (w5.heap.size + 1) (fun _ => 0) := by
   intro k hk
   rw [← hW6]
   rcases (show k = 0 ∨ k = 1 ∨ k = 2 ∨ k = 3 ∨ k = 4 ∨ k = 5 by omega) with rfl | rfl | rfl | rfl | rfl | rfl <;> simp [go_sem]
  rw [hW6]
  clear hW6
  go_wp2_with fail
  obtain ⟨sp,hspe⟩ : ∃ sp,fs.map (spotsL ⟨bid,bwi,bde,bce,bhi,bbe⟩) = sp := ⟨_,rfl⟩
  rw [hspe] at hsh hGs
  have hspn : sp.length = fs.length := by rw [← hspe,List.length_map]
  obtain ⟨n,hnn⟩ : ∃ n,fs.length = n := ⟨_,rfl⟩
  rw [hnn] at hspn hn hP0 hll ⊢
  obtain ⟨SV,hSV⟩ : ∃ SV,(Value.slice (some ⟨G,0,none⟩) n n) = SV := ⟨_,rfl⟩
  have hS6 : SpotsIn v1.heap.size v2.heap.size SV sp W6 := SpotsIn.keep ⟨G,hG,by rw [← hSV,hspn],hGs⟩ (KeepSeg.of_below (hb5.trans (hb6.mono (by omega))))
  have hP6 : PAt W6 v2.heap.size (List.replicate n ⟨0,0,false⟩) := hP0.keep (hb6.block _ (by omega))
  have hJ6 : J 0 W6 := HJ.out _ _ _ h0 (hb1.trans ((hb5.trans (hb6.mono (by omega))).mono (by have := hb1.size;omega)))
  rw [hSV]
  go_loopg [10] (left 2000 n (lenS sp) (fun _ => 0) 1 * 2 + 1) (fun gk iv wr => ∃ (d m : Nat) (p : List St) (nx tk : Nat → Nat),gk = left 2000 n (lenS sp) nx d * 2 + d ∧ iv = .int .i64 ((d : Int) - 1) ∧ d ≤ n + 1 ∧ p.length = n ∧ (∀ j,j < 6 → tk j < 2 ^ 36 ∧ nx j ≤ 1000) ∧ Hid ((shownL ⟨bid,bwi,bde,bce,bhi,bbe⟩ fs).drop m = remD sp p nx tk d) ∧ m ≤ (shownL ⟨bid,bwi,bde,bce,bhi,bbe⟩ fs).length ∧ J m wr ∧ SpotsIn v1.heap.size v2.heap.size SV sp wr ∧ PAt wr v2.heap.size p ∧ NAt .i64 wr w5.heap.size nx ∧ NAt .u64 wr (w5.heap.size + 1) tk ∧ w5.heap.size + 2 ≤ wr.heap.size)
  case atStart => exact ⟨1,0,List.replicate n ⟨0,0,false⟩,fun _ => 0,fun _ => 0,rfl,rfl,by omega,List.length_replicate,fun j _ => ⟨Nat.pow_pos (by decide),Nat.zero_le _⟩,(by rw [Hid,List.drop_zero,hsh];exact (start_show sp _ (by rw [List.length_replicate,hspn]) _ _ rfl rfl).symm),by omega,hJ6,hS6,hP6,hN6,hT6,by omega⟩
  case round =>
   obtain ⟨d,m,p,nx,tk,hgk,rfl,hd,hpl,hbt,HR,hm,hJm,hS,hPP,hNN,hTT,hzr⟩ := hrel
   cases d with
   | zero =>
    have hmt := drop_done hm HR.out
    have HM := hid hmt;clear hmt
    go_wp2_with fail
    rw [Exit.noGoto_normal]
    go_end0
    exact ⟨rfl, .inl (by rw [← HM.out];exact hJm)⟩
   | succ i =>
    rw [show (((i + 1 : Nat) : Int) - 1) = (i : Int) by omega]
    have hii : (0 : Int) ≤ (i : Int) := by omega
    by_cases hin : i = n
    ·subst hin
     have hl : lenS sp i = 0 := by unfold lenS;rw [List.getD_eq_getElem?_getD,List.getElem?_eq_none (by omega)];rfl
     have hbk := left_back (B := 2000) (n := i) (len := lenS sp) (nx := nx) (i := i) (by omega)
     have HMS := hid (show left 2000 i (lenS sp) nx i * 2 + i < gk by omega)
     clear hl hbk
     have hfs : toShow sp p nx tk i = p :: levs sp p nx tk i := by rw [← hspn];exact full_show _ _ _ _
     have hdr := HR.out
     rw [show remD sp p nx tk (i + 1) = toShow sp p nx tk i from rfl,hfs] at hdr
     obtain ⟨hd1,hd2,hd3⟩ := drop_head hdr
     have hst := hPP.stAt (by omega)
     rw [hpl] at hst
     have hcall := HS.out m wr _ p hd1 hJm (by omega) hst
     have HD := hid hd2;clear hd1 hd2 hdr hfs hst
     go_wp2_with fail
     refine hcall.mono ?_
     rintro e w8 ⟨b,rfl,hks,hb1,hb2⟩
     have hk1 := hks.1
     have hk0 := hks.2
     have hS2 := hS.keep (lo := v1.heap.size) (hi := v2.heap.size) ⟨hks.1,fun k h1 h2 => hk0 k (by omega) (by omega)⟩
     have hP2 := hPP.keep (hk0 v2.heap.size (by omega) (by omega))
     have hN2 := hNN.keep (hk0 w5.heap.size (by omega) (by omega))
     have hT2 := hTT.keep (hk0 (w5.heap.size + 1) (by omega) (by omega))
     cases b
     ·go_wp2_with fail
      rw [Exit.noGoto_normal]
      go_end0
      exact ⟨rfl, .inr (hb2 (by first | rfl | trivial))⟩
     ·have hJ2 := hb1 (by first | rfl | trivial)
      go_wp2_with fail
      go_roundg (left 2000 i (lenS sp) nx i * 2 + i)
      case measure => exact HMS.out
      case rel => exact ⟨i,m + 1,p,nx,tk,rfl,by go_num,by omega,hpl,hbt,(by rw [Hid,HD.out];exact remD_levs (by omega)),by omega,hJ2,hS2,hP2,hN2,hT2,by omega⟩
    ·have hlt : i < n := by omega
     have hne : ¬ (i : Int) = (n : Int) := by omega
     subst hSV
     have hsi : i < sp.length := by omega
     have HPL := hid hpl;have HSN := hid hspn;clear hpl hspn
     obtain ⟨GK,rfl⟩ : ∃ GK,GK = gk := ⟨gk,rfl⟩
     have hhr : (shownL ⟨bid,bwi,bde,bce,bhi,bbe⟩ fs).drop m = toShow sp p nx tk i := HR.out
     have HR1 := hid hhr;clear hhr HR
     have hgk2 : left 2000 n (lenS sp) nx (i + 1) * 2 + (i + 1) = GK := hgk.symm
     have HGK := hid hgk2
     clear hgk2 hgk
     go_wp2_with fail
     rw [show (((i : Nat) : Int) == ((n : Nat) : Int)) = false from beq_eq_false_iff_ne.mpr hne]
     go_loopg [10] (lenS sp i - nx i) (fun g2 iv wr => ∃ (nx2 : Nat → Nat),iv = .int .i64 (i : Int) ∧ g2 = lenS sp i - nx2 i ∧ left 2000 n (lenS sp) nx2 (i + 1) ≤ left 2000 n (lenS sp) nx (i + 1) ∧ (∀ j,j < 6 → nx2 j ≤ 1000) ∧ Hid ((shownL ⟨bid,bwi,bde,bce,bhi,bbe⟩ fs).drop m = toShow sp p nx2 tk i) ∧ J m wr ∧ SpotsIn v1.heap.size v2.heap.size (.slice (some ⟨G,0,none⟩) n n) sp wr ∧ PAt wr v2.heap.size p ∧ NAt .i64 wr w5.heap.size nx2 ∧ NAt .u64 wr (w5.heap.size + 1) tk ∧ w5.heap.size + 2 ≤ wr.heap.size)
     case atStart => exact ⟨nx,rfl,rfl,Nat.le_refl _,fun j hj => (hbt j hj).2,HR1,hJm,hS,hPP,hNN,hTT,hzr⟩
     case round =>
      skip
      clear hJm hS hPP hNN hTT hzr HR1
      obtain ⟨nx2,rfl,hg2,hlf,hb2,HR2,hJm,hS,hPP,hNN,hTT,hzr⟩ := hrel
      obtain ⟨g',hg',e',hs'⟩ := hS
      obtain rfl : G = g' := by injection e' with e1 _ _;injection e1 with e1;injection e1
      obtain ⟨l,hl⟩ : ∃ l,sp[i]? = some l := ⟨_,List.getElem?_eq_getElem hsi⟩
      have hlen : lenS sp i = l.length := by unfold lenS;rw [List.getD_eq_getElem?_getD,hl];rfl
      obtain ⟨la2,lc2,c0,hll2,hrow⟩ := hs' i l hl
      have hS : SpotsIn v1.heap.size v2.heap.size (.slice (some ⟨G,0,none⟩) n n) sp wr := ⟨G,hg',e',hs'⟩
      have HSP := hid hs'
      clear e' hs'
      have c1 := (hNN i (by omega)).1
      have hi6 : (i : Int) < 6 := by omega
      have hiN : (i : Int) < (n : Int) := by omega
      have x0 := fun x : BW wr => bkeep x.below c0
      have x1 := fun x : BW wr => bkeep x.below c1
      go_upto_region 11 with fail
      refine wp_region_qb (by kernel_rfl) (by kernel_rfl) fun hc => ?_
      repeat (go_big_quiet_step (fail))
      (refine wpQuiet_nil ?_;intro w1 hb;have hS2 := hS.keep (KeepSeg.of_below (lo := v1.heap.size) (hi := v2.heap.size) (hb.mono (by omega)));have hP2 := hPP.keep (hb.block v2.heap.size (by omega));have hN2 := hNN.keep (hb.block w5.heap.size (by omega));have hT2 := hTT.keep (hb.block (w5.heap.size + 1) (by omega));have hJ2 := HJ.out _ _ _ hJm (hb.mono (by omega));have hzr2 := hb.size;clear hS hPP hNN hTT hJm;have hS := hS2;have hPP := hP2;have hNN := hN2;have hTT := hT2;have hJm := hJ2;clear hS2 hP2 hN2 hT2 hJ2)
      clear x0 x1 c0 c1 hrow hll2 HSP
      by_cases hnl : nx2 i < l.length
      ·have hnli : (nx2 i : Int) < (l.length : Int) := by omega
       obtain ⟨v7,hv7⟩ : ∃ v,v = w1 := ⟨_,rfl⟩
       subst hv7
       obtain ⟨gX,hgX,eX,hsX⟩ := hS
       obtain rfl : G = gX := by injection eX with e1 _ _;injection e1 with e1;injection e1
       obtain ⟨la2,lc2,c0,hll2,hrow⟩ := hsX i l hl
       have hS : SpotsIn v1.heap.size v2.heap.size (.slice (some ⟨G,0,none⟩) n n) sp v7 := ⟨G,hgX,eX,hsX⟩
       clear eX hsX
       have c1 := (hNN i (by omega)).1
       obtain ⟨a,ha⟩ : ∃ a,l[nx2 i]? = some a := ⟨_,List.getElem?_eq_getElem hnl⟩
       obtain ⟨b,hbb,rfl,hcs⟩ := hrow _ a ha
       obtain ⟨⟨ay,ax,at'⟩,am⟩ := a
       have d0 := hcs 0 _ rfl
       have d1 := hcs 1 _ rfl
       have d2 := hcs 2 _ rfl
       have d3 := hcs 3 _ rfl
       rw [Nat.add_zero] at d0
       dsimp only at d0 d1 d2 d3
       clear hcs hrow
       have HA := hid ha
       clear ha
       go_upto_region 12 with fail
       refine wp_region_Rs [(9,NewCells v7.heap.size [.int .i64 0, .int .i64 0, .bool false, .int .u64 0])] [0,1,2,3,4,5,6,7,8,9] 1 (by kernel_rfl) rfl (by simp only [List.forall_mem_cons];exact ⟨keeps_new,fun _ h => by cases h⟩) (by kernel_rfl) ?_
       simp only [numbered,List.filterMap_cons,List.filterMap_nil,List.getElem?_toArray,List.getElem?_cons_succ,List.getElem?_cons_zero,Option.map_some]
       show wpS _ _ _ _ _ _ _ [(_,_),(_,_),(_,_),(_,_),(_,_),(_,_),(_,_),(_,_),(_,_),(_,_)] _ _
       (refine wpS_quiet rfl rfl ?_;intro K hK inst hx;go_big_quiet_op;(first | go_big_quiet_on | (refine ⟨_,fun _ => rfl, ?_⟩;go_big_quiet_on));clear hx inst)
       (refine wpS_quiet rfl rfl ?_;intro K hK inst hx;go_big_quiet_op;(first | go_big_quiet_on | (refine ⟨_,fun _ => rfl, ?_⟩;go_big_quiet_on));clear hx inst)
       (refine wpS_quiet rfl rfl ?_;intro K hK inst hx;go_big_quiet_op;(first | go_big_quiet_on | (refine ⟨_,fun _ => rfl, ?_⟩;go_big_quiet_on));clear hx inst)
       (refine wpS_quiet rfl rfl ?_;intro K hK inst hx;have s_c0 := fun x => (fun _ => bkeep (BQ.below x) c0) (hx x);go_big_quiet_op;(first | go_big_quiet_on | (refine ⟨_,fun _ => rfl, ?_⟩;go_big_quiet_on));clear hx inst)
       (refine wpS_quiet rfl rfl ?_;intro K hK inst hx;go_big_quiet_op;(first | go_big_quiet_on | (refine ⟨_,fun _ => rfl, ?_⟩;go_big_quiet_on));clear hx inst)
       (refine wpS_quiet rfl rfl ?_;intro K hK inst hx;go_big_quiet_op;(first | go_big_quiet_on | (refine ⟨_,fun _ => rfl, ?_⟩;go_big_quiet_on));clear hx inst)
       (refine wpS_quiet rfl rfl ?_;intro K hK inst hx;have s_c1 := fun x => (fun _ => bkeep (BQ.below x) c1) (hx x);go_big_quiet_op;(first | go_big_quiet_on | (refine ⟨_,fun _ => rfl, ?_⟩;go_big_quiet_on));clear hx inst)
       (refine wpS_quiet rfl rfl ?_;intro K hK inst hx;go_big_quiet_op;(first | go_big_quiet_on | (refine ⟨_,fun _ => rfl, ?_⟩;go_big_quiet_on));clear hx inst)
       (refine wpS_quiet rfl rfl ?_;intro K hK inst hx;have s_d0 := fun x => (fun _ => bkeep (BQ.below x) d0) (hx x);have s_d1 := fun x => (fun _ => bkeep (BQ.below x) d1) (hx x);have s_d2 := fun x => (fun _ => bkeep (BQ.below x) d2) (hx x);have s_d3 := fun x => (fun _ => bkeep (BQ.below x) d3) (hx x);go_big_quiet_op;(first | go_big_quiet_on | (refine ⟨_,fun _ => rfl, ?_⟩;go_big_quiet_on));clear hx inst)
       refine wpS_fresh rfl rfl (fun w' hb hF => ?_) ?_
       ·change freshAt _ _ _ (NewCells v7.heap.size [.int .i64 0, .int .i64 0, .bool false, .int .u64 0]) _;unfold freshAt;go_simp;exact new_of hb
       intro v W hv;simp only [pOf,List.lookup_cons,Nat.reduceBEq,beq_self_eq_true] at hv;obtain ⟨B9,hB9,rfl,_⟩ := hv
       simp only [Act.put,List.setIfInBounds_toArray,List.set_cons_succ,List.set_cons_zero]
       refine wpS_nil ?_
       intro w2 hall
       have hb := hall.1
       have hN : NewCells v7.heap.size [.int .i64 0, .int .i64 0, .bool false, .int .u64 0] (.pointer (some ⟨B9,0,none⟩)) w2 := hall.2 9 _ rfl
       obtain ⟨B',hB',hv',hn⟩ := hN
       obtain rfl : B9 = B' := by simpa using hv'
       have nB90 := (hn 0 _ rfl).1
       have mB90 := (hn 0 _ rfl).2
       have nB91 := (hn 1 _ rfl).1
       have mB91 := (hn 1 _ rfl).2
       have nB92 := (hn 2 _ rfl).1
       have mB92 := (hn 2 _ rfl).2
       have nB93 := (hn 3 _ rfl).1
       have mB93 := (hn 3 _ rfl).2
       clear hn hv'
       clear hall
       refine wpAny_ready (rs := [10]) (by kernel_rfl) (by simp) ?_
       refine AllReady.cons rfl (fun K hK => ?_) AllReady.nil
       go_simp
       refine hK _ _ ?_;clear hK K
       refine wpAny_done (by kernel_rfl) ?_ _
       go_upto_region 13 with fail
       generalize hW4 : (World.setCell (World.setCell (World.setCell (World.setCell w2 ⟨B9,0,none⟩ _) ⟨B9,1,none⟩ _) ⟨B9,2,none⟩ _) ⟨B9,3,none⟩ _) = W4
       have hbB : Below v7.heap.size v7 W4 := by rw [← hW4];exact ((((hb.setCell (p := ⟨B9,0,none⟩) hB' _).setCell (p := ⟨B9,1,none⟩) hB' _).setCell (p := ⟨B9,2,none⟩) hB' _).setCell (p := ⟨B9,3,none⟩) hB' _)
       have f0 : W4.cell? ⟨B9,0,none⟩ = some (.int .i64 (ay : Int)) := by rw [← hW4];simp [go_sem,nB90,nB91,nB92,nB93]
       have f1 : W4.cell? ⟨B9,1,none⟩ = some (.int .i64 (ax : Int)) := by rw [← hW4];simp [go_sem,nB90,nB91,nB92,nB93]
       have f2 : W4.cell? ⟨B9,2,none⟩ = some (.bool at') := by rw [← hW4];simp [go_sem,nB90,nB91,nB92,nB93]
       have f3 : W4.cell? ⟨B9,3,none⟩ = some (.int .u64 (am : Int)) := by rw [← hW4];simp [go_sem,nB90,nB91,nB92,nB93]
       clear hW4 hb nB90 mB90 nB91 mB91 nB92 mB92 nB93 mB93
       have hb := hbB;clear hbB
       have hS2 := hS.keep (KeepSeg.of_below (lo := v1.heap.size) (hi := v2.heap.size) (hb.mono (by omega)))
       have hP2 := hPP.keep (hb.block v2.heap.size (by omega))
       have hN2 := hNN.keep (hb.block w5.heap.size (by omega))
       have hT2 := hTT.keep (hb.block (w5.heap.size + 1) (by omega))
       have hJ2 := HJ.out _ _ _ hJm (hb.mono (by omega))
       have hzr2 := hb.size
       clear hS hPP hNN hTT hJm
       have hS := hS2;have hPP := hP2;have hNN := hN2;have hTT := hT2;have hJm := hJ2;clear hS2 hP2 hN2 hT2 hJ2
       clear hb
       clear c0 c1 d0 d1 d2 d3
       have hB9l := World.block_lt_of_cell? W4 _ f0
       have c1 := (hNN i (by omega)).1
       have g1 := (hNN i (by omega)).2
       go_upto_region 14 with fail
       have hNs := hNN.set (v := nx2 i + 1) (show i < 6 by omega)
       rw [show ((nx2 i + 1 : Nat) : Int) = (nx2 i : Int) + 1 by omega] at hNs
       obtain ⟨W7,hW7⟩ : ∃ W7,W4.setCell ⟨w5.heap.size,i,none⟩ (.int .i64 ((nx2 i : Int) + 1)) = W7 := ⟨_,rfl⟩
       rw [hW7] at hNs ⊢
       have hset : ∀ k,k ≠ w5.heap.size → W7.heap[k]? = W4.heap[k]? := fun k hk => by rw [← hW7];exact Below.heap_setCell _ _ _ _ hk
       have hb7 : Below w.heap.size W4 W7 := by rw [← hW7];exact (Below.refl _ _).setCell (p := ⟨w5.heap.size,i,none⟩) (by have := hb1.size;show w.heap.size ≤ w5.heap.size;omega) _
       have hz7 := hb7.size
       have hS := hS.keep (lo := v1.heap.size) (hi := v2.heap.size) (W' := W7) ⟨hz7,fun k h1 h2 => hset k (by omega)⟩
       have hPP := hPP.keep (W' := W7) (hset _ (by omega))
       have hTT := hTT.keep (W' := W7) (hset _ (by omega))
       have hJm := HJ.out _ _ _ hJm hb7
       have f0 : W7.cell? ⟨B9,0,none⟩ = some (.int .i64 (ay : Int)) := (World.cell?_of_block (w := W4) (a := ⟨B9,0,none⟩) (hset B9 (by omega))).trans f0
       have f1 : W7.cell? ⟨B9,1,none⟩ = some (.int .i64 (ax : Int)) := (World.cell?_of_block (w := W4) (a := ⟨B9,1,none⟩) (hset B9 (by omega))).trans f1
       have f2 : W7.cell? ⟨B9,2,none⟩ = some (.bool at') := (World.cell?_of_block (w := W4) (a := ⟨B9,2,none⟩) (hset B9 (by omega))).trans f2
       have f3 : W7.cell? ⟨B9,3,none⟩ = some (.int .u64 (am : Int)) := (World.cell?_of_block (w := W4) (a := ⟨B9,3,none⟩) (hset B9 (by omega))).trans f3
       clear hNN hset hb7 hW7 c1 g1
       have hNN := hNs;clear hNs
       have c2 := (hTT i (by omega)).1
       have hmk : am < 2 ^ 36 := spots_mask hX hok (by rw [hspe];exact hl) HA.out
       have htk := (hbt i (by omega)).1
       obtain ⟨me,hme⟩ : ∃ me,(tk i &&& am != 0) = me := ⟨_,rfl⟩
       have HME := hid hme
       clear hme
       have x_c2 := fun x : BW W7 => bkeep x.below c2
       have x_f3 := fun x : BW W7 => bkeep x.below f3
       refine wp_region_qb (by kernel_rfl) (by kernel_rfl) fun hc => ?_
       repeat (go_big_quiet_step ((go_at_call 66;exact BW.call _ (meets_any htk hmk HME.out))))
       (refine wpQuiet_nil ?_;intro w1 hb;replace f0 := bkeep hb f0;replace f1 := bkeep hb f1;replace f2 := bkeep hb f2;replace f3 := bkeep hb f3;have hS2 := hS.keep (KeepSeg.of_below (lo := v1.heap.size) (hi := v2.heap.size) (hb.mono (by omega)));have hP2 := hPP.keep (hb.block v2.heap.size (by omega));have hN2 := hNN.keep (hb.block w5.heap.size (by omega));have hT2 := hTT.keep (hb.block (w5.heap.size + 1) (by omega));have hJ2 := HJ.out _ _ _ hJm (hb.mono (by omega));have hzr2 := hb.size;clear hS hPP hNN hTT hJm;have hS := hS2;have hPP := hP2;have hNN := hN2;have hTT := hT2;have hJm := hJ2;clear hS2 hP2 hN2 hT2 hJ2)
       clear x_c2 x_f3 c2
       have hgd : sp.getD i [] = l := by rw [List.getD_eq_getElem?_getD,hl];rfl
       have hget : (sp.getD i [])[nx2 i]? = some (⟨ay,ax,at'⟩,am) := by rw [hgd];exact HA.out
       have HGET := hid hget;clear hget hgd
       have hll3 : l.length ≤ 1000 := by omega
       have hnl2 : nx2 i < lenS sp i := by omega
       cases me
       ·have hpi : i < p.length := by have := HPL.out;omega
        have o0 := hPP i p[i] (List.getElem?_eq_getElem hpi) 0 _ rfl
        have o1 := hPP i p[i] (List.getElem?_eq_getElem hpi) 1 _ rfl
        have o2 := hPP i p[i] (List.getElem?_eq_getElem hpi) 2 _ rfl
        rw [Nat.add_zero] at o0
        obtain ⟨o0,u0⟩ := o0
        obtain ⟨o1,u1⟩ := o1
        obtain ⟨o2,u2⟩ := o2
        go_upto_region 16 with fail
        have hPs := hPP.set (a := ⟨ay,ax,at'⟩) hpi
        dsimp only at hPs
        obtain ⟨W8,hW8⟩ : ∃ W8,((w1.setCell ⟨v2.heap.size,i * 3,none⟩ (.int .i64 (ay : Int))).setCell ⟨v2.heap.size,i * 3 + 1,none⟩ (.int .i64 (ax : Int))).setCell ⟨v2.heap.size,i * 3 + 2,none⟩ (.bool at') = W8 := ⟨_,rfl⟩
        rw [hW8] at hPs ⊢
        have hset : ∀ k,k ≠ v2.heap.size → W8.heap[k]? = w1.heap[k]? := fun k hk => by rw [← hW8];exact (Below.heap_setCell _ _ _ _ hk).trans ((Below.heap_setCell _ _ _ _ hk).trans (Below.heap_setCell _ _ _ _ hk))
        have hv2w : w.heap.size ≤ v2.heap.size := hb1.size
        have hb8 : Below w.heap.size w1 W8 := by rw [← hW8];exact (((Below.refl _ _).setCell (p := ⟨v2.heap.size,i * 3,none⟩) hv2w _).setCell (p := ⟨v2.heap.size,i * 3 + 1,none⟩) hv2w _).setCell (p := ⟨v2.heap.size,i * 3 + 2,none⟩) hv2w _
        have hz8 := hb8.size
        have hS := hS.keep (lo := v1.heap.size) (hi := v2.heap.size) (W' := W8) ⟨hz8,fun k h1 h2 => hset k (by omega)⟩
        have hNN := hNN.keep (W' := W8) (hset _ (by omega))
        have hTT := hTT.keep (W' := W8) (hset _ (by omega))
        have hJm := HJ.out _ _ _ hJm hb8
        have f0 : W8.cell? ⟨B9,0,none⟩ = some (.int .i64 (ay : Int)) := (World.cell?_of_block (w := w1) (a := ⟨B9,0,none⟩) (hset B9 (by omega))).trans f0
        have f1 : W8.cell? ⟨B9,1,none⟩ = some (.int .i64 (ax : Int)) := (World.cell?_of_block (w := w1) (a := ⟨B9,1,none⟩) (hset B9 (by omega))).trans f1
        have f2 : W8.cell? ⟨B9,2,none⟩ = some (.bool at') := (World.cell?_of_block (w := w1) (a := ⟨B9,2,none⟩) (hset B9 (by omega))).trans f2
        have f3 : W8.cell? ⟨B9,3,none⟩ = some (.int .u64 (am : Int)) := (World.cell?_of_block (w := w1) (a := ⟨B9,3,none⟩) (hset B9 (by omega))).trans f3
        clear hPP hset hb8 hW8 o0 o1 o2 u0 u1 u2
        have hPP := hPs;clear hPs
        have c2 := (hTT i (by omega)).1
        have c3 := (hTT (i + 1) (by omega)).1
        have g3 := (hTT (i + 1) (by omega)).2
        have hi7 : (i : Int) + 1 < 6 := by omega
        have x_c2 := fun x : BW W8 => bkeep x.below c2
        have x_f3 := fun x : BW W8 => bkeep x.below f3
        refine wp_region_gb [0,1,2,3,4,5,6,7,8] 1 (by kernel_rfl) rfl (by kernel_rfl) fun hc => ?_
        simp only [named,List.filterMap_cons,List.filterMap_nil,List.getElem?_toArray,List.getElem?_cons_succ,List.getElem?_cons_zero]
        show wpQuiet _ _ _ _ [_,_,_,_,_,_,_,_,_] _
        repeat (go_big_quiet_step ((go_at_call 67;exact BW.call _ (with_any htk hmk))))
        (refine wpQuiet_nil ?_;intro w9 hb;have hS2 := hS.keep (KeepSeg.of_below (lo := v1.heap.size) (hi := v2.heap.size) (hb.mono (by omega)));have hP2 := hPP.keep (hb.block v2.heap.size (by omega));have hN2 := hNN.keep (hb.block w5.heap.size (by omega));have hT2 := hTT.keep (hb.block (w5.heap.size + 1) (by omega));have hJ2 := HJ.out _ _ _ hJm (hb.mono (by omega));have hzr2 := hb.size;clear hS hPP hNN hTT hJm;have hS := hS2;have hPP := hP2;have hNN := hN2;have hTT := hT2;have hJm := hJ2;clear hS2 hP2 hN2 hT2 hJ2)
        clear x_c2 x_f3 c2 c3 g3
        have c3 := (hTT (i + 1) (by omega)).1
        have g3 := (hTT (i + 1) (by omega)).2
        refine wpAny_ready (rs := [9]) (by kernel_rfl) (by simp) ?_
        refine AllReady.cons rfl (fun K hK => ?_) AllReady.nil
        go_simp
        refine hK _ _ ?_;clear hK K
        refine wpAny_done (by kernel_rfl) ?_ _
        go_upto_region 17 with fail
        have hTs := hTT.set (v := tk i ||| am) (show i + 1 < 6 by omega)
        obtain ⟨W10,hW10⟩ : ∃ W10,w9.setCell ⟨w5.heap.size + 1,i + 1,none⟩ (.int .u64 ((tk i ||| am : Nat) : Int)) = W10 := ⟨_,rfl⟩
        rw [hW10] at hTs ⊢
        have hset : ∀ k,k ≠ w5.heap.size + 1 → W10.heap[k]? = w9.heap[k]? := fun k hk => by rw [← hW10];exact Below.heap_setCell _ _ _ _ hk
        have hb10 : Below w.heap.size w9 W10 := by rw [← hW10];exact (Below.refl _ _).setCell (p := ⟨w5.heap.size + 1,i + 1,none⟩) (by show w.heap.size ≤ w5.heap.size + 1;have := hb1.size;omega) _
        have hz10 := hb10.size
        have hS := hS.keep (lo := v1.heap.size) (hi := v2.heap.size) (W' := W10) ⟨hz10,fun k h1 h2 => hset k (by omega)⟩
        have hPP := hPP.keep (W' := W10) (hset _ (by omega))
        have hNN := hNN.keep (W' := W10) (hset _ (by omega))
        have hJm := HJ.out _ _ _ hJm hb10
        clear hTT hset hb10 hW10
        have hTT := hTs;clear hTs
        have c1 := (hNN (i + 1) (by omega)).1
        have g1 := (hNN (i + 1) (by omega)).2
        go_upto_region 18 with fail
        have hNs := hNN.set (v := 0) (show i + 1 < 6 by omega)
        rw [show ((0 : Nat) : Int) = 0 from rfl] at hNs
        obtain ⟨W11,hW11⟩ : ∃ W11,W10.setCell ⟨w5.heap.size,i + 1,none⟩ (.int .i64 0) = W11 := ⟨_,rfl⟩
        rw [hW11] at hNs ⊢
        have hset : ∀ k,k ≠ w5.heap.size → W11.heap[k]? = W10.heap[k]? := fun k hk => by rw [← hW11];exact Below.heap_setCell _ _ _ _ hk
        have hb11 : Below w.heap.size W10 W11 := by rw [← hW11];exact (Below.refl _ _).setCell (p := ⟨w5.heap.size,i + 1,none⟩) (by show w.heap.size ≤ w5.heap.size;have := hb1.size;omega) _
        have hz11 := hb11.size
        have hS := hS.keep (lo := v1.heap.size) (hi := v2.heap.size) (W' := W11) ⟨hz11,fun k h1 h2 => hset k (by omega)⟩
        have hPP := hPP.keep (W' := W11) (hset _ (by omega))
        have hTT := hTT.keep (W' := W11) (hset _ (by omega))
        have hJm := HJ.out _ _ _ hJm hb11
        clear hNN hset hb11 hW11 c1 g1
        have hNN := hNs;clear hNs
        have hlB : lenS sp (i + 1) < 2000 := by
         obtain ⟨gX,hgX,eX,hsX⟩ := hS
         unfold lenS
         rw [List.getD_eq_getElem?_getD]
         rcases Nat.lt_or_ge (i + 1) sp.length with h | h
         ·obtain ⟨_,_,_,hq,_⟩ := hsX (i + 1) sp[i + 1] (List.getElem?_eq_getElem h)
          rw [List.getElem?_eq_getElem h]
          show sp[i + 1].length < 2000
          omega
         ·rw [List.getElem?_eq_none h]
          exact (by decide : (0 : Nat) < 2000)
        have hld := left_deeper (B := 2000) (n := n) (len := lenS sp) (nx := nx2) (i := i) hlt hlB hnl2
        have hgk3 := HGK.out
        have HMS := hid (show left 2000 n (lenS sp) (upd1 (upd1 nx2 i (nx2 i + 1)) (i + 1) 0) (i + 2) * 2 + (i + 2) < GK by omega)
        clear hgk3 hld hlB
        have hbt2 : ∀ j,j < 6 → upd1 tk (i + 1) (tk i ||| am) j < 2 ^ 36 ∧ upd1 (upd1 nx2 i (nx2 i + 1)) (i + 1) 0 j ≤ 1000 := fun j hj => by (by_cases e : j = i + 1);(subst e;rw [upd1_at,upd1_at];exact ⟨Nat.or_lt_two_pow htk hmk,Nat.zero_le _⟩);(rw [upd1_ne _ _ e,upd1_ne _ _ e];refine ⟨(hbt j hj).1, ?_⟩;(by_cases e2 : j = i);(subst e2;rw [upd1_at];omega);(rw [upd1_ne _ _ e2];exact hb2 j hj))
        go_wp2_with fail
        go_roundg (left 2000 n (lenS sp) (upd1 (upd1 nx2 i (nx2 i + 1)) (i + 1) 0) (i + 2) * 2 + (i + 2))
        case measure => exact HMS.out
        case rel => exact ⟨i + 2,m,p.set i ⟨ay,ax,at'⟩,upd1 (upd1 nx2 i (nx2 i + 1)) (i + 1) 0,upd1 tk (i + 1) (tk i ||| am),rfl,by go_num,by omega,(by rw [List.length_set];exact HPL.out),hbt2,(by rw [Hid,HR2.out];exact (go_deeper hsi (HPL.out.trans HSN.out.symm) HGET.out HME.out).symm),hm,hJm,hS,hPP,hNN,hTT,by omega⟩
       ·have hgk5 : lenS sp i - (nx2 i + 1) < l.length - nx2 i := by omega
        have HM5 := hid hgk5;clear hgk5
        have hp6 : ∀ j,j < 6 → upd1 nx2 i (nx2 i + 1) j ≤ 1000 := fun j hj => by (by_cases e : j = i);(subst e;rw [upd1_at];omega);(rw [upd1_ne _ _ e];exact hb2 j hj)
        have hl6 : left 2000 n (lenS sp) (upd1 nx2 i (nx2 i + 1)) (i + 1) ≤ left 2000 n (lenS sp) nx (i + 1) := Nat.le_trans (Nat.le_of_lt (left_past (by decide) hnl2)) hlf
        have HL6 := hid hl6;clear hl6
        go_wp2_with fail
        go_roundg (lenS sp i - (nx2 i + 1))
        case measure => exact HM5.out
        case rel => exact ⟨upd1 nx2 i (nx2 i + 1),rfl,by rw [upd1_at],HL6.out,hp6,(by rw [Hid,HR2.out];exact (go_past hsi HGET.out HME.out).symm),hJm,hS,hPP,hNN,hTT,by omega⟩
      ·have hnli : ¬ (nx2 i : Int) < (l.length : Int) := by omega
       have hnlj : (l.length : Int) ≤ (nx2 i : Int) := by omega
       have hbk := left_back (B := 2000) (n := n) (len := lenS sp) (nx := nx2) (i := i) (by omega)
       have hgk3 := HGK.out
       have HMS := hid (show left 2000 n (lenS sp) nx2 i * 2 + i < GK by omega)
       clear hgk3
       have HGB := hid (go_back (p := p) (tk := tk) hsi (show (sp.getD i []).length ≤ nx2 i from by show lenS sp i ≤ nx2 i;omega))
       have hbt2 : ∀ j,j < 6 → tk j < 2 ^ 36 ∧ nx2 j ≤ 1000 := fun j hj => ⟨(hbt j hj).1,hb2 j hj⟩
       clear hbk
       go_wp2_with fail
       go_roundg (left 2000 n (lenS sp) nx2 i * 2 + i)
       case measure => exact HMS.out
       case rel => exact ⟨i,m,p,nx2,tk,rfl,by go_num,by omega,HPL.out,hbt2,(by rw [Hid,HR2.out,HGB.out];exact remD_levs (by omega)),hm,hJm,hS,hPP,hNN,hTT,by omega⟩
 ·go_wp2_with fail
  rw [Exit.noGoto_ret]
  refine bodyPost_ret (results_none rfl _ _ _) rfl ?_
  exact ⟨rfl, .inl (by rw [show shownL ⟨bid,bwi,bde,bce,bhi,bbe⟩ fs = [] from by unfold shownL;rw [hb];rfl];exact HJ.out _ _ _ h0 hb0)⟩
end Go.Proofs.YthdfnkdifjajlaaGreatDoor