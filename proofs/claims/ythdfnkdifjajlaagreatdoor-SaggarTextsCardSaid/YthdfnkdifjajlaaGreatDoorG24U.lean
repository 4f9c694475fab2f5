/- Part of a claim. -/
import Derived.Test.YthdfnkdifjajlaaGreatDoorG21U
import Derived.Test.YthdfnkdifjajlaaGreatDoorG23U
import Derived.Test.YthdfnkdifjajlaaGreatDoorKG50U
import Derived.Test.YthdfnkdifjajlaaGreatDoorKSdU
import Derived.Test.YthdfnkdifjajlaaGreatDoorKXaU
set_option linter.unusedVariables false
set_option linter.unusedSimpArgs false
namespace Go.Proofs.YthdfnkdifjajlaaGreatDoor
open Go.RowKit Go.Pb Go.Pb.Ware Go.Pb.Sag


open Go.Proofs Go.Sort
set_option maxRecDepth 100000 in
set_option maxHeartbeats 800000 in
theorem cmp_lays (x y : FtV) (W : World) : Calls Tryz.prog 100 #[.agg (encF x).toArray, .agg (encF y).toArray] W (fun e w' => e = .returned (.int .i64 (cmpF x y)) ∧ ∃ q os',w' = grow (W.drewN q) os') := by
 obtain ⟨⟨fw,fd,fh,fg⟩,hF⟩ := x
 obtain ⟨⟨gw,gd,gh,gg⟩,hG⟩ := y
 show Calls Tryz.prog 100 #[.agg #[.int .i64 fw, .int .i64 fd, .int .i64 fh, .int .i64 fg], .agg #[.int .i64 gw, .int .i64 gd, .int .i64 gh, .int .i64 gg]] W (fun e w' => e = .returned (.int .i64 (gw * gd - fw * fd)) ∧ _)
 unfold FtOk at hF hG
 dsimp only at hF hG
 have m1 := mul_bd fw fd 2100 2100 (by omega) (by omega) (by omega) (by omega)
 have m2 := mul_bd gw gd 2100 2100 (by omega) (by omega) (by omega) (by omega)
 go_enter Tryz.func100,Tryz.ntmps100
 go_wp2
 go_ret
 exact ⟨ret_int (by omega),0,_,by rw [alloc_eq_grow,alloc_eq_grow,grow_grow];rfl⟩
set_option maxHeartbeats 400000 in
theorem ins_none (fv : Value) (w : World) : Calls Tryz.prog 130 #[.slice none 0 0, .int .i64 0, .int .i64 0,fv] w (fun e w' => e = .returned (.tuple #[]) ∧ w' = w) := by
 go_enter Tryz.func130,Tryz.ntmps130
 go_wp2_with fail
 refine wp_loop_rounds 1 ?_
 rw [rounds_succ]
 go_wp2_with fail
 go_end0
 exact ⟨rfl,rfl⟩
set_option maxHeartbeats 400000 in
theorem pdq_none (lim : Int) (fv : Value) (w : World) : Calls Tryz.prog 119 #[.slice none 0 0, .int .i64 0, .int .i64 0, .int .i64 lim,fv] w (fun e w' => e = .returned (.tuple #[]) ∧ w' = w) := by
 go_enter Tryz.func119,Tryz.ntmps119
 go_wp2_with fail
 refine wp_loop_rounds 1 ?_
 rw [rounds_succ]
 go_wp2_with (go_at_call 130;refine (ins_none _ _).mono ?_;rintro e w' ⟨rfl,rfl⟩)
 (try simp only [Exit.inBlock,Exit.then])
 refine bodyPost_ret (results_none rfl _ _ _) rfl ?_
 exact ⟨rfl,rfl⟩
set_option maxHeartbeats 400000 in
theorem sort_none (fv : Value) (w : World) : Calls Tryz.prog 99 #[.slice none 0 0,fv] w (fun e w' => e = .returned (.tuple #[]) ∧ w' = w) := by
 go_enter Tryz.func99,Tryz.ntmps99
 go_wp2_with (first | (go_at_call 120;refine (Tryz.bits_Len 0 _ (by omega) (by omega)).mono ?_;rintro e w' ⟨rfl,rfl⟩) | (go_at_call 119;refine (pdq_none _ _ _).mono ?_;rintro e w' ⟨rfl,rfl⟩))
 go_end0
 exact ⟨rfl,rfl⟩
theorem sort_any {w : World} {base : Nat} {v : Value} {fs : List Ft} (hok : ∀ f ∈ fs,FtOk f) (hn : fs.length ≤ 12) (hbs : base ≤ w.heap.size) (h : w.ownsRow base 66 4 v fs.length (fs.flatMap cellsF)) :
  Calls Tryz.prog 99 #[v, .func (.func 100) #[] #[]] w (fun e w' => e = .returned (.tuple #[]) ∧ ∃ gs,gs.Perm fs ∧ FeetAt w' v gs ∧ Below base w w' ∧ w.heap.size ≤ w'.heap.size) := by
 have h0 := h
 rcases h.2 with ⟨rfl,hz⟩ | ⟨b,cap,cur,rfl,hb,hgb,hc1,hc2,_⟩
 ·rw [List.length_eq_zero_iff] at hz
  subst hz
  refine (sort_none (.func (.func 100) #[] #[]) w).mono ?_
  rintro e w' ⟨rfl,rfl⟩
  exact ⟨rfl, [],List.Perm.refl _, .inl ⟨rfl,rfl⟩,Below.refl _ _,Nat.le_refl _⟩
 ·have hlt : b < w.heap.size := (Array.getElem?_eq_some_iff.1 hgb).1
  have hs := AnyQ.slices_SortFunc_small_sorted Tryz.sortFeet 4 Tryz.isAgg66 Tryz.sizeOf66 encF (fun _ => rfl) (fun x u hu => one_cellsF u hu) cmpF 100 #[] cmpF_swo b 0 cap (valF fs hok) w (enters_of Tryz.func100 (by kernel_rfl) rfl) (fun _ _ _ _ x y => cmp_lays x y _) (holdsF hok h) hlt (by rw [valF_size];exact hn)
   (fun n W hn => (Tryz.bits_Len n W (by omega) (by omega)).mono fun _ _ ⟨he,hw⟩ => ⟨⟨_,he⟩,hw⟩)
  rw [valF_size] at hs
  refine hs.mono ?_
  rintro e w' ⟨rfl,d,n,os,hp,_,rfl⟩
  rw [← valF_size fs hok] at hp
  obtain ⟨p1,p2⟩ := permF hp
  have hh := holdsK_sortWorldK_c (enc := encF) (k := 4) (w := w) (blk := b) (off := 0) (valF fs hok) d n os (holdsF hok h) hlt (by rw [p1,valF_size])
  exact ⟨rfl,_,p2,feetAt_holds p1 hc1 (by unfold maxLen at hc2;omega) hh,below_sort hb hbs,size_sortWorldK_c ..⟩
set_option maxRecDepth 100000 in
set_option maxHeartbeats 1000000 in
theorem fits_any {w : World} {bid bwi bde bce bhi bbe : Int} {lv : Value} {fs : List Ft} {b : Bool} (hb : fitsB ⟨bid,bwi,bde,bce,bhi,bbe⟩ fs = b) (hX : boxOk ⟨bid,bwi,bde,bce,bhi,bbe⟩ = true) (hl : FeetAt w lv fs) (hok : ∀ f ∈ fs,FtOk f) (hn : fs.length ≤ 5) :
  Calls Tryz.prog 74 #[.agg #[.int .i64 bid, .int .i64 bwi, .int .i64 bde, .int .i64 bce, .int .i64 bhi, .int .i64 bbe],lv] w (Ret w (.bool b)) := by
 unfold Ret
 obtain ⟨la,lc,rfl,hll⟩ := hl.shape
 have HL := hid hl
 rw [List.length_map] at hl hll ⊢
 have HX := hid hX;have HB := hid hb;clear hX hb
 go_enter Tryz.func74,Tryz.ntmps74
 go_wp2_with fail
 refine (cloneF (hl.below (by go_grown)) (by omega)).mono ?_
 rintro e w1 ⟨v,rfl,hb,ho⟩
 replace hb0 := bnext (w := w) (by go_grown) hb;have hz := hb.size;(try simp only [World.size_alloc,World.size_setCell] at hz);replace q0 : w1.cell? ⟨w.heap.size,0,none⟩ = some (.int .i64 bid) := bkeep hb (by first|with_reducible exact q0|with_reducible exact akeep q0|simp[*,go_sem]);replace q1 : w1.cell? ⟨w.heap.size,1,none⟩ = some (.int .i64 bwi) := bkeep hb (by first|with_reducible exact q1|with_reducible exact akeep q1|simp[*,go_sem]);replace q2 : w1.cell? ⟨w.heap.size,2,none⟩ = some (.int .i64 bde) := bkeep hb (by first|with_reducible exact q2|with_reducible exact akeep q2|simp[*,go_sem]);replace q3 : w1.cell? ⟨w.heap.size,3,none⟩ = some (.int .i64 bce) := bkeep hb (by first|with_reducible exact q3|with_reducible exact akeep q3|simp[*,go_sem]);replace q4 : w1.cell? ⟨w.heap.size,4,none⟩ = some (.int .i64 bhi) := bkeep hb (by first|with_reducible exact q4|with_reducible exact akeep q4|simp[*,go_sem]);replace q5 : w1.cell? ⟨w.heap.size,5,none⟩ = some (.int .i64 bbe) := bkeep hb (by first|with_reducible exact q5|with_reducible exact akeep q5|simp[*,go_sem]);clear hb
 obtain ⟨va,vc,rfl,hvl⟩ := owns_shape ho
 go_wp2_with fail
 simp only [World.size_alloc] at ho
 have hz1 := (show w.heap.size + 1 ≤ w1.heap.size by simpa using hz)
 refine (sort_any hok (by omega) hz1 ho).mono ?_
 rintro e w2 ⟨rfl,gs,hp,hg,hbW,hz2⟩
 replace q0 := (hbW.cell (p := ⟨w.heap.size,0,none⟩) (by simp)).trans q0
 replace q1 := (hbW.cell (p := ⟨w.heap.size,1,none⟩) (by simp)).trans q1
 replace q2 := (hbW.cell (p := ⟨w.heap.size,2,none⟩) (by simp)).trans q2
 replace q3 := (hbW.cell (p := ⟨w.heap.size,3,none⟩) (by simp)).trans q3
 replace q4 := (hbW.cell (p := ⟨w.heap.size,4,none⟩) (by simp)).trans q4
 replace q5 := (hbW.cell (p := ⟨w.heap.size,5,none⟩) (by simp)).trans q5
 replace hb0 := hb0.trans (hbW.mono (by omega))
 have hokg : ∀ f ∈ gs,FtOk f := fun f h => hok f (hp.mem_iff.1 h)
 have hng : gs.length ≤ 5 := by rw [hp.length_eq];exact hn
 have hfp := (fits_perm (s := ⟨bid,bwi,bde,bce,bhi,bbe⟩) hp).trans HB.out
 have HP := hid hfp;clear hfp hbW ho hp HB
 go_wp2_with fail
 refine (nth_any (n := 0) HX.out hg hokg hng (by omega) (fun W v h => spots_any HX.out hokg hng h)).mono ?_
 rintro e w3 ⟨v,b2,rfl,hb3,hcase⟩
 have hb2 : b2 = b := by
  rw [← HP.out];rcases hcase with ⟨k1, -,rfl⟩ | ⟨q,k1,rfl, -⟩
  ·exact (fits_none k1).symm
  ·exact (fits_some k1).symm
 subst hb2
 clear HP hcase
 replace hb0 := bnext (w := w) hb0 hb3
 go_wp2_with fail
 go_ret
 exact ⟨rfl,hb0⟩
end Go.Proofs.YthdfnkdifjajlaaGreatDoor