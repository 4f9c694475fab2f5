/- Part of a claim. -/
import Derived.Test.YtodmidchpbcnpaaGreatG82Y
import Derived.Test.YtodmidchpbcnpaaGreatKW25Y
import Derived.Test.YtodmidchpbcnpaaGreatG31Y
import Derived.Test.YtodmidchpbcnpaaGreatG12Y
import Derived.Deep.LoopGhost
import Derived.Test.YtodmidchpbcnpaaGreatKSkY
set_option linter.unusedVariables false
set_option linter.unusedSimpArgs false
namespace Go.Proofs.YtodmidchpbcnpaaGreat
open Go.RowKit Go.Pb Go.Pb.Ware Go.Pb.Sag


theorem Tryz.infoR : (Tryz.prog.info? 71).map (fun i => (i.zero,i.size,i.bytes)) = some (some (.slice none 0 0),1,24) := by kernel_rfl
theorem Tryz.infoZ : (Tryz.prog.info? 3).map (fun i => (i.zero,i.size,i.bytes)) = some (some (.int .i64 0),1,8) := by kernel_rfl
def gridA (ss bs : List (List Int)) (s : Bx) (xs : List It) (qs : List Sq) : List (List Int) := if ckK ss bs s xs qs = 0 then gridL s (feetV ss bs s xs) qs else []
def GridRes (rows : List (List Int)) (c : Int) (W : World) (e : Ending) (w' : World) : Prop := ∃ v,e = .returned (.tuple #[v, .int .i64 c]) ∧ Below W.heap.size W w' ∧ ListsAt v rows w'
theorem lists_nil {W : World} : ListsAt (.slice none 0 0) [] W := ⟨none,0,rfl,fun k g h => by simp at h⟩
set_option maxRecDepth 100000 in
set_option maxHeartbeats 2000000 in
theorem Grid_any {w : World} {vs vb : Value} {ss bs : List (List Int)} (h1 : RowsAt 11 w vs ss) (h2 : RowsAt 7 w vb bs) {lv pv : Value} {xs : List It} {qs : List Sq} {bid bwi bde bce bhi bbe : Int} (hl : RowsAt 3 w lv (xs.map rowX)) (hp : StAt w pv qs) {c : Int} {rows : List (List Int)} (hc : ckK ss bs ⟨bid,bwi,bde,bce,bhi,bbe⟩ xs qs = c) (hr : gridA ss bs ⟨bid,bwi,bde,bce,bhi,bbe⟩ xs qs = rows) :
  Calls Tryz.prog 31 #[.agg #[vs,vb], .agg #[.int .i64 bid, .int .i64 bwi, .int .i64 bde, .int .i64 bce, .int .i64 bhi, .int .i64 bbe],lv,pv] w (GridRes rows c w) := by
 obtain ⟨la,lc,rfl,hll⟩ := hl.shape
 rw [List.length_map] at hl hll ⊢
 obtain ⟨pa,pc,rfl,hpl,hpc⟩ := hp.shape
 unfold GridRes
 by_cases hc0 : c = 0
 ·subst hc0
  obtain ⟨k0,kp⟩ := ckK_0 hc
  obtain ⟨hw,hX,hx5,hall⟩ := ckL_0 k0
  have hX2 := boxOk_iff.1 hX
  dsimp only at hX2
  have hr1 : rows = gridL ⟨bid,bwi,bde,bce,bhi,bbe⟩ (feetV ss bs ⟨bid,bwi,bde,bce,bhi,bbe⟩ xs) qs := by rw [← hr];unfold gridA;rw [if_pos hc]
  subst hr1
  obtain ⟨Wd,rfl⟩ : ∃ n : Nat,bwi = n := ⟨bwi.toNat,by omega⟩
  obtain ⟨D,rfl⟩ : ∃ n : Nat,bde = n := ⟨bde.toNat,by omega⟩
  have hfk : feetK ss bs ⟨bid,(Wd : Int),(D : Int),bce,bhi,bbe⟩ xs qs = (feetV ss bs ⟨bid,(Wd : Int),(D : Int),bce,bhi,bbe⟩ xs) := by unfold feetK;rw [if_pos hc]
  obtain ⟨FS,hFS⟩ : ∃ l,(feetV ss bs ⟨bid,(Wd : Int),(D : Int),bce,bhi,bbe⟩ xs) = l := ⟨_,rfl⟩
  have hok : ∀ f ∈ FS,FtOk f := by rw [← hFS];exact feet_ok
  have hn5 : FS.length ≤ 5 := by rw [← hFS];exact feet_len
  have hql : qs.length = FS.length := by rw [← hFS];exact pack_long kp
  rw [hFS] at hfk kp ⊢
  have HC := hid hc;have HFK := hid hfk;have HX := hid hX;have HW := hid hw;have HP := hid kp;have HQL := hid hql
  clear hc hr hfk k0 kp hX hw hall hFS hql
  obtain ⟨i0,hi,hz0,hz1,hz2⟩ := info_parts Tryz.infoR
  obtain ⟨i1,hj,hy0,hy1,hy2⟩ := info_parts Tryz.infoZ
  go_enter Tryz.func31,Tryz.ntmps31
  go_wp2_with fail
  refine (packed_any (h1.below (by go_grown)) (h2.below (by go_grown)) (hl.below (by go_grown)) (hp.below (by go_grown))).mono ?_
  rintro e w1 ⟨fv,rfl,hb,ho⟩
  replace hb0 := bnext (w := w) (by go_grown) hb;have hz := hb.size;(try simp only [World.size_alloc,World.size_setCell] at hz);replace q0 : w1.cell? ⟨w.heap.size,0,none⟩ = some (vs) := bkeep hb (by first|with_reducible exact q0|with_reducible exact akeep q0|simp[*,go_sem]);replace q1 : w1.cell? ⟨w.heap.size,1,none⟩ = some (vb) := bkeep hb (by first|with_reducible exact q1|with_reducible exact akeep q1|simp[*,go_sem]);replace q2 : w1.cell? ⟨w.heap.size + 1,0,none⟩ = some (.int .i64 bid) := bkeep hb (by first|with_reducible exact q2|with_reducible exact akeep q2|simp[*,go_sem]);replace q3 : w1.cell? ⟨w.heap.size + 1,1,none⟩ = some (.int .i64 (Wd : Int)) := bkeep hb (by first|with_reducible exact q3|with_reducible exact akeep q3|simp[*,go_sem]);replace q4 : w1.cell? ⟨w.heap.size + 1,2,none⟩ = some (.int .i64 (D : Int)) := bkeep hb (by first|with_reducible exact q4|with_reducible exact akeep q4|simp[*,go_sem]);replace q5 : w1.cell? ⟨w.heap.size + 1,3,none⟩ = some (.int .i64 bce) := bkeep hb (by first|with_reducible exact q5|with_reducible exact akeep q5|simp[*,go_sem]);replace q6 : w1.cell? ⟨w.heap.size + 1,4,none⟩ = some (.int .i64 bhi) := bkeep hb (by first|with_reducible exact q6|with_reducible exact akeep q6|simp[*,go_sem]);replace q7 : w1.cell? ⟨w.heap.size + 1,5,none⟩ = some (.int .i64 bbe) := bkeep hb (by first|with_reducible exact q7|with_reducible exact akeep q7|simp[*,go_sem]);skip
  clear hb
  rw [HC.out]
  rw [HFK.out] at ho
  have hfa := feetAt_of_owns hok ho
  obtain ⟨fa,fc,rfl,hfl⟩ := owns_shape ho
  have HFA := hid hfa;clear hfa ho
  replace hp := hp.below hb0
  obtain ⟨v4,hv4⟩ : ∃ v,v = w1 := ⟨_,rfl⟩
  subst hv4
  go_wp2_with (at_make;refine wpList_make_full _ rfl _ _ 57 rfl v4.heap.size 71 i0 (.slice none 0 0) 1 Tryz.underlying57 hi hz0 hz1 .i64 .i64 _ _ D rfl rfl rfl rfl (by rw [hz2];omega) (by unfold maxLen;omega) (Nat.le_refl _) ?_;intro w5 ho5 hg5)
  have hm5 := made_any (B := v4.heap.size) rfl ho5
  have hb5 : Below v4.heap.size v4 w5 := (Below.refl _ v4).grown hg5 (Nat.le_refl _) (fun k h => by cases h)
  have hz5 : v4.heap.size < w5.heap.size := (World.ownsRow.lt ho5 v4.heap.size (by simp [Value.ownBlock])).2
  generalize hW : World.alloc w5 _ = v6
  have hG : GridAt v4.heap.size w5.heap.size v4.heap.size D Wd (fun _ => 0) 0 (fun y x => gridC FS qs y x 0) v6 := by rw [← hW];exact ⟨by simp [go_sem],fun y hy => ⟨⟨_,akeep (hm5 y hy).1⟩,afree (hm5 y hy).1 (hm5 y hy).2⟩,fun y h => absurd h (Nat.not_lt_zero _),fun y x h => absurd h (Nat.not_lt_zero _),fun y h => absurd h (Nat.not_lt_zero _),fun y z h => absurd h (Nat.not_lt_zero _),⟨Nat.le_refl _,by omega,by omega⟩⟩
  have hB : Below v4.heap.size v4 v6 := by rw [← hW];exact hb5.alloc (by omega) _
  clear hm5 hb5 hW ho5 hg5
  generalize w5.heap.size = Bg at *
  clear w5
  go_loopg [32] D (fun gk iv wr => ∃ (k : Nat) (R : Nat → Nat),k ≤ D ∧ gk = D - k ∧ iv = .int .i64 k ∧ GridAt v4.heap.size Bg v4.heap.size D Wd R k (fun y x => gridC FS qs y x 0) wr ∧ Below v4.heap.size v4 wr)
  case atStart => exact ⟨0,fun _ => 0,Nat.zero_le _,rfl,rfl,hG,hB⟩
  case round =>
   clear hG hB
   obtain ⟨k,R,hk,hgk,rfl,hG,hB⟩ := hrel
   have HGK := hid hgk;clear hgk
   by_cases hlt : k < D
   ·have hki : (k : Int) < (D : Int) := by omega
    have c0 := hG.var
    have p3 := bkeep hB q3
    obtain ⟨v7,hv7⟩ : ∃ v,v = wr := ⟨_,rfl⟩
    subst hv7
    go_upto_region 8 with fail
    refine wp_region_Rs [(4,NewList v7.heap.size Wd (List.replicate Wd (.int .i64 0)))] [0,1,2,3,4,5] 1 (by kernel_rfl) rfl (by simp only [List.forall_mem_cons];exact ⟨keeps_list,fun _ h => by cases h⟩) (by kernel_rfl) ?_
    simp only [numbered,List.filterMap_cons,List.filterMap_nil,List.getElem?_toArray,List.getElem?_cons_succ,List.getElem?_cons_zero,Option.map_some]
    show wpS _ _ _ _ _ _ _ [(_,_),(_,_),(_,_),(_,_),(_,_),(_,_)] _ _
    (refine wpS_quiet rfl rfl ?_;intro K hK inst hx;have zc0 := fun x => (fun _ => bkeep (BQ.below x) c0) (hx x);go_big_quiet_op;(first | go_big_quiet_on | (refine ⟨_,fun _ => rfl, ?_⟩;go_big_quiet_on));clear hx inst)
    (refine wpS_quiet rfl rfl ?_;intro K hK inst hx;go_big_quiet_op;(first | go_big_quiet_on | (refine ⟨_,fun _ => rfl, ?_⟩;go_big_quiet_on));clear hx inst)
    (refine wpS_quiet rfl rfl ?_;intro K hK inst hx;go_big_quiet_op;(first | go_big_quiet_on | (refine ⟨_,fun _ => rfl, ?_⟩;go_big_quiet_on));clear hx inst)
    (refine wpS_quiet rfl rfl ?_;intro K hK inst hx;have zp3 := fun x => (fun _ => bkeep (BQ.below x) p3) (hx x);go_big_quiet_op;(first | go_big_quiet_on | (refine ⟨_,fun _ => rfl, ?_⟩;go_big_quiet_on));clear hx inst)
    refine wpS_fresh rfl rfl (fun w' hb hF => ?_) ?_
    ·change freshAt _ _ _ (NewList v7.heap.size Wd (List.replicate Wd (.int .i64 0))) _;exact fresh_make (.tmp 38) 71 rfl _ 3 i1 (.int .i64 0) Tryz.underlying71 hj hy0 hy1 rfl Wd rfl (by rw [hy2];omega) (by unfold maxLen;omega) hb.size
    intro v W hv;simp only [pOf,List.lookup_cons,Nat.reduceBEq,beq_self_eq_true] at hv;obtain ⟨b,hb9,rfl, -⟩ := hv
    simp only [Act.put,List.setIfInBounds_toArray,List.set_cons_succ,List.set_cons_zero]
    (refine wpS_quiet rfl rfl ?_;intro K hK inst hx;go_big_quiet_op;(first | go_big_quiet_on | (refine ⟨_,fun _ => rfl, ?_⟩;go_big_quiet_on));clear hx inst)
    refine wpS_nil ?_
    intro w2 hall
    have hb := hall.1
    have h4 : NewList v7.heap.size Wd (List.replicate Wd (.int .i64 0)) _ w2 := hall.2 4 _ rfl
    clear hall
    obtain ⟨b',hb',hv',hn'⟩ := h4
    obtain rfl : b = b' := by simpa using hv'
    clear hv' hb9
    have hG2 := hG.below hb
    obtain ⟨⟨u9,hu9⟩,hf9⟩ := hG2.room k hlt
    have hn0 : ∀ x,x < Wd → w2.cell? ⟨b,x,none⟩ = some (.int .i64 0) ∧ w2.frozen? ⟨b,x,none⟩ = false := fun x hx => hn' x _ (by rw [List.getElem?_replicate,if_pos hx])
    have HN0 := hid hn0;have HN1 := hid hn';clear hn0 hn'
    have hbl : b < w2.heap.size := World.block_lt_of_cell? w2 _ (HN0.out 0 (by omega)).1
    refine wpAny_ready (rs := [6]) (by kernel_rfl) (by simp) ?_
    refine AllReady.cons rfl (fun K hK => ?_) AllReady.nil
    go_simp
    refine hK _ _ ?_;clear hK K
    refine wpAny_done (by kernel_rfl) ?_ _
    have hG3 := hG2.row (b := b) hlt HN0.out (fun y hy => by have := (hG.off y hy).2.2.2;omega) ⟨by have := World.block_lt_of_cell? v7 _ (hG.room k hlt).1.choose_spec;show b ≠ v4.heap.size;dsimp only at this;omega,by have := World.block_lt_of_cell? v7 _ hG.var;dsimp only at this;omega,by have := hB.size;omega,hbl⟩ (fun x => rfl)
    have hB3 : Below v4.heap.size v4 (w2.setCell ⟨v4.heap.size,k,none⟩ (.slice (some ⟨b,0,none⟩) Wd Wd)) := (hB.trans (hb.mono hB.size)).setCell (p := ⟨v4.heap.size,k,none⟩) (Nat.le_refl _) _
    clear hG hG2 hB hb HN0 HN1 hu9 hf9
    go_wp2_with fail
    go_roundg (D - (k + 1))
    case measure => have h := HGK.out;omega
    case rel => exact ⟨k + 1,_,by omega,rfl,by go_num,hG3,hB3⟩
   ·obtain rfl : k = D := by omega
    clear HGK
    go_wp2_with fail
    go_loopg [44] FS.length (fun gk iv wr => ∃ i : Nat,i ≤ FS.length ∧ gk = FS.length - i ∧ iv = .int .i64 i ∧ GridAt v4.heap.size Bg v4.heap.size k Wd R k (fun y x => gridC FS qs y x i) wr ∧ Below v4.heap.size v4 wr)
    case atStart => exact ⟨0,Nat.zero_le _,rfl,rfl,hG,hB⟩
    case round =>
     clear hG hB
     obtain ⟨i,hi',hgk,rfl,hG,hB⟩ := hrel
     have HGK2 := hid hgk;clear hgk
     by_cases hli : i < FS.length
     ·have hii : (i : Int) < (FS.length : Int) := by omega
      have hiq : i < qs.length := by rw [HQL.out];exact hli
      have hiqi : (i : Int) < (qs.length : Int) := by omega
      obtain ⟨a',ha,hrl,hc0,hcc⟩ := (show RowsAt 4 wr (.slice fa (FS.map rowF).length fc) (FS.map rowF) by rw [List.length_map];exact HFA.out.below hB).row (k := i) (by rw [List.length_map];exact hli)
      subst ha
      obtain ⟨f,hf⟩ : ∃ f,FS[i] = f := ⟨_,rfl⟩
      have hfo := hok f (by rw [← hf];exact List.getElem_mem hli)
      have hfe : FS[i]? = some f := by rw [List.getElem?_eq_getElem hli,hf]
      obtain ⟨fw,fd,fh,fg⟩ := f
      have hat : (FS.map rowF)[i]'(by rw [List.length_map];exact hli) = [fw,fd,fh,fg] := by rw [List.getElem_map,hf];rfl
      rw [hat] at hc0 hcc
      have r0 := hc0 _ rfl
      have r1 := hcc 1 _ (by decide) rfl
      have r2 := hcc 2 _ (by decide) rfl
      have r3 := hcc 3 _ (by decide) rfl
      clear hc0 hcc hat hrl hf
      obtain ⟨a2,ha2,s0,s1,s2⟩ := (hp.below hB).row hiq
      subst ha2
      obtain ⟨p,hpm,hpe⟩ := pack_stand HP.out hfe (List.getElem?_eq_getElem hiq)
      obtain ⟨py,px,pt⟩ := p
      rw [hpe] at s0 s1 s2
      unfold toSq at s0 s1 s2 hpe
      dsimp only at s0 s1 s2 hpe
      have hqe : qs[i]? = some ⟨(py : Int),(px : Int),pt⟩ := by rw [List.getElem?_eq_getElem hiq,hpe]
      have hoa := standsN_ok hpm
      unfold okAt at hoa
      rw [Bool.and_eq_true,decide_eq_true_eq,decide_eq_true_eq] at hoa
      dsimp only at hoa
      unfold FtOk at hfo
      obtain ⟨wi,de,hsd⟩ : ∃ wi de : Nat,sideV ⟨fw,fd,fh,fg⟩ pt = ((wi : Int),(de : Int)) := by unfold sideV;dsimp only at hfo ⊢;split;exact ⟨fd.toNat,fw.toNat,by simp;omega⟩;exact ⟨fw.toNat,fd.toNat,by simp;omega⟩
      rw [hsd] at hoa
      dsimp only at hoa
      have HMX := hid (mixG_all (fs := FS) (qs := qs) hfe hqe (by rw [hsd]) (by rw [hsd]))
      have HSD := hid hsd;clear hsd hpm hpe hqe hfe hfo
      obtain ⟨v8,hv8⟩ : ∃ v,v = wr := ⟨_,rfl⟩
      subst hv8
      go_upto_region 13 with fail
      generalize hW : World.alloc (World.alloc v8 _) _ = v13
      have ci : v13.cell? ⟨v8.heap.size,0,none⟩ = some (.int .i64 (i : Nat)) := by rw [← hW];simp [go_sem]
      have d0 : v13.cell? ⟨v8.heap.size + 1,0,none⟩ = some (.int .i64 fw) := by rw [← hW];simp [go_sem]
      have d1 : v13.cell? ⟨v8.heap.size + 1,1,none⟩ = some (.int .i64 fd) := by rw [← hW];simp [go_sem]
      have d2 : v13.cell? ⟨v8.heap.size + 1,2,none⟩ = some (.int .i64 fh) := by rw [← hW];simp [go_sem]
      have d3 : v13.cell? ⟨v8.heap.size + 1,3,none⟩ = some (.int .i64 fg) := by rw [← hW];simp [go_sem]
      have hb : Below v8.heap.size v8 v13 := by rw [← hW];exact ((Below.refl _ _).alloc (Nat.le_refl _) _).alloc (by simp) _
      have hz13 : v8.heap.size < v13.heap.size := World.block_lt_of_cell? v13 _ ci
      replace s0 := bkeep hb s0
      replace s1 := bkeep hb s1
      replace s2 := bkeep hb s2
      have hG2 := hG.below hb
      have hB2 := hB.trans (hb.mono hB.size)
      have hoff : ∀ y,y < k → R y < v8.heap.size := fun y hy => (hG.off y hy).2.2.2
      have hlow : ∀ y,y < k → v4.heap.size ≤ R y := fun y hy => (hG.off y hy).2.2.1
      have HOFF := hid hoff;have HLOW := hid hlow
      clear hb hW r0 r1 r2 r3 hG hB hoff hlow
      have xci := fun x : BW v13 => bkeep x.below ci
      have xd0 := fun x : BW v13 => bkeep x.below d0
      have xd1 := fun x : BW v13 => bkeep x.below d1
      have xd2 := fun x : BW v13 => bkeep x.below d2
      have xd3 := fun x : BW v13 => bkeep x.below d3
      have xs0 := fun x : BW v13 => bkeep x.below s0
      have xs1 := fun x : BW v13 => bkeep x.below s1
      have xs2 := fun x : BW v13 => bkeep x.below s2
      refine wp_region_gb [0,1,2,3,4,5] 1 (by kernel_rfl) rfl (by kernel_rfl) fun hc => ?_
      simp only [named,List.filterMap_cons,List.filterMap_nil,List.getElem?_toArray,List.getElem?_cons_succ,List.getElem?_cons_zero]
      show wpQuiet _ _ _ _ [_,_,_,_,_,_] _
      repeat (go_big_quiet_step (fail))
      (refine wpQuiet_nil ?_;intro w2 hb)
      have hG3 := hG2.below hb
      have hB3 := hB2.trans (hb.mono hB2.size)
      have ci' := bkeep hb ci
      have hz2 := hb.size
      clear hb hc hG2 hB2 xci xd0 xd1 xd2 xd3 xs0 xs1 xs2
      refine wpAny_ready (rs := [6]) (by kernel_rfl) (by simp) ?_
      refine AllReady.cons rfl (fun K hK => ?_) AllReady.nil
      go_simp
      refine (forCells_do (y := py) (x := px) (wi := wi) (de := de) HSD.out (by omega) (by omega) (I := fun kk j W => GridAt v4.heap.size Bg v4.heap.size k Wd R k (mixG (fun y x => gridC FS qs y x i) ((i : Int) + 1) py px wi kk j) W ∧ Below v4.heap.size v4 W ∧ W.cell? ⟨v8.heap.size,0,none⟩ = some (.int .i64 (i : Nat))) (fun kk j W W' h hb => ⟨h.1.below hb,h.2.1.trans (hb.mono h.2.1.size),bkeep hb h.2.2⟩) (fun kk W h => by rw [← mixG_row];exact h) ?_ ⟨by rw [mixG_zero];exact hG3,hB3,ci'⟩).mono ?_
      ·intro kk j W hkk hjj hsz hI
       obtain ⟨hG9,hB9,hc9⟩ := hI
       have hy : py + kk < k := by omega
       have hx : px + j < Wd := by omega
       have h := gridPut (y := py + kk) (x := px + j) hc9 hG9.var hy hx (by omega) (by omega) (by omega) (hG9.top _ hy) (hG9.cell _ _ hy hx).1 (hG9.cell _ _ hy hx).2
       rw [Int.natCast_add,Int.natCast_add] at h
       refine h.mono ?_
       rintro e W' ⟨rfl,W1,hb,rfl⟩
       have o1 := HOFF.out _ hy
       have o2 := HLOW.out _ hy
       refine ⟨rfl,⟨?_,(hB9.trans (hb.mono hB9.size)).setCell (p := ⟨R (py + kk),px + j,none⟩) o2 _, ?_⟩,R (py + kk),by omega,grown_set hb _ _ _⟩
       ·rw [mixG_cell];exact (hG9.below hb).set hy hx
       ·rw [cell_off (fun e => by have := e.1;omega)];exact bkeep hb hc9
      rintro e w4 ⟨rfl,⟨hG4,hB4, -⟩,hz4⟩
      refine hK _ _ ?_;clear hK K
      refine wpAny_done (by kernel_rfl) ?_ _
      rw [HMX.out] at hG4
      go_wp2_with fail
      go_roundg (FS.length - (i + 1))
      case measure => have h := HGK2.out;omega
      case rel => exact ⟨i + 1,by omega,rfl,by go_num,hG4,hB4⟩
     ·obtain rfl : i = FS.length := by omega
      have c0 := hG.var
      have hBw : Below w.heap.size w wr := bnext (w := w) hb0 hB
      go_wp2_with fail
      go_ret2
      refine ⟨_,rfl,hBw,some ⟨v4.heap.size,0,none⟩,k,by rw [gridL_len];simp,fun y g hg => ?_⟩
      have hy : y < k := by have := (List.getElem?_eq_some_iff.1 hg).1;rw [gridL_len] at this;simpa using this
      refine ⟨_,rfl,_,by rw [Go.WideShapes.add_plain,Nat.zero_add];exact hG.top y hy, ?_⟩
      unfold gridL at hg
      rw [List.getElem?_map,List.getElem?_range (by simpa using hy)] at hg
      obtain rfl := Option.some.inj hg
      exact hG.nums (by omega) (by omega) hy
 ·have hr0 : rows = [] := by rw [← hr];unfold gridA;rw [if_neg (by rw [hc];exact hc0)]
  subst hr0
  have hcn : (c != 0) = true := by simpa using hc0
  have HC := hid hc;clear hc hr
  go_enter Tryz.func31,Tryz.ntmps31
  go_wp2_with fail
  refine (packed_any (h1.below (by go_grown)) (h2.below (by go_grown)) (hl.below (by go_grown)) (hp.below (by go_grown))).mono ?_
  rintro e w1 ⟨fv,rfl,hb,ho⟩
  replace hb0 := bnext (w := w) (by go_grown) hb;have hz := hb.size;(try simp only [World.size_alloc,World.size_setCell] at hz);replace q0 : w1.cell? ⟨w.heap.size,0,none⟩ = some (vs) := bkeep hb (by first|with_reducible exact q0|with_reducible exact akeep q0|simp[*,go_sem]);replace q1 : w1.cell? ⟨w.heap.size,1,none⟩ = some (vb) := bkeep hb (by first|with_reducible exact q1|with_reducible exact akeep q1|simp[*,go_sem]);replace q2 : w1.cell? ⟨w.heap.size + 1,0,none⟩ = some (.int .i64 bid) := bkeep hb (by first|with_reducible exact q2|with_reducible exact akeep q2|simp[*,go_sem]);replace q3 : w1.cell? ⟨w.heap.size + 1,1,none⟩ = some (.int .i64 bwi) := bkeep hb (by first|with_reducible exact q3|with_reducible exact akeep q3|simp[*,go_sem]);replace q4 : w1.cell? ⟨w.heap.size + 1,2,none⟩ = some (.int .i64 bde) := bkeep hb (by first|with_reducible exact q4|with_reducible exact akeep q4|simp[*,go_sem]);replace q5 : w1.cell? ⟨w.heap.size + 1,3,none⟩ = some (.int .i64 bce) := bkeep hb (by first|with_reducible exact q5|with_reducible exact akeep q5|simp[*,go_sem]);replace q6 : w1.cell? ⟨w.heap.size + 1,4,none⟩ = some (.int .i64 bhi) := bkeep hb (by first|with_reducible exact q6|with_reducible exact akeep q6|simp[*,go_sem]);replace q7 : w1.cell? ⟨w.heap.size + 1,5,none⟩ = some (.int .i64 bbe) := bkeep hb (by first|with_reducible exact q7|with_reducible exact akeep q7|simp[*,go_sem]);skip
  clear hb
  rw [HC.out]
  obtain ⟨fa,fc,rfl,hfl⟩ := owns_shape ho
  go_wp2_with fail
  go_ret2
  exact ⟨_,rfl,hb0,lists_nil⟩
end Go.Proofs.YtodmidchpbcnpaaGreat
namespace Go.Proofs.YtodmidchpbcnpaaGreat
open Go.RowKit Go.Pb Go.Pb.Ware Go.Pb.Sag


set_option maxRecDepth 100000 in
set_option maxHeartbeats 600000 in
theorem sameItems_eq {w : World} {v1 v2 : Value} {xs : List It} (h1 : RowsAt 3 w v1 (xs.map rowX)) (h2 : RowsAt 3 w v2 (xs.map rowX)) (hz : xs.length ≤ 1000) :
  Calls Tryz.prog 40 #[v1,v2] w (Ret w (.bool true)) := by
 unfold Ret
 obtain ⟨a,ac,rfl,ha1⟩ := h1.shape
 obtain ⟨c,cc,rfl,hc1⟩ := h2.shape
 rw [List.length_map] at h1 h2 ha1 hc1 ⊢
 go_enter Tryz.func40,Tryz.ntmps40
 go_wp2_with fail
 go_loopg [5,13] xs.length (fun gk _ kv wr => ∃ k : Nat,k ≤ xs.length ∧ gk = xs.length - k ∧ kv = .int .i64 k ∧ Below w.heap.size w wr)
 case atStart => exact ⟨0,Nat.zero_le _,rfl,rfl,Below.refl _ _⟩
 case round =>
  obtain ⟨k,hk,hgk,rfl,hB⟩ := hrel
  have HGK := hid hgk;clear hgk
  by_cases hlt : k < xs.length
  ·have hkl : (k : Int) < (xs.length : Int) := by omega
   obtain ⟨⟨ish,imn,icl⟩,hf⟩ : ∃ f,xs[k] = f := ⟨_,rfl⟩
   have hat : (xs.map rowX)[k]'(by rw [List.length_map];exact hlt) = [ish,imn,icl] := by rw [List.getElem_map,hf];rfl
   obtain ⟨a',ha',hrl0,hc0,hcc⟩ := (show RowsAt 3 wr (.slice a (xs.map rowX).length ac) (xs.map rowX) by rw [List.length_map];exact h1.below hB).row (k := k) (by rw [List.length_map];exact hlt)
   rw [hat] at hc0 hcc
   have r0 := hc0 _ rfl
   have r1 := hcc 1 _ (by decide) rfl
   have r2 := hcc 2 _ (by decide) rfl
   clear hc0 hcc hrl0
   obtain ⟨c',hc',hrl0,hc0,hcc⟩ := (show RowsAt 3 wr (.slice c (xs.map rowX).length cc) (xs.map rowX) by rw [List.length_map];exact h2.below hB).row (k := k) (by rw [List.length_map];exact hlt)
   rw [hat] at hc0 hcc
   have t0 := hc0 _ rfl
   have t1 := hcc 1 _ (by decide) rfl
   have t2 := hcc 2 _ (by decide) rfl
   clear hc0 hcc hrl0 hat hf
   subst ha';subst hc'
   have s0 := fun x : BW wr => bkeep x.below r0
   have s1 := fun x : BW wr => bkeep x.below r1
   have s2 := fun x : BW wr => bkeep x.below r2
   have s3 := fun x : BW wr => bkeep x.below t0
   have s4 := fun x : BW wr => bkeep x.below t1
   have s5 := fun x : BW wr => bkeep x.below t2
   go_upto_region 6 with fail
   refine wp_region_Rs [(8,fun v _ => v = .bool false)] [0,1,2,3,4,5,6,7,8] 0 (by kernel_rfl) rfl (by simp only [List.forall_mem_cons];exact ⟨keeps_eq,fun _ h => by cases h⟩) (by kernel_rfl) ?_
   simp only [numbered,List.filterMap_cons,List.filterMap_nil,List.getElem?_toArray,List.getElem?_cons_succ,List.getElem?_cons_zero,Option.map_some]
   show wpS _ _ _ _ _ _ _ [(_,_),(_,_),(_,_),(_,_),(_,_),(_,_),(_,_),(_,_),(_,_)] _ _
   (refine wpS_quiet rfl rfl ?_;intro K hK inst hx;go_big_quiet_op;(first | go_big_quiet_on | (refine ⟨_,fun _ => rfl, ?_⟩;go_big_quiet_on));clear hx inst)
   (refine wpS_quiet rfl rfl ?_;intro K hK inst hx;go_big_quiet_op;(first | go_big_quiet_on | (refine ⟨_,fun _ => rfl, ?_⟩;go_big_quiet_on));clear hx inst)
   (refine wpS_quiet rfl rfl ?_;intro K hK inst hx;go_big_quiet_op;(first | go_big_quiet_on | (refine ⟨_,fun _ => rfl, ?_⟩;go_big_quiet_on));clear hx inst)
   (refine wpS_quiet rfl rfl ?_;intro K hK inst hx;have s0 := fun x => (fun _ => bkeep (BQ.below x) r0) (hx x);have s1 := fun x => (fun _ => bkeep (BQ.below x) r1) (hx x);have s2 := fun x => (fun _ => bkeep (BQ.below x) r2) (hx x);have s3 := fun x => (fun _ => bkeep (BQ.below x) t0) (hx x);have s4 := fun x => (fun _ => bkeep (BQ.below x) t1) (hx x);have s5 := fun x => (fun _ => bkeep (BQ.below x) t2) (hx x);go_big_quiet_op;(first | go_big_quiet_on | (refine ⟨_,fun _ => rfl, ?_⟩;go_big_quiet_on));clear hx inst)
   (refine wpS_quiet rfl rfl ?_;intro K hK inst hx;go_big_quiet_op;(first | go_big_quiet_on | (refine ⟨_,fun _ => rfl, ?_⟩;go_big_quiet_on));clear hx inst)
   (refine wpS_quiet rfl rfl ?_;intro K hK inst hx;go_big_quiet_op;(first | go_big_quiet_on | (refine ⟨_,fun _ => rfl, ?_⟩;go_big_quiet_on));clear hx inst)
   (refine wpS_quiet rfl rfl ?_;intro K hK inst hx;go_big_quiet_op;(first | go_big_quiet_on | (refine ⟨_,fun _ => rfl, ?_⟩;go_big_quiet_on));clear hx inst)
   (refine wpS_quiet rfl rfl ?_;intro K hK inst hx;have s0 := fun x => (fun _ => bkeep (BQ.below x) r0) (hx x);have s1 := fun x => (fun _ => bkeep (BQ.below x) r1) (hx x);have s2 := fun x => (fun _ => bkeep (BQ.below x) r2) (hx x);have s3 := fun x => (fun _ => bkeep (BQ.below x) t0) (hx x);have s4 := fun x => (fun _ => bkeep (BQ.below x) t1) (hx x);have s5 := fun x => (fun _ => bkeep (BQ.below x) t2) (hx x);go_big_quiet_op;(first | go_big_quiet_on | (refine ⟨_,fun _ => rfl, ?_⟩;go_big_quiet_on));clear hx inst)
   refine wpS_fresh rfl rfl (fun w' hb hF => ?_) ?_
   ·change freshAt _ _ _ (fun v _ => v = .bool false) _;unfold freshAt;go_simp;simp [Below.refl]
   intro v W hv;simp only [pOf,List.lookup_cons,Nat.reduceBEq,beq_self_eq_true] at hv;subst hv
   simp only [Act.put,List.setIfInBounds_toArray,List.set_cons_succ,List.set_cons_zero]
   refine wpS_nil ?_
   intro w3 hall
   have hb := hall.1
   clear hall
   refine wpAny_done (by kernel_rfl) ?_ _
   replace hB := bnext (w := w) hB hb
   go_wp2_with fail
   go_roundg (xs.length - (k + 1))
   case measure => have h := HGK.out;omega
   case rel => exact ⟨k + 1,by omega,rfl,by go_num,hB⟩
  ·obtain rfl : k = xs.length := by omega
   go_wp2_with fail
   go_ret
   exact ⟨rfl,hB⟩
end Go.Proofs.YtodmidchpbcnpaaGreat