/- Part of a claim. -/
import Derived.Test.YthdfnkdifjajlaaGreatDoorG25U
import Derived.Test.YthdfnkdifjajlaaGreatDoorKG50U
import Derived.Test.YthdfnkdifjajlaaGreatDoorG16U
set_option linter.unusedVariables false
set_option linter.unusedSimpArgs false
namespace Go.Proofs.YthdfnkdifjajlaaGreatDoor
open Go.RowKit Go.Pb Go.Pb.Ware Go.Pb.Sag


def FreshNums (zs : List Int) (W : World) (e : Ending) (w' : World) : Prop := ∃ v,e = .returned v ∧ Below W.heap.size W w' ∧ NumsAt w' v zs ∧ ∀ b,v.ownBlock = some b → W.heap.size ≤ b
theorem numsAt_set {W : World} {v u : Value} {zs : List Int} {B o : Nat} (h : NumsAt W v zs) (hv : ∀ b,v.ownBlock = some b → b ≠ B) : NumsAt (W.setCell ⟨B,o,none⟩ u) v zs := by
 rcases h with h | ⟨a,cap,rfl,h2,h3,h4⟩
 ·exact .inl h
 ·refine .inr ⟨a,cap,rfl,h2,h3,fun k z hz => ⟨?_,(h4 k z hz).2⟩⟩
  rw [World.cell?_setCell_other _ _ _ _ (fun e => hv a.block rfl (by have e2 := congrArg Addr.block e;unfold Addr.add at e2;split at e2 <;> exact e2.symm))]
  exact (h4 k z hz).1
set_option maxRecDepth 100000 in
set_option maxHeartbeats 1000000 in
theorem needed_any {w : World} {bid bwi bde bce bhi bbe kind : Int} {lv : Value} {fs : List Ft} (hX : boxOk ⟨bid,bwi,bde,bce,bhi,bbe⟩ = true) (hl : FeetAt w lv fs) (hok : ∀ f ∈ fs,FtOk f) (hn : fs.length ≤ 5) :
  Calls Tryz.prog 46 #[.int .i64 kind, .agg #[.int .i64 bid, .int .i64 bwi, .int .i64 bde, .int .i64 bce, .int .i64 bhi, .int .i64 bbe],lv] w (FreshNums (neededL ⟨bid,bwi,bde,bce,bhi,bbe⟩ fs kind) w) := by
 unfold FreshNums
 obtain ⟨la,lc,rfl,hll⟩ := hl.shape
 rw [List.length_map] at hl hll ⊢
 obtain ⟨i0,hi,hz0,hz1,hz2⟩ := info_parts Tryz.infoI
 go_enter Tryz.func46,Tryz.ntmps46
 go_wp2_with (at_make;refine wpList_make_full _ rfl _ _ 73 rfl (w.heap.size + 1) 3 i0 (.int .i64 0) 1 Tryz.underlying73 hi hz0 hz1 .i64 .i64 _ _ fs.length rfl rfl rfl rfl (by rw [hz2];omega) (by unfold maxLen;omega) (by simp) ?_;intro w5 ho5 hg5)
 have hb5 : Below (w.alloc (.cells #[.int .i64 bid, .int .i64 bwi, .int .i64 bde, .int .i64 bce, .int .i64 bhi, .int .i64 bbe] 61)).heap.size (w.alloc (.cells #[.int .i64 bid, .int .i64 bwi, .int .i64 bde, .int .i64 bce, .int .i64 bhi, .int .i64 bbe] 61)) w5 := (Below.refl _ _).grown hg5 (Nat.le_refl _) (fun k h => by cases h)
 have hB5 : Below w.heap.size w w5 := ((Below.refl w.heap.size w).alloc (Nat.le_refl _) _).trans (hb5.mono (by simp))
 have hC5 : CellsAt w5 w.heap.size [.int .i64 bid, .int .i64 bwi, .int .i64 bde, .int .i64 bce, .int .i64 bhi, .int .i64 bbe] := (CellsAt.new w [.int .i64 bid, .int .i64 bwi, .int .i64 bde, .int .i64 bce, .int .i64 bhi, .int .i64 bbe] 61).below hb5
 simp only [World.size_alloc] at ho5
 have hm5 := made_any (B := w.heap.size + 1) rfl ho5
 have hz5 : w.heap.size + 1 < w5.heap.size := by have := (World.ownsRow.lt ho5 (w.heap.size + 1) (by simp [Value.ownBlock])).2;exact this
 clear ho5 hg5 hb5
 obtain ⟨n,hnn⟩ : ∃ n,fs.length = n := ⟨_,rfl⟩
 rw [hnn] at hm5 hl hll hn ⊢
 have hR : neededL ⟨bid,bwi,bde,bce,bhi,bbe⟩ fs kind = needLoop ⟨bid,bwi,bde,bce,bhi,bbe⟩ fs kind n (idxs n) := by unfold neededL;rw [hnn]
 have HR := hid hR;have HN := hid hnn;clear hR hnn
 go_loopw [8,16] (fun _ iv wr => ∃ k : Nat,k ≤ n ∧ iv = .int .i64 k ∧ IdxAt (w.heap.size + 1) n k wr ∧ Below w.heap.size w wr ∧ CellsAt wr w.heap.size [.int .i64 bid, .int .i64 bwi, .int .i64 bde, .int .i64 bce, .int .i64 bhi, .int .i64 bbe] ∧ w.heap.size + 1 < wr.heap.size) (fun _ iv _ => n - (intOf iv).toNat)
 case atStart => exact ⟨0,Nat.zero_le _,rfl,fun j hj => by rw [if_neg (by omega)];exact hm5 j hj,hB5,hC5,hz5⟩
 case round =>
  clear hm5 hB5 hC5 hz5
  obtain ⟨k,hk,rfl,hI,hB,hC,hz⟩ := hrel
  by_cases hlt : k < n
  ·have c0 := (hI k hlt).1
   have c1 := (hI k hlt).2
   have hki : (k : Int) < (n : Int) := by omega
   go_wp2_with fail
   go_roundw
   case rel => exact ⟨k + 1,by omega,by go_num,hI.set hlt,hB.setCell (p := ⟨w.heap.size + 1,k,none⟩) (by simp) _,hC.other (by omega) _,by simpa using hz⟩
   case measure => first | (simp [intOf];done) | (simp [intOf];omega)
  ·obtain rfl : k = n := by omega
   have hI2 := hI.nums (by omega)
   clear hI
   go_wp2_with fail
   go_loopw [7,9] (fun lv iv wr => ∃ (m : Nat) (l : List Int),iv = .int .i64 ((m : Int) - 1) ∧ m ≤ k ∧ NumsAt wr lv l ∧ (∀ b,lv.ownBlock = some b → w.heap.size ≤ b) ∧ (∀ z ∈ l,0 ≤ z ∧ z < (k : Int)) ∧ m ≤ l.length ∧ l.length ≤ k ∧ Hid (needLoop ⟨bid,bwi,bde,bce,bhi,bbe⟩ fs kind m l = neededL ⟨bid,bwi,bde,bce,bhi,bbe⟩ fs kind) ∧ Below w.heap.size w wr ∧ CellsAt wr w.heap.size [.int .i64 bid, .int .i64 bwi, .int .i64 bde, .int .i64 bce, .int .i64 bhi, .int .i64 bbe]) (fun _ iv _ => (intOf iv + 1).toNat)
   case atStart => exact ⟨k,idxs k,rfl,Nat.le_refl _,hI2,fun b hb => by (injection hb with hb;subst hb;show w.heap.size ≤ w.heap.size + 1;omega),fun z hz => idxs_mem hz,by rw [idxs_len];exact Nat.le_refl _,by rw [idxs_len];exact Nat.le_refl _,HR.out.symm,hB,hC⟩
   case round =>
    clear hB hC hI2 hz
    obtain ⟨m,l,rfl,hm,hL,hown,hlz,hml,hlk,HL,hB,hC⟩ := hrel
    obtain ⟨ia,ic,rfl,hl1,hl2⟩ := hL.shape
    have hs := hB.size
    have HO := hid hown;clear hown
    cases m with
    | zero =>
     have hn0 : ¬ (0 : Int) ≤ ((0 : Nat) : Int) - 1 := by omega
     go_wp2_with fail
     go_ret
     exact ⟨_,rfl,hB,by rw [← HL.out];exact hL,HO.out⟩
    | succ i =>
     rw [show (((i + 1 : Nat) : Int) - 1) = (i : Int) by omega]
     have hil : i < l.length := by omega
     have hi0 : (0 : Int) ≤ (i : Int) := by omega
     go_wp2_with fail
     refine (withoutO hL hil (by omega)).mono ?_
     rintro e v1 ⟨rv,rfl,hb,ho1⟩
     have hr1 := numsAt_of_owns (fun z hz => hL.i64 z (List.mem_of_mem_eraseIdx hz)) ho1
     have hown1 : ∀ b,rv.ownBlock = some b → w.heap.size ≤ b := fun b e => by have := (World.ownsRow.lt ho1 b e).1;omega
     have HO1 := hid hown1;clear hown1 ho1
     have hB1 : Below w.heap.size w v1 := bnext (w := w) hB hb
     have hC1 := hC.below hb
     have hL1 := hL.below hb
     have hl1 := hl.below hB1
     have hel : (l.eraseIdx i).length = l.length - 1 := by rw [List.length_eraseIdx_of_lt hil]
     obtain ⟨b,hbb⟩ : ∃ b,troubleA ⟨bid,bwi,bde,bce,bhi,bbe⟩ (chosenL fs (l.eraseIdx i)) kind = b := ⟨_,rfl⟩
     have hst : needStep ⟨bid,bwi,bde,bce,bhi,bbe⟩ fs kind l i = if b = true then l.eraseIdx i else l := by unfold needStep;rw [hbb]
     have hnl : needLoop ⟨bid,bwi,bde,bce,bhi,bbe⟩ fs kind i (needStep ⟨bid,bwi,bde,bce,bhi,bbe⟩ fs kind l i) = neededL ⟨bid,bwi,bde,bce,bhi,bbe⟩ fs kind := HL.out
     rw [hst] at hnl
     have hz1 : ∀ z ∈ l.eraseIdx i,0 ≤ z ∧ z < (k : Int) := fun z h => hlz z (erase_mem h)
     obtain ⟨l1,he1⟩ : ∃ l1,l.eraseIdx i = l1 := ⟨_,rfl⟩
     rw [he1] at hr1 hel hbb hnl hz1
     have hg1 : i ≤ l1.length ∧ l1.length ≤ 4 ∧ l1.length ≤ k := by omega
     obtain ⟨cs,hcs⟩ : ∃ cs,chosenL fs l1 = cs := ⟨_,rfl⟩
     have hok1 := chosen_ok hok (zs := l1) (fun z h => by rw [HN.out];exact hz1 z h)
     have hn1 : (chosenL fs l1).length ≤ 5 := by unfold chosenL;rw [List.length_map];omega
     rw [hcs] at hbb hok1 hn1
     obtain ⟨ra,rc,rfl,hr2,hr3⟩ := hr1.shape
     have hch : ∀ W' : World,Below v1.heap.size v1 W' → Calls Tryz.prog 76 #[.slice la k lc, .slice ra l1.length rc] W' (fun e w'' => ∃ u,e = .returned u ∧ Below W'.heap.size W' w'' ∧ w''.ownsRow v1.heap.size 66 4 u cs.length (cs.flatMap cellsF)) := fun W' hb => by
      rw [← hcs];refine (chosen_any (hl1.below hb) (by rw [HN.out];omega) (hr1.below hb) (by omega) (fun z h => by rw [HN.out];exact hz1 z h)).mono ?_
      rintro e w'' ⟨u,rfl,h2,h3⟩
      exact ⟨u,rfl,h2,owns_base hb.size h3⟩
     have htr : ∀ (W' : World) (u : Value),W'.ownsRow v1.heap.size 66 4 u cs.length (cs.flatMap cellsF) → Calls Tryz.prog 45 #[.int .i64 kind, .agg #[.int .i64 bid, .int .i64 bwi, .int .i64 bde, .int .i64 bce, .int .i64 bhi, .int .i64 bbe],u] W' (Ret W' (.bool b)) := fun W' u h => trouble_any hX (feetAt_of_owns hok1 h) hok1 hn1 hbb
     have HCH := hid hch;have HTR := hid htr;have HNL := hid hnl;have HZ := hid hz1;clear hch htr hnl hbb hst HL hb hel he1 hcs hok1 hn1 hz1
     have q0 := (hC1 0 _ rfl).1
     have q1 := (hC1 1 _ rfl).1
     have q2 := (hC1 2 _ rfl).1
     have q3 := (hC1 3 _ rfl).1
     have q4 := (hC1 4 _ rfl).1
     have q5 := (hC1 5 _ rfl).1
     go_upto_region 11 with fail
     refine wp_region_Rs [(4,fun v W => W.ownsRow v1.heap.size 66 4 v cs.length (cs.flatMap cellsF)),(5,fun v _ => v = .bool b)] [0,1,2,3,4,5] 0 (by kernel_rfl) rfl (by simp only [List.forall_mem_cons];exact ⟨keeps_owns,keeps_eq,fun _ h => by cases h⟩) (by kernel_rfl) ?_
     simp only [numbered,List.filterMap_cons,List.filterMap_nil,List.getElem?_toArray,List.getElem?_cons_succ,List.getElem?_cons_zero,Option.map_some]
     show wpS _ _ _ _ _ _ _ [(_,_),(_,_),(_,_),(_,_),(_,_),(_,_)] _ _
     (refine wpS_quiet rfl rfl ?_;intro K hK inst hx;go_big_quiet_op;go_big_quiet_on;clear hx inst)
     (refine wpS_quiet rfl rfl ?_;intro K hK inst hx;have s0 := fun x => (fun _ => bkeep (BQ.below x) q0) (hx x);have s1 := fun x => (fun _ => bkeep (BQ.below x) q1) (hx x);have s2 := fun x => (fun _ => bkeep (BQ.below x) q2) (hx x);have s3 := fun x => (fun _ => bkeep (BQ.below x) q3) (hx x);have s4 := fun x => (fun _ => bkeep (BQ.below x) q4) (hx x);have s5 := fun x => (fun _ => bkeep (BQ.below x) q5) (hx x);go_big_quiet_op;go_big_quiet_on;clear hx inst)
     (refine wpS_quiet rfl rfl ?_;intro K hK inst hx;go_big_quiet_op;go_big_quiet_on;clear hx inst)
     (refine wpS_quiet rfl rfl ?_;intro K hK inst hx;go_big_quiet_op;go_big_quiet_on;clear hx inst)
     refine wpS_fresh rfl rfl (fun w' hb hF => ?_) ?_
     ·change freshAt _ _ _ (fun v W => W.ownsRow v1.heap.size 66 4 v cs.length (cs.flatMap cellsF)) _;unfold freshAt;go_simp;exact HCH.out _ hb
     intro v W hv;simp only [pOf,List.lookup_cons,Nat.reduceBEq,beq_self_eq_true] at hv;obtain ⟨ca,cc,rfl, -⟩ := owns_shape hv
     simp only [Act.put,List.setIfInBounds_toArray,List.set_cons_succ,List.set_cons_zero]
     refine wpS_fresh rfl rfl (fun w' hb hF => ?_) ?_
     ·change freshAt _ _ _ (fun v _ => v = .bool b) _;have h4 := hF 4 _ rfl (by kernel_rfl);unfold freshAt;go_simp;exact HTR.out _ _ h4
     intro v W hv;simp only [pOf,List.lookup_cons,Nat.reduceBEq,beq_self_eq_true] at hv;subst hv
     simp only [Act.put,List.setIfInBounds_toArray,List.set_cons_succ,List.set_cons_zero]
     refine wpS_nil ?_
     intro w2 hall
     have hb := hall.1
     clear hall
     refine wpAny_done (by kernel_rfl) ?_ _
     replace hB1 := bnext (w := w) hB1 hb
     replace hC1 := hC1.below hb
     replace hL1 := hL1.below hb
     replace hr1 := hr1.below hb
     clear q0 q1 q2 q3 q4 q5 hb HCH HTR
     cases b
     ·go_wp2_with fail
      go_roundw
      case rel => exact ⟨i,l,rfl,by omega,hL1,HO.out,hlz,by omega,hlk,HNL.out,hB1,hC1⟩
      case measure => first | (simp [intOf];done) | (simp [intOf];omega)
     ·go_wp2_with fail
      go_roundw
      case rel => exact ⟨i,l1,rfl,by omega,hr1,HO1.out,HZ.out,by omega,by omega,HNL.out,hB1,hC1⟩
      case measure => first | (simp [intOf];done) | (simp [intOf];omega)
end Go.Proofs.YthdfnkdifjajlaaGreatDoor