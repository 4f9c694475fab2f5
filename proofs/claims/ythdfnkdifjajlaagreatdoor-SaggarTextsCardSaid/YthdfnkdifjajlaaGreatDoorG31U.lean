/- Part of a claim. -/
import Derived.Test.YthdfnkdifjajlaaGreatDoorG30U
import Derived.Deep.LoopGhost
set_option linter.unusedVariables false
set_option linter.unusedSimpArgs false
namespace Go.Proofs.YthdfnkdifjajlaaGreatDoor
open Go.RowKit Go.Pb Go.Pb.Ware Go.Pb.Sag


theorem take_same {zs ys : List Int} {k : Nat} (hk : k < zs.length) (hl : zs.length = ys.length) (h : zs.take k = ys.take k) (h2 : zs[k] = ys[k]'(by omega)) : zs.take (k + 1) = ys.take (k + 1) := by
 rw [List.take_succ_eq_append_getElem hk,List.take_succ_eq_append_getElem (by omega),h,h2]
set_option maxRecDepth 100000 in
set_option maxHeartbeats 600000 in
theorem sameInts_any {w : World} {v1 v2 : Value} {zs ys : List Int} {b : Bool} (h1 : NumsAt w v1 zs) (h2 : NumsAt w v2 ys) (hz : zs.length ≤ 1000) (hd : decide (zs = ys) = b) :
  Calls Tryz.prog 28 #[v1,v2] w (Ret w (.bool b)) := by
 unfold Ret
 obtain ⟨a,ac,rfl,ha1,ha2⟩ := h1.shape
 obtain ⟨c,cc,rfl,hc1,hc2⟩ := h2.shape
 obtain ⟨n,hn⟩ : ∃ n,zs.length = n := ⟨_,rfl⟩
 have HN := hid hn
 by_cases hl : zs.length = ys.length
 ·have HL := hid hl
  rw [← hl] at h2 ⊢
  rw [hn] at h1 h2 hz ⊢
  clear hn hl ha1 hc1
  go_enter Tryz.func28,Tryz.ntmps28
  go_wp2_with fail
  go_loopg [13] n (fun gk kv wr => ∃ k : Nat,k ≤ n ∧ gk = n - k ∧ kv = .int .i64 k ∧ zs.take k = ys.take k ∧ Below w.heap.size w wr)
  case atStart => exact ⟨0,Nat.zero_le _,rfl,rfl,by simp,Below.refl _ _⟩
  case round =>
   obtain ⟨k,hk,hgk,rfl,ht,hB⟩ := hrel
   have HGK := hid hgk;have HT := hid ht;clear hgk ht
   by_cases hlt : k < n
   ·have hki : (k : Int) < (n : Int) := by omega
    have k1 : k < zs.length := by rw [HN.out];exact hlt
    have k2 : k < ys.length := by rw [← HL.out];exact k1
    obtain ⟨a',e1,r0⟩ := (show NumsAt wr (.slice a zs.length ac) zs by rw [HN.out];exact h1.below hB).elem k1
    obtain ⟨c',e2,r1⟩ := (show NumsAt wr (.slice c ys.length cc) ys by rw [← HL.out,HN.out];exact h2.below hB).elem k2
    subst e1;subst e2
    obtain ⟨x,hx⟩ : ∃ x,zs[k] = x := ⟨_,rfl⟩
    obtain ⟨y,hy⟩ : ∃ y,ys[k] = y := ⟨_,rfl⟩
    rw [hx] at r0;rw [hy] at r1
    have HX := hid hx;have HY := hid hy;clear hx hy
    have s0 := fun x : BW wr => bkeep x.below r0
    have s1 := fun x : BW wr => bkeep x.below r1
    go_upto_region 6 with fail
    refine wp_region_qb (by kernel_rfl) (by kernel_rfl) fun hc => ?_
    repeat (go_big_quiet_step (fail))
    refine wpQuiet_nil ?_
    intro w3 hb
    replace hB := bnext (w := w) hB hb
    by_cases hxy : x = y
    ·have hnx : (x != y) = false := by simp [hxy]
     rw [hnx]
     go_wp2_with fail
     go_roundg (n - (k + 1))
     case measure => have h := HGK.out;omega
     case rel => exact ⟨k + 1,by omega,rfl,by go_num,take_same k1 HL.out HT.out (by rw [HX.out,HY.out];exact hxy),hB⟩
    ·have hnx : (x != y) = true := by simp [hxy]
     rw [hnx]
     have hb2 : b = false := by
      rw [← hd,decide_eq_false_iff_not];intro e;subst e;exact hxy (HX.out.symm.trans HY.out)
     subst hb2
     go_wp2_with fail
     go_ret
     exact ⟨rfl,hB⟩
   ·obtain rfl : k = n := by omega
    have hb2 : b = true := by
     rw [← hd,decide_eq_true_eq];have h := HT.out;rwa [List.take_of_length_le (by rw [HN.out];exact Nat.le_refl _),List.take_of_length_le (by rw [← HL.out,HN.out];exact Nat.le_refl _)] at h
    subst hb2
    go_wp2_with fail
    go_ret
    exact ⟨rfl,hB⟩
 ·have hb2 : b = false := by
   rw [← hd,decide_eq_false_iff_not];intro e;exact hl (by rw [e])
  subst hb2
  have hli : ¬ (zs.length : Int) = (ys.length : Int) := by omega
  go_enter Tryz.func28,Tryz.ntmps28
  go_wp2_with fail
  go_ret
  exact ⟨rfl,Below.refl _ _⟩
def ListsAt (v : Value) (gs : List (List Int)) (W : World) : Prop := ∃ (a : Option Addr) (cap : Nat),v = .slice a gs.length cap ∧ ∀ k g,gs[k]? = some g → ∃ a',a = some a' ∧ ∃ u,W.cell? (a'.add k) = some u ∧ NumsAt W u g
theorem ListsAt.below {v : Value} {gs : List (List Int)} {W W' : World} (h : ListsAt v gs W) (hb : Below W.heap.size W W') : ListsAt v gs W' := by
 obtain ⟨a,cap,e,h⟩ := h
 refine ⟨a,cap,e,fun k g hg => ?_⟩
 obtain ⟨a',e2,u,h1,h2⟩ := h k g hg
 exact ⟨a',e2,u,bkeep hb h1,h2.below hb⟩
theorem take_same2 {zs ys : List (List Int)} {k : Nat} (hk : k < zs.length) (hl : zs.length = ys.length) (h : zs.take k = ys.take k) (h2 : zs[k] = ys[k]'(by omega)) : zs.take (k + 1) = ys.take (k + 1) := by
 rw [List.take_succ_eq_append_getElem hk,List.take_succ_eq_append_getElem (by omega),h,h2]
set_option maxRecDepth 100000 in
set_option maxHeartbeats 600000 in
theorem sameRows_any {w : World} {v1 v2 : Value} {zs ys : List (List Int)} {b : Bool} (h1 : ListsAt v1 zs w) (h2 : ListsAt v2 ys w) (hz : zs.length ≤ 1000) (hsz : ∀ z ∈ zs,z.length ≤ 1000) (hd : decide (zs = ys) = b) :
  Calls Tryz.prog 29 #[v1,v2] w (Ret w (.bool b)) := by
 unfold Ret
 obtain ⟨a,ac,rfl,ha⟩ := h1
 obtain ⟨c,cc,rfl,hc⟩ := h2
 have HA := hid ha;have HC := hid hc;clear ha hc
 obtain ⟨n,hn⟩ : ∃ n,zs.length = n := ⟨_,rfl⟩
 have HN := hid hn
 by_cases hl : zs.length = ys.length
 ·have HL := hid hl
  rw [← hl]
  rw [hn] at hz ⊢
  clear hn hl
  go_enter Tryz.func29,Tryz.ntmps29
  go_wp2_with fail
  go_loopg [13] n (fun gk kv wr => ∃ k : Nat,k ≤ n ∧ gk = n - k ∧ kv = .int .i64 k ∧ zs.take k = ys.take k ∧ Below w.heap.size w wr)
  case atStart => exact ⟨0,Nat.zero_le _,rfl,rfl,by simp,Below.refl _ _⟩
  case round =>
   obtain ⟨k,hk,hgk,rfl,ht,hB⟩ := hrel
   have HGK := hid hgk;have HT := hid ht;clear hgk ht
   by_cases hlt : k < n
   ·have hki : (k : Int) < (n : Int) := by omega
    have k1 : k < zs.length := by rw [HN.out];exact hlt
    have k2 : k < ys.length := by rw [← HL.out];exact k1
    obtain ⟨x,hx⟩ : ∃ x,zs[k] = x := ⟨_,rfl⟩
    obtain ⟨y,hy⟩ : ∃ y,ys[k] = y := ⟨_,rfl⟩
    obtain ⟨a',e1,u,r0,hu⟩ := HA.out k x (by rw [List.getElem?_eq_getElem k1,hx])
    obtain ⟨c',e2,t,r1,ht⟩ := HC.out k y (by rw [List.getElem?_eq_getElem k2,hy])
    subst e1;subst e2
    replace r0 := bkeep hB r0;replace r1 := bkeep hB r1
    replace hu := hu.below hB;replace ht := ht.below hB
    have hxl := hsz x (by rw [← hx];exact List.getElem_mem k1)
    obtain ⟨ua,uc,rfl, -⟩ := hu.shape
    obtain ⟨ta,tc,rfl, -⟩ := ht.shape
    obtain ⟨b2,hb2⟩ : ∃ b2,decide (x = y) = b2 := ⟨_,rfl⟩
    have HX := hid hx;have HY := hid hy;have HB2 := hid hb2;have HU := hid hu;have HTT := hid ht;clear hx hy hb2 hu ht
    have s0 := fun x : BW wr => bkeep x.below r0
    have s1 := fun x : BW wr => bkeep x.below r1
    go_upto_region 6 with fail
    refine wp_region_qb (by kernel_rfl) (by kernel_rfl) fun hc => ?_
    repeat (go_big_quiet_step ((go_at_call 28;exact BW.call _ (sameInts_any (HU.out.below (BW.below _)) (HTT.out.below (BW.below _)) hxl HB2.out))))
    refine wpQuiet_nil ?_
    intro w3 hb
    replace hB := bnext (w := w) hB hb
    cases b2
    ·have hb3 : b = false := by
      rw [← hd,decide_eq_false_iff_not];intro e;subst e;exact (decide_eq_false_iff_not.1 HB2.out) (HX.out.symm.trans HY.out)
     subst hb3
     go_wp2_with fail
     go_ret
     exact ⟨rfl,hB⟩
    ·go_wp2_with fail
     go_roundg (n - (k + 1))
     case measure => have h := HGK.out;omega
     case rel => exact ⟨k + 1,by omega,rfl,by go_num,take_same2 k1 HL.out HT.out (by rw [HX.out,HY.out];exact of_decide_eq_true HB2.out),hB⟩
   ·obtain rfl : k = n := by omega
    have hb2 : b = true := by
     rw [← hd,decide_eq_true_eq];have h := HT.out;rwa [List.take_of_length_le (by rw [HN.out];exact Nat.le_refl _),List.take_of_length_le (by rw [← HL.out,HN.out];exact Nat.le_refl _)] at h
    subst hb2
    go_wp2_with fail
    go_ret
    exact ⟨rfl,hB⟩
 ·have hb2 : b = false := by
   rw [← hd,decide_eq_false_iff_not];intro e;exact hl (by rw [e])
  subst hb2
  have hli : ¬ (zs.length : Int) = (ys.length : Int) := by omega
  go_enter Tryz.func29,Tryz.ntmps29
  go_wp2_with fail
  go_ret
  exact ⟨rfl,Below.refl _ _⟩
theorem Sq.ext' {p q : Sq} (h1 : p.y = q.y) (h2 : p.x = q.x) (h3 : p.turned = q.turned) : p = q := by cases p;cases q;simp_all
instance : DecidableEq Sq := fun p q => if h : p.y = q.y ∧ p.x = q.x ∧ p.turned = q.turned then .isTrue (Sq.ext' h.1 h.2.1 h.2.2) else .isFalse (fun e => h (by rw [e];simp))
theorem take_same3 {zs ys : List Sq} {k : Nat} (hk : k < zs.length) (hl : zs.length = ys.length) (h : zs.take k = ys.take k) (h2 : zs[k] = ys[k]'(by omega)) : zs.take (k + 1) = ys.take (k + 1) := by
 rw [List.take_succ_eq_append_getElem hk,List.take_succ_eq_append_getElem (by omega),h,h2]
set_option maxRecDepth 100000 in
set_option maxHeartbeats 600000 in
theorem sameStands_any {w : World} {v1 v2 : Value} {zs ys : List Sq} {b : Bool} (h1 : StAt w v1 zs) (h2 : StAt w v2 ys) (hz : zs.length ≤ 1000) (hd : decide (zs = ys) = b) :
  Calls Tryz.prog 8 #[v1,v2] w (Ret w (.bool b)) := by
 unfold Ret
 obtain ⟨a,ac,rfl,ha1,ha2⟩ := h1.shape
 obtain ⟨c,cc,rfl,hc1,hc2⟩ := h2.shape
 obtain ⟨n,hn⟩ : ∃ n,zs.length = n := ⟨_,rfl⟩
 have HN := hid hn
 by_cases hl : zs.length = ys.length
 ·have HL := hid hl
  rw [← hl] at h2 ⊢
  rw [hn] at h1 h2 hz ⊢
  clear hn hl ha1 hc1
  go_enter Tryz.func8,Tryz.ntmps8
  go_wp2_with fail
  go_loopg [13] n (fun gk kv wr => ∃ k : Nat,k ≤ n ∧ gk = n - k ∧ kv = .int .i64 k ∧ zs.take k = ys.take k ∧ Below w.heap.size w wr)
  case atStart => exact ⟨0,Nat.zero_le _,rfl,rfl,by simp,Below.refl _ _⟩
  case round =>
   obtain ⟨k,hk,hgk,rfl,ht,hB⟩ := hrel
   have HGK := hid hgk;have HT := hid ht;clear hgk ht
   by_cases hlt : k < n
   ·have hki : (k : Int) < (n : Int) := by omega
    have k1 : k < zs.length := by rw [HN.out];exact hlt
    have k2 : k < ys.length := by rw [← HL.out];exact k1
    have z1 := (show StAt wr (.slice a zs.length ac) zs by rw [HN.out];exact h1.below hB).row k1
    have z2 := (show StAt wr (.slice c ys.length cc) ys by rw [← HL.out,HN.out];exact h2.below hB).row k2
    obtain ⟨⟨py,px,pt⟩,hp⟩ : ∃ p,zs[k] = p := ⟨_,rfl⟩
    obtain ⟨⟨qy,qx,qt⟩,hq⟩ : ∃ p,ys[k] = p := ⟨_,rfl⟩
    rw [hp] at z1;rw [hq] at z2
    obtain ⟨a',e1,r0,r1,r2⟩ := z1
    obtain ⟨c',e2,t0,t1,t2⟩ := z2
    subst e1;subst e2
    dsimp only at r0 r1 r2 t0 t1 t2
    have HX := hid hp;have HY := hid hq;clear hp hq
    have s0 := fun x : BW wr => bkeep x.below r0
    have s1 := fun x : BW wr => bkeep x.below r1
    have s2 := fun x : BW wr => bkeep x.below r2
    have s3 := fun x : BW wr => bkeep x.below t0
    have s4 := fun x : BW wr => bkeep x.below t1
    have s5 := fun x : BW wr => bkeep x.below t2
    obtain ⟨bb,hbb⟩ : ∃ bb,(py == qy && (px == qx && pt == qt)) = bb := ⟨_,rfl⟩
    have HBB := hid hbb;clear hbb
    go_upto_region 6 with fail
    refine wp_region_Rs [(8,fun v _ => v = .bool (!bb))] [0,1,2,3,4,5,6,7,8] 0 (by kernel_rfl) rfl (by simp only [List.forall_mem_cons];exact ⟨keeps_eq,fun _ h => by cases h⟩) (by kernel_rfl) ?_
    simp only [numbered,List.filterMap_cons,List.filterMap_nil,List.getElem?_toArray,List.getElem?_cons_succ,List.getElem?_cons_zero,Option.map_some]
    show wpS _ _ _ _ _ _ _ [(_,_),(_,_),(_,_),(_,_),(_,_),(_,_),(_,_),(_,_),(_,_)] _ _
    (refine wpS_quiet rfl rfl ?_;intro K hK inst hx;go_big_quiet_op;(first | go_big_quiet_on | (refine ⟨_,fun _ => rfl, ?_⟩;go_big_quiet_on));clear hx inst)
    (refine wpS_quiet rfl rfl ?_;intro K hK inst hx;go_big_quiet_op;(first | go_big_quiet_on | (refine ⟨_,fun _ => rfl, ?_⟩;go_big_quiet_on));clear hx inst)
    (refine wpS_quiet rfl rfl ?_;intro K hK inst hx;go_big_quiet_op;(first | go_big_quiet_on | (refine ⟨_,fun _ => rfl, ?_⟩;go_big_quiet_on));clear hx inst)
    (refine wpS_quiet rfl rfl ?_;intro K hK inst hx;have s0 := fun x => (fun _ => bkeep (BQ.below x) r0) (hx x);have s1 := fun x => (fun _ => bkeep (BQ.below x) r1) (hx x);have s2 := fun x => (fun _ => bkeep (BQ.below x) r2) (hx x);have s3 := fun x => (fun _ => bkeep (BQ.below x) t0) (hx x);have s4 := fun x => (fun _ => bkeep (BQ.below x) t1) (hx x);have s5 := fun x => (fun _ => bkeep (BQ.below x) t2) (hx x);go_big_quiet_op;(first | go_big_quiet_on | (refine ⟨_,fun _ => rfl, ?_⟩;go_big_quiet_on));clear hx inst)
    (refine wpS_quiet rfl rfl ?_;intro K hK inst hx;go_big_quiet_op;(first | go_big_quiet_on | (refine ⟨_,fun _ => rfl, ?_⟩;go_big_quiet_on));clear hx inst)
    (refine wpS_quiet rfl rfl ?_;intro K hK inst hx;go_big_quiet_op;(first | go_big_quiet_on | (refine ⟨_,fun _ => rfl, ?_⟩;go_big_quiet_on));clear hx inst)
    (refine wpS_quiet rfl rfl ?_;intro K hK inst hx;go_big_quiet_op;(first | go_big_quiet_on | (refine ⟨_,fun _ => rfl, ?_⟩;go_big_quiet_on));clear hx inst)
    (refine wpS_quiet rfl rfl ?_;intro K hK inst hx;have s0 := fun x => (fun _ => bkeep (BQ.below x) r0) (hx x);have s1 := fun x => (fun _ => bkeep (BQ.below x) r1) (hx x);have s2 := fun x => (fun _ => bkeep (BQ.below x) r2) (hx x);have s3 := fun x => (fun _ => bkeep (BQ.below x) t0) (hx x);have s4 := fun x => (fun _ => bkeep (BQ.below x) t1) (hx x);have s5 := fun x => (fun _ => bkeep (BQ.below x) t2) (hx x);go_big_quiet_op;(first | go_big_quiet_on | (refine ⟨_,fun _ => rfl, ?_⟩;go_big_quiet_on));clear hx inst)
    refine wpS_fresh rfl rfl (fun w' hb hF => ?_) ?_
    ·change freshAt _ _ _ (fun v _ => v = .bool (!bb)) _;unfold freshAt;go_simp;rw [← HBB.out];by_cases h1 : py = qy <;> by_cases h2 : px = qx <;> by_cases h3 : pt = qt <;> simp [h1,h2,h3,Below.refl]
    intro v W hv;simp only [pOf,List.lookup_cons,Nat.reduceBEq,beq_self_eq_true] at hv;subst hv
    simp only [Act.put,List.setIfInBounds_toArray,List.set_cons_succ,List.set_cons_zero]
    refine wpS_nil ?_
    intro w3 hall
    have hb := hall.1
    clear hall
    refine wpAny_done (by kernel_rfl) ?_ _
    replace hB := bnext (w := w) hB hb
    have hbb := HBB.out
    cases bb
    ·have hpq : (⟨py,px,pt⟩ : Sq) ≠ ⟨qy,qx,qt⟩ := fun e => by injection e with e1 e2 e3;subst e1;subst e2;subst e3;simp at hbb
     have hb3 : b = false := by
      rw [← hd,decide_eq_false_iff_not];intro e;subst e;exact hpq (HX.out.symm.trans HY.out)
     subst hb3
     clear hbb HBB
     go_wp2_with fail
     go_ret
     exact ⟨rfl,hB⟩
    ·simp only [Bool.and_eq_true,beq_iff_eq] at hbb
     obtain ⟨e1,e2,e3⟩ := hbb
     subst e1;subst e2;subst e3
     clear HBB
     go_wp2_with fail
     go_roundg (n - (k + 1))
     case measure => have h := HGK.out;omega
     case rel => exact ⟨k + 1,by omega,rfl,by go_num,take_same3 k1 HL.out HT.out (HX.out.trans HY.out.symm),hB⟩
   ·obtain rfl : k = n := by omega
    have hb2 : b = true := by
     rw [← hd,decide_eq_true_eq];have h := HT.out;rwa [List.take_of_length_le (by rw [HN.out];exact Nat.le_refl _),List.take_of_length_le (by rw [← HL.out,HN.out];exact Nat.le_refl _)] at h
    subst hb2
    go_wp2_with fail
    go_ret
    exact ⟨rfl,hB⟩
 ·have hb2 : b = false := by
   rw [← hd,decide_eq_false_iff_not];intro e;exact hl (by rw [e])
  subst hb2
  have hli : ¬ (zs.length : Int) = (ys.length : Int) := by omega
  go_enter Tryz.func8,Tryz.ntmps8
  go_wp2_with fail
  go_ret
  exact ⟨rfl,Below.refl _ _⟩
end Go.Proofs.YthdfnkdifjajlaaGreatDoor