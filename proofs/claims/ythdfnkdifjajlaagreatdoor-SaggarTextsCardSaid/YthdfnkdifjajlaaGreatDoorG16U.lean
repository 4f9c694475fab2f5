/- Part of a claim. -/
import Derived.Test.YthdfnkdifjajlaaGreatDoorW25U
import Derived.Test.YthdfnkdifjajlaaGreatDoorKSdU
import Derived.Test.YthdfnkdifjajlaaGreatDoorKXaU
set_option linter.unusedVariables false
set_option linter.unusedSimpArgs false
namespace Go.Proofs.YthdfnkdifjajlaaGreatDoor
open Go.RowKit Go.Pb Go.Pb.Ware Go.Pb.Sag


theorem concat_fresh_own {base c1 c2 l1 l2 : Nat} {a1 a2 : Addr} {xs ys zs : List Int} {v : Value} {w : World} (hbs : base ≤ w.heap.size) (e1 : xs.length = l1) (e2 : ys.length = l2) (ez : xs ++ ys = zs) (h1 : NumsAt w (.slice (some a1) l1 c1) xs) (h2 : NumsAt w (.slice (some a2) l2 c2) ys)
  (hp : IsPair (.slice (some a1) l1 c1) (.slice (some a2) l2 c2) v w) (hx : l1 ≤ 1000) (hy : l2 ≤ 1000) :
  Calls Tryz.prog 101 #[v] w fun e w'' => ∃ u,e = .returned u ∧ Below w.heap.size w w'' ∧ w''.ownsRow base 3 1 u zs.length (zs.map (Value.int .i64)) := by
 subst e1;subst e2;subst ez
 obtain ⟨B,rfl,d0,d1⟩ := hp
 exact (concat_own h1 h2 d0 d1 hx hy).mono fun e w' ⟨v,e1,hb,ho⟩ => ⟨v,e1,hb,owns_base0 hbs ho⟩
set_option maxRecDepth 100000 in
set_option maxHeartbeats 4000000 in
theorem withoutO {a : Option Addr} {cap i : Nat} {zs : List Int} {w : World} (h : NumsAt w (.slice a zs.length cap) zs) (hi : i < zs.length) (hm : zs.length ≤ 1000) :
  Calls Tryz.prog 75 #[.slice a zs.length cap, .int .i64 i] w (OwnNums 3 (zs.eraseIdx i) w) := by
 have hl : zs.length ≤ cap ∧ cap ≤ 9223372036854775807 := by obtain ⟨_,_,e,x,y⟩ := h.shape;injection e with _ _ e3;subst e3;exact ⟨x,y⟩
 obtain ⟨a',rfl, -⟩ := h.elem hi
 have h1 := h.head (k := i) (by omega)
 have ZE := hid (show zs.take i ++ zs.drop (i + 1) = zs.eraseIdx i from (List.eraseIdx_eq_take_drop_succ zs i).symm)
 obtain ⟨n,hn⟩ : ∃ n,zs.length = n := ⟨_,rfl⟩
 have HN := hid hn
 rw [hn] at hi hm hl ⊢
 clear hn
 have W1 : IntKind.i64.wrap ((i : Int) + 1) = (i : Int) + 1 := IntWalk.i64_in _ (by omega)
 have W2 : (0 : Int) ≤ (i : Int) + 1 := by omega
 have W3 : ((i : Int) + 1).toNat = i + 1 := by omega
 by_cases hc : cap = i + 1
 ·obtain rfl : n = i + 1 := by omega
  subst hc
  have h2 := h.tail (k := i + 1) (by rw [HN.out];omega) (a') (by intro hh;rw [HN.out] at hh;omega)
  rw [HN.out] at h2
  have z1 : (zs.take i).length = i := by rw [List.length_take,HN.out];omega
  have z2 : (zs.drop (i + 1)).length = 0 := by rw [List.length_drop,HN.out];omega
  have Z1 := hid z1;have Z2 := hid z2;clear z1 z2
  have h3 : NumsAt w (.slice (some a') 0 0) (zs.drop (i + 1)) := by simpa using h2
  clear h2
  have h2 := h3;clear h3
  rw [HN.out] at h
  go_enter Tryz.func75,Tryz.ntmps75
  go_upto_region 1 with fail
  refine wp_region_Rs [(7,IsPair (.slice (some a') i (i + 1)) (.slice (some a') 0 0)),(8,fun v W => W.ownsRow w.heap.size 3 1 v (zs.eraseIdx i).length ((zs.eraseIdx i).map (Value.int .i64)))] [0,1,2,3,4,5,6,7,8] 1 (by kernel_rfl) rfl (by simp only [List.forall_mem_cons];exact ⟨keeps_pair,keeps_owns,fun _ h => by cases h⟩) (by kernel_rfl) ?_
  simp only [numbered,List.filterMap_cons,List.filterMap_nil,List.getElem?_toArray,List.getElem?_cons_succ,List.getElem?_cons_zero,Option.map_some]
  show wpS _ _ _ _ _ _ _ [(_,_),(_,_),(_,_),(_,_),(_,_),(_,_),(_,_),(_,_),(_,_)] _ _
  (refine wpS_quiet rfl rfl ?_;intro K hK inst hx;go_big_quiet_op;go_big_quiet_on;clear hx inst)
  (refine wpS_quiet rfl rfl ?_;intro K hK inst hx;go_big_quiet_op;go_big_quiet_on;clear hx inst)
  (refine wpS_quiet rfl rfl ?_;intro K hK inst hx;go_big_quiet_op;go_big_quiet_on;clear hx inst)
  (refine wpS_quiet rfl rfl ?_;intro K hK inst hx;go_big_quiet_op;go_big_quiet_on;clear hx inst)
  (refine wpS_quiet rfl rfl ?_;intro K hK inst hx;go_big_quiet_op;go_big_quiet_on;clear hx inst)
  (refine wpS_quiet rfl rfl ?_;intro K hK inst hx;go_big_quiet_op;go_big_quiet_on;clear hx inst)
  (refine wpS_quiet rfl rfl ?_;intro K hK inst hx;go_big_quiet_op;go_big_quiet_on;clear hx inst)
  refine wpS_fresh rfl rfl (fun w' hb hF => ?_) ?_
  ·change freshAt _ _ _ (IsPair (.slice (some a') i (i + 1)) (.slice (some a') 0 0)) _;unfold freshAt;go_simp;exact ⟨by go_grown,_,rfl,by simp,by simp⟩
  intro v W hv;simp only [pOf,List.lookup_cons,Nat.reduceBEq,beq_self_eq_true] at hv;obtain ⟨Bv,rfl, -, -⟩ := hv
  simp only [Act.put,List.setIfInBounds_toArray,List.set_cons_succ,List.set_cons_zero]
  refine wpS_fresh rfl rfl (fun w' hb hF => ?_) ?_
  ·change freshAt _ _ _ (fun v W => W.ownsRow w.heap.size 3 1 v (zs.eraseIdx i).length ((zs.eraseIdx i).map (Value.int .i64))) _;have h7 := hF 7 _ rfl (by kernel_rfl);unfold freshAt;go_simp;exact concat_fresh_own hb.size Z1.out Z2.out ZE.out (h1.below hb) (h2.below hb) h7 (by omega) (by omega)
  intro v W hv;simp only [pOf,List.lookup_cons,Nat.reduceBEq,beq_self_eq_true] at hv;skip
  simp only [Act.put,List.setIfInBounds_toArray,List.set_cons_succ,List.set_cons_zero]
  refine wpS_nil ?_
  intro w2 hall
  have hb := hall.1
  refine wpAny_ready (rs := [9]) (by kernel_rfl) (by simp) ?_
  refine AllReady.cons rfl (fun K hK => ?_) AllReady.nil
  go_simp
  refine hK _ _ ?_;clear hK K
  refine wpAny_done (by kernel_rfl) ?_ _
  go_wp2_with fail
  go_ret
  exact ⟨_,rfl,by go_grown,hall.2 8 _ rfl⟩
 ·have h2 := h.tail (k := i + 1) (by rw [HN.out];omega) (⟨a'.block,a'.off + (i + 1),none⟩) (by intro _;unfold Addr.add;rw [if_neg (by omega)])
  rw [HN.out] at h2
  have z1 : (zs.take i).length = i := by rw [List.length_take,HN.out];omega
  have z2 : (zs.drop (i + 1)).length = n - (i + 1) := by rw [List.length_drop,HN.out]
  have Z1 := hid z1;have Z2 := hid z2;clear z1 z2
  rw [HN.out] at h
  go_enter Tryz.func75,Tryz.ntmps75
  go_upto_region 1 with fail
  refine wp_region_Rs [(7,IsPair (.slice (some a') i cap) (.slice (some ⟨a'.block,a'.off + (i + 1),none⟩) (n - (i + 1)) (cap - (i + 1)))),(8,fun v W => W.ownsRow w.heap.size 3 1 v (zs.eraseIdx i).length ((zs.eraseIdx i).map (Value.int .i64)))] [0,1,2,3,4,5,6,7,8] 1 (by kernel_rfl) rfl (by simp only [List.forall_mem_cons];exact ⟨keeps_pair,keeps_owns,fun _ h => by cases h⟩) (by kernel_rfl) ?_
  simp only [numbered,List.filterMap_cons,List.filterMap_nil,List.getElem?_toArray,List.getElem?_cons_succ,List.getElem?_cons_zero,Option.map_some]
  show wpS _ _ _ _ _ _ _ [(_,_),(_,_),(_,_),(_,_),(_,_),(_,_),(_,_),(_,_),(_,_)] _ _
  (refine wpS_quiet rfl rfl ?_;intro K hK inst hx;go_big_quiet_op;go_big_quiet_on;clear hx inst)
  (refine wpS_quiet rfl rfl ?_;intro K hK inst hx;go_big_quiet_op;go_big_quiet_on;clear hx inst)
  (refine wpS_quiet rfl rfl ?_;intro K hK inst hx;go_big_quiet_op;go_big_quiet_on;clear hx inst)
  (refine wpS_quiet rfl rfl ?_;intro K hK inst hx;go_big_quiet_op;go_big_quiet_on;clear hx inst)
  (refine wpS_quiet rfl rfl ?_;intro K hK inst hx;go_big_quiet_op;go_big_quiet_on;clear hx inst)
  (refine wpS_quiet rfl rfl ?_;intro K hK inst hx;go_big_quiet_op;go_big_quiet_on;clear hx inst)
  (refine wpS_quiet rfl rfl ?_;intro K hK inst hx;go_big_quiet_op;go_big_quiet_on;clear hx inst)
  refine wpS_fresh rfl rfl (fun w' hb hF => ?_) ?_
  ·change freshAt _ _ _ (IsPair (.slice (some a') i cap) (.slice (some ⟨a'.block,a'.off + (i + 1),none⟩) (n - (i + 1)) (cap - (i + 1)))) _;unfold freshAt;go_simp;exact ⟨by go_grown,_,rfl,by simp,by simp⟩
  intro v W hv;simp only [pOf,List.lookup_cons,Nat.reduceBEq,beq_self_eq_true] at hv;obtain ⟨Bv,rfl, -, -⟩ := hv
  simp only [Act.put,List.setIfInBounds_toArray,List.set_cons_succ,List.set_cons_zero]
  refine wpS_fresh rfl rfl (fun w' hb hF => ?_) ?_
  ·change freshAt _ _ _ (fun v W => W.ownsRow w.heap.size 3 1 v (zs.eraseIdx i).length ((zs.eraseIdx i).map (Value.int .i64))) _;have h7 := hF 7 _ rfl (by kernel_rfl);unfold freshAt;go_simp;exact concat_fresh_own hb.size Z1.out Z2.out ZE.out (h1.below hb) (h2.below hb) h7 (by omega) (by omega)
  intro v W hv;simp only [pOf,List.lookup_cons,Nat.reduceBEq,beq_self_eq_true] at hv;skip
  simp only [Act.put,List.setIfInBounds_toArray,List.set_cons_succ,List.set_cons_zero]
  refine wpS_nil ?_
  intro w2 hall
  have hb := hall.1
  refine wpAny_ready (rs := [9]) (by kernel_rfl) (by simp) ?_
  refine AllReady.cons rfl (fun K hK => ?_) AllReady.nil
  go_simp
  refine hK _ _ ?_;clear hK K
  refine wpAny_done (by kernel_rfl) ?_ _
  go_wp2_with fail
  go_ret
  exact ⟨_,rfl,by go_grown,hall.2 8 _ rfl⟩
end Go.Proofs.YthdfnkdifjajlaaGreatDoor