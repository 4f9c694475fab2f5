/- Part of a claim. -/
import Derived.Test.YthdfnkdifjajlaaGreatDoorW24U
import Derived.Test.YthdfnkdifjajlaaGreatDoorKXaU
import Derived.WalkMore
import Derived.Deep.LoopGhost
set_option linter.unusedVariables false
set_option linter.unusedSimpArgs false
namespace Go.Proofs.YthdfnkdifjajlaaGreatDoor
open Go.RowKit Go.Pb Go.Pb.Ware Go.Pb.Sag


theorem Tryz.infoG : (Tryz.prog.info? 73).map (fun i => (i.zero,i.size,i.bytes)) = some (some (.slice none 0 0),1,24) := by kernel_rfl
set_option maxRecDepth 100000 in
set_option maxHeartbeats 1500000 in
theorem tryIn_any {B n most : Nat} {ca cb : Value} {does : List Int → Bool} {Q : World → Prop} (hn : n ≤ 1000) (hmn : most ≤ n) (hQ : ∀ W W',Q W → Below B W W' → Q W') (hdo : ∀ (W : World) (v : Value) (g : List Int),Q W → NumsAt W v g → (∀ z ∈ g,0 ≤ z ∧ z < (n : Int)) → 0 < g.length → g.length ≤ n → g.Pairwise (· < ·) → Calls Tryz.prog 78 #[v,ca,cb] W (fun e W' => e = .returned (.bool (does g)) ∧ Q W' ∧ Above B W W')) {d i k : Nat} {gs : List (List Int)} {g : List Int} {w : World}
  (hput : ∀ (gs : List (List Int)) (W : World),GoodR (i + 1) gs → gs.length ≤ most → PartsAt B 73 3 gs W → BoxesAt B (.int .i64 (n : Int)) (.int .i64 (most : Int)) (.func (.func 78) #[] #[ca,cb]) (.func (.func 103) #[] #[.pointer (some ⟨B,0,none⟩), .pointer (some ⟨B + 3,0,none⟩), .pointer (some ⟨B + 5,0,none⟩), .pointer (some ⟨B + 1,0,none⟩)]) (.func (.func 102) #[] #[.pointer (some ⟨B + 3,0,none⟩), .pointer (some ⟨B + 2,0,none⟩), .pointer (some ⟨B + 4,0,none⟩)]) W → Q W → Calls Tryz.prog 103 #[.int .i64 ((i : Int) + 1), .pointer (some ⟨B,0,none⟩), .pointer (some ⟨B + 3,0,none⟩), .pointer (some ⟨B + 5,0,none⟩), .pointer (some ⟨B + 1,0,none⟩)] W (PutsRes B 73 3 (.int .i64 (n : Int)) (.int .i64 (most : Int)) (.func (.func 78) #[] #[ca,cb]) (.func (.func 103) #[] #[.pointer (some ⟨B,0,none⟩), .pointer (some ⟨B + 3,0,none⟩), .pointer (some ⟨B + 5,0,none⟩), .pointer (some ⟨B + 1,0,none⟩)]) (.func (.func 102) #[] #[.pointer (some ⟨B + 3,0,none⟩), .pointer (some ⟨B + 2,0,none⟩), .pointer (some ⟨B + 4,0,none⟩)]) Q gs (putG does most d (i + 1) gs)))
  (hi : i < n) (hg : gs[k]? = some g) (hG : GoodR (i + 1) (gs.set k (g ++ [(i : Int)]))) (hm : gs.length ≤ most) (hP : PartsAt B 73 3 gs w) (hB : BoxesAt B (.int .i64 (n : Int)) (.int .i64 (most : Int)) (.func (.func 78) #[] #[ca,cb]) (.func (.func 103) #[] #[.pointer (some ⟨B,0,none⟩), .pointer (some ⟨B + 3,0,none⟩), .pointer (some ⟨B + 5,0,none⟩), .pointer (some ⟨B + 1,0,none⟩)]) (.func (.func 102) #[] #[.pointer (some ⟨B + 3,0,none⟩), .pointer (some ⟨B + 2,0,none⟩), .pointer (some ⟨B + 4,0,none⟩)]) w) (hq : Q w) :
  Calls Tryz.prog 102 #[.int .i64 (k : Int), .int .i64 (i : Int), .pointer (some ⟨B + 3,0,none⟩), .pointer (some ⟨B + 2,0,none⟩), .pointer (some ⟨B + 4,0,none⟩)] w (PutsRes B 73 3 (.int .i64 (n : Int)) (.int .i64 (most : Int)) (.func (.func 78) #[] #[ca,cb]) (.func (.func 103) #[] #[.pointer (some ⟨B,0,none⟩), .pointer (some ⟨B + 3,0,none⟩), .pointer (some ⟨B + 5,0,none⟩), .pointer (some ⟨B + 1,0,none⟩)]) (.func (.func 102) #[] #[.pointer (some ⟨B + 3,0,none⟩), .pointer (some ⟨B + 2,0,none⟩), .pointer (some ⟨B + 4,0,none⟩)]) Q gs (tryG does most d i gs k)) := by
 obtain ⟨N,hNN⟩ : ∃ N,gs.length = N := ⟨_,rfl⟩
 have hk : k < gs.length := (List.getElem?_eq_some_iff.1 hg).1
 rw [hNN] at hm hk
 have HN := hid hNN;clear hNN
 obtain ⟨g2,hg2e⟩ : ∃ x,g ++ [(i : Int)] = x := ⟨_,rfl⟩
 obtain ⟨gs2,hgs2e⟩ : ∃ x,gs.set k (g ++ [(i : Int)]) = x := ⟨_,rfl⟩
 have hg2 : gs2[k]? = some g2 := by rw [← hgs2e, ← hg2e];exact List.getElem?_set_self (by rw [HN.out];exact hk)
 have hl2 : gs2.length = N := by rw [← hgs2e,List.length_set];exact HN.out
 have hlg2 : g2.length = g.length + 1 := by rw [← hg2e];simp
 have hG2 : GoodR (i + 1) gs2 := hgs2e ▸ hG
 have hgm := List.mem_of_getElem? hg2
 have hglen := hG2.1.len g2 hgm
 have hzl : ∀ z ∈ g2,0 ≤ z ∧ z < (n : Int) := fun z hz => by have := hG2.1.lt g2 hgm z hz;omega
 have hrise := hG2.2 g2 hgm
 have htry : tryG does most d i gs k = if does g2 = true then putG does most d (i + 1) gs2 else none := by unfold tryG;rw [List.getD_eq_getElem?_getD,hg,Option.getD_some,hgs2e,hg2e]
 obtain ⟨b,hbb⟩ : ∃ b,does g2 = b := ⟨_,rfl⟩
 rw [hbb] at htry
 rw [htry]
 have HBB := hid hbb;have HZL := hid hzl;have HRI := hid hrise;have HL2 := hid hl2;have HLG := hid hlg2;have HG2E := hid hg2e;have HGS := hid hgs2e;have HPUT := hid hput;have HDO := hid hdo;have HQ := hid hQ;clear hbb hzl hrise hl2 hg2e hgs2e htry hput hdo hQ
 obtain ⟨gv0,vs0,d0,ho0,hr0,hA0,hz0⟩ := hP
 rw [HN.out] at ho0
 obtain ⟨gb0,gcap0,rfl,hc0,he0⟩ := own_some ho0 (by omega)
 obtain ⟨v0,hv0⟩ : ∃ v,vs0[k]? = some v := ⟨_,List.getElem?_eq_getElem (by have := ho0.1;omega)⟩
 have hrow0 := hr0 k v0 _ hv0 hg
 obtain ⟨xa,xc,rfl,hgl⟩ := owns_shape hrow0
 have y90 : w.cell? ⟨gb0,k,none⟩ = some (.slice xa g.length xc) := by have h := ho0.cells (g := gb0) rfl k _ hv0;rw [Go.WideShapes.add_plain,Nat.zero_add] at h;exact h
 have hB0 := hB
 have q0 := d0.1
 obtain ⟨i1,hj,hy0,hy1,hy2⟩ := info_parts Tryz.infoI
 rw [HLG.out] at hglen
 have hki : (k : Int) < (N : Int) := by omega
 go_enter Tryz.func102,Tryz.ntmps102
 go_upto_region 1 with fail
 refine wp_region_G (fun V => V.cell? ⟨B + 3,0,none⟩ = some (.slice (some ⟨gb0,0,none⟩) N gcap0)) (fun V hV => bkeep hV q0) [0,1] (by kernel_rfl) [(7,NewList w.heap.size 1 [.int .i64 (i : Int)])] [2,3,4,5,6,7] 3 (by kernel_rfl) rfl (by simp only [List.forall_mem_cons];exact ⟨keeps_list,fun _ h => by cases h⟩) (by kernel_rfl) ?_
 refine ⟨_, .slice (some ⟨gb0,0,none⟩) N gcap0,rfl,⟨rfl,fun V hV => by (try dsimp only at hV);go_simp⟩, ?_⟩
 simp only [Act.put,List.getElem_toArray,List.getElem_cons_succ,List.getElem_cons_zero,List.setIfInBounds_toArray,List.set_cons_succ,List.set_cons_zero]
 refine ⟨_, .int .i64 (k : Int),rfl,⟨rfl,fun V hV => by (try dsimp only at hV);go_simp⟩, ?_⟩
 simp only [Act.put,List.getElem_toArray,List.getElem_cons_succ,List.getElem_cons_zero,List.setIfInBounds_toArray,List.set_cons_succ,List.set_cons_zero]
 simp only [numbered,List.filterMap_cons,List.filterMap_nil,List.getElem?_toArray,List.getElem?_cons_succ,List.getElem?_cons_zero,Option.map_some]
 show wpS _ _ _ _ _ _ _ [(_,_),(_,_),(_,_),(_,_),(_,_),(_,_)] _ _
 (refine wpS_quiet rfl rfl ?_;intro K hK inst hx;have s0 := fun x => (fun _ => bkeep (BQ.below x) q0) (hx x);go_big_quiet_op;(first | go_big_quiet_on | (refine ⟨_,fun _ => rfl, ?_⟩;go_big_quiet_on));clear hx inst)
 (refine wpS_quiet rfl rfl ?_;intro K hK inst hx;go_big_quiet_op;(first | go_big_quiet_on | (refine ⟨_,fun _ => rfl, ?_⟩;go_big_quiet_on));clear hx inst)
 (refine wpS_quiet rfl rfl ?_;intro K hK inst hx;go_big_quiet_op;(first | go_big_quiet_on | (refine ⟨_,fun _ => rfl, ?_⟩;go_big_quiet_on));clear hx inst)
 (refine wpS_quiet rfl rfl ?_;intro K hK inst hx;have s0 := fun x => (fun _ => bkeep (BQ.below x) y90) (hx x);go_big_quiet_op;(first | go_big_quiet_on | (refine ⟨_,fun _ => rfl, ?_⟩;go_big_quiet_on));clear hx inst)
 (refine wpS_quiet rfl rfl ?_;intro K hK inst hx;go_big_quiet_op;(first | go_big_quiet_on | (refine ⟨_,fun _ => rfl, ?_⟩;go_big_quiet_on));clear hx inst)
 refine wpS_fresh rfl rfl (fun w' hb hF => ?_) ?_
 ·change freshAt _ _ _ (NewList w.heap.size 1 [.int .i64 (i : Int)]) _;unfold freshAt;go_simp;exact list_of hb
 intro v W hv;simp only [pOf,List.lookup_cons,Nat.reduceBEq,beq_self_eq_true] at hv;obtain ⟨B13,hB13,rfl, -⟩ := hv
 simp only [Act.put,List.setIfInBounds_toArray,List.set_cons_succ,List.set_cons_zero]
 refine wpS_nil ?_
 intro w2 hall
 have hb := hall.1
 have h51 : NewList w.heap.size 1 [.int .i64 (i : Int)] _ w2 := hall.2 7 _ rfl
 obtain ⟨B',hB',hv',hn'⟩ := h51
 obtain rfl : B13 = B' := by simpa using hv'
 clear hall
 have hown2 := owns_below hrow0 hb
 have x2 : (fun V => V.cell? ⟨B + 3,0,none⟩ = some (.slice (some ⟨gb0,0,none⟩) N gcap0)) w2 := bkeep hb q0
 refine wpAnyC_op (r := 8) x2 (by kernel_rfl) rfl rfl (fun K hK => ?_)
 refine wp_append_own w2 (.tmp 13) (.tmp 15) 73 rfl (B + 6) 3 i1 (.int .i64 0) 1 8 Tryz.underlying73 hj hy0 hy1 hy2 rfl (by decide) (.slice xa g.length xc) g.length _ rfl hown2 ⟨B13,0,none⟩ 1 1 [.int .i64 (i : Int)] rfl rfl (fun j u h => by rw [Go.WideShapes.add_plain,Nat.zero_add];exact (hn' j u h).1) (fun u h => by simp only [List.mem_cons,List.not_mem_nil,or_false] at h;rcases h with rfl;rfl) (by unfold maxLen;omega) (by omega) (by have := hb.size;omega) ?_
 intro v35 w3 ho3 hg3 hnil3
 refine hK _ _ ?_
 clear hK K hnil3
 have hpush := PartsAt.push (TO := 73) (TI := 3) (i := i) (by decide) hG.1 hg hv0 ⟨d0.1.trans (by rw [HN.out]),d0.2⟩ (by rw [HN.out];exact ho0) hr0 hA0 hz0 hb hg3 ho3
 rw [HGS.out] at hpush
 obtain ⟨⟨p0,p1⟩,hP2,hB2⟩ := hpush
 obtain ⟨xb,xd,rfl, -⟩ := owns_shape ho3
 have x3 : (fun V => V.cell? ⟨B + 3,0,none⟩ = some (.slice (some ⟨gb0,0,none⟩) N gcap0)) w3 := grown_kept hg3 x2 (fun e => by have := own_ge hrow0 _ e.symm;omega)
 have hgb : B + 6 ≤ gb0 := own_ge ho0 gb0 rfl
 refine wpAnyC_op (r := 9) x3 (by kernel_rfl) rfl rfl (fun K hK => ?_)
 go_simp
 refine hK _ _ ?_;clear hK K
 refine wpAnyC_op (r := 10) x3 (by kernel_rfl) rfl rfl (fun K hK => ?_)
 go_simp
 refine hK _ _ ?_;clear hK K
 refine wpAnyC_end (setc_block x3 (by omega)) (by kernel_rfl) ?_
 refine ⟨rfl, ?_⟩
 generalize hW4 : w3.setCell ⟨gb0,k,none⟩ (.slice xb (g.length + 1) xd) = W4 at *
 have hB4 := hB0.below hB2
 have hq4 := HQ.out _ _ hq (hB2.mono (by omega))
 clear hW4 hB2 x2 x3 hg3 ho3 p0 p1 hown2 hn' hb hB0 hB hq q0 hr0 hA0 hz0 d0 ho0 hrow0 y90 hv0
 have hP4 := hP2
 obtain ⟨gv4,vs4,d4,ho4,hr4,hA4,hz4⟩ := hP2
 rw [HL2.out] at ho4
 obtain ⟨gb4,gcap4,rfl,hc4,he4⟩ := own_some ho4 (by omega)
 obtain ⟨v4,hv4⟩ : ∃ v,vs4[k]? = some v := ⟨_,List.getElem?_eq_getElem (by have := ho4.1;omega)⟩
 have hrow4 := hr4 k v4 _ hv4 hg2
 rw [HLG.out] at hrow4
 obtain ⟨vb4,vc4,rfl,hu1,hu2⟩ := own_some hrow4 (by omega)
 have y94 : W4.cell? ⟨gb4,k,none⟩ = some (.slice (some ⟨vb4,0,none⟩) (g.length + 1) vc4) := by have h := ho4.cells (g := gb4) rfl k _ hv4;rw [Go.WideShapes.add_plain,Nat.zero_add] at h;exact h
 have hnum := numsAt_of_owns (fun z hz => by have := HZL.out z hz;exact I64.mk (by omega) (by omega)) (show W4.ownsRow (B + 6) 3 1 (.slice (some ⟨vb4,0,none⟩) (g.length + 1) vc4) g2.length _ by rw [HLG.out];exact hrow4)
 have y3 := d4.1
 have y2 := hB4.2.2.1
 have HNUM := hid hnum;clear hnum
 go_upto_region 2 with fail
 refine wp_region_Rs [] [0,1,2,3,4] 7 (by kernel_rfl) rfl (fun _ h => by cases h) (by kernel_rfl) ?_
 simp only [numbered,List.filterMap_cons,List.filterMap_nil,List.getElem?_toArray,List.getElem?_cons_succ,List.getElem?_cons_zero,Option.map_some]
 show wpS _ _ _ _ _ _ _ [(_,_),(_,_),(_,_),(_,_),(_,_)] _ _
 (refine wpS_quiet rfl rfl ?_;intro K hK inst hx;have s0 := fun x => (fun _ => bkeep (BQ.below x) y2) (hx x);go_big_quiet_op;(first | go_big_quiet_on | (refine ⟨_,fun _ => rfl, ?_⟩;go_big_quiet_on));clear hx inst)
 (refine wpS_quiet rfl rfl ?_;intro K hK inst hx;have s0 := fun x => (fun _ => bkeep (BQ.below x) y3) (hx x);go_big_quiet_op;(first | go_big_quiet_on | (refine ⟨_,fun _ => rfl, ?_⟩;go_big_quiet_on));clear hx inst)
 (refine wpS_quiet rfl rfl ?_;intro K hK inst hx;go_big_quiet_op;(first | go_big_quiet_on | (refine ⟨_,fun _ => rfl, ?_⟩;go_big_quiet_on));clear hx inst)
 (refine wpS_quiet rfl rfl ?_;intro K hK inst hx;go_big_quiet_op;(first | go_big_quiet_on | (refine ⟨_,fun _ => rfl, ?_⟩;go_big_quiet_on));clear hx inst)
 (refine wpS_quiet rfl rfl ?_;intro K hK inst hx;have s0 := fun x => (fun _ => bkeep (BQ.below x) y94) (hx x);go_big_quiet_op;(first | go_big_quiet_on | (refine ⟨_,fun _ => rfl, ?_⟩;go_big_quiet_on));clear hx inst)
 refine wpS_nil ?_
 intro w5 hall
 have hb5 := hall.1
 clear hall
 have hq5 := HQ.out _ _ hq4 (hb5.mono (by omega))
 have ha5 : Above B W4 w5 := Above.of_below hb5
 refine wpAny_ready (rs := [5]) (by kernel_rfl) (by simp) ?_
 refine AllReady.cons rfl (fun K hK => ?_) AllReady.nil
 refine (if_pos (show Region.wanted _ _ = true from rfl)).mpr ?_
 go_simp
 refine (HDO.out w5 _ g2 hq5 (NumsAt.below HNUM.out hb5) HZL.out (by rw [HLG.out];omega) (by rw [HLG.out];omega) HRI.out).mono ?_
 rintro e w6 ⟨rfl,hq6,ha6⟩
 dsimp only
 refine hK _ _ ?_
 clear hK K
 rw [HBB.out]
 replace ha6 := ha5.trans ha6
 have hP6 := hP4.keep ha6
 have hB6 := hB4.above hz4 ha6
 have hz6 : B + 6 ≤ w6.heap.size := by have := ha6.size;omega
 clear hq5 ha5 hb5 hq4 ha6 y2 y3 y94 hP4 hB4 d4 ho4 hr4 hA4 hrow4 hv4 HNUM
 refine wpAny_ready (rs := [6]) (by kernel_rfl) (by simp) ?_
 refine AllReady.cons rfl (fun K hK => ?_) AllReady.nil
 go_simp
 refine hK _ _ ?_;clear hK K
 cases b
 ·refine wpAny_Rs (w0 := w6) [(10,fun v _ => v = undef)] [7,8,9,10] 1 rfl (by simp only [List.forall_mem_cons];exact ⟨keeps_eq,fun _ h => by cases h⟩) (by kernel_rfl) (Below.refl _ _) ?_
  simp only [numbered,List.filterMap_cons,List.filterMap_nil,List.getElem?_toArray,List.getElem?_cons_succ,List.getElem?_cons_zero,Option.map_some]
  show wpS _ _ _ _ _ _ _ [(_,_),(_,_),(_,_),(_,_)] _ _
  refine wpS_skip rfl ?_;simp only [Act.put,List.setIfInBounds_toArray,List.set_cons_succ,List.set_cons_zero]
  refine wpS_skip rfl ?_;simp only [Act.put,List.setIfInBounds_toArray,List.set_cons_succ,List.set_cons_zero]
  refine wpS_skip rfl ?_;simp only [Act.put,List.setIfInBounds_toArray,List.set_cons_succ,List.set_cons_zero]
  refine wpS_skip rfl ?_;simp only [Act.put,List.setIfInBounds_toArray,List.set_cons_succ,List.set_cons_zero]
  refine wpS_nil ?_
  intro w7 hall
  have hb := hall.1
  clear hall
  refine wpAny_ready (rs := [11]) (by kernel_rfl) (by simp) ?_
  refine AllReady.cons rfl (fun K hK => ?_) AllReady.nil
  go_simp
  refine hK _ _ ?_;clear hK K
  refine wpAny_done (by kernel_rfl) ?_ _
  replace hP6 := hP6.keep (Above.of_below hb)
  replace hB6 := hB6.above hz6 (Above.of_below hb)
  replace hq6 := HQ.out _ _ hq6 (hb.mono (by omega))
  clear hb hz6
  obtain ⟨gv7,vs7,d7,ho7,hr7,hA7,hz7⟩ := hP6
  rw [HL2.out] at ho7
  obtain ⟨gb7,gcap7,rfl,hc7,he7⟩ := own_some ho7 (by omega)
  obtain ⟨v7,hv7⟩ : ∃ v,vs7[k]? = some v := ⟨_,List.getElem?_eq_getElem (by have := ho7.1;omega)⟩
  have hrow7 := hr7 k v7 _ hv7 hg2
  rw [HLG.out] at hrow7
  obtain ⟨vb7,vc7,rfl,hu1,hu2⟩ := own_some hrow7 (by omega)
  have z9 : w7.cell? ⟨gb7,k,none⟩ = some (.slice (some ⟨vb7,0,none⟩) (g.length + 1) vc7) := by have h := ho7.cells (g := gb7) rfl k _ hv7;rw [Go.WideShapes.add_plain,Nat.zero_add] at h;exact h
  have z8 := d7.1
  have z10 := owns_frozen ho7 rfl k
  have hgi : (0 : Int) ≤ (g.length : Int) := by omega
  have hgv : (g.length : Int) ≤ (vc7 : Int) := by omega
  have HR7 := hid hr7;clear hr7 hrow7 hu1 hu2
  go_upto_region 4 with fail
  refine wp_region_Rs [] [0,1,2,3,4,5,6,7,8,9,10,11,12,13] 1 (by kernel_rfl) rfl (fun _ h => by cases h) (by kernel_rfl) ?_
  simp only [numbered,List.filterMap_cons,List.filterMap_nil,List.getElem?_toArray,List.getElem?_cons_succ,List.getElem?_cons_zero,Option.map_some]
  show wpS _ _ _ _ _ _ _ [(_,_),(_,_),(_,_),(_,_),(_,_),(_,_),(_,_),(_,_),(_,_),(_,_),(_,_),(_,_),(_,_),(_,_)] _ _
  (refine wpS_quiet rfl rfl ?_;intro K hK inst hx;have s0 := fun x => (fun _ => bkeep (BQ.below x) z8) (hx x);go_big_quiet_op;(first | go_big_quiet_on | (refine ⟨_,fun _ => rfl, ?_⟩;go_big_quiet_on));clear hx inst)
  (refine wpS_quiet rfl rfl ?_;intro K hK inst hx;go_big_quiet_op;(first | go_big_quiet_on | (refine ⟨_,fun _ => rfl, ?_⟩;go_big_quiet_on));clear hx inst)
  (refine wpS_quiet rfl rfl ?_;intro K hK inst hx;have s0 := fun x => (fun _ => bkeep (BQ.below x) z8) (hx x);go_big_quiet_op;(first | go_big_quiet_on | (refine ⟨_,fun _ => rfl, ?_⟩;go_big_quiet_on));clear hx inst)
  (refine wpS_quiet rfl rfl ?_;intro K hK inst hx;go_big_quiet_op;(first | go_big_quiet_on | (refine ⟨_,fun _ => rfl, ?_⟩;go_big_quiet_on));clear hx inst)
  (refine wpS_quiet rfl rfl ?_;intro K hK inst hx;go_big_quiet_op;(first | go_big_quiet_on | (refine ⟨_,fun _ => rfl, ?_⟩;go_big_quiet_on));clear hx inst)
  (refine wpS_quiet rfl rfl ?_;intro K hK inst hx;have s0 := fun x => (fun _ => bkeep (BQ.below x) z9) (hx x);go_big_quiet_op;(first | go_big_quiet_on | (refine ⟨_,fun _ => rfl, ?_⟩;go_big_quiet_on));clear hx inst)
  (refine wpS_quiet rfl rfl ?_;intro K hK inst hx;have s0 := fun x => (fun _ => bkeep (BQ.below x) z8) (hx x);go_big_quiet_op;(first | go_big_quiet_on | (refine ⟨_,fun _ => rfl, ?_⟩;go_big_quiet_on));clear hx inst)
  (refine wpS_quiet rfl rfl ?_;intro K hK inst hx;go_big_quiet_op;(first | go_big_quiet_on | (refine ⟨_,fun _ => rfl, ?_⟩;go_big_quiet_on));clear hx inst)
  (refine wpS_quiet rfl rfl ?_;intro K hK inst hx;go_big_quiet_op;(first | go_big_quiet_on | (refine ⟨_,fun _ => rfl, ?_⟩;go_big_quiet_on));clear hx inst)
  (refine wpS_quiet rfl rfl ?_;intro K hK inst hx;have s0 := fun x => (fun _ => bkeep (BQ.below x) z9) (hx x);go_big_quiet_op;(first | go_big_quiet_on | (refine ⟨_,fun _ => rfl, ?_⟩;go_big_quiet_on));clear hx inst)
  (refine wpS_quiet rfl rfl ?_;intro K hK inst hx;go_big_quiet_op;(first | go_big_quiet_on | (refine ⟨_,fun _ => rfl, ?_⟩;go_big_quiet_on));clear hx inst)
  (refine wpS_quiet rfl rfl ?_;intro K hK inst hx;go_big_quiet_op;(first | go_big_quiet_on | (refine ⟨_,fun _ => rfl, ?_⟩;go_big_quiet_on));clear hx inst)
  (refine wpS_quiet rfl rfl ?_;intro K hK inst hx;go_big_quiet_op;(first | go_big_quiet_on | (refine ⟨_,fun _ => rfl, ?_⟩;go_big_quiet_on));clear hx inst)
  (refine wpS_quiet rfl rfl ?_;intro K hK inst hx;go_big_quiet_op;(first | go_big_quiet_on | (refine ⟨_,fun _ => rfl, ?_⟩;go_big_quiet_on));clear hx inst)
  refine wpS_nil ?_
  intro w8 hall
  have hb := hall.1
  clear hall
  have p8 := bkeep hb z9;have p9 := bfree hb z9 z10
  refine wpAny_ready (rs := [14]) (by kernel_rfl) (by simp) ?_
  refine AllReady.cons rfl (fun K hK => ?_) AllReady.nil
  go_simp
  refine hK _ _ ?_;clear hK K
  refine wpAny_done (by kernel_rfl) ?_ _
  have hpop := PartsAt.pop (TO := 73) (TI := 3) (i := i) (by decide) hg HN.out ⟨bkeep hb d7.1,bfree hb d7.1 d7.2⟩ (owns_below ho7 hb) (fun j u h h1 h2 => owns_below (HR7.out j u h h1 (by rw [← HGS.out,HG2E.out];rw [HG2E.out] at h2;exact h2)) hb) hA7 (by have := hb.size;omega) (by rw [hv7])
  obtain ⟨hP8,hB8⟩ := hpop
  generalize hW8 : w8.setCell ⟨gb7,k,none⟩ (.slice (some ⟨vb7,0,none⟩) g.length vc7) = W8 at *
  have hC8 : Below (B + 6) w7 W8 := (hb.mono hz7).trans hB8
  have hD8 := hB6.below hC8
  have hq8 := HQ.out _ _ hq6 (hC8.mono (by omega))
  clear hW8 hb z8 z9 z10 p8 p9 d7 ho7 hv7 hB8 hC8
  go_wp2_with fail
  go_ret
  exact PutsRes.no hq8 hD8 rfl rfl hP8
 ·have y4 := hB6.2.2.2.1
  refine wpAny_Rs (w0 := w6) [] [7,8,9] 2 rfl (fun _ h => by cases h) (by kernel_rfl) (Below.refl _ _) ?_
  simp only [numbered,List.filterMap_cons,List.filterMap_nil,List.getElem?_toArray,List.getElem?_cons_succ,List.getElem?_cons_zero,Option.map_some]
  show wpS _ _ _ _ _ _ _ [(_,_),(_,_),(_,_)] _ _
  (refine wpS_quiet rfl rfl ?_;intro K hK inst hx;have s0 := fun x => (fun _ => bkeep (BQ.below x) y4) (hx x);go_big_quiet_op;(first | go_big_quiet_on | (refine ⟨_,fun _ => rfl, ?_⟩;go_big_quiet_on));clear hx inst)
  (refine wpS_quiet rfl rfl ?_;intro K hK inst hx;go_big_quiet_op;(first | go_big_quiet_on | (refine ⟨_,fun _ => rfl, ?_⟩;go_big_quiet_on));clear hx inst)
  (refine wpS_quiet rfl rfl ?_;intro K hK inst hx;go_big_quiet_op;(first | go_big_quiet_on | (refine ⟨_,fun _ => rfl, ?_⟩;go_big_quiet_on));clear hx inst)
  refine wpS_nil ?_
  intro w7 hall
  have hb := hall.1
  clear hall
  replace hP6 := hP6.keep (Above.of_below hb)
  replace hB6 := hB6.above hz6 (Above.of_below hb)
  replace hq6 := HQ.out _ _ hq6 (hb.mono (by omega))
  clear hb hz6 y4
  refine wpAny_ready (rs := [10]) (by kernel_rfl) (by simp) ?_
  refine AllReady.cons rfl (fun K hK => ?_) AllReady.nil
  refine (if_pos (show Region.wanted _ _ = true from rfl)).mpr ?_
  go_simp
  refine (HPUT.out gs2 w7 hG2 (by rw [HL2.out];exact hm) hP6 hB6 hq6).mono ?_
  rintro e w8 ⟨hq9,hB9,⟨rs,hrs,rfl,hP9⟩ | ⟨hrs,rfl,hP9⟩⟩
  ·dsimp only
   refine hK _ _ ?_
   clear hK K
   refine wpAny_ready (rs := [11]) (by kernel_rfl) (by simp) ?_
   refine AllReady.cons rfl (fun K hK => ?_) AllReady.nil
   go_simp
   refine hK _ _ ?_;clear hK K
   refine wpAny_done (by kernel_rfl) ?_ _
   go_wp2_with fail
   go_ret
   exact PutsRes.yes hq9 hB9 (by first | rfl | exact hrs) rfl hP9
  ·dsimp only
   refine hK _ _ ?_
   clear hK K
   refine wpAny_ready (rs := [11]) (by kernel_rfl) (by simp) ?_
   refine AllReady.cons rfl (fun K hK => ?_) AllReady.nil
   go_simp
   refine hK _ _ ?_;clear hK K
   refine wpAny_done (by kernel_rfl) ?_ _
   have HRS := hid hrs;clear hrs hP6 hB6 hq6
   have hz9 : B + 6 ≤ w8.heap.size := by obtain ⟨_,_,_,_,_,_,h⟩ := hP9;exact h
   obtain ⟨gv7,vs7,d7,ho7,hr7,hA7,hz7⟩ := hP9
   rw [HL2.out] at ho7
   obtain ⟨gb7,gcap7,rfl,hc7,he7⟩ := own_some ho7 (by omega)
   obtain ⟨v7,hv7⟩ : ∃ v,vs7[k]? = some v := ⟨_,List.getElem?_eq_getElem (by have := ho7.1;omega)⟩
   have hrow7 := hr7 k v7 _ hv7 hg2
   rw [HLG.out] at hrow7
   obtain ⟨vb7,vc7,rfl,hu1,hu2⟩ := own_some hrow7 (by omega)
   have z9 : w8.cell? ⟨gb7,k,none⟩ = some (.slice (some ⟨vb7,0,none⟩) (g.length + 1) vc7) := by have h := ho7.cells (g := gb7) rfl k _ hv7;rw [Go.WideShapes.add_plain,Nat.zero_add] at h;exact h
   have z8 := d7.1
   have z10 := owns_frozen ho7 rfl k
   have hgi : (0 : Int) ≤ (g.length : Int) := by omega
   have hgv : (g.length : Int) ≤ (vc7 : Int) := by omega
   have HR7 := hid hr7;clear hr7 hrow7 hu1 hu2
   go_upto_region 4 with fail
   refine wp_region_Rs [] [0,1,2,3,4,5,6,7,8,9,10,11,12,13] 1 (by kernel_rfl) rfl (fun _ h => by cases h) (by kernel_rfl) ?_
   simp only [numbered,List.filterMap_cons,List.filterMap_nil,List.getElem?_toArray,List.getElem?_cons_succ,List.getElem?_cons_zero,Option.map_some]
   show wpS _ _ _ _ _ _ _ [(_,_),(_,_),(_,_),(_,_),(_,_),(_,_),(_,_),(_,_),(_,_),(_,_),(_,_),(_,_),(_,_),(_,_)] _ _
   (refine wpS_quiet rfl rfl ?_;intro K hK inst hx;have s0 := fun x => (fun _ => bkeep (BQ.below x) z8) (hx x);go_big_quiet_op;(first | go_big_quiet_on | (refine ⟨_,fun _ => rfl, ?_⟩;go_big_quiet_on));clear hx inst)
   (refine wpS_quiet rfl rfl ?_;intro K hK inst hx;go_big_quiet_op;(first | go_big_quiet_on | (refine ⟨_,fun _ => rfl, ?_⟩;go_big_quiet_on));clear hx inst)
   (refine wpS_quiet rfl rfl ?_;intro K hK inst hx;have s0 := fun x => (fun _ => bkeep (BQ.below x) z8) (hx x);go_big_quiet_op;(first | go_big_quiet_on | (refine ⟨_,fun _ => rfl, ?_⟩;go_big_quiet_on));clear hx inst)
   (refine wpS_quiet rfl rfl ?_;intro K hK inst hx;go_big_quiet_op;(first | go_big_quiet_on | (refine ⟨_,fun _ => rfl, ?_⟩;go_big_quiet_on));clear hx inst)
   (refine wpS_quiet rfl rfl ?_;intro K hK inst hx;go_big_quiet_op;(first | go_big_quiet_on | (refine ⟨_,fun _ => rfl, ?_⟩;go_big_quiet_on));clear hx inst)
   (refine wpS_quiet rfl rfl ?_;intro K hK inst hx;have s0 := fun x => (fun _ => bkeep (BQ.below x) z9) (hx x);go_big_quiet_op;(first | go_big_quiet_on | (refine ⟨_,fun _ => rfl, ?_⟩;go_big_quiet_on));clear hx inst)
   (refine wpS_quiet rfl rfl ?_;intro K hK inst hx;have s0 := fun x => (fun _ => bkeep (BQ.below x) z8) (hx x);go_big_quiet_op;(first | go_big_quiet_on | (refine ⟨_,fun _ => rfl, ?_⟩;go_big_quiet_on));clear hx inst)
   (refine wpS_quiet rfl rfl ?_;intro K hK inst hx;go_big_quiet_op;(first | go_big_quiet_on | (refine ⟨_,fun _ => rfl, ?_⟩;go_big_quiet_on));clear hx inst)
   (refine wpS_quiet rfl rfl ?_;intro K hK inst hx;go_big_quiet_op;(first | go_big_quiet_on | (refine ⟨_,fun _ => rfl, ?_⟩;go_big_quiet_on));clear hx inst)
   (refine wpS_quiet rfl rfl ?_;intro K hK inst hx;have s0 := fun x => (fun _ => bkeep (BQ.below x) z9) (hx x);go_big_quiet_op;(first | go_big_quiet_on | (refine ⟨_,fun _ => rfl, ?_⟩;go_big_quiet_on));clear hx inst)
   (refine wpS_quiet rfl rfl ?_;intro K hK inst hx;go_big_quiet_op;(first | go_big_quiet_on | (refine ⟨_,fun _ => rfl, ?_⟩;go_big_quiet_on));clear hx inst)
   (refine wpS_quiet rfl rfl ?_;intro K hK inst hx;go_big_quiet_op;(first | go_big_quiet_on | (refine ⟨_,fun _ => rfl, ?_⟩;go_big_quiet_on));clear hx inst)
   (refine wpS_quiet rfl rfl ?_;intro K hK inst hx;go_big_quiet_op;(first | go_big_quiet_on | (refine ⟨_,fun _ => rfl, ?_⟩;go_big_quiet_on));clear hx inst)
   (refine wpS_quiet rfl rfl ?_;intro K hK inst hx;go_big_quiet_op;(first | go_big_quiet_on | (refine ⟨_,fun _ => rfl, ?_⟩;go_big_quiet_on));clear hx inst)
   refine wpS_nil ?_
   intro w10 hall
   have hb := hall.1
   clear hall
   have p8 := bkeep hb z9;have p9 := bfree hb z9 z10
   refine wpAny_ready (rs := [14]) (by kernel_rfl) (by simp) ?_
   refine AllReady.cons rfl (fun K hK => ?_) AllReady.nil
   go_simp
   refine hK _ _ ?_;clear hK K
   refine wpAny_done (by kernel_rfl) ?_ _
   have hpop := PartsAt.pop (TO := 73) (TI := 3) (i := i) (by decide) hg HN.out ⟨bkeep hb d7.1,bfree hb d7.1 d7.2⟩ (owns_below ho7 hb) (fun j u h h1 h2 => owns_below (HR7.out j u h h1 (by rw [← HGS.out,HG2E.out];rw [HG2E.out] at h2;exact h2)) hb) hA7 (by have := hb.size;omega) (by rw [hv7])
   obtain ⟨hP8,hB8⟩ := hpop
   generalize hW10 : w10.setCell ⟨gb7,k,none⟩ (.slice (some ⟨vb7,0,none⟩) g.length vc7) = W10 at *
   have hC8 : Below (B + 6) w8 W10 := (hb.mono hz7).trans hB8
   have hD8 := hB9.below hC8
   have hq8 := HQ.out _ _ hq9 (hC8.mono (by omega))
   clear hW10 hb z8 z9 z10 p8 p9 d7 ho7 hv7 hB8 hC8
   go_wp2_with fail
   go_ret
   exact PutsRes.no hq8 hD8 HRS.out rfl hP8
set_option maxRecDepth 100000 in
set_option maxHeartbeats 1500000 in
theorem puts_any {B n most : Nat} {ca cb : Value} {does : List Int → Bool} {Q : World → Prop} (hn : n ≤ 1000) (hmn : most ≤ n) (hQ : ∀ W W',Q W → Below B W W' → Q W') (hdo : ∀ (W : World) (v : Value) (g : List Int),Q W → NumsAt W v g → (∀ z ∈ g,0 ≤ z ∧ z < (n : Int)) → 0 < g.length → g.length ≤ n → g.Pairwise (· < ·) → Calls Tryz.prog 78 #[v,ca,cb] W (fun e W' => e = .returned (.bool (does g)) ∧ Q W' ∧ Above B W W')) : ∀ (d i : Nat) (gs : List (List Int)) (w : World),i + d = n → GoodR i gs → gs.length ≤ most → PartsAt B 73 3 gs w → BoxesAt B (.int .i64 (n : Int)) (.int .i64 (most : Int)) (.func (.func 78) #[] #[ca,cb]) (.func (.func 103) #[] #[.pointer (some ⟨B,0,none⟩), .pointer (some ⟨B + 3,0,none⟩), .pointer (some ⟨B + 5,0,none⟩), .pointer (some ⟨B + 1,0,none⟩)]) (.func (.func 102) #[] #[.pointer (some ⟨B + 3,0,none⟩), .pointer (some ⟨B + 2,0,none⟩), .pointer (some ⟨B + 4,0,none⟩)]) w → Q w →
  Calls Tryz.prog 103 #[.int .i64 ((i : Int)), .pointer (some ⟨B,0,none⟩), .pointer (some ⟨B + 3,0,none⟩), .pointer (some ⟨B + 5,0,none⟩), .pointer (some ⟨B + 1,0,none⟩)] w (PutsRes B 73 3 (.int .i64 (n : Int)) (.int .i64 (most : Int)) (.func (.func 78) #[] #[ca,cb]) (.func (.func 103) #[] #[.pointer (some ⟨B,0,none⟩), .pointer (some ⟨B + 3,0,none⟩), .pointer (some ⟨B + 5,0,none⟩), .pointer (some ⟨B + 1,0,none⟩)]) (.func (.func 102) #[] #[.pointer (some ⟨B + 3,0,none⟩), .pointer (some ⟨B + 2,0,none⟩), .pointer (some ⟨B + 4,0,none⟩)]) Q gs (putG does most d i gs)) := by
 intro d
 induction d with
 | zero =>
  intro i gs w hi hG hm hP hB hq
  obtain rfl : i = n := by omega
  obtain ⟨b0,b1,b2,b4,b5⟩ := id hB
  go_enter Tryz.func103,Tryz.ntmps103
  go_wp2_with fail
  go_ret
  exact PutsRes.yes hq hB rfl rfl hP
 | succ d ih =>
  intro i gs w hi hG hm hP hB hq
  have hne : ¬ (i : Int) = (n : Int) := by omega
  have hB0 := hB
  have hP0 := hP
  obtain ⟨gv,vs,d0,ho,hr,hA,hz⟩ := hP
  obtain ⟨N,hNN⟩ : ∃ N,gs.length = N := ⟨_,rfl⟩
  have HN := hid hNN
  rw [hNN] at ho hm
  clear hNN
  obtain ⟨ga,gcap,rfl, -⟩ := owns_shape ho
  have q0 := d0.1
  obtain ⟨b0,b1,b2,b4,b5⟩ := id hB
  have HIH := hid ih;have HQ := hid hQ;have HDO := hid hdo;clear ih hQ hdo
  have hni := hG.1.many
  rw [HN.out] at hni
  go_enter Tryz.func103,Tryz.ntmps103
  go_wp2_with fail
  (try rw [show ((i : Int) == (n : Int)) = false from beq_eq_false_iff_ne.mpr hne])
  go_loopg [13] N (fun gk kv wr => ∃ k : Nat,k ≤ N ∧ gk = N - k ∧ kv = .int .i64 k ∧ PartsAt B 73 3 gs wr ∧ BoxesAt B (.int .i64 (n : Int)) (.int .i64 (most : Int)) (.func (.func 78) #[] #[ca,cb]) (.func (.func 103) #[] #[.pointer (some ⟨B,0,none⟩), .pointer (some ⟨B + 3,0,none⟩), .pointer (some ⟨B + 5,0,none⟩), .pointer (some ⟨B + 1,0,none⟩)]) (.func (.func 102) #[] #[.pointer (some ⟨B + 3,0,none⟩), .pointer (some ⟨B + 2,0,none⟩), .pointer (some ⟨B + 4,0,none⟩)]) wr ∧ Q wr ∧ (∀ j,j < k → tryG does most d i gs j = none))
  case atStart => exact ⟨0,Nat.zero_le _,rfl,rfl,hP0,hB0,hq,fun j h => by omega⟩
  case round =>
   clear hP0 hB0 hq ho hr d0 hA hz b0 b1 b2 b4 b5
   obtain ⟨k,hk,hgk,rfl,hP,hB,hq,hT⟩ := hrel
   have HGK := hid hgk;have HT := hid hT;clear hgk hT
   obtain ⟨b0,b1,b2,b4,b5⟩ := id hB
   by_cases hlt : k < N
   ·have hki : (k : Int) < (N : Int) := by omega
    obtain ⟨g,hg⟩ : ∃ g,gs[k]? = some g := ⟨_,List.getElem?_eq_getElem (by rw [HN.out];exact hlt)⟩
    go_wp2_with fail
    refine (tryIn_any (d := d) (gs := gs) (k := k) hn hmn HQ.out HDO.out (fun gs W h1 h2 h3 h4 h5 => by have h := HIH.out (i + 1) gs W (by omega) h1 h2 h3 h4 h5;rw [show (((i + 1 : Nat)) : Int) = (i : Int) + 1 by omega] at h;exact h) (by omega) hg (hG.push hg) (by rw [HN.out];exact hm) hP hB hq).mono ?_
    rintro e w3 ⟨hq3,hB3,⟨rs,hrs,rfl,hP3⟩ | ⟨hrs,rfl,hP3⟩⟩
    ·go_wp2_with fail
     go_ret
     exact PutsRes.yes hq3 hB3 (by rw [putG_succ,find_here (by rw [HN.out];exact hlt) HT.out hrs]) rfl hP3
    ·have HRS := hid hrs;clear hrs hP hB hq b0 b1 b2 b4 b5
     go_wp2_with fail
     go_roundg (N - (k + 1))
     case measure => have h := HGK.out;omega
     case rel => exact ⟨k + 1,by omega,rfl,by go_num,hP3,hB3,hq3,fun j hj => by (rcases Nat.lt_or_ge j k with h3 | h3);exact HT.out j h3;rw [show j = k by omega];exact HRS.out⟩
   ·obtain rfl : k = N := by omega
    have hpf : putG does most (d + 1) i gs = if gs.length = most then none else tryG does most d i (gs ++ [[]]) gs.length := by rw [putG_succ,find_no (n := gs.length) (f := tryG does most d i gs) (by rw [HN.out];exact HT.out)]
    rw [HN.out] at hpf
    have HPF := hid hpf;clear hpf HT
    have hP9 := hP
    obtain ⟨gv2,vs2,d2,ho2,hr2,hA2,hz2⟩ := hP
    rw [HN.out] at ho2
    obtain ⟨ga2,gcap2,rfl, -⟩ := owns_shape ho2
    have q0 := d2.1;have q1 := d2.2
    have HR2 := hid hr2;clear hr2
    by_cases hmo : k = most
    ·subst hmo
     go_wp2_with fail
     go_ret
     exact PutsRes.no hq hB (by rw [HPF.out];simp) rfl hP9
    ·have hmo2 : ¬ (k : Int) = (most : Int) := by omega
     clear hP9
     obtain ⟨i2,hq2,ha0,ha1,ha2⟩ := info_parts Tryz.infoG
     have hcg : ∀ j u,([.slice none 0 0] : List Value)[j]? = some u → (wr.alloc (.cells #[.slice none 0 0] 73)).cell? ((⟨wr.heap.size,0,none⟩ : Addr).add j) = some u := fun j u h => by
      rw [Go.WideShapes.add_plain,Nat.zero_add]
      exact (CellsAt.new wr [.slice none 0 0] 73 j u h).1
     have HCG := hid hcg;clear hcg
     go_upto_region 12 with (at_builtin;go_must (refine wpList_append_own _ rfl _ _ 78 rfl (B + 6) 73 i2 (.slice none 0 0) 1 24 Tryz.underlying78 hq2 ha0 ha1 ha2 rfl (by decide) _ _ _ rfl (ho2.alloc _) ⟨wr.heap.size,0,none⟩ 1 1 [.slice none 0 0] rfl rfl HCG.out (fun u h => by simp only [List.mem_cons,List.not_mem_nil,or_false] at h;rcases h with rfl;rfl) (by unfold maxLen;omega) (by omega) (by simp;omega) ?_;intro v' w4 ho4 hg4 hnil;obtain ⟨⟨p0,p1⟩,hPg,hBg⟩ := PartsAt.grow (TO := 73) (TI := 3) (by decide) HN.out d2 ho2 HR2.out hA2 hz2 ((Below.refl _ wr).alloc (Nat.le_refl _) _) hg4 ho4;obtain ⟨xb,xd,rfl, -⟩ := owns_shape ho4;clear ho4 hg4 hnil))
     generalize hW5 : w4.setCell ⟨B + 3,0,none⟩ (.slice xb (k + 1) xd) = W5 at *
     have hB5 : BoxesAt B (.int .i64 (n : Int)) (.int .i64 (most : Int)) (.func (.func 78) #[] #[ca,cb]) (.func (.func 103) #[] #[.pointer (some ⟨B,0,none⟩), .pointer (some ⟨B + 3,0,none⟩), .pointer (some ⟨B + 5,0,none⟩), .pointer (some ⟨B + 1,0,none⟩)]) (.func (.func 102) #[] #[.pointer (some ⟨B + 3,0,none⟩), .pointer (some ⟨B + 2,0,none⟩), .pointer (some ⟨B + 4,0,none⟩)]) W5 := by rw [← hW5];exact (hB.below hBg).set
     have hq5 : Q W5 := by rw [← hW5];exact HQ.out _ _ hq ((hBg.mono (by omega)).setCell (p := ⟨B + 3,0,none⟩) (by show B ≤ B + 3;omega) _)
     clear hW5 hBg p0 p1 q0 q1 d2 ho2 hA2 hB hq b0 b1 b2 b4 b5
     have hls : (gs ++ [[]]).length = k + 1 := by rw [List.length_append,List.length_singleton,HN.out]
     have hP5 := hPg
     obtain ⟨gv5,vs5,d5,ho5,hr5,hA5,hz5⟩ := hPg
     rw [hls] at ho5
     obtain ⟨gb5,gcap5,rfl,hf1,hf2⟩ := own_some ho5 (by omega)
     have q0 := d5.1
     obtain ⟨b0,b1,b2,b4,b5⟩ := id hB5
     have HLS := hid hls;clear hls hr5 hA5 ho5 HR2
     go_wp2_with fail
     have hgl : (gs ++ [[]])[k]? = some [] := by rw [List.getElem?_append_right (by rw [HN.out];exact Nat.le_refl _),HN.out,Nat.sub_self];rfl
     have hgs : (gs ++ [[]]).set k ([] ++ [(i : Int)]) = gs ++ [[(i : Int)]] := by have h := set_last gs [(i : Int)];rw [HN.out] at h;exact h
     refine (tryIn_any (d := d) (gs := gs ++ [[]]) (k := k) hn hmn HQ.out HDO.out (fun gs W h1 h2 h3 h4 h5 => by have h := HIH.out (i + 1) gs W (by omega) h1 h2 h3 h4 h5;rw [show (((i + 1 : Nat)) : Int) = (i : Int) + 1 by omega] at h;exact h) (by omega) hgl (by rw [hgs];exact hG.snoc) (by rw [HLS.out];omega) hP5 hB5 hq5).mono ?_
     clear hgl hgs
     rintro e w6 ⟨hq6,hB6,⟨rs,hrs,rfl,hP6⟩ | ⟨hrs,rfl,hP6⟩⟩
     ·go_wp2_with fail
      go_ret
      exact PutsRes.yes hq6 hB6 (by rw [HPF.out,if_neg hmo];exact hrs) rfl hP6
     ·have HRS := hid hrs;clear hrs q0 d5 hB5 hq5 hP5 b0 b1 b2 b4 b5
      obtain ⟨gv6,vs6,d6,ho6,hr6,hA6,hz6⟩ := hP6
      rw [HLS.out] at ho6
      obtain ⟨gb6,gcap6,rfl,hf1,hf2⟩ := own_some ho6 (by omega)
      have q0 := d6.1;have q1 := d6.2
      have hk0 : (0 : Int) ≤ (k : Int) := by omega
      have hk1 : (k : Int) ≤ (gcap6 : Int) := by omega
      have HR6 := hid hr6;clear hr6
      go_upto_region 15 with fail
      have hP8 := PartsAt.shrink (TO := 73) (TI := 3) HN.out d6 ho6 HR6.out hA6 hz6
      have hB8 := hB6.set (v := .slice (some ⟨gb6,0,none⟩) k gcap6)
      have hq8 := HQ.out _ _ hq6 ((Below.refl B _).setCell (p := ⟨B + 3,0,none⟩) (by show B ≤ B + 3;omega) (.slice (some ⟨gb6,0,none⟩) k gcap6))
      generalize hW8 : w6.setCell ⟨B + 3,0,none⟩ (.slice (some ⟨gb6,0,none⟩) k gcap6) = W8 at *
      clear hW8
      go_wp2_with fail
      go_ret
      exact PutsRes.no hq8 hB8 (by rw [HPF.out,if_neg hmo];exact HRS.out) rfl hP8
end Go.Proofs.YthdfnkdifjajlaaGreatDoor