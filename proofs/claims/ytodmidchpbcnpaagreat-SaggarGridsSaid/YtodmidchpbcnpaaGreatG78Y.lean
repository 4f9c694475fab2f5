/- Part of a claim. -/
import Derived.Test.YtodmidchpbcnpaaGreatG76Y
import Derived.Test.YtodmidchpbcnpaaGreatKW25Y
import Derived.Test.YtodmidchpbcnpaaGreatKG14Y
import Derived.Test.YtodmidchpbcnpaaGreatKSqY
import Derived.OwnWalk
set_option linter.unusedVariables false
set_option linter.unusedSimpArgs false
namespace Go.Proofs.YtodmidchpbcnpaaGreat
open Go.RowKit Go.Pb Go.Pb.Ware Go.Pb.Sag


theorem Tryz.infoX3 : (Tryz.prog.info? 32).map (fun i => (i.zero,i.size,i.bytes)) = some (some (.agg #[.int .i64 0, .int .i64 0, .int .i64 0]),3,24) := by kernel_rfl
def RowC (B : Nat) (T : TypeId) (x : Nat) (v : Nat → Value) (n : Nat → Nat) (cs : Nat → List Value) (W : World) : Prop := x = 0 ∨ W.ownsRow B T 3 (v x) (n x) (cs x)
theorem RowC.alloc {B x : Nat} {T : TypeId} {v : Nat → Value} {n : Nat → Nat} {cs : Nat → List Value} {W : World} (h : RowC B T x v n cs W) (o : Obj) : RowC B T x v n cs (W.alloc o) := h.imp id fun h => h.alloc o
theorem RowC.grown {B x T2 n2 : Nat} {T : TypeId} {v : Nat → Value} {n : Nat → Nat} {cs : Nat → List Value} {u : Value} {ys : List Value} {W W' : World} (h : RowC B T x v n cs W) (ho : W.ownsRow B T2 3 u n2 ys) (hT : T ≠ T2) (hg : W.grownBy W' u.ownBlock) : RowC B T x v n cs W' :=
 h.imp id fun h => h.kept hg (apart_types h ho hT)
theorem own_empty {B : Nat} {T : TypeId} {W : World} (hB : B ≤ W.heap.size) : (W.alloc (.cells #[] T)).ownsRow B T 3 (.slice (some ⟨W.heap.size,0,none⟩) 0 0) 0 [] := ⟨rfl, .inr ⟨W.heap.size,0,#[],rfl,hB,World.alloc_heap_new W _,Nat.le_refl _,by simp [maxLen],rfl,rfl⟩⟩
def upd2 (v : Nat → Value) (k : Nat) (u : Value) (j : Nat) : Value := if j = k then u else v j
set_option maxRecDepth 100000 in
set_option maxHeartbeats 1000000 in
theorem rTake {w : World} {vs vb : Value} {ss bs : List (List Int)} (h1 : RowsAt 11 w vs ss) (h2 : RowsAt 7 w vb bs) {lv pv : Value} {xs : List It} {qs : List Sq} {bid bwi bde bce bhi bbe i : Int} (hl : RowsAt 3 w lv (xs.map rowX)) (hp : StAt w pv qs) {c : Int} (hc : takeC ss bs ⟨bid,bwi,bde,bce,bhi,bbe⟩ xs qs i = c) :
  Calls Tryz.prog 39 #[.agg #[vs,vb], .agg #[.int .i64 bid, .int .i64 bwi, .int .i64 bde, .int .i64 bce, .int .i64 bhi, .int .i64 bbe],lv,pv, .int .i64 i] w (TakeRes xs qs i c w) := by
 have hlx := it_lat hl
 have hlq := st_lat hp
 obtain ⟨la,lc,rfl,hll⟩ := hl.shape
 rw [List.length_map] at hl hlx hll ⊢
 obtain ⟨pa,pc,rfl,hpl,hpc⟩ := hp.shape
 unfold TakeRes
 obtain ⟨d,hd⟩ : ∃ d,ckK ss bs ⟨bid,bwi,bde,bce,bhi,bbe⟩ xs qs = d := ⟨_,rfl⟩
 unfold takeC at hc
 rw [hd] at hc
 have HD := hid hd;clear hd
 by_cases hd0 : d = 0
 ·subst hd0
  rw [if_pos rfl] at hc
  obtain ⟨k0,kp⟩ := ckK_0 HD.out
  have hql : qs.length = xs.length := by rw [pack_long kp,feetV_0 k0];exact List.length_map ..
  obtain ⟨-, -,hx5, -⟩ := ckL_0 k0
  have HL := hid hql
  clear k0 kp hql
  cases ht : btw i 0 ((xs.length : Int) - 1)
  ·rw [ht] at hc
   simp only [Bool.false_eq_true,if_false] at hc
   subst hc
   have hcase : i < 0 ∨ (¬ i < 0 ∧ (xs.length : Int) ≤ i) := by unfold btw at ht;simp at ht;omega
   clear ht
   rcases hcase with h0 | ⟨h0,h1'⟩
   ·go_enter Tryz.func39,Tryz.ntmps39
    go_wp2_with fail
    refine (rCheckPack (h1.below (by go_grown)) (h2.below (by go_grown)) (hl.below (by go_grown)) (hp.below (by go_grown)) HD.out).mono ?_
    rintro e w1 ⟨rfl,hb⟩
    replace hb0 := bnext (w := w) (by go_grown) hb
    clear hb
    go_wp2_with fail
    go_ret3
    exact ⟨_,_,rfl,by go_grown, .inl ⟨by decide,rfl,rfl⟩⟩
   ·go_enter Tryz.func39,Tryz.ntmps39
    go_wp2_with fail
    refine (rCheckPack (h1.below (by go_grown)) (h2.below (by go_grown)) (hl.below (by go_grown)) (hp.below (by go_grown)) HD.out).mono ?_
    rintro e w1 ⟨rfl,hb⟩
    replace hb0 := bnext (w := w) (by go_grown) hb
    clear hb
    go_wp2_with fail
    go_ret3
    exact ⟨_,_,rfl,by go_grown, .inl ⟨by decide,rfl,rfl⟩⟩
  ·rw [ht,if_pos rfl] at hc
   obtain ⟨k,rfl,hk⟩ : ∃ k : Nat,i = (k : Int) ∧ k < xs.length := by unfold btw at ht;simp at ht;exact ⟨i.toNat,by omega,by omega⟩
   clear ht
   subst hc
   have hk2 : k < qs.length := by rw [HL.out];exact hk
   have hki0 : ¬ (k : Int) < 0 := by omega
   have hki1 : ¬ (xs.length : Int) ≤ (k : Int) := by omega
   obtain ⟨a',ha'⟩ : ∃ a',la = some a' := by (cases la with | none => exact absurd (hlx.nil).1 (by omega) | some a => exact ⟨a,rfl⟩)
   subst ha'
   obtain ⟨b',hb'⟩ : ∃ b',pa = some b' := by (cases pa with | none => exact absurd (hlq.nil).1 (by omega) | some a => exact ⟨a,rfl⟩)
   subst hb'
   have hlc : xs.length ≤ lc ∧ lc ≤ 9223372036854775807 := by obtain ⟨_,_,e,x,y,_⟩ := hlx.shape;injection e with _ _ e3;subst e3;exact ⟨x,y⟩
   obtain ⟨ad,had⟩ : ∃ ad,(if lc = k + 1 then some a' else some (a'.add ((k + 1) * 3))) = some ad := by split <;> exact ⟨_,rfl⟩
   obtain ⟨bd,hbd⟩ : ∃ ad,(if pc = k + 1 then some b' else some (b'.add ((k + 1) * 3))) = some ad := by split <;> exact ⟨_,rfl⟩
   have hs1 := hlx.head (k := k) (by omega)
   have hs3 := hlq.head (k := k) (by omega)
   have hs2 := hlx.tail (k := k + 1) (q := ad) (by omega) (fun hlt => by rw [if_neg (by omega)] at had;injection had with had;exact had.symm)
   have hs4 := hlq.tail (k := k + 1) (q := bd) (by omega) (fun hlt => by rw [if_neg (by omega)] at hbd;injection hbd with hbd;exact hbd.symm)
   have hcA : (k : Int) ≤ (lc : Int) := by omega
   have hcA2 : ((k : Int) + 1) ≤ (lc : Int) := by omega
   have hcB : (k : Int) ≤ (pc : Int) := by omega
   have hcB2 : ((k : Int) + 1) ≤ (pc : Int) := by omega
   have hkx : (k : Int) ≤ (xs.length : Int) := by omega
   have hkx1 : (k : Int) + 1 ≤ (xs.length : Int) := by omega
   have hkq : (k : Int) ≤ (qs.length : Int) := by omega
   have hkq1 : (k : Int) + 1 ≤ (qs.length : Int) := by omega
   obtain ⟨i0,hi,hz0,hz1,hz2⟩ := info_parts Tryz.infoX3
   obtain ⟨i1,hj,hy0,hy1,hy2⟩ := info_parts Tryz.infoS
   go_enter Tryz.func39,Tryz.ntmps39
   go_wp2_with fail
   refine (rCheckPack (h1.below (by go_grown)) (h2.below (by go_grown)) (hl.below (by go_grown)) (hp.below (by go_grown)) HD.out).mono ?_
   rintro e w1 ⟨rfl,hb⟩
   replace hb0 := bnext (w := w) (by go_grown) hb
   clear hb
   replace hs1 := hs1.below hb0
   replace hs2 := hs2.below hb0
   replace hs3 := hs3.below hb0
   replace hs4 := hs4.below hb0
   have HS1 := hid hs1
   have HS2 := hid hs2
   have HS3 := hid hs3
   have HS4 := hid hs4
   clear hs1 hs2 hs3 hs4
   obtain ⟨v6,hv6⟩ : ∃ v,v = w1 := ⟨_,rfl⟩
   subst hv6
   go_upto_region 6 with fail
   have HZ6 := hid hb0.size
   refine wp_region_chains [1,2,3,5,6,7,8,11,12,13,15,16,17,18] [0,4,9] [10,14,19] 3 (fun x y a W => ∃ v u : Nat → Value,a = ({ tmps := #[.agg #[vs,vb], .agg #[.int .i64 bid, .int .i64 bwi, .int .i64 bde, .int .i64 bce, .int .i64 bhi, .int .i64 bbe], .slice (some a') xs.length lc, .slice (some b') qs.length pc, .int .i64 (k : Int), .pointer (some ⟨w.heap.size,0,none⟩), .pointer (some ⟨w.heap.size + 1,0,none⟩),undef,undef,undef, .slice none 0 0, .slice none 0 0, .int .i64 0, .int .i64 0, .agg #[vs,vb], .agg #[.int .i64 bid, .int .i64 bwi, .int .i64 bde, .int .i64 bce, .int .i64 bhi, .int .i64 bbe], .slice (some a') xs.length lc, .slice (some b') qs.length pc, .int .i64 0, .int .i64 0, .bool false,undef, .int .i64 (k : Int), .bool (decide ((k : Int) < 0)), .bool (decide ((k : Int) < 0)), .int .i64 (k : Int), .slice (some a') xs.length lc, .int .i64 (xs.length : Int), .bool (decide (xs.length ≤ k)), .bool (decide ((k : Int) < 0) || decide (xs.length ≤ k)),v 1, .slice (some a') xs.length lc, .int .i64 (k : Int), .slice (some a') k lc,v 2, .slice (some a') xs.length lc, .int .i64 (k : Int), .int .i64 ((k : Int) + 1), .slice (some ad) (xs.length - (k + 1)) (lc - (k + 1)),v 3,u 1, .slice (some b') qs.length pc, .int .i64 (k : Int), .slice (some b') k pc,u 2, .slice (some b') qs.length pc, .int .i64 (k : Int), .int .i64 ((k : Int) + 1), .slice (some bd) (qs.length - (k + 1)) (pc - (k + 1)),u 3],defers := [] } : Act) ∧ RowC v6.heap.size 32 x v (fun j => match j with | 2 => k | 3 => k + (xs.length - (k + 1)) | _ => 0) (fun j => match j with | 2 => ((itCells xs).take (k * 3)) | 3 => ((itCells xs).take (k * 3)) ++ ((itCells xs).drop ((k + 1) * 3)) | _ => []) W ∧ RowC v6.heap.size 62 y u (fun j => match j with | 2 => k | 3 => k + (qs.length - (k + 1)) | _ => 0) (fun j => match j with | 2 => ((qs.flatMap cellsQ).take (k * 3)) | 3 => ((qs.flatMap cellsQ).take (k * 3)) ++ ((qs.flatMap cellsQ).drop ((k + 1) * 3)) | _ => []) W ∧ Below v6.heap.size v6 W) (by kernel_rfl) (by kernel_rfl) rfl (by kernel_rfl) ?_ ?_ ?_ ?_
   ·refine ⟨_,_,rfl, .inl ⟨rfl,fun w => rfl⟩, ?_⟩
    refine ⟨_,_,rfl, .inl ⟨rfl,fun w => rfl⟩, ?_⟩
    refine ⟨_, .slice (some a') k lc,rfl, .inl ⟨rfl,fun w => by go_simp⟩, ?_⟩
    refine ⟨_,_,rfl, .inl ⟨rfl,fun w => rfl⟩, ?_⟩
    refine ⟨_,_,rfl, .inl ⟨rfl,fun w => rfl⟩, ?_⟩
    refine ⟨_, .int .i64 ((k : Int) + 1),rfl, .inl ⟨rfl,fun w => by go_simp;exact IntWalk.i64_in _ (by omega)⟩, ?_⟩
    refine ⟨_, .slice (some ad) (xs.length - (k + 1)) (lc - (k + 1)),rfl, .inl ⟨rfl,fun w => by go_simp;intro h;omega⟩, ?_⟩
    refine ⟨_,_,rfl, .inl ⟨rfl,fun w => rfl⟩, ?_⟩
    refine ⟨_,_,rfl, .inl ⟨rfl,fun w => rfl⟩, ?_⟩
    refine ⟨_, .slice (some b') k pc,rfl, .inl ⟨rfl,fun w => by go_simp⟩, ?_⟩
    refine ⟨_,_,rfl, .inl ⟨rfl,fun w => rfl⟩, ?_⟩
    refine ⟨_,_,rfl, .inl ⟨rfl,fun w => rfl⟩, ?_⟩
    refine ⟨_, .int .i64 ((k : Int) + 1),rfl, .inl ⟨rfl,fun w => by go_simp;exact IntWalk.i64_in _ (by omega)⟩, ?_⟩
    refine ⟨_, .slice (some bd) (qs.length - (k + 1)) (pc - (k + 1)),rfl, .inl ⟨rfl,fun w => by go_simp;intro h;omega⟩, ?_⟩
    simp only [Act.put,List.getElem_toArray,List.getElem_cons_succ,List.getElem_cons_zero,List.setIfInBounds_toArray,List.set_cons_succ,List.set_cons_zero]
    refine ⟨fun _ => undef,fun _ => undef,rfl, .inl rfl, .inl rfl,(Below.refl _ v6).drew⟩
   ·rintro x i hi9 y a W ⟨v,u,rfl,hA,hB,hW⟩
    have hsW := hW.size
    rcases x with _ | _ | _ | x
    ·obtain rfl : i = 0 := by simpa using hi9.symm
     refine wpOp_step rfl (fun K hK => ?_)
     refine (if_pos (show Region.wanted _ _ = true from rfl)).mpr ?_
     go_simp
     refine hK _ _ ⟨upd2 v 1 (.slice (some ⟨W.heap.size,0,none⟩) 0 0),u,(by simp [upd2,Act.put] <;> omega), .inr (own_empty hsW),hB.alloc _,hW.alloc hsW _⟩
    ·obtain rfl : i = 4 := by simpa using hi9.symm
     refine wpOp_step rfl (fun K hK => ?_)
     refine (if_pos (show Region.wanted _ _ = true from rfl)).mpr ?_
     have ho : W.ownsRow v6.heap.size 32 3 (v 1) 0 [] := hA.resolve_left (by decide)
     refine wp_append_lat W (.tmp 30) (.tmp 33) 28 rfl v6.heap.size 32 i0 (.agg #[.int .i64 0, .int .i64 0, .int .i64 0]) 3 24 Tryz.underlying28 hi hz0 hz1 hz2 rfl (by decide) (v 1) 0 [] rfl ho (.slice (some a') k lc) k ((itCells xs).take (k * 3)) rfl (HS1.out.below hW) (by have := HL.out;unfold maxLen;omega) (by have := HL.out;omega) hsW ?_
     intro v' w' ho2 hg
     refine hK _ _ ⟨upd2 v 2 (v'),u,(by simp [upd2,Act.put] <;> omega), .inr (by simpa [upd2] using ho2),hB.grown ho (by decide) hg,below_grown hW hg ho hsW (Nat.le_refl _)⟩
    ·obtain rfl : i = 9 := by simpa using hi9.symm
     refine wpOp_step rfl (fun K hK => ?_)
     refine (if_pos (show Region.wanted _ _ = true from rfl)).mpr ?_
     have ho : W.ownsRow v6.heap.size 32 3 (v 2) k ((itCells xs).take (k * 3)) := hA.resolve_left (by decide)
     refine wp_append_lat W (.tmp 34) (.tmp 38) 28 rfl v6.heap.size 32 i0 (.agg #[.int .i64 0, .int .i64 0, .int .i64 0]) 3 24 Tryz.underlying28 hi hz0 hz1 hz2 rfl (by decide) (v 2) k ((itCells xs).take (k * 3)) rfl ho (.slice (some ad) (xs.length - (k + 1)) (lc - (k + 1))) (xs.length - (k + 1)) ((itCells xs).drop ((k + 1) * 3)) rfl (HS2.out.below hW) (by have := HL.out;unfold maxLen;omega) (by have := HL.out;omega) hsW ?_
     intro v' w' ho2 hg
     refine hK _ _ ⟨upd2 v 3 (v'),u,(by simp [upd2,Act.put] <;> omega), .inr (by simpa [upd2] using ho2),hB.grown ho (by decide) hg,below_grown hW hg ho hsW (Nat.le_refl _)⟩
    ·simp at hi9
   ·rintro x i hi9 y a W ⟨v,u,rfl,hA,hB,hW⟩
    have hsW := hW.size
    rcases x with _ | _ | _ | x
    ·obtain rfl : i = 10 := by simpa using hi9.symm
     refine wpOp_step rfl (fun K hK => ?_)
     refine (if_pos (show Region.wanted _ _ = true from rfl)).mpr ?_
     go_simp
     refine hK _ _ ⟨v,upd2 u 1 (.slice (some ⟨W.heap.size,0,none⟩) 0 0),(by simp [upd2,Act.put] <;> omega),hA.alloc _, .inr (own_empty hsW),hW.alloc hsW _⟩
    ·obtain rfl : i = 14 := by simpa using hi9.symm
     refine wpOp_step rfl (fun K hK => ?_)
     refine (if_pos (show Region.wanted _ _ = true from rfl)).mpr ?_
     have ho : W.ownsRow v6.heap.size 62 3 (u 1) 0 [] := hB.resolve_left (by decide)
     refine wp_append_lat W (.tmp 40) (.tmp 43) 41 rfl v6.heap.size 62 i1 (.agg #[.int .i64 0, .int .i64 0, .bool false]) 3 24 Tryz.underlying41 hj hy0 hy1 hy2 rfl (by decide) (u 1) 0 [] rfl ho (.slice (some b') k pc) k ((qs.flatMap cellsQ).take (k * 3)) rfl (HS3.out.below hW) (by have := HL.out;unfold maxLen;omega) (by have := HL.out;omega) hsW ?_
     intro v' w' ho2 hg
     refine hK _ _ ⟨v,upd2 u 2 (v'),(by simp [upd2,Act.put] <;> omega),hA.grown ho (by decide) hg, .inr (by simpa [upd2] using ho2),below_grown hW hg ho hsW (Nat.le_refl _)⟩
    ·obtain rfl : i = 19 := by simpa using hi9.symm
     refine wpOp_step rfl (fun K hK => ?_)
     refine (if_pos (show Region.wanted _ _ = true from rfl)).mpr ?_
     have ho : W.ownsRow v6.heap.size 62 3 (u 2) k ((qs.flatMap cellsQ).take (k * 3)) := hB.resolve_left (by decide)
     refine wp_append_lat W (.tmp 44) (.tmp 48) 41 rfl v6.heap.size 62 i1 (.agg #[.int .i64 0, .int .i64 0, .bool false]) 3 24 Tryz.underlying41 hj hy0 hy1 hy2 rfl (by decide) (u 2) k ((qs.flatMap cellsQ).take (k * 3)) rfl ho (.slice (some bd) (qs.length - (k + 1)) (pc - (k + 1))) (qs.length - (k + 1)) ((qs.flatMap cellsQ).drop ((k + 1) * 3)) rfl (HS4.out.below hW) (by have := HL.out;unfold maxLen;omega) (by have := HL.out;omega) hsW ?_
     intro v' w' ho2 hg
     refine hK _ _ ⟨v,upd2 u 3 (v'),(by simp [upd2,Act.put] <;> omega),hA.grown ho (by decide) hg, .inr (by simpa [upd2] using ho2),below_grown hW hg ho hsW (Nat.le_refl _)⟩
    ·simp at hi9
   ·rintro a W ⟨v,u,rfl,hA,hB,hW⟩
    have hA3 : W.ownsRow v6.heap.size 32 3 (v 3) (k + (xs.length - (k + 1))) (((itCells xs).take (k * 3)) ++ ((itCells xs).drop ((k + 1) * 3))) := hA.resolve_left (by decide)
    have hB3 : W.ownsRow v6.heap.size 62 3 (u 3) (k + (qs.length - (k + 1))) (((qs.flatMap cellsQ).take (k * 3)) ++ ((qs.flatMap cellsQ).drop ((k + 1) * 3))) := hB.resolve_left (by decide)
    clear hA hB
    rw [show itCells xs = xs.flatMap cellsX from rfl,flat_erase lenX,show k + (xs.length - (k + 1)) = xs.length - 1 by omega] at hA3
    rw [flat_erase lenQ',HL.out,show k + (xs.length - (k + 1)) = xs.length - 1 by omega] at hB3
    generalize v 1 = z1;generalize v 2 = z2;generalize v 3 = z3 at *;generalize u 1 = y1;generalize u 2 = y2;generalize u 3 = y3 at *
    obtain ⟨xa,xc,rfl,hxl⟩ := owns_shape hA3
    obtain ⟨sa,sc,rfl,hsl⟩ := owns_shape hB3
    replace hb0 := bnext (w := w) hb0 hW
    have hz6 : w.heap.size ≤ v6.heap.size := HZ6.out
    refine wpAny_ready (rs := [20]) (by kernel_rfl) (by simp) ?_
    refine AllReady.cons rfl (fun K hK => ?_) AllReady.nil
    go_simp
    refine hK _ _ ?_;clear hK K
    refine wpAny_ready (rs := [21]) (by kernel_rfl) (by simp) ?_
    refine AllReady.cons rfl (fun K hK => ?_) AllReady.nil
    go_simp
    refine hK _ _ ?_;clear hK K
    refine wpAny_ready (rs := [22]) (by kernel_rfl) (by simp) ?_
    refine AllReady.cons rfl (fun K hK => ?_) AllReady.nil
    go_simp
    refine hK _ _ ?_;clear hK K
    refine wpAny_done (by kernel_rfl) ?_ _
    refine ⟨rfl, ?_⟩
    go_wp2_with fail
    go_ret3
    exact ⟨_,_,rfl,hb0, .inr ⟨by simp,by omega,by simpa using hk,owns_base hz6 hA3,owns_base hz6 hB3⟩⟩
 ·rw [if_neg hd0] at hc
  subst hc
  have hcn : (d != 0) = true := by simpa using hd0
  go_enter Tryz.func39,Tryz.ntmps39
  go_wp2_with fail
  refine (rCheckPack (h1.below (by go_grown)) (h2.below (by go_grown)) (hl.below (by go_grown)) (hp.below (by go_grown)) HD.out).mono ?_
  rintro e w1 ⟨rfl,hb⟩
  replace hb0 := bnext (w := w) (by go_grown) hb
  clear hb
  go_wp2_with fail
  go_ret3
  exact ⟨_,_,rfl,by go_grown, .inl ⟨hd0,rfl,rfl⟩⟩
end Go.Proofs.YtodmidchpbcnpaaGreat