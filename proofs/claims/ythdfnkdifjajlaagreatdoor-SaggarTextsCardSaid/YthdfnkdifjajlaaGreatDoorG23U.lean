/- Part of a claim. -/
import Derived.Test.YthdfnkdifjajlaaGreatDoorG6U
import Derived.Test.YthdfnkdifjajlaaGreatDoorG5U
import Derived.Test.YthdfnkdifjajlaaGreatDoorKSdU
import Derived.Test.YthdfnkdifjajlaaGreatDoorKXaU
import Derived.WalkMore
import Derived.Deep.LoopGhost
import Derived.RangeFuncNested
import Derived.RangeFuncBound
import Derived.RangeFuncCalls
import Derived.RangeFuncLeaves
set_option linter.unusedVariables false
set_option linter.unusedSimpArgs false
namespace Go.Proofs.YthdfnkdifjajlaaGreatDoor
open Go.RowKit Go.Pb Go.Pb.Ware Go.Pb.Sag


open Go.Shelf
attribute [local go_sem] Oper.semAt_some
theorem Tryz.infoA : (Tryz.prog.info? 132).map (fun i => (i.zero,i.size,i.bytes)) = some (some (.slice none 0 0),1,24) := by kernel_rfl
theorem Tryz.infoB : (Tryz.prog.info? 134).map (fun i => (i.zero,i.size,i.bytes)) = some (some (.agg #[.int .i64 0, .int .i64 0, .bool false, .int .u64 0]),4,32) := by kernel_rfl
def SpotsUpTo (lo g n : Nat) (sp : List (List Sp)) (W : World) : Prop := (∀ i l,sp[i]? = some l → ∃ (a : Option Addr) (cap : Nat),W.cell? ⟨g,i,none⟩ = some (.slice a l.length cap) ∧ (l.length : Int) ≤ 1000 ∧
  ∀ k x,l[k]? = some x → ∃ b : Nat,(lo ≤ b ∧ b < W.heap.size ∧ b ≠ g) ∧ a = some ⟨b,0,none⟩ ∧ ∀ j u,(cellsA x)[j]? = some u → W.cell? ⟨b,k * 4 + j,none⟩ = some u) ∧
 (∀ i,sp.length ≤ i → i < n → W.cell? ⟨g,i,none⟩ = some (.slice none 0 0)) ∧ (∀ i,i < n → W.frozen? ⟨g,i,none⟩ = false)
theorem made_outer {w : World} {base n : Nat} {B : Nat} (h : w.ownsRow base 132 1 (.slice (some ⟨B,0,none⟩) n n) n (madeCells (Value.slice none 0 0).cells (n * 1)).toList) : ∀ i,i < n → w.cell? ⟨B,i,none⟩ = some (.slice none 0 0) ∧ w.frozen? ⟨B,i,none⟩ = false := by
 obtain ⟨_,h⟩ := h
 rcases h with ⟨h1,_⟩ | ⟨g,cap,cur,h1,h2,h3,h4,h5,h6,h7⟩
 ·cases h1
 injection h1 with e1 _ e2
 injection e1 with e1
 injection e1 with e1
 subst e1;subst e2
 intro i hk
 have hlt : i < n * 1 := by omega
 have h8 : (cur.toList.take (n * 1))[i]? = some (.slice none 0 0) := by
  rw [h7,Array.getElem?_toList]
  unfold madeCells
  rw [Array.getElem?_map,Array.getElem?_range,if_pos hlt]
  show some (#[Value.slice none 0 0] : Array Value)[i % 1]! = _
  rw [Nat.mod_one];rfl
 rw [List.getElem?_take,if_pos hlt] at h8
 refine ⟨?_, ?_⟩
 ·simp only [World.cell?,h3];simpa using h8
 ·simp [World.frozen?,h3]
theorem SpotsUpTo.next {lo g n : Nat} {sp : List (List Sp)} {W W' : World} (h : SpotsUpTo lo g n sp W) (hlt : g < W.heap.size) (hb : Below W.heap.size W W') : SpotsUpTo lo g n sp W' := by
 have hs := hb.size
 refine ⟨fun i l hl => ?_,fun i h1 h2 => bkeep hb (h.2.1 i h1 h2),fun i h1 => by rw [hb.frozen (p := ⟨g,i,none⟩) hlt];exact h.2.2 i h1⟩
 obtain ⟨a,cap,h1,h0,h2⟩ := h.1 i l hl
 refine ⟨a,cap,bkeep hb h1,h0,fun k x hx => ?_⟩
 obtain ⟨b,hb2,e2,h3⟩ := h2 k x hx
 exact ⟨b,⟨hb2.1,by omega,hb2.2.2⟩,e2,fun j u hu => bkeep hb (h3 j u hu)⟩
theorem SpotsUpTo.fill {lo g n i T : Nat} {sp : List (List Sp)} {l : List Sp} {w1 W : World} (h : SpotsUpTo lo g n sp w1) (hsp : sp.length = i) (hi : i < n) (hlo : lo ≤ w1.heap.size) (hlt : g < w1.heap.size) (hl : (l.length : Int) ≤ 1000) (hf : Filling w1 g i T l W) : SpotsUpTo lo g n (sp ++ [l]) W := by
 obtain ⟨ho,v,⟨h1,h2⟩,h3⟩ := hf
 have hs := ho.below.size
 refine ⟨fun k l' hl' => ?_,fun k h4 h5 => ?_,fun k hk => ?_⟩
 ·rcases Nat.lt_or_ge k sp.length with hk | hk
  ·rw [List.getElem?_append_left hk] at hl'
   obtain ⟨a,cap,c1,c0,c2⟩ := h.1 k l' hl'
   refine ⟨a,cap,ho.cells k _ (by omega) c1,c0,fun m x hx => ?_⟩
   obtain ⟨b,hb,e2,c3⟩ := c2 m x hx
   exact ⟨b,⟨hb.1,by omega,hb.2.2⟩,e2,fun j u hu => ho.at (c3 j u hu) hb.2.2⟩
  ·have hkl : k = sp.length := by
    have := (List.getElem?_eq_some_iff.1 hl').1
    simp at this;omega
   subst hkl
   rw [List.getElem?_append_right (Nat.le_refl _),Nat.sub_self] at hl'
   obtain rfl : l = l' := by simpa using hl'
   obtain ⟨a,cap,rfl,h6⟩ := owns_spots h3
   refine ⟨a,cap,by rw [hsp];exact h1,hl,fun m x hx => ?_⟩
   obtain ⟨b,hb,e2,c3⟩ := h6 m x hx
   exact ⟨b,⟨by omega,hb.2,by omega⟩,e2,c3⟩
 ·rw [List.length_append,List.length_singleton] at h4
  exact ho.cells k _ (by omega) (h.2.1 k (by omega) h5)
 ·rcases Nat.lt_or_ge k sp.length with h4 | h4
  ·obtain ⟨l',hl'⟩ : ∃ l',sp[k]? = some l' := ⟨_,List.getElem?_eq_getElem h4⟩
   obtain ⟨a,cap,c1,_⟩ := h.1 k l' hl'
   exact ho.frz k _ c1 (h.2.2 k hk)
  ·exact ho.frz k _ (h.2.1 k h4 hk) (h.2.2 k hk)
set_option maxRecDepth 100000 in
set_option maxHeartbeats 1000000 in
theorem spots_any {w : World} {bid bwi bde bce bhi bbe : Int} {lv : Value} {fs : List Ft} (hX : boxOk ⟨bid,bwi,bde,bce,bhi,bbe⟩ = true) (hok : ∀ f ∈ fs,FtOk f) (hn : fs.length ≤ 5) (hl : FeetAt w lv fs) :
  Calls Tryz.prog 65 #[.agg #[.int .i64 bid, .int .i64 bwi, .int .i64 bde, .int .i64 bce, .int .i64 bhi, .int .i64 bbe],lv] w (fun e W' => ∃ u,e = .returned u ∧ Below w.heap.size w W' ∧ SpotsIn w.heap.size W'.heap.size u (fs.map (spotsL ⟨bid,bwi,bde,bce,bhi,bbe⟩)) W' ∧ w.heap.size ≤ W'.heap.size) := by
 obtain ⟨la,lc,rfl,hll⟩ := hl.shape
 have HL := hid hl
 rw [List.length_map] at hl hll ⊢
 obtain ⟨i0,hi,hz0,hz1,hz2⟩ := info_parts Tryz.infoA
 refine (callsIn_wide (n := 8)).1 ?_
 refine callsIn_of_wp_marks Tryz.func65 rfl trivial ?_ rfl
 simp only [Tryz.ntmps65,List.size_toArray,List.length_cons,List.length_nil,Nat.reduceAdd,Nat.reduceSub,Array.replicate_succ,Array.replicate_zero,List.push_toArray,List.append_toArray,List.nil_append,List.cons_append]
 refine (wpIn_wide (n := 8)).2 ?_
 go_wp2_with (at_make;refine wpList_make_full _ rfl _ _ 126 rfl (w.heap.size + 1) 132 i0 (.slice none 0 0) 1 Tryz.underlying126 hi hz0 hz1 .i64 .i64 _ _ fs.length rfl rfl rfl rfl (by rw [hz2];omega) (by unfold maxLen;omega) (by simp) ?_;intro w5 ho5 hg5)
 have hb5 : Below (w.alloc (.cells #[.int .i64 bid, .int .i64 bwi, .int .i64 bde, .int .i64 bce, .int .i64 bhi, .int .i64 bbe] 61)).heap.size (w.alloc (.cells #[.int .i64 bid, .int .i64 bwi, .int .i64 bde, .int .i64 bce, .int .i64 bhi, .int .i64 bbe] 61)) w5 := (Below.refl _ _).grown hg5 (Nat.le_refl _) (fun k h => by cases h)
 have hbA : ∀ o,Below w5.heap.size w5 (w5.alloc o) := fun o => (Below.refl _ _).alloc (Nat.le_refl _) _
 have hb5w : Below w.heap.size w w5 := ((Below.refl w.heap.size w).alloc (Nat.le_refl _) _).trans (hb5.mono (by simp))
 have hc5 : CellsAt w5 w.heap.size [.int .i64 bid, .int .i64 bwi, .int .i64 bde, .int .i64 bce, .int .i64 bhi, .int .i64 bbe] := (CellsAt.new w [.int .i64 bid, .int .i64 bwi, .int .i64 bde, .int .i64 bce, .int .i64 bhi, .int .i64 bbe] 61).below hb5
 simp only [World.size_alloc] at ho5
 have hm5 := made_outer (B := w.heap.size + 1) ho5
 have hz5 : w.heap.size + 1 < w5.heap.size := by have := (World.ownsRow.lt ho5 (w.heap.size + 1) (by simp [Value.ownBlock])).2;exact this
 clear ho5 hg5
 obtain ⟨sp,hsp⟩ : ∃ sp,(fs.map (spotsL ⟨bid,bwi,bde,bce,bhi,bbe⟩)) = sp := ⟨_,rfl⟩
 obtain ⟨n,hnn⟩ : ∃ n,fs.length = n := ⟨_,rfl⟩
 have hspn : sp.length = n := by rw [← hsp,List.length_map,hnn]
 rw [hnn] at hn hm5 hl hll ⊢
 have HSP := hid hsp;have HNN := hid hnn;have HSN := hid hspn;clear hsp hnn hspn
 refine wp_loop_ghost_k (fun gk a wr => ∃ (i : Nat) (ds : List Nat) (u6 u7 u15 u16 u17 u18 u19 u20 u21 u37 : Value),(i ≤ n ∧ gk = n - i ∧ SpotsUpTo w.heap.size (w.heap.size + 1) n (sp.take i) wr ∧ Below w.heap.size w wr ∧ CellsAt wr w.heap.size [.int .i64 bid, .int .i64 bwi, .int .i64 bde, .int .i64 bce, .int .i64 bhi, .int .i64 bbe] ∧ CellsAt wr w5.heap.size [.slice (some ⟨w.heap.size + 1,0,none⟩) n n] ∧ w5.heap.size < wr.heap.size ∧ Waits ds wr ∧ (∀ D ∈ ds,w.heap.size ≤ D)) ∧ a = { tmps := #[.agg #[.int .i64 bid, .int .i64 bwi, .int .i64 bde, .int .i64 bce, .int .i64 bhi, .int .i64 bbe], .slice la n lc, .pointer (some ⟨w.heap.size,0,none⟩),undef, .slice none 0 0, .pointer (some ⟨w5.heap.size,0,none⟩),u6,u7,undef, .slice la n lc, .int .i64 (n : Int), .slice (some ⟨w.heap.size + 1,0,none⟩) n n, .slice la n lc, .int .i64 (n : Int), .int .i64 (i : Int),u15,u16,u17,u18,u19,u20,u21,undef,undef,undef,undef,undef,undef,undef,undef,undef,undef,undef,undef,undef,undef,undef,u37,undef],defers := marks ds }) n ⟨0, [],undef,undef,undef,undef,undef,undef,undef,undef,undef,undef, ?_,rfl⟩ ?_
 ·exact ⟨Nat.zero_le _,rfl,⟨fun i l h => by simp at h,fun i _ h => bkeep (hbA _) (hm5 i h).1,fun i h => bfree (hbA _) (hm5 i h).1 (hm5 i h).2⟩,hb5w.trans ((hbA _).mono hb5w.size),hc5.below (hbA _),CellsAt.new w5 _ 126,by simp,Waits.nil,fun D h => by cases h⟩
 intro gk a0 wr hinv J K hJ hK
 obtain ⟨i,ds,u6,u7,u15,u16,u17,u18,u19,u20,u21,u37,⟨hin,hgk,hU,hB,hC,hA,hzz,hW,hD⟩,rfl⟩ := hinv
 clear hm5 hbA hb5 hc5 hb5w
 by_cases hlt : i < n
 ·have hni : (i : Int) < (n : Int) := by omega
  have hif : i < fs.length := by rw [HNN.out];exact hlt
  obtain ⟨ba,ha,hrl,hc0,hcc⟩ := (HL.out.below hB).row (k := i) (by rw [List.length_map];exact hif)
  subst ha
  obtain ⟨f,hf⟩ : ∃ f,f = fs[i] := ⟨_,rfl⟩
  have hat : (fs.map rowF)[i]'(by rw [List.length_map];exact hif) = [f.wide,f.deep,f.high,f.weight] := by rw [List.getElem_map, ← hf];rfl
  rw [hat] at hc0 hcc
  have r0 := hc0 _ rfl
  have r1 := hcc 1 _ (by decide) rfl
  have r2 := hcc 2 _ (by decide) rfl
  have r3 := hcc 3 _ (by decide) rfl
  clear hc0 hcc hat hrl
  have hfo := hok f (by rw [hf];exact List.getElem_mem hif)
  have hspi : sp[i]? = some (spotsL ⟨bid,bwi,bde,bce,bhi,bbe⟩ f) := by rw [← HSP.out,List.getElem?_map,List.getElem?_eq_getElem hif, ← hf];rfl
  have HSI := hid hspi;clear hspi
  have HFO := hid hfo;have HFE := hid hf;clear hfo hf
  obtain ⟨fw,fd,fh,fg⟩ := f
  dsimp only at *
  have s0 := (hC 0 _ rfl).1
  have s1 := (hC 1 _ rfl).1
  have s2 := (hC 2 _ rfl).1
  have s3 := (hC 3 _ rfl).1
  have s4 := (hC 4 _ rfl).1
  have s5 := (hC 5 _ rfl).1
  go_wp2_with fail
  refine stands_any.mono ?_
  rintro e w1 ⟨lb,rfl,hSt,hb1,hz1⟩
  have hbr : Below wr.heap.size wr w1 := (((Below.refl _ wr).alloc (Nat.le_refl _) _).alloc (by simp) _).trans (hb1.mono (by simp;omega))
  have bI : CellsAt w1 wr.heap.size [.int .i64 (i : Int)] := ((CellsAt.new wr [.int .i64 (i : Int)] 3).alloc _).below hb1
  have bF : CellsAt w1 (wr.heap.size + 1) [.int .i64 fw, .int .i64 fd, .int .i64 fh, .int .i64 fg] := by have h := (CellsAt.new (wr.alloc (.cells #[.int .i64 (i : Int)] 3)) [.int .i64 fw, .int .i64 fd, .int .i64 fh, .int .i64 fg] 66).below hb1;rwa [World.size_alloc] at h
  simp only [World.size_alloc] at hz1 hSt
  have hs1 := hbr.size
  have hlt1 : w.heap.size + 1 < w1.heap.size := by omega
  have hU1 := hU.next (by omega) hbr
  have hC1 := hC.below hbr
  have hA1 := hA.below hbr
  have hW1 := hW.below hbr
  have hB1 : Below w.heap.size w w1 := hB.trans (hbr.mono hB.size)
  have hlen : (sp.take i).length = i := by rw [List.length_take,HSN.out];omega
  have hF0 : Filling w1 (w.heap.size + 1) i 134 [] w1 := ⟨OutOnly.refl, .slice none 0 0,⟨hU1.2.1 i (by omega) hlt,hU1.2.2 i hlt⟩,World.ownsRow_nil _ _ _ _⟩
  clear hb1 hbr r0 r1 r2 r3 s0 s1 s2 s3 s4 s5 hU hC hA hW hB
  have HU := hid hU1;have HW := hid hW1;have HB := hid hB1;have HD := hid hD;clear hU1 hW1 hB1 hD
  go_wp2_with fail
  refine (wpIn_wide (n := 8)).1 ?_
  refine wpIn_rangeFunc_ownH (F := Fence.wide) (n := 8) rfl (by omega) (gf := 115) (lb := lb) rfl trivial (enters_of Tryz.func115 (by kernel_rfl) rfl) (stands_stopsM (n := 7) (by omega) (w := w1) hX HFO.out hSt (Nat.le_refl _)) (fun h k => h.trans k) (fun W l o o' => keepSeg_b (Nat.le_refl _) W l o o') (Below.refl _ _) (fun _ => rfl)
   (fun (pre : List {x : St // x ∈ standsL ⟨bid,bwi,bde,bce,bhi,bbe⟩ ⟨fw,fd,fh,fg⟩}) W => Filling w1 (w.heap.size + 1) i 134 (pre.map (fun q => spotP ⟨fw,fd,fh,fg⟩ q.1)) W)
   (fun c (pre : List {x : St // x ∈ standsL ⟨bid,bwi,bde,bce,bhi,bbe⟩ ⟨fw,fd,fh,fg⟩}) W => False)
   (filling_own hlt1 (fun pre : List {x : St // x ∈ standsL ⟨bid,bwi,bde,bce,bhi,bbe⟩ ⟨fw,fd,fh,fg⟩} => pre.map (fun q => spotP ⟨fw,fd,fh,fg⟩ q.1)))
   (fun c _ _ _ _ hs _ _ => hs)
   hF0
   (fun x a' W => ∃ Bx,w1.heap.size ≤ Bx ∧ CellsAt W Bx (cellsP x.1) ∧ a' = { tmps := #[.agg #[.int .i64 bid, .int .i64 bwi, .int .i64 bde, .int .i64 bce, .int .i64 bhi, .int .i64 bbe], .slice (some ba) n lc, .pointer (some ⟨w.heap.size,0,none⟩),undef, .slice none 0 0, .pointer (some ⟨w5.heap.size,0,none⟩), .pointer (some ⟨wr.heap.size,0,none⟩), .pointer (some ⟨wr.heap.size + 1,0,none⟩), .pointer (some ⟨Bx,0,none⟩), .slice (some ba) n lc, .int .i64 (n : Int), .slice (some ⟨w.heap.size + 1,0,none⟩) n n, .slice (some ba) n lc, .int .i64 (n : Int), .int .i64 (i : Int), .bool true, .int .i64 (i : Int), .pointer (some (ba.add (i * 4))), .agg #[.int .i64 fw, .int .i64 fd, .int .i64 fh, .int .i64 fg], .agg #[.int .i64 bid, .int .i64 bwi, .int .i64 bde, .int .i64 bce, .int .i64 bhi, .int .i64 bbe], .agg #[.int .i64 fw, .int .i64 fd, .int .i64 fh, .int .i64 fg], .func (.func 115) #[] lb,(encS x.1)[0]!,undef,undef,undef,undef,undef,undef,undef,undef,undef,undef,undef,undef,undef,undef,u37,undef],defers := [] })
   (fun x a' _ X Y row hs hg hr => by obtain ⟨Bx,h1,h2,h3⟩ := hs;exact ⟨Bx,h1,h2.kept hg (fun r e => (hr r e).2),h3⟩)
   ?assign ?body ?done ?stop
  case assign =>
   rintro l pre x W K2 hF hK2
   simp only [encS]
   have hsW : w1.heap.size ≤ W.heap.size := hF.1.below.size
   gi_wp2
   exact hK2 _ _ ((KeepsOthers.alloc _ _).from _) ⟨by simp,fun k h1 h2 => Below.heap_alloc _ _ _ (by omega)⟩ ((filling_own hlt1 (fun pre : List {x : St // x ∈ standsL ⟨bid,bwi,bde,bce,bhi,bbe⟩ ⟨fw,fd,fh,fg⟩} => pre.map (fun q => spotP ⟨fw,fd,fh,fg⟩ q.1))).alloc _ hF) ⟨W.heap.size,hsW,CellsAt.new W (cellsP x.1) 37,by simp [encS]⟩
  case body =>
   rintro l pre ⟨⟨xy,xx,xt⟩,hxm⟩ a' Wb hl2 ⟨r,hr⟩ ⟨hO,v,⟨c1,c2⟩,hown⟩ ⟨Bx,hBx,bX,rfl⟩ hlt2
   have hok2 := stands_ok hX HFO.out hxm
   have hln := stands_len ⟨fw,fd,fh,fg⟩ hX
   have hpl : pre.length < 72 := by omega
   rw [List.length_map] at hown
   obtain ⟨va,vc,rfl,hvl⟩ := owns_shape hown
   obtain ⟨i1,hj,hy0,hy1,hy2⟩ := info_parts Tryz.infoB
   have q0 := hO.at (hA1 0 _ rfl).1 (by omega)
   have q1 := hO.at (bI 0 _ rfl).1 (by omega)
   have q2 := hO.at (bF 0 _ rfl).1 (by omega)
   have q3 := hO.at (bF 1 _ rfl).1 (by omega)
   have q4 := hO.at (bF 2 _ rfl).1 (by omega)
   have q5 := hO.at (bF 3 _ rfl).1 (by omega)
   have q6 := (bX 0 _ rfl).1
   have q7 := (bX 1 _ rfl).1
   have q8 := (bX 2 _ rfl).1
   have q9 := c1
   simp only [encS]
   gi_upto_region 7 with fail
   refine wpIn_region_G (by kernel_rfl) (fun V => V.cell? ⟨w5.heap.size,0,none⟩ = some (.slice (some ⟨w.heap.size + 1,0,none⟩) n n) ∧ V.cell? ⟨wr.heap.size,0,none⟩ = some (.int .i64 (i : Int))) (fun V hV => ⟨bkeep hV q0,bkeep hV q1⟩) [0,1] (by kernel_rfl) [(9,fun v _ => v = .int .u64 (maskOf ⟨fw,fd,fh,fg⟩ ⟨xy,xx,xt⟩ : Nat)),(11,NewList Wb.heap.size 1 [.int .i64 (xy : Int), .int .i64 (xx : Int), .bool xt, .int .u64 (maskOf ⟨fw,fd,fh,fg⟩ ⟨xy,xx,xt⟩ : Nat)])] [2,3,4,5,6,7,8,9,10,11] 3 (by kernel_rfl) rfl (by simp only [List.forall_mem_cons];exact ⟨keeps_eq,keeps_list,fun _ h => by cases h⟩) (by kernel_rfl) ?_
   refine ⟨_, .slice (some ⟨w.heap.size + 1,0,none⟩) n n,rfl,⟨rfl,fun V hV => by have h1 := hV.1;go_simp⟩, ?_⟩
   refine ⟨_, .int .i64 (i : Int),rfl,⟨rfl,fun V hV => by have h1 := hV.2;go_simp⟩, ?_⟩
   simp only [Act.put,List.getElem_toArray,List.getElem_cons_succ,List.getElem_cons_zero,List.setIfInBounds_toArray,List.set_cons_succ,List.set_cons_zero]
   simp only [numbered,List.filterMap_cons,List.filterMap_nil,List.getElem?_toArray,List.getElem?_cons_succ,List.getElem?_cons_zero,Option.map_some]
   show wpS _ _ _ _ _ _ _ [(_,_),(_,_),(_,_),(_,_),(_,_),(_,_),(_,_),(_,_),(_,_),(_,_)] _ _
   (refine wpS_quiet rfl rfl ?_;intro K hK inst hx;have s0 := fun x => (fun _ => bkeep (BQ.below x) q0) (hx x);have s1 := fun x => (fun _ => bkeep (BQ.below x) q1) (hx x);have s2 := fun x => (fun _ => bkeep (BQ.below x) q2) (hx x);have s3 := fun x => (fun _ => bkeep (BQ.below x) q3) (hx x);have s4 := fun x => (fun _ => bkeep (BQ.below x) q4) (hx x);have s5 := fun x => (fun _ => bkeep (BQ.below x) q5) (hx x);have s6 := fun x => (fun _ => bkeep (BQ.below x) q6) (hx x);have s7 := fun x => (fun _ => bkeep (BQ.below x) q7) (hx x);have s8 := fun x => (fun _ => bkeep (BQ.below x) q8) (hx x);have s9 := fun x => (fun _ => bkeep (BQ.below x) q9) (hx x);go_big_quiet_op;(first | go_big_quiet_on | (refine ⟨_,fun _ => rfl, ?_⟩;go_big_quiet_on));clear hx inst)
   (refine wpS_quiet rfl rfl ?_;intro K hK inst hx;have s0 := fun x => (fun _ => bkeep (BQ.below x) q0) (hx x);have s1 := fun x => (fun _ => bkeep (BQ.below x) q1) (hx x);have s2 := fun x => (fun _ => bkeep (BQ.below x) q2) (hx x);have s3 := fun x => (fun _ => bkeep (BQ.below x) q3) (hx x);have s4 := fun x => (fun _ => bkeep (BQ.below x) q4) (hx x);have s5 := fun x => (fun _ => bkeep (BQ.below x) q5) (hx x);have s6 := fun x => (fun _ => bkeep (BQ.below x) q6) (hx x);have s7 := fun x => (fun _ => bkeep (BQ.below x) q7) (hx x);have s8 := fun x => (fun _ => bkeep (BQ.below x) q8) (hx x);have s9 := fun x => (fun _ => bkeep (BQ.below x) q9) (hx x);go_big_quiet_op;(first | go_big_quiet_on | (refine ⟨_,fun _ => rfl, ?_⟩;go_big_quiet_on));clear hx inst)
   (refine wpS_quiet rfl rfl ?_;intro K hK inst hx;have s0 := fun x => (fun _ => bkeep (BQ.below x) q0) (hx x);have s1 := fun x => (fun _ => bkeep (BQ.below x) q1) (hx x);have s2 := fun x => (fun _ => bkeep (BQ.below x) q2) (hx x);have s3 := fun x => (fun _ => bkeep (BQ.below x) q3) (hx x);have s4 := fun x => (fun _ => bkeep (BQ.below x) q4) (hx x);have s5 := fun x => (fun _ => bkeep (BQ.below x) q5) (hx x);have s6 := fun x => (fun _ => bkeep (BQ.below x) q6) (hx x);have s7 := fun x => (fun _ => bkeep (BQ.below x) q7) (hx x);have s8 := fun x => (fun _ => bkeep (BQ.below x) q8) (hx x);have s9 := fun x => (fun _ => bkeep (BQ.below x) q9) (hx x);go_big_quiet_op;(first | go_big_quiet_on | (refine ⟨_,fun _ => rfl, ?_⟩;go_big_quiet_on));clear hx inst)
   (refine wpS_quiet rfl rfl ?_;intro K hK inst hx;have s0 := fun x => (fun _ => bkeep (BQ.below x) q0) (hx x);have s1 := fun x => (fun _ => bkeep (BQ.below x) q1) (hx x);have s2 := fun x => (fun _ => bkeep (BQ.below x) q2) (hx x);have s3 := fun x => (fun _ => bkeep (BQ.below x) q3) (hx x);have s4 := fun x => (fun _ => bkeep (BQ.below x) q4) (hx x);have s5 := fun x => (fun _ => bkeep (BQ.below x) q5) (hx x);have s6 := fun x => (fun _ => bkeep (BQ.below x) q6) (hx x);have s7 := fun x => (fun _ => bkeep (BQ.below x) q7) (hx x);have s8 := fun x => (fun _ => bkeep (BQ.below x) q8) (hx x);have s9 := fun x => (fun _ => bkeep (BQ.below x) q9) (hx x);go_big_quiet_op;(first | go_big_quiet_on | (refine ⟨_,fun _ => rfl, ?_⟩;go_big_quiet_on));clear hx inst)
   (refine wpS_quiet rfl rfl ?_;intro K hK inst hx;have s0 := fun x => (fun _ => bkeep (BQ.below x) q0) (hx x);have s1 := fun x => (fun _ => bkeep (BQ.below x) q1) (hx x);have s2 := fun x => (fun _ => bkeep (BQ.below x) q2) (hx x);have s3 := fun x => (fun _ => bkeep (BQ.below x) q3) (hx x);have s4 := fun x => (fun _ => bkeep (BQ.below x) q4) (hx x);have s5 := fun x => (fun _ => bkeep (BQ.below x) q5) (hx x);have s6 := fun x => (fun _ => bkeep (BQ.below x) q6) (hx x);have s7 := fun x => (fun _ => bkeep (BQ.below x) q7) (hx x);have s8 := fun x => (fun _ => bkeep (BQ.below x) q8) (hx x);have s9 := fun x => (fun _ => bkeep (BQ.below x) q9) (hx x);go_big_quiet_op;(first | go_big_quiet_on | (refine ⟨_,fun _ => rfl, ?_⟩;go_big_quiet_on));clear hx inst)
   (refine wpS_quiet rfl rfl ?_;intro K hK inst hx;have s0 := fun x => (fun _ => bkeep (BQ.below x) q0) (hx x);have s1 := fun x => (fun _ => bkeep (BQ.below x) q1) (hx x);have s2 := fun x => (fun _ => bkeep (BQ.below x) q2) (hx x);have s3 := fun x => (fun _ => bkeep (BQ.below x) q3) (hx x);have s4 := fun x => (fun _ => bkeep (BQ.below x) q4) (hx x);have s5 := fun x => (fun _ => bkeep (BQ.below x) q5) (hx x);have s6 := fun x => (fun _ => bkeep (BQ.below x) q6) (hx x);have s7 := fun x => (fun _ => bkeep (BQ.below x) q7) (hx x);have s8 := fun x => (fun _ => bkeep (BQ.below x) q8) (hx x);have s9 := fun x => (fun _ => bkeep (BQ.below x) q9) (hx x);go_big_quiet_op;(first | go_big_quiet_on | (refine ⟨_,fun _ => rfl, ?_⟩;go_big_quiet_on));clear hx inst)
   (refine wpS_quiet rfl rfl ?_;intro K hK inst hx;have s0 := fun x => (fun _ => bkeep (BQ.below x) q0) (hx x);have s1 := fun x => (fun _ => bkeep (BQ.below x) q1) (hx x);have s2 := fun x => (fun _ => bkeep (BQ.below x) q2) (hx x);have s3 := fun x => (fun _ => bkeep (BQ.below x) q3) (hx x);have s4 := fun x => (fun _ => bkeep (BQ.below x) q4) (hx x);have s5 := fun x => (fun _ => bkeep (BQ.below x) q5) (hx x);have s6 := fun x => (fun _ => bkeep (BQ.below x) q6) (hx x);have s7 := fun x => (fun _ => bkeep (BQ.below x) q7) (hx x);have s8 := fun x => (fun _ => bkeep (BQ.below x) q8) (hx x);have s9 := fun x => (fun _ => bkeep (BQ.below x) q9) (hx x);go_big_quiet_op;(first | go_big_quiet_on | (refine ⟨_,fun _ => rfl, ?_⟩;go_big_quiet_on));clear hx inst)
   refine wpS_fresh rfl rfl (fun w' hb hF => ?_) ?_
   ·change freshAt _ _ _ (fun v _ => v = .int .u64 (maskOf ⟨fw,fd,fh,fg⟩ ⟨xy,xx,xt⟩ : Nat)) _;unfold freshAt;go_simp;exact covered_any hok2.1 hok2.2
   intro v W hv;simp only [pOf,List.lookup_cons,Nat.reduceBEq,beq_self_eq_true] at hv;subst hv
   simp only [Act.put,List.setIfInBounds_toArray,List.set_cons_succ,List.set_cons_zero]
   (refine wpS_quiet rfl rfl ?_;intro K hK inst hx;go_big_quiet_op;(first | go_big_quiet_on | (refine ⟨_,fun _ => rfl, ?_⟩;go_big_quiet_on));clear hx inst)
   refine wpS_fresh rfl rfl (fun w' hb hF => ?_) ?_
   ·change freshAt _ _ _ (NewList Wb.heap.size 1 [.int .i64 (xy : Int), .int .i64 (xx : Int), .bool xt, .int .u64 (maskOf ⟨fw,fd,fh,fg⟩ ⟨xy,xx,xt⟩ : Nat)]) _;unfold freshAt;go_simp;exact list_of hb
   intro v W hv;simp only [pOf,List.lookup_cons,Nat.reduceBEq,beq_self_eq_true] at hv;obtain ⟨B11,hB11,rfl, -⟩ := hv
   simp only [Act.put,List.setIfInBounds_toArray,List.set_cons_succ,List.set_cons_zero]
   refine wpS_nil ?_
   intro w2 hall
   have hb := hall.1
   have h51 : NewList Wb.heap.size 1 [.int .i64 (xy : Int), .int .i64 (xx : Int), .bool xt, .int .u64 (maskOf ⟨fw,fd,fh,fg⟩ ⟨xy,xx,xt⟩ : Nat)] _ w2 := hall.2 11 _ rfl
   obtain ⟨B',hB',hv',hn'⟩ := h51
   obtain rfl : B11 = B' := by simpa using hv'
   clear hall
   have hown2 := owns_below hown hb
   have x2 : (fun V => V.cell? ⟨w5.heap.size,0,none⟩ = some (.slice (some ⟨w.heap.size + 1,0,none⟩) n n) ∧ V.cell? ⟨wr.heap.size,0,none⟩ = some (.int .i64 (i : Int))) w2 := ⟨bkeep hb q0,bkeep hb q1⟩
   refine wpAnyC_op (r := 12) x2 (by kernel_rfl) rfl rfl (fun K hK => ?_)
   refine wp_append_own w2 (.tmp 28) (.tmp 34) 132 rfl w1.heap.size 134 i1 (.agg #[.int .i64 0, .int .i64 0, .bool false, .int .u64 0]) 4 32 Tryz.underlying132 hj hy0 hy1 hy2 rfl (by decide) (.slice va pre.length vc) pre.length _ rfl hown2 ⟨B11,0,none⟩ 1 1 [.int .i64 (xy : Int), .int .i64 (xx : Int), .bool xt, .int .u64 (maskOf ⟨fw,fd,fh,fg⟩ ⟨xy,xx,xt⟩ : Nat)] rfl rfl (fun j u h => by rw [Go.WideShapes.add_plain,Nat.zero_add];exact (hn' j u h).1) (fun u h => by simp only [List.mem_cons,List.not_mem_nil,or_false] at h;rcases h with rfl | rfl | rfl | rfl <;> rfl) (by unfold maxLen;omega) (by omega) (by have := hO.below.size;have := hb.size;omega) ?_
   intro v52 w3 ho3 hg3 hnil3
   refine hK _ _ ?_
   clear hK K hnil3
   obtain ⟨xa,xc,rfl, -⟩ := owns_shape ho3
   obtain ⟨p0,p1⟩ := Filling.slot hlt1 (HU.out.2.1 i (by omega) hlt) (HU.out.2.2 i hlt) hO c1 hb hown2 hg3
   have x3 : (fun V => V.cell? ⟨w5.heap.size,0,none⟩ = some (.slice (some ⟨w.heap.size + 1,0,none⟩) n n) ∧ V.cell? ⟨wr.heap.size,0,none⟩ = some (.int .i64 (i : Int))) w3 := ⟨grown_kept hg3 x2.1 (fun e => by have := (World.ownsRow.lt hown2 _ e.symm).1;omega),grown_kept hg3 x2.2 (fun e => by have := (World.ownsRow.lt hown2 _ e.symm).1;omega)⟩
   refine wpAnyC_op (r := 13) x3 (by kernel_rfl) rfl rfl (fun K hK => ?_)
   go_simp
   refine hK _ _ ?_;clear hK K
   refine wpAnyC_op (r := 14) x3 (by kernel_rfl) rfl rfl (fun K hK => ?_)
   go_simp
   refine hK _ _ ?_;clear hK K
   refine wpAnyC_end ⟨setc_block x3.1 (by omega),setc_block x3.2 (by omega)⟩ (by kernel_rfl) ?_
   refine ⟨rfl, ?_⟩
   obtain ⟨hP1,hP2,hP3⟩ := Filling.push (x := spotP ⟨fw,fd,fh,fg⟩ ⟨xy,xx,xt⟩) (List.length_map _) hlt1 (HU.out.2.1 i (by omega) hlt) (HU.out.2.2 i hlt) hO c1 hb hown2 hg3 ho3
   exact ⟨hP2.from _,hO.keepSeg hP1.1 (by omega) (Nat.le_refl _) hP3,by show Filling _ _ _ _ (List.map _ (pre ++ _)) _;rw [List.map_append];exact hP1⟩
  case done =>
   rintro D zs W hD3 hzs hF hK2
   have hsz := hF.1.below.size
   have hmp : zs.map (fun q => spotP ⟨fw,fd,fh,fg⟩ q.1) = spotsL ⟨bid,bwi,bde,bce,bhi,bbe⟩ ⟨fw,fd,fh,fg⟩ := (show _ = (zs.map (·.1)).map (spotP ⟨fw,fd,fh,fg⟩) by rw [List.map_map];rfl).trans (congrArg (List.map (spotP ⟨fw,fd,fh,fg⟩)) hzs)
   rw [hmp] at hF
   have htk : sp.take (i + 1) = sp.take i ++ [spotsL ⟨bid,bwi,bde,bce,bhi,bbe⟩ ⟨fw,fd,fh,fg⟩] := by rw [List.take_add_one,HSI.out];rfl
   have hU2 := HU.out.fill hlen hlt (by omega) hlt1 (by rw [spots_is,List.length_map];have := stands_len ⟨fw,fd,fh,fg⟩ hX;omega) hF
   rw [← htk] at hU2
   have hc0 := HU.out.2.1 i (by omega) hlt
   have hB2 : Below w.heap.size w W := HB.out.trans (hF.1.below.mono (by omega))
   have hC2 := hF.1.cellsAt hC1 (by omega)
   have hA2 := hF.1.cellsAt hA1 (by omega)
   have hW2 := (hF.1.waits HW.out hc0).cons hK2 (fun hm => by have := HW.out.lt hm;omega)
   have hD2 : ∀ E ∈ D :: ds,w.heap.size ≤ E := fun E hE => by (rcases List.mem_cons.1 hE with rfl | hE);omega;exact HD.out E hE
   clear hF hK2 hmp htk hc0 hzs
   have HU2 := hid hU2;have HW2 := hid hW2;have HD2 := hid hD2;clear hU2 hW2 hD2
   go_wp2_with fail
   exact Handed.intro (n - (i + 1)) (by omega) (hJ _ _ _ ⟨i + 1,D :: ds,_,_,_,_,_,_,_,_,_,_,⟨by omega,rfl,HU2.out,hB2,hC2,hA2,by omega,HW2.out,HD2.out⟩,rfl⟩)
  case stop => exact fun D j pre W hD hpre hF hK2 => hF.elim
 ·have hie : i = n := by omega
  have hnl : ¬ (i : Int) < (n : Int) := by omega
  have hfin : SpotsIn w.heap.size wr.heap.size (.slice (some ⟨w.heap.size + 1,0,none⟩) n n) sp wr := ⟨w.heap.size + 1,⟨by omega,by omega⟩,by rw [HSN.out],fun j l h => by
   obtain ⟨a,cap,c1,c0,c2⟩ := hU.1 j l (by rw [hie, ← HSN.out,List.take_length];exact h)
   exact ⟨a,cap,c1,c0,fun k x hx => by obtain ⟨b,hb,e,h3⟩ := c2 k x hx;exact ⟨b,⟨hb.1,hb.2.1⟩,e,h3⟩⟩⟩
  have HF := hid hfin;have HW := hid hW;have HD := hid hD;clear hfin hU hW hD
  have q0 := (hA 0 _ rfl).1
  go_wp2_with fail
  show LeavesInM _ _ _ _ _ _ (marks ds) .returning wr
  refine leaves_marks (by simp) ds wr HW.out (fun W3 hcl => ?_)
  exact ⟨.slice (some ⟨w.heap.size + 1,0,none⟩) n n,by simp [results,Tryz.results65,go_sem],_,rfl,hB.trans (hcl.below HD.out),by rw [hcl.size,HSP.out];exact HF.out.closed hcl HW.out,by rw [hcl.size];exact hB.size⟩
end Go.Proofs.YthdfnkdifjajlaaGreatDoor