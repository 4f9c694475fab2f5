/- Part of a claim. -/
import Derived.Test.YtodmidchpbcnpaaGreatW24Y
import Derived.IntWalk
import Derived.Test.YtodmidchpbcnpaaGreatKSkY
import Derived.Test.YtodmidchpbcnpaaGreatKSqY
import Derived.Test.YtodmidchpbcnpaaGreatKG14Y
import Derived.Lib.AppendZeros
import Derived.Laws.OwnMore
import Derived.Deep.DeepMust
import Derived.Deep.LoopGhost
import Derived.Test.YtodmidchpbcnpaaGreatG12Y
import Derived.Test.YtodmidchpbcnpaaGreatG1Y
import Derived.OwnWalk
import Derived.Test.YtodmidchpbcnpaaGreatG76Y
import Derived.Test.YtodmidchpbcnpaaGreatG5Y
set_option linter.unusedVariables false
set_option linter.unusedSimpArgs false
namespace Go.Proofs.YtodmidchpbcnpaaGreat
open Go.RowKit Go.Pb Go.Pb.Ware


def IsPair (v1 v2 : Value) (v : Value) (W : World) : Prop := ∃ B : Nat,v = .slice (some ⟨B,0,none⟩) 2 2 ∧ W.cell? ⟨B,0,none⟩ = some v1 ∧ W.cell? ⟨B,1,none⟩ = some v2
theorem keeps_pair {v1 v2 : Value} : Keeps (IsPair v1 v2) := fun _ _ _ ⟨B,h1,h2,h3⟩ hb => ⟨B,h1,bkeep hb h2,bkeep hb h3⟩
end Go.Proofs.YtodmidchpbcnpaaGreat
namespace Go.Proofs.YtodmidchpbcnpaaGreat
open Go.RowKit Go.Pb Go.Pb.Ware Go.Pb.Sag


def OwnL (T n m : Nat) (cs : List Value) (W : World) (e : Ending) (w' : World) : Prop := ∃ v,e = .returned v ∧ Below W.heap.size W w' ∧ w'.ownsRow W.heap.size T n v m cs
def sumL (a b : Nat) : Nat → Int
 | 0 => 0
 | 1 => a
 | _ => (a : Int) + b
def manyL (a b : Nat) : Nat → Nat
 | 0 => 0
 | 1 => a
 | _ => a + b
def catL (xs ys : List Value) : Nat → List Value
 | 0 => []
 | 1 => xs
 | _ => xs ++ ys
theorem zeros_len (cs : Array Value) (k : Nat) : (Builtin.zeroCells cs k).size = k * cs.size := by
 unfold Builtin.zeroCells
 induction k with
 | zero => simp
 | succ k ih => simp [Nat.succ_mul]
theorem Tryz.infoLX : (Tryz.prog.info? 32).map (fun i => (i.zero,i.size,i.bytes)) = some (some (.agg #[.int .i64 0, .int .i64 0, .int .i64 0]),3,24) := by kernel_rfl
set_option maxRecDepth 100000 in
set_option maxHeartbeats 2000000 in
theorem growX {n : Nat} {w : World} (hn : n ≤ 1000000) :
  Calls Tryz.prog 159 #[.slice none 0 0, .int .i64 n] w (OwnL 32 3 0 [] w) := by
 obtain ⟨i0,hi,hz0,hz1,hz2⟩ := info_parts Tryz.infoLX
 have h9 : (n : Int) ≤ 9223372036854775807 := by omega
 by_cases h0 : 0 < n
 ·have h1 : (0 : Int) < n := by omega
  go_enter Tryz.func159,Tryz.ntmps159
  go_wp2_with (at_builtin;go_must (refine Lib.wpList_append_run _ rfl _ _ _ _ rfl _ _ rfl rfl _ _ (Lib.run_append_nil_zeros _ 28 3 _ 32 i0 (.agg #[.int .i64 0, .int .i64 0, .int .i64 0]) .i64 .i64 Tryz.underlying28 Tryz.underlying3 hi hz0 n h0 (by omega) h9 (by rw [hz2];omega)) ?_))
  go_ret
  refine ⟨_,rfl,by go_grown, ?_⟩
  have hc := grownCap_ge w n 0 32
  refine World.ownsRow_made w.drew _ _ (by simp) (grownCap_le_maxLen w n 0 32 (by unfold maxLen;omega)) ?_
  rw [Array.size_append,zeros_len,zeros_len, ← Nat.add_mul,show n + (grownCap w n 0 32 - n) = grownCap w n 0 32 by omega]
  rfl
 ·obtain rfl : n = 0 := by omega
  go_enter Tryz.func159,Tryz.ntmps159
  go_wp2
  go_ret
  exact ⟨_,rfl,by go_grown,World.ownsRow_nil _ _ _ _⟩
set_option maxRecDepth 100000 in
set_option maxHeartbeats 4000000 in
theorem concatX {B m1 m2 : Nat} {v1 v2 : Value} {xs ys : List Value} {w : World} (h1 : LAt 3 w v1 m1 xs) (h2 : LAt 3 w v2 m2 ys) (d0 : w.cell? ⟨B,0,none⟩ = some v1) (d1 : w.cell? ⟨B,1,none⟩ = some v2) (hx : m1 ≤ 1000) (hy : m2 ≤ 1000) :
  Calls Tryz.prog 137 #[.slice (some ⟨B,0,none⟩) 2 2] w (OwnL 32 3 (m1 + m2) (xs ++ ys) w) := by
 obtain ⟨o1,c1,rfl, -, -, -⟩ := h1.shape
 obtain ⟨o2,c2,rfl, -, -, -⟩ := h2.shape
 obtain ⟨i0,hi,hz0,hz1,hz2⟩ := info_parts Tryz.infoLX
 go_enter Tryz.func137,Tryz.ntmps137
 go_wp2_with fail
 go_loopw [3,11] (fun s i wr => ∃ k : Nat,k ≤ 2 ∧ i = .int .i64 k ∧ s = .int .i64 (sumL m1 m2 k) ∧ Below w.heap.size w wr) (fun _ i _ => 2 - (intOf i).toNat)
 case atStart => exact ⟨0,by omega,rfl,rfl,by go_grown⟩
 case round =>
  obtain ⟨k,hk,rfl,rfl,hb0⟩ := hrel
  have hz0' := hb0.size
  have q0 := bkeep hb0 d0
  have q1 := bkeep hb0 d1
  obtain rfl | rfl | rfl : k = 0 ∨ k = 1 ∨ k = 2 := by omega
  ·simp only [sumL]
   go_wp2_with fail
   go_roundw
   case rel => exact ⟨1,by omega,by go_num,by first | rfl | (simp only [sumL];done) | (simp only [sumL];go_num),hb0⟩
   case measure => first | (simp [intOf];done) | (simp [intOf];omega)
  ·simp only [sumL]
   go_wp2_with fail
   go_roundw
   case rel => exact ⟨2,by omega,by go_num,by first | rfl | (simp only [sumL];done) | (simp only [sumL];go_num),hb0⟩
   case measure => first | (simp [intOf];done) | (simp [intOf];omega)
  ·simp only [sumL]
   have hsum : (0 : Int) ≤ (m1 : Int) + m2 := by omega
   go_wp2_with fail
   refine (growX (n := m1 + m2) (by omega)).mono ?_
   rintro e w2 ⟨nv,rfl,hb,ho⟩
   replace hb0 := bnext (w := w) hb0 hb
   have hzg := hb.size
   clear hb q0 q1
   obtain ⟨vg,hvg⟩ : ∃ v,v = wr := ⟨_,rfl⟩
   rw [← hvg] at ho hzg hz0'
   clear hvg
   go_wp2_with fail
   go_loopw [6,27] (fun nv i wr => ∃ k : Nat,k ≤ 2 ∧ i = .int .i64 k ∧ wr.ownsRow vg.heap.size 32 3 nv (manyL m1 m2 k) (catL xs ys k) ∧ Below w.heap.size w wr ∧ vg.heap.size ≤ wr.heap.size) (fun _ i _ => 2 - (intOf i).toNat)
   case atStart => exact ⟨0,by omega,rfl,ho,hb0,hzg⟩
   case round =>
    clear ho hb0 hzg
    obtain ⟨k,hk,rfl,ho,hb0,hzg⟩ := hrel
    have q0 := bkeep hb0 d0
    have q1 := bkeep hb0 d1
    obtain ⟨na,nc,rfl,hnl⟩ := owns_shape ho
    obtain rfl | rfl | rfl : k = 0 ∨ k = 1 ∨ k = 2 := by omega
    ·simp only [catL,manyL] at ho
     go_wp2_with (at_builtin;go_must (refine wpList_append_lat rfl _ _ 28 rfl vg.heap.size 32 i0 (.agg #[.int .i64 0, .int .i64 0, .int .i64 0]) 3 24 Tryz.underlying28 hi hz0 hz1 hz2 rfl (by decide) _ _ _ rfl ho (.slice o1 m1 c1) m1 xs rfl (h1.below hb0) (by unfold maxLen;omega) (by omega) (by omega) ?_;intro v' w4 ho4 hg4;replace hb0 := below_grown hb0 hg4 ho (by omega) (by omega);have hz4 := hg4.size;clear hg4))
     go_roundw
     case rel => exact ⟨1,by omega,by go_num,by simpa [catL,manyL] using ho4,hb0,by omega⟩
     case measure => first | (simp [intOf];done) | (simp [intOf];omega)
    ·simp only [catL,manyL] at ho
     go_wp2_with (at_builtin;go_must (refine wpList_append_lat rfl _ _ 28 rfl vg.heap.size 32 i0 (.agg #[.int .i64 0, .int .i64 0, .int .i64 0]) 3 24 Tryz.underlying28 hi hz0 hz1 hz2 rfl (by decide) _ _ _ rfl ho (.slice o2 m2 c2) m2 ys rfl (h2.below hb0) (by unfold maxLen;omega) (by omega) (by omega) ?_;intro v' w4 ho4 hg4;replace hb0 := below_grown hb0 hg4 ho (by omega) (by omega);have hz4 := hg4.size;clear hg4))
     go_roundw
     case rel => exact ⟨2,by omega,by go_num,by simpa [catL,manyL] using ho4,hb0,by omega⟩
     case measure => first | (simp [intOf];done) | (simp [intOf];omega)
    ·go_wp2_with fail
     go_ret
     exact ⟨_,rfl,hb0,owns_base0 (by omega) ho⟩
theorem Tryz.infoLS : (Tryz.prog.info? 62).map (fun i => (i.zero,i.size,i.bytes)) = some (some (.agg #[.int .i64 0, .int .i64 0, .bool false]),3,24) := by kernel_rfl
set_option maxRecDepth 100000 in
set_option maxHeartbeats 2000000 in
theorem growS {n : Nat} {w : World} (hn : n ≤ 1000000) :
  Calls Tryz.prog 134 #[.slice none 0 0, .int .i64 n] w (OwnL 62 3 0 [] w) := by
 obtain ⟨i0,hi,hz0,hz1,hz2⟩ := info_parts Tryz.infoLS
 have h9 : (n : Int) ≤ 9223372036854775807 := by omega
 by_cases h0 : 0 < n
 ·have h1 : (0 : Int) < n := by omega
  go_enter Tryz.func134,Tryz.ntmps134
  go_wp2_with (at_builtin;go_must (refine Lib.wpList_append_run _ rfl _ _ _ _ rfl _ _ rfl rfl _ _ (Lib.run_append_nil_zeros _ 41 3 _ 62 i0 (.agg #[.int .i64 0, .int .i64 0, .bool false]) .i64 .i64 Tryz.underlying41 Tryz.underlying3 hi hz0 n h0 (by omega) h9 (by rw [hz2];omega)) ?_))
  go_ret
  refine ⟨_,rfl,by go_grown, ?_⟩
  have hc := grownCap_ge w n 0 62
  refine World.ownsRow_made w.drew _ _ (by simp) (grownCap_le_maxLen w n 0 62 (by unfold maxLen;omega)) ?_
  rw [Array.size_append,zeros_len,zeros_len, ← Nat.add_mul,show n + (grownCap w n 0 62 - n) = grownCap w n 0 62 by omega]
  rfl
 ·obtain rfl : n = 0 := by omega
  go_enter Tryz.func134,Tryz.ntmps134
  go_wp2
  go_ret
  exact ⟨_,rfl,by go_grown,World.ownsRow_nil _ _ _ _⟩
set_option maxRecDepth 100000 in
set_option maxHeartbeats 4000000 in
theorem concatS {B m1 m2 : Nat} {v1 v2 : Value} {xs ys : List Value} {w : World} (h1 : LAt 3 w v1 m1 xs) (h2 : LAt 3 w v2 m2 ys) (d0 : w.cell? ⟨B,0,none⟩ = some v1) (d1 : w.cell? ⟨B,1,none⟩ = some v2) (hx : m1 ≤ 1000) (hy : m2 ≤ 1000) :
  Calls Tryz.prog 84 #[.slice (some ⟨B,0,none⟩) 2 2] w (OwnL 62 3 (m1 + m2) (xs ++ ys) w) := by
 obtain ⟨o1,c1,rfl, -, -, -⟩ := h1.shape
 obtain ⟨o2,c2,rfl, -, -, -⟩ := h2.shape
 obtain ⟨i0,hi,hz0,hz1,hz2⟩ := info_parts Tryz.infoLS
 go_enter Tryz.func84,Tryz.ntmps84
 go_wp2_with fail
 go_loopw [3,11] (fun s i wr => ∃ k : Nat,k ≤ 2 ∧ i = .int .i64 k ∧ s = .int .i64 (sumL m1 m2 k) ∧ Below w.heap.size w wr) (fun _ i _ => 2 - (intOf i).toNat)
 case atStart => exact ⟨0,by omega,rfl,rfl,by go_grown⟩
 case round =>
  obtain ⟨k,hk,rfl,rfl,hb0⟩ := hrel
  have hz0' := hb0.size
  have q0 := bkeep hb0 d0
  have q1 := bkeep hb0 d1
  obtain rfl | rfl | rfl : k = 0 ∨ k = 1 ∨ k = 2 := by omega
  ·simp only [sumL]
   go_wp2_with fail
   go_roundw
   case rel => exact ⟨1,by omega,by go_num,by first | rfl | (simp only [sumL];done) | (simp only [sumL];go_num),hb0⟩
   case measure => first | (simp [intOf];done) | (simp [intOf];omega)
  ·simp only [sumL]
   go_wp2_with fail
   go_roundw
   case rel => exact ⟨2,by omega,by go_num,by first | rfl | (simp only [sumL];done) | (simp only [sumL];go_num),hb0⟩
   case measure => first | (simp [intOf];done) | (simp [intOf];omega)
  ·simp only [sumL]
   have hsum : (0 : Int) ≤ (m1 : Int) + m2 := by omega
   go_wp2_with fail
   refine (growS (n := m1 + m2) (by omega)).mono ?_
   rintro e w2 ⟨nv,rfl,hb,ho⟩
   replace hb0 := bnext (w := w) hb0 hb
   have hzg := hb.size
   clear hb q0 q1
   obtain ⟨vg,hvg⟩ : ∃ v,v = wr := ⟨_,rfl⟩
   rw [← hvg] at ho hzg hz0'
   clear hvg
   go_wp2_with fail
   go_loopw [6,27] (fun nv i wr => ∃ k : Nat,k ≤ 2 ∧ i = .int .i64 k ∧ wr.ownsRow vg.heap.size 62 3 nv (manyL m1 m2 k) (catL xs ys k) ∧ Below w.heap.size w wr ∧ vg.heap.size ≤ wr.heap.size) (fun _ i _ => 2 - (intOf i).toNat)
   case atStart => exact ⟨0,by omega,rfl,ho,hb0,hzg⟩
   case round =>
    clear ho hb0 hzg
    obtain ⟨k,hk,rfl,ho,hb0,hzg⟩ := hrel
    have q0 := bkeep hb0 d0
    have q1 := bkeep hb0 d1
    obtain ⟨na,nc,rfl,hnl⟩ := owns_shape ho
    obtain rfl | rfl | rfl : k = 0 ∨ k = 1 ∨ k = 2 := by omega
    ·simp only [catL,manyL] at ho
     go_wp2_with (at_builtin;go_must (refine wpList_append_lat rfl _ _ 41 rfl vg.heap.size 62 i0 (.agg #[.int .i64 0, .int .i64 0, .bool false]) 3 24 Tryz.underlying41 hi hz0 hz1 hz2 rfl (by decide) _ _ _ rfl ho (.slice o1 m1 c1) m1 xs rfl (h1.below hb0) (by unfold maxLen;omega) (by omega) (by omega) ?_;intro v' w4 ho4 hg4;replace hb0 := below_grown hb0 hg4 ho (by omega) (by omega);have hz4 := hg4.size;clear hg4))
     go_roundw
     case rel => exact ⟨1,by omega,by go_num,by simpa [catL,manyL] using ho4,hb0,by omega⟩
     case measure => first | (simp [intOf];done) | (simp [intOf];omega)
    ·simp only [catL,manyL] at ho
     go_wp2_with (at_builtin;go_must (refine wpList_append_lat rfl _ _ 41 rfl vg.heap.size 62 i0 (.agg #[.int .i64 0, .int .i64 0, .bool false]) 3 24 Tryz.underlying41 hi hz0 hz1 hz2 rfl (by decide) _ _ _ rfl ho (.slice o2 m2 c2) m2 ys rfl (h2.below hb0) (by unfold maxLen;omega) (by omega) (by omega) ?_;intro v' w4 ho4 hg4;replace hb0 := below_grown hb0 hg4 ho (by omega) (by omega);have hz4 := hg4.size;clear hg4))
     go_roundw
     case rel => exact ⟨2,by omega,by go_num,by simpa [catL,manyL] using ho4,hb0,by omega⟩
     case measure => first | (simp [intOf];done) | (simp [intOf];omega)
    ·go_wp2_with fail
     go_ret
     exact ⟨_,rfl,hb0,owns_base0 (by omega) ho⟩
end Go.Proofs.YtodmidchpbcnpaaGreat
namespace Go.Proofs.YtodmidchpbcnpaaGreat
open Go.RowKit Go.Pb Go.Pb.Ware Go.Pb.Sag


theorem concat_freshX {base m1 m2 m : Nat} {v1 v2 : Value} {xs ys zs : List Value} {v : Value} {w : World} (hbs : base ≤ w.heap.size) (e1 : m1 + m2 = m) (ez : xs ++ ys = zs) (h1 : LAt 3 w v1 m1 xs) (h2 : LAt 3 w v2 m2 ys)
  (hp : IsPair v1 v2 v w) (hx : m1 ≤ 1000) (hy : m2 ≤ 1000) :
  Calls Tryz.prog 137 #[v] w fun e w'' => ∃ u,e = .returned u ∧ Below w.heap.size w w'' ∧ w''.ownsRow base 32 3 u m zs := by
 subst e1;subst ez
 obtain ⟨B,rfl,d0,d1⟩ := hp
 exact (concatX h1 h2 d0 d1 hx hy).mono fun e w' ⟨v,e1,hb,ho⟩ => ⟨v,e1,hb,owns_base0 hbs ho⟩
set_option maxRecDepth 100000 in
set_option maxHeartbeats 4000000 in
theorem withoutPX {v : Value} {m i : Nat} {cs : List Value} {w : World} (h : LAt 3 w v m cs) (hi : i < m) (hm : m ≤ 1000) :
  Calls Tryz.prog 86 #[v, .int .i64 i] w (OwnL 32 3 (m - 1) (cs.take (i * 3) ++ cs.drop ((i + 1) * 3)) w) := by
 obtain ⟨oa,cap,rfl,hl1,hl2,hl3⟩ := h.shape
 cases oa with
 | none => exact absurd (hl3 rfl).1 (by omega)
 | some a' =>
  have h1 := h.head (k := i) (by omega)
  have W1 : IntKind.i64.wrap ((i : Int) + 1) = (i : Int) + 1 := IntWalk.i64_in _ (by omega)
  have W2 : (0 : Int) ≤ (i : Int) + 1 := by omega
  have W3 : ((i : Int) + 1).toNat = i + 1 := by omega
  by_cases hc : cap = i + 1
  ·obtain rfl : m = i + 1 := by omega
   subst hc
   have h2 : LAt 3 w (.slice (some a') (0) (0)) (0) (cs.drop ((i + 1) * 3)) := by simpa using h.tail (q := a') (k := i + 1) (by omega) (fun hh => by omega)
   go_enter Tryz.func86,Tryz.ntmps86
   go_upto_region 1 with fail
   refine wp_region_Rs [(7,IsPair (.slice (some a') i (i + 1)) (.slice (some a') (0) (0))),(8,fun v W => W.ownsRow w.heap.size 32 3 v (i) (cs.take (i * 3) ++ cs.drop ((i + 1) * 3)))] [0,1,2,3,4,5,6,7,8] 1 (by kernel_rfl) rfl (by simp only [List.forall_mem_cons];exact ⟨keeps_pair,keeps_owns,fun _ h => by cases h⟩) (by kernel_rfl) ?_
   simp only [numbered,List.filterMap_cons,List.filterMap_nil,List.getElem?_toArray,List.getElem?_cons_succ,List.getElem?_cons_zero,Option.map_some]
   show wpS _ _ _ _ _ _ _ [(_,_),(_,_),(_,_),(_,_),(_,_),(_,_),(_,_),(_,_),(_,_)] _ _
   (refine wpS_quiet rfl rfl ?_;intro K hK inst hx;go_big_quiet_op;go_big_quiet_on;clear hx inst)
   (refine wpS_quiet rfl rfl ?_;intro K hK inst hx;go_big_quiet_op;go_big_quiet_on;clear hx inst)
   (refine wpS_quiet rfl rfl ?_;intro K hK inst hx;go_big_quiet_op;go_big_quiet_on;clear hx inst)
   (refine wpS_quiet rfl rfl ?_;intro K hK inst hx;go_big_quiet_op;go_big_quiet_on;clear hx inst)
   (refine wpS_quiet rfl rfl ?_;intro K hK inst hx;go_big_quiet_op;go_big_quiet_on;clear hx inst)
   (refine wpS_quiet rfl rfl ?_;intro K hK inst hx;go_big_quiet_op;go_big_quiet_on;clear hx inst)
   (refine wpS_quiet rfl rfl ?_;intro K hK inst hx;go_big_quiet_op;go_big_quiet_on;clear hx inst)
   refine wpS_fresh rfl rfl (fun w' hb hF => ?_) ?_
   ·change freshAt _ _ _ (IsPair (.slice (some a') i (i + 1)) (.slice (some a') (0) (0))) _;unfold freshAt;go_simp;exact ⟨by go_grown,_,rfl,by simp,by simp⟩
   intro v W hv;simp only [pOf,List.lookup_cons,Nat.reduceBEq,beq_self_eq_true] at hv;obtain ⟨Bv,rfl, -, -⟩ := hv
   simp only [Act.put,List.setIfInBounds_toArray,List.set_cons_succ,List.set_cons_zero]
   refine wpS_fresh rfl rfl (fun w' hb hF => ?_) ?_
   ·change freshAt _ _ _ (fun v W => W.ownsRow w.heap.size 32 3 v (i) (cs.take (i * 3) ++ cs.drop ((i + 1) * 3))) _;have h7 := hF 7 _ rfl (by kernel_rfl);unfold freshAt;go_simp;exact concat_freshX hb.size (by omega) rfl (h1.below hb) (h2.below hb) h7 (by omega) (by omega)
   intro v W hv;simp only [pOf,List.lookup_cons,Nat.reduceBEq,beq_self_eq_true] at hv;skip
   simp only [Act.put,List.setIfInBounds_toArray,List.set_cons_succ,List.set_cons_zero]
   refine wpS_nil ?_
   intro w2 hall
   have hb := hall.1
   refine wpAny_ready (rs := [9]) (by kernel_rfl) (by simp) ?_
   refine AllReady.cons rfl (fun K hK => ?_) AllReady.nil
   go_simp
   refine hK _ _ ?_;clear hK K
   refine wpAny_done (by kernel_rfl) ?_ _
   go_wp2_with fail
   go_ret
   exact ⟨_,rfl,by go_grown,hall.2 8 _ rfl⟩
  ·have h2 : LAt 3 w (.slice (some (a'.add ((i + 1) * 3))) (m - (i + 1)) (cap - (i + 1))) (m - (i + 1)) (cs.drop ((i + 1) * 3)) := h.tail (k := i + 1) (by omega) (fun _ => rfl)
   go_enter Tryz.func86,Tryz.ntmps86
   go_upto_region 1 with fail
   refine wp_region_Rs [(7,IsPair (.slice (some a') i cap) (.slice (some (a'.add ((i + 1) * 3))) (m - (i + 1)) (cap - (i + 1)))),(8,fun v W => W.ownsRow w.heap.size 32 3 v (m - 1) (cs.take (i * 3) ++ cs.drop ((i + 1) * 3)))] [0,1,2,3,4,5,6,7,8] 1 (by kernel_rfl) rfl (by simp only [List.forall_mem_cons];exact ⟨keeps_pair,keeps_owns,fun _ h => by cases h⟩) (by kernel_rfl) ?_
   simp only [numbered,List.filterMap_cons,List.filterMap_nil,List.getElem?_toArray,List.getElem?_cons_succ,List.getElem?_cons_zero,Option.map_some]
   show wpS _ _ _ _ _ _ _ [(_,_),(_,_),(_,_),(_,_),(_,_),(_,_),(_,_),(_,_),(_,_)] _ _
   (refine wpS_quiet rfl rfl ?_;intro K hK inst hx;go_big_quiet_op;go_big_quiet_on;clear hx inst)
   (refine wpS_quiet rfl rfl ?_;intro K hK inst hx;go_big_quiet_op;go_big_quiet_on;clear hx inst)
   (refine wpS_quiet rfl rfl ?_;intro K hK inst hx;go_big_quiet_op;go_big_quiet_on;clear hx inst)
   (refine wpS_quiet rfl rfl ?_;intro K hK inst hx;go_big_quiet_op;go_big_quiet_on;clear hx inst)
   (refine wpS_quiet rfl rfl ?_;intro K hK inst hx;go_big_quiet_op;go_big_quiet_on;clear hx inst)
   (refine wpS_quiet rfl rfl ?_;intro K hK inst hx;go_big_quiet_op;go_big_quiet_on;clear hx inst)
   (refine wpS_quiet rfl rfl ?_;intro K hK inst hx;go_big_quiet_op;go_big_quiet_on;clear hx inst)
   refine wpS_fresh rfl rfl (fun w' hb hF => ?_) ?_
   ·change freshAt _ _ _ (IsPair (.slice (some a') i cap) (.slice (some (a'.add ((i + 1) * 3))) (m - (i + 1)) (cap - (i + 1)))) _;unfold freshAt;go_simp;exact ⟨by go_grown,_,rfl,by simp,by simp⟩
   intro v W hv;simp only [pOf,List.lookup_cons,Nat.reduceBEq,beq_self_eq_true] at hv;obtain ⟨Bv,rfl, -, -⟩ := hv
   simp only [Act.put,List.setIfInBounds_toArray,List.set_cons_succ,List.set_cons_zero]
   refine wpS_fresh rfl rfl (fun w' hb hF => ?_) ?_
   ·change freshAt _ _ _ (fun v W => W.ownsRow w.heap.size 32 3 v (m - 1) (cs.take (i * 3) ++ cs.drop ((i + 1) * 3))) _;have h7 := hF 7 _ rfl (by kernel_rfl);unfold freshAt;go_simp;exact concat_freshX hb.size (by omega) rfl (h1.below hb) (h2.below hb) h7 (by omega) (by omega)
   intro v W hv;simp only [pOf,List.lookup_cons,Nat.reduceBEq,beq_self_eq_true] at hv;skip
   simp only [Act.put,List.setIfInBounds_toArray,List.set_cons_succ,List.set_cons_zero]
   refine wpS_nil ?_
   intro w2 hall
   have hb := hall.1
   refine wpAny_ready (rs := [9]) (by kernel_rfl) (by simp) ?_
   refine AllReady.cons rfl (fun K hK => ?_) AllReady.nil
   go_simp
   refine hK _ _ ?_;clear hK K
   refine wpAny_done (by kernel_rfl) ?_ _
   go_wp2_with fail
   go_ret
   exact ⟨_,rfl,by go_grown,hall.2 8 _ rfl⟩
theorem concat_freshS {base m1 m2 m : Nat} {v1 v2 : Value} {xs ys zs : List Value} {v : Value} {w : World} (hbs : base ≤ w.heap.size) (e1 : m1 + m2 = m) (ez : xs ++ ys = zs) (h1 : LAt 3 w v1 m1 xs) (h2 : LAt 3 w v2 m2 ys)
  (hp : IsPair v1 v2 v w) (hx : m1 ≤ 1000) (hy : m2 ≤ 1000) :
  Calls Tryz.prog 84 #[v] w fun e w'' => ∃ u,e = .returned u ∧ Below w.heap.size w w'' ∧ w''.ownsRow base 62 3 u m zs := by
 subst e1;subst ez
 obtain ⟨B,rfl,d0,d1⟩ := hp
 exact (concatS h1 h2 d0 d1 hx hy).mono fun e w' ⟨v,e1,hb,ho⟩ => ⟨v,e1,hb,owns_base0 hbs ho⟩
set_option maxRecDepth 100000 in
set_option maxHeartbeats 4000000 in
theorem withoutPS {v : Value} {m i : Nat} {cs : List Value} {w : World} (h : LAt 3 w v m cs) (hi : i < m) (hm : m ≤ 1000) :
  Calls Tryz.prog 87 #[v, .int .i64 i] w (OwnL 62 3 (m - 1) (cs.take (i * 3) ++ cs.drop ((i + 1) * 3)) w) := by
 obtain ⟨oa,cap,rfl,hl1,hl2,hl3⟩ := h.shape
 cases oa with
 | none => exact absurd (hl3 rfl).1 (by omega)
 | some a' =>
  have h1 := h.head (k := i) (by omega)
  have W1 : IntKind.i64.wrap ((i : Int) + 1) = (i : Int) + 1 := IntWalk.i64_in _ (by omega)
  have W2 : (0 : Int) ≤ (i : Int) + 1 := by omega
  have W3 : ((i : Int) + 1).toNat = i + 1 := by omega
  by_cases hc : cap = i + 1
  ·obtain rfl : m = i + 1 := by omega
   subst hc
   have h2 : LAt 3 w (.slice (some a') (0) (0)) (0) (cs.drop ((i + 1) * 3)) := by simpa using h.tail (q := a') (k := i + 1) (by omega) (fun hh => by omega)
   go_enter Tryz.func87,Tryz.ntmps87
   go_upto_region 1 with fail
   refine wp_region_Rs [(7,IsPair (.slice (some a') i (i + 1)) (.slice (some a') (0) (0))),(8,fun v W => W.ownsRow w.heap.size 62 3 v (i) (cs.take (i * 3) ++ cs.drop ((i + 1) * 3)))] [0,1,2,3,4,5,6,7,8] 1 (by kernel_rfl) rfl (by simp only [List.forall_mem_cons];exact ⟨keeps_pair,keeps_owns,fun _ h => by cases h⟩) (by kernel_rfl) ?_
   simp only [numbered,List.filterMap_cons,List.filterMap_nil,List.getElem?_toArray,List.getElem?_cons_succ,List.getElem?_cons_zero,Option.map_some]
   show wpS _ _ _ _ _ _ _ [(_,_),(_,_),(_,_),(_,_),(_,_),(_,_),(_,_),(_,_),(_,_)] _ _
   (refine wpS_quiet rfl rfl ?_;intro K hK inst hx;go_big_quiet_op;go_big_quiet_on;clear hx inst)
   (refine wpS_quiet rfl rfl ?_;intro K hK inst hx;go_big_quiet_op;go_big_quiet_on;clear hx inst)
   (refine wpS_quiet rfl rfl ?_;intro K hK inst hx;go_big_quiet_op;go_big_quiet_on;clear hx inst)
   (refine wpS_quiet rfl rfl ?_;intro K hK inst hx;go_big_quiet_op;go_big_quiet_on;clear hx inst)
   (refine wpS_quiet rfl rfl ?_;intro K hK inst hx;go_big_quiet_op;go_big_quiet_on;clear hx inst)
   (refine wpS_quiet rfl rfl ?_;intro K hK inst hx;go_big_quiet_op;go_big_quiet_on;clear hx inst)
   (refine wpS_quiet rfl rfl ?_;intro K hK inst hx;go_big_quiet_op;go_big_quiet_on;clear hx inst)
   refine wpS_fresh rfl rfl (fun w' hb hF => ?_) ?_
   ·change freshAt _ _ _ (IsPair (.slice (some a') i (i + 1)) (.slice (some a') (0) (0))) _;unfold freshAt;go_simp;exact ⟨by go_grown,_,rfl,by simp,by simp⟩
   intro v W hv;simp only [pOf,List.lookup_cons,Nat.reduceBEq,beq_self_eq_true] at hv;obtain ⟨Bv,rfl, -, -⟩ := hv
   simp only [Act.put,List.setIfInBounds_toArray,List.set_cons_succ,List.set_cons_zero]
   refine wpS_fresh rfl rfl (fun w' hb hF => ?_) ?_
   ·change freshAt _ _ _ (fun v W => W.ownsRow w.heap.size 62 3 v (i) (cs.take (i * 3) ++ cs.drop ((i + 1) * 3))) _;have h7 := hF 7 _ rfl (by kernel_rfl);unfold freshAt;go_simp;exact concat_freshS hb.size (by omega) rfl (h1.below hb) (h2.below hb) h7 (by omega) (by omega)
   intro v W hv;simp only [pOf,List.lookup_cons,Nat.reduceBEq,beq_self_eq_true] at hv;skip
   simp only [Act.put,List.setIfInBounds_toArray,List.set_cons_succ,List.set_cons_zero]
   refine wpS_nil ?_
   intro w2 hall
   have hb := hall.1
   refine wpAny_ready (rs := [9]) (by kernel_rfl) (by simp) ?_
   refine AllReady.cons rfl (fun K hK => ?_) AllReady.nil
   go_simp
   refine hK _ _ ?_;clear hK K
   refine wpAny_done (by kernel_rfl) ?_ _
   go_wp2_with fail
   go_ret
   exact ⟨_,rfl,by go_grown,hall.2 8 _ rfl⟩
  ·have h2 : LAt 3 w (.slice (some (a'.add ((i + 1) * 3))) (m - (i + 1)) (cap - (i + 1))) (m - (i + 1)) (cs.drop ((i + 1) * 3)) := h.tail (k := i + 1) (by omega) (fun _ => rfl)
   go_enter Tryz.func87,Tryz.ntmps87
   go_upto_region 1 with fail
   refine wp_region_Rs [(7,IsPair (.slice (some a') i cap) (.slice (some (a'.add ((i + 1) * 3))) (m - (i + 1)) (cap - (i + 1)))),(8,fun v W => W.ownsRow w.heap.size 62 3 v (m - 1) (cs.take (i * 3) ++ cs.drop ((i + 1) * 3)))] [0,1,2,3,4,5,6,7,8] 1 (by kernel_rfl) rfl (by simp only [List.forall_mem_cons];exact ⟨keeps_pair,keeps_owns,fun _ h => by cases h⟩) (by kernel_rfl) ?_
   simp only [numbered,List.filterMap_cons,List.filterMap_nil,List.getElem?_toArray,List.getElem?_cons_succ,List.getElem?_cons_zero,Option.map_some]
   show wpS _ _ _ _ _ _ _ [(_,_),(_,_),(_,_),(_,_),(_,_),(_,_),(_,_),(_,_),(_,_)] _ _
   (refine wpS_quiet rfl rfl ?_;intro K hK inst hx;go_big_quiet_op;go_big_quiet_on;clear hx inst)
   (refine wpS_quiet rfl rfl ?_;intro K hK inst hx;go_big_quiet_op;go_big_quiet_on;clear hx inst)
   (refine wpS_quiet rfl rfl ?_;intro K hK inst hx;go_big_quiet_op;go_big_quiet_on;clear hx inst)
   (refine wpS_quiet rfl rfl ?_;intro K hK inst hx;go_big_quiet_op;go_big_quiet_on;clear hx inst)
   (refine wpS_quiet rfl rfl ?_;intro K hK inst hx;go_big_quiet_op;go_big_quiet_on;clear hx inst)
   (refine wpS_quiet rfl rfl ?_;intro K hK inst hx;go_big_quiet_op;go_big_quiet_on;clear hx inst)
   (refine wpS_quiet rfl rfl ?_;intro K hK inst hx;go_big_quiet_op;go_big_quiet_on;clear hx inst)
   refine wpS_fresh rfl rfl (fun w' hb hF => ?_) ?_
   ·change freshAt _ _ _ (IsPair (.slice (some a') i cap) (.slice (some (a'.add ((i + 1) * 3))) (m - (i + 1)) (cap - (i + 1)))) _;unfold freshAt;go_simp;exact ⟨by go_grown,_,rfl,by simp,by simp⟩
   intro v W hv;simp only [pOf,List.lookup_cons,Nat.reduceBEq,beq_self_eq_true] at hv;obtain ⟨Bv,rfl, -, -⟩ := hv
   simp only [Act.put,List.setIfInBounds_toArray,List.set_cons_succ,List.set_cons_zero]
   refine wpS_fresh rfl rfl (fun w' hb hF => ?_) ?_
   ·change freshAt _ _ _ (fun v W => W.ownsRow w.heap.size 62 3 v (m - 1) (cs.take (i * 3) ++ cs.drop ((i + 1) * 3))) _;have h7 := hF 7 _ rfl (by kernel_rfl);unfold freshAt;go_simp;exact concat_freshS hb.size (by omega) rfl (h1.below hb) (h2.below hb) h7 (by omega) (by omega)
   intro v W hv;simp only [pOf,List.lookup_cons,Nat.reduceBEq,beq_self_eq_true] at hv;skip
   simp only [Act.put,List.setIfInBounds_toArray,List.set_cons_succ,List.set_cons_zero]
   refine wpS_nil ?_
   intro w2 hall
   have hb := hall.1
   refine wpAny_ready (rs := [9]) (by kernel_rfl) (by simp) ?_
   refine AllReady.cons rfl (fun K hK => ?_) AllReady.nil
   go_simp
   refine hK _ _ ?_;clear hK K
   refine wpAny_done (by kernel_rfl) ?_ _
   go_wp2_with fail
   go_ret
   exact ⟨_,rfl,by go_grown,hall.2 8 _ rfl⟩
end Go.Proofs.YtodmidchpbcnpaaGreat
namespace Go.Proofs.YtodmidchpbcnpaaGreat
open Go.RowKit Go.Pb Go.Pb.Ware Go.Pb.Sag


def takeC (ss bs : List (List Int)) (s : Bx) (xs : List It) (qs : List Sq) (i : Int) : Int := if ckK ss bs s xs qs = 0 then (if btw i 0 ((xs.length : Int) - 1) = true then 0 else 1) else ckK ss bs s xs qs
def TakeRes (xs : List It) (qs : List Sq) (i c : Int) (W : World) (e : Ending) (w' : World) : Prop := ∃ lv pv,e = .returned (.tuple #[lv,pv, .int .i64 c]) ∧ Below W.heap.size W w' ∧
 ((c ≠ 0 ∧ lv = .slice none 0 0 ∧ pv = .slice none 0 0) ∨ (c = 0 ∧ 0 ≤ i ∧ i.toNat < xs.length ∧ w'.ownsRow W.heap.size 32 3 lv (xs.length - 1) (itCells (xs.eraseIdx i.toNat)) ∧ w'.ownsRow W.heap.size 62 3 pv (xs.length - 1) ((qs.eraseIdx i.toNat).flatMap cellsQ)))
theorem pack_long {s : Bx} {fs : List Ft} {qs : List Sq} (h : packB s fs qs = true) : qs.length = fs.length := by
 unfold packB at h;rw [Bool.and_eq_true,decide_eq_true_eq] at h;exact h.1
theorem ckK_0 {ss bs : List (List Int)} {s : Bx} {xs : List It} {qs : List Sq} (h : ckK ss bs s xs qs = 0) : ckL ss bs s xs = 0 ∧ packB s (feetV ss bs s xs) qs = true := by
 unfold ckK at h
 split at h
 ·rename_i h1
  refine ⟨h1, ?_⟩
  split at h
  ·assumption
  ·cases h
 ·rename_i h1;exact absurd h h1
set_option maxRecDepth 100000 in
set_option maxHeartbeats 1000000 in
theorem Take_any {w : World} {vs vb : Value} {ss bs : List (List Int)} (h1 : RowsAt 11 w vs ss) (h2 : RowsAt 7 w vb bs) {lv pv : Value} {xs : List It} {qs : List Sq} {bid bwi bde bce bhi bbe i : Int} (hl : RowsAt 3 w lv (xs.map rowX)) (hp : StAt w pv qs) {c : Int} (hc : takeC ss bs ⟨bid,bwi,bde,bce,bhi,bbe⟩ xs qs i = c) :
  Calls Tryz.prog 38 #[.agg #[vs,vb], .agg #[.int .i64 bid, .int .i64 bwi, .int .i64 bde, .int .i64 bce, .int .i64 bhi, .int .i64 bbe],lv,pv, .int .i64 i] w (TakeRes xs qs i c w) := by
 have hlx := it_lat hl
 have hlq := st_lat hp
 obtain ⟨la,lc,rfl,hll⟩ := hl.shape
 rw [List.length_map] at hl hlx hll ⊢
 obtain ⟨pa,pc,rfl,hpl,hpc⟩ := hp.shape
 unfold TakeRes
 obtain ⟨d,hd⟩ : ∃ d,ckK ss bs ⟨bid,bwi,bde,bce,bhi,bbe⟩ xs qs = d := ⟨_,rfl⟩
 unfold takeC at hc
 rw [hd] at hc
 have HD := hid hd;clear hd
 by_cases hd0 : d = 0
 ·subst hd0
  rw [if_pos rfl] at hc
  obtain ⟨k0,kp⟩ := ckK_0 HD.out
  have hql : qs.length = xs.length := by rw [pack_long kp,feetV_0 k0];exact List.length_map ..
  obtain ⟨-, -,hx5, -⟩ := ckL_0 k0
  have HL := hid hql
  clear k0 kp hql
  have W1 : IntKind.i64.wrap ((xs.length : Int) - 1) = (xs.length : Int) - 1 := IntWalk.i64_in _ (by omega)
  cases ht : btw i 0 ((xs.length : Int) - 1)
  ·rw [ht] at hc
   have HT := hid ht;clear ht
   simp only [Bool.false_eq_true,if_false] at hc
   subst hc
   go_enter Tryz.func38,Tryz.ntmps38
   go_wp2_with fail
   refine (CheckPack_any (h1.below (by go_grown)) (h2.below (by go_grown)) (hl.below (by go_grown)) (hp.below (by go_grown)) HD.out).mono ?_
   rintro e w1 ⟨rfl,hb⟩
   replace hb0 := bnext (w := w) (by go_grown) hb
   clear hb
   go_wp2_with fail
   refine (sBetween HT.out).mono ?_
   rintro e w2 ⟨rfl,hb⟩
   replace hb0 := bnext (w := w) (by go_grown) hb
   clear hb
   go_wp2_with fail
   go_ret3
   exact ⟨_,_,rfl,by go_grown, .inl ⟨by decide,rfl,rfl⟩⟩
  ·rw [ht,if_pos rfl] at hc
   obtain ⟨k,rfl,hk⟩ : ∃ k : Nat,i = (k : Int) ∧ k < xs.length := by unfold btw at ht;simp at ht;exact ⟨i.toNat,by omega,by omega⟩
   have HT := hid ht;clear ht
   subst hc
   have hk2 : k < qs.length := by rw [HL.out];exact hk
   go_enter Tryz.func38,Tryz.ntmps38
   go_wp2_with fail
   refine (CheckPack_any (h1.below (by go_grown)) (h2.below (by go_grown)) (hl.below (by go_grown)) (hp.below (by go_grown)) HD.out).mono ?_
   rintro e w1 ⟨rfl,hb⟩
   replace hb0 := bnext (w := w) (by go_grown) hb
   clear hb
   go_wp2_with fail
   refine (sBetween HT.out).mono ?_
   rintro e w2 ⟨rfl,hb⟩
   replace hb0 := bnext (w := w) (by go_grown) hb
   clear hb
   go_wp2_with fail
   refine (withoutPX (hlx.below hb0) hk (by omega)).mono ?_
   rintro e w3 ⟨xv,rfl,hb3,ho3⟩
   have HZ3 := hid hb0.size
   replace hb0 := bnext (w := w) (by go_grown) hb3
   obtain ⟨xa,xc,rfl,hxl⟩ := owns_shape ho3
   go_wp2_with fail
   refine (withoutPS (hlq.below hb0) hk2 (by rw [HL.out];omega)).mono ?_
   rintro e w4 ⟨sv,rfl,hb4,ho4⟩
   have HZ4 := hid hb0.size
   replace hb0 := bnext (w := w) (by go_grown) hb4
   rw [flat_erase lenQ',HL.out] at ho4
   obtain ⟨sa,sc,rfl,hsl⟩ := owns_shape ho4
   have hk3 := owns_below ho3 hb4
   clear hb3 hb4
   go_wp2_with fail
   go_ret3
   rw [show itCells xs = xs.flatMap cellsX from rfl,flat_erase lenX] at hk3
   exact ⟨_,_,rfl,hb0, .inr ⟨by simp,by omega,by simpa using hk,owns_base HZ3.out hk3,owns_base HZ4.out ho4⟩⟩
 ·rw [if_neg hd0] at hc
  subst hc
  have hcn : (d != 0) = true := by simpa using hd0
  go_enter Tryz.func38,Tryz.ntmps38
  go_wp2_with fail
  refine (CheckPack_any (h1.below (by go_grown)) (h2.below (by go_grown)) (hl.below (by go_grown)) (hp.below (by go_grown)) HD.out).mono ?_
  rintro e w1 ⟨rfl,hb⟩
  replace hb0 := bnext (w := w) (by go_grown) hb
  clear hb
  go_wp2_with fail
  go_ret3
  exact ⟨_,_,rfl,by go_grown, .inl ⟨hd0,rfl,rfl⟩⟩
end Go.Proofs.YtodmidchpbcnpaaGreat
namespace Go.Proofs.YtodmidchpbcnpaaGreat
open Go.RowKit Go.Pb Go.Pb.Ware Go.Pb.Sag


def freeA (ss bs : List (List Int)) (s : Bx) (xs : List It) (qs : List Sq) : Int := if ckK ss bs s xs qs = 0 then s.wide * s.deep - areaL (feetV ss bs s xs) else 0
theorem area_bd5 {ss bs : List (List Int)} {s : Bx} {xs : List It} : 0 ≤ areaL (feetV ss bs s xs) ∧ areaL (feetV ss bs s xs) ≤ 5 * 4410000 := by
 have h := areaL_bd (feet_ok (ss := ss) (bs := bs) (s := s) (xs := xs)) (feetV ss bs s xs).length
 rw [List.take_length] at h
 have h5 := feet_len (ss := ss) (bs := bs) (s := s) (xs := xs)
 omega
set_option maxRecDepth 100000 in
set_option maxHeartbeats 2000000 in
theorem Free_any {w : World} {vs vb : Value} {ss bs : List (List Int)} (h1 : RowsAt 11 w vs ss) (h2 : RowsAt 7 w vb bs) {lv pv : Value} {xs : List It} {qs : List Sq} {bid bwi bde bce bhi bbe : Int} (hl : RowsAt 3 w lv (xs.map rowX)) (hp : StAt w pv qs) {c n : Int} (hc : ckK ss bs ⟨bid,bwi,bde,bce,bhi,bbe⟩ xs qs = c) (hn : freeA ss bs ⟨bid,bwi,bde,bce,bhi,bbe⟩ xs qs = n) :
  Calls Tryz.prog 33 #[.agg #[vs,vb], .agg #[.int .i64 bid, .int .i64 bwi, .int .i64 bde, .int .i64 bce, .int .i64 bhi, .int .i64 bbe],lv,pv] w (Ret w (.tuple #[.int .i64 n, .int .i64 c])) := by
 obtain ⟨la,lc,rfl,hll⟩ := hl.shape
 rw [List.length_map] at hl hll ⊢
 obtain ⟨pa,pc,rfl,hpl,hpc⟩ := hp.shape
 unfold Ret
 by_cases hc0 : c = 0
 ·subst hc0
  obtain ⟨k0,kp⟩ := ckK_0 hc
  obtain ⟨hw,hX,hx5,hall⟩ := ckL_0 k0
  obtain ⟨ar,har⟩ : ∃ a,areaL (feetV ss bs ⟨bid,bwi,bde,bce,bhi,bbe⟩ xs) = a := ⟨_,rfl⟩
  have hbd := area_bd5 (ss := ss) (bs := bs) (s := ⟨bid,bwi,bde,bce,bhi,bbe⟩) (xs := xs)
  rw [har] at hbd
  have hX2 := boxOk_iff.1 hX
  dsimp only at hX2
  have hmm := mul_bd bwi bde 6 6 (by omega) (by omega) (by omega) (by omega)
  have hn1 : n = bwi * bde - ar := by rw [← hn];unfold freeA;rw [if_pos hc,har]
  subst hn1
  have hfk : feetK ss bs ⟨bid,bwi,bde,bce,bhi,bbe⟩ xs qs = (feetV ss bs ⟨bid,bwi,bde,bce,bhi,bbe⟩ xs) := by unfold feetK;rw [if_pos hc]
  have hfv : xs.map (footR ss bce) = (feetV ss bs ⟨bid,bwi,bde,bce,bhi,bbe⟩ xs) := (feetV_0 k0).symm
  have HC := hid hc;have HAR := hid har;have HFK := hid hfk;have HFV := hid hfv;have HX := hid hX;have HW := hid hw;have HALL := hid (show xs.all (itemB ss) = true from List.all_eq_true.2 hall)
  clear hc hn har hfk hfv k0 kp hX hw hall
  go_enter Tryz.func33,Tryz.ntmps33
  go_wp2_with fail
  refine (packed_any (h1.below (by go_grown)) (h2.below (by go_grown)) (hl.below (by go_grown)) (hp.below (by go_grown))).mono ?_
  rintro e w1 ⟨fv,rfl,hb,ho⟩
  replace hb0 := bnext (w := w) (by go_grown) hb;have hz := hb.size;(try simp only [World.size_alloc,World.size_setCell] at hz);replace q0 : w1.cell? ⟨w.heap.size,0,none⟩ = some (vs) := bkeep hb (by first|with_reducible exact q0|with_reducible exact akeep q0|simp[*,go_sem]);replace q1 : w1.cell? ⟨w.heap.size,1,none⟩ = some (vb) := bkeep hb (by first|with_reducible exact q1|with_reducible exact akeep q1|simp[*,go_sem]);replace q2 : w1.cell? ⟨w.heap.size + 1,0,none⟩ = some (.int .i64 bid) := bkeep hb (by first|with_reducible exact q2|with_reducible exact akeep q2|simp[*,go_sem]);replace q3 : w1.cell? ⟨w.heap.size + 1,1,none⟩ = some (.int .i64 bwi) := bkeep hb (by first|with_reducible exact q3|with_reducible exact akeep q3|simp[*,go_sem]);replace q4 : w1.cell? ⟨w.heap.size + 1,2,none⟩ = some (.int .i64 bde) := bkeep hb (by first|with_reducible exact q4|with_reducible exact akeep q4|simp[*,go_sem]);replace q5 : w1.cell? ⟨w.heap.size + 1,3,none⟩ = some (.int .i64 bce) := bkeep hb (by first|with_reducible exact q5|with_reducible exact akeep q5|simp[*,go_sem]);replace q6 : w1.cell? ⟨w.heap.size + 1,4,none⟩ = some (.int .i64 bhi) := bkeep hb (by first|with_reducible exact q6|with_reducible exact akeep q6|simp[*,go_sem]);replace q7 : w1.cell? ⟨w.heap.size + 1,5,none⟩ = some (.int .i64 bbe) := bkeep hb (by first|with_reducible exact q7|with_reducible exact akeep q7|simp[*,go_sem]);skip
  clear hb
  rw [HC.out]
  rw [HFK.out] at ho
  have hfa := feetAt_of_owns feet_ok ho
  obtain ⟨fa,fc,rfl,hfl⟩ := owns_shape ho
  have HFA := hid hfa;clear hfa ho
  obtain ⟨v6,hv6⟩ : ∃ v,v = w1 := ⟨_,rfl⟩
  subst hv6
  go_upto_region 4 with fail
  have xq2 := fun x : BW v6 => bkeep x.below q2
  have xq3 := fun x : BW v6 => bkeep x.below q3
  have xq4 := fun x : BW v6 => bkeep x.below q4
  have xq5 := fun x : BW v6 => bkeep x.below q5
  have xq6 := fun x : BW v6 => bkeep x.below q6
  have xq7 := fun x : BW v6 => bkeep x.below q7
  have hcall : ∀ W' : World,Below v6.heap.size v6 W' → Calls Tryz.prog 81 #[.slice fa (feetV ss bs ⟨bid,bwi,bde,bce,bhi,bbe⟩ xs).length fc] W' (Ret W' (.int .i64 ar)) := fun W' hb => HAR.out ▸ area_any (HFA.out.below hb) feet_ok (Nat.le_trans feet_len (by decide))
  have HCA := hid hcall;clear hcall
  refine wp_region_qb (by kernel_rfl) (by kernel_rfl) fun hc => ?_
  repeat (go_big_quiet_step ((go_at_call 81;exact BW.call _ (HCA.out _ (by first | exact BW.below ‹_› | assumption)))))
  refine wpQuiet_nil ?_
  intro w9 hb
  replace hb0 := bnext (w := w) hb0 hb
  go_wp2_with fail
  go_ret2
  exact ⟨rfl,hb0⟩
 ·have hn0 : n = 0 := by rw [← hn];unfold freeA;rw [if_neg (by rw [hc];exact hc0)]
  subst hn0
  have hcn : (c != 0) = true := by simpa using hc0
  have HC := hid hc;clear hc hn
  go_enter Tryz.func33,Tryz.ntmps33
  go_wp2_with fail
  refine (packed_any (h1.below (by go_grown)) (h2.below (by go_grown)) (hl.below (by go_grown)) (hp.below (by go_grown))).mono ?_
  rintro e w1 ⟨fv,rfl,hb,ho⟩
  replace hb0 := bnext (w := w) (by go_grown) hb;have hz := hb.size;(try simp only [World.size_alloc,World.size_setCell] at hz);replace q0 : w1.cell? ⟨w.heap.size,0,none⟩ = some (vs) := bkeep hb (by first|with_reducible exact q0|with_reducible exact akeep q0|simp[*,go_sem]);replace q1 : w1.cell? ⟨w.heap.size,1,none⟩ = some (vb) := bkeep hb (by first|with_reducible exact q1|with_reducible exact akeep q1|simp[*,go_sem]);replace q2 : w1.cell? ⟨w.heap.size + 1,0,none⟩ = some (.int .i64 bid) := bkeep hb (by first|with_reducible exact q2|with_reducible exact akeep q2|simp[*,go_sem]);replace q3 : w1.cell? ⟨w.heap.size + 1,1,none⟩ = some (.int .i64 bwi) := bkeep hb (by first|with_reducible exact q3|with_reducible exact akeep q3|simp[*,go_sem]);replace q4 : w1.cell? ⟨w.heap.size + 1,2,none⟩ = some (.int .i64 bde) := bkeep hb (by first|with_reducible exact q4|with_reducible exact akeep q4|simp[*,go_sem]);replace q5 : w1.cell? ⟨w.heap.size + 1,3,none⟩ = some (.int .i64 bce) := bkeep hb (by first|with_reducible exact q5|with_reducible exact akeep q5|simp[*,go_sem]);replace q6 : w1.cell? ⟨w.heap.size + 1,4,none⟩ = some (.int .i64 bhi) := bkeep hb (by first|with_reducible exact q6|with_reducible exact akeep q6|simp[*,go_sem]);replace q7 : w1.cell? ⟨w.heap.size + 1,5,none⟩ = some (.int .i64 bbe) := bkeep hb (by first|with_reducible exact q7|with_reducible exact akeep q7|simp[*,go_sem]);skip
  clear hb
  rw [HC.out]
  obtain ⟨fa,fc,rfl,hfl⟩ := owns_shape ho
  go_wp2_with fail
  go_ret2
  exact ⟨rfl,hb0⟩
set_option maxRecDepth 100000 in
set_option maxHeartbeats 2000000 in
theorem rFree {w : World} {vs vb : Value} {ss bs : List (List Int)} (h1 : RowsAt 11 w vs ss) (h2 : RowsAt 7 w vb bs) {lv pv : Value} {xs : List It} {qs : List Sq} {bid bwi bde bce bhi bbe : Int} (hl : RowsAt 3 w lv (xs.map rowX)) (hp : StAt w pv qs) {c n : Int} (hc : ckK ss bs ⟨bid,bwi,bde,bce,bhi,bbe⟩ xs qs = c) (hn : freeA ss bs ⟨bid,bwi,bde,bce,bhi,bbe⟩ xs qs = n) :
  Calls Tryz.prog 34 #[.agg #[vs,vb], .agg #[.int .i64 bid, .int .i64 bwi, .int .i64 bde, .int .i64 bce, .int .i64 bhi, .int .i64 bbe],lv,pv] w (Ret w (.tuple #[.int .i64 n, .int .i64 c])) := by
 obtain ⟨la,lc,rfl,hll⟩ := hl.shape
 rw [List.length_map] at hl hll ⊢
 obtain ⟨pa,pc,rfl,hpl,hpc⟩ := hp.shape
 unfold Ret
 by_cases hc0 : c = 0
 ·subst hc0
  obtain ⟨k0,kp⟩ := ckK_0 hc
  obtain ⟨hw,hX,hx5,hall⟩ := ckL_0 k0
  obtain ⟨ar,har⟩ : ∃ a,areaL (feetV ss bs ⟨bid,bwi,bde,bce,bhi,bbe⟩ xs) = a := ⟨_,rfl⟩
  have hbd := area_bd5 (ss := ss) (bs := bs) (s := ⟨bid,bwi,bde,bce,bhi,bbe⟩) (xs := xs)
  rw [har] at hbd
  have hX2 := boxOk_iff.1 hX
  dsimp only at hX2
  have hmm := mul_bd bwi bde 6 6 (by omega) (by omega) (by omega) (by omega)
  have hn1 : n = bwi * bde - ar := by rw [← hn];unfold freeA;rw [if_pos hc,har]
  subst hn1
  have hfk : feetK ss bs ⟨bid,bwi,bde,bce,bhi,bbe⟩ xs qs = (feetV ss bs ⟨bid,bwi,bde,bce,bhi,bbe⟩ xs) := by unfold feetK;rw [if_pos hc]
  have hfv : xs.map (footR ss bce) = (feetV ss bs ⟨bid,bwi,bde,bce,bhi,bbe⟩ xs) := (feetV_0 k0).symm
  have HC := hid hc;have HAR := hid har;have HFK := hid hfk;have HFV := hid hfv;have HX := hid hX;have HW := hid hw;have HALL := hid (show xs.all (itemB ss) = true from List.all_eq_true.2 hall)
  clear hc hn har hfk hfv k0 kp hX hw hall
  go_enter Tryz.func34,Tryz.ntmps34
  go_wp2_with fail
  refine (rCheckPack (h1.below (by go_grown)) (h2.below (by go_grown)) (hl.below (by go_grown)) (hp.below (by go_grown)) HC.out).mono ?_
  rintro e w1 ⟨rfl,hb⟩
  replace hb0 := bnext (w := w) (by go_grown) hb;have hz := hb.size;(try simp only [World.size_alloc,World.size_setCell] at hz);replace q0 : w1.cell? ⟨w.heap.size,0,none⟩ = some (vs) := bkeep hb (by first|with_reducible exact q0|with_reducible exact akeep q0|simp[*,go_sem]);replace q1 : w1.cell? ⟨w.heap.size,1,none⟩ = some (vb) := bkeep hb (by first|with_reducible exact q1|with_reducible exact akeep q1|simp[*,go_sem]);replace q2 : w1.cell? ⟨w.heap.size + 1,0,none⟩ = some (.int .i64 bid) := bkeep hb (by first|with_reducible exact q2|with_reducible exact akeep q2|simp[*,go_sem]);replace q3 : w1.cell? ⟨w.heap.size + 1,1,none⟩ = some (.int .i64 bwi) := bkeep hb (by first|with_reducible exact q3|with_reducible exact akeep q3|simp[*,go_sem]);replace q4 : w1.cell? ⟨w.heap.size + 1,2,none⟩ = some (.int .i64 bde) := bkeep hb (by first|with_reducible exact q4|with_reducible exact akeep q4|simp[*,go_sem]);replace q5 : w1.cell? ⟨w.heap.size + 1,3,none⟩ = some (.int .i64 bce) := bkeep hb (by first|with_reducible exact q5|with_reducible exact akeep q5|simp[*,go_sem]);replace q6 : w1.cell? ⟨w.heap.size + 1,4,none⟩ = some (.int .i64 bhi) := bkeep hb (by first|with_reducible exact q6|with_reducible exact akeep q6|simp[*,go_sem]);replace q7 : w1.cell? ⟨w.heap.size + 1,5,none⟩ = some (.int .i64 bbe) := bkeep hb (by first|with_reducible exact q7|with_reducible exact akeep q7|simp[*,go_sem]);clear hb
  replace hl := hl.below hb0;replace h1 := h1.below hb0;replace h2 := h2.below hb0
  have HL := hid hl;have H1 := hid h1;have H2 := hid h2;clear hl hp h1 h2
  obtain ⟨v6,hv6⟩ : ∃ v,v = w1 := ⟨_,rfl⟩
  subst hv6
  go_upto_region 4 with fail
  refine wp_region_Rs [(8,fun v W => W.ownsRow v6.heap.size 34 4 v (feetV ss bs ⟨bid,bwi,bde,bce,bhi,bbe⟩ xs).length ((feetV ss bs ⟨bid,bwi,bde,bce,bhi,bbe⟩ xs).flatMap cellsF)),(9,fun v _ => v = .int .i64 ar)] [0,1,2,3,4,5,6,7,8,9,10,11,12] 0 (by kernel_rfl) rfl (by simp only [List.forall_mem_cons];exact ⟨keeps_owns,keeps_eq,fun _ h => by cases h⟩) (by kernel_rfl) ?_
  simp only [numbered,List.filterMap_cons,List.filterMap_nil,List.getElem?_toArray,List.getElem?_cons_succ,List.getElem?_cons_zero,Option.map_some]
  show wpS _ _ _ _ _ _ _ [(_,_),(_,_),(_,_),(_,_),(_,_),(_,_),(_,_),(_,_),(_,_),(_,_),(_,_),(_,_),(_,_)] _ _
  (refine wpS_quiet rfl rfl ?_;intro K hK inst hx;go_big_quiet_op;go_big_quiet_on;clear hx inst)
  (refine wpS_quiet rfl rfl ?_;intro K hK inst hx;go_big_quiet_op;go_big_quiet_on;clear hx inst)
  (refine wpS_quiet rfl rfl ?_;intro K hK inst hx;go_big_quiet_op;go_big_quiet_on;clear hx inst)
  (refine wpS_quiet rfl rfl ?_;intro K hK inst hx;go_big_quiet_op;go_big_quiet_on;clear hx inst)
  (refine wpS_quiet rfl rfl ?_;intro K hK inst hx;go_big_quiet_op;go_big_quiet_on;clear hx inst)
  (refine wpS_quiet rfl rfl ?_;intro K hK inst hx;go_big_quiet_op;go_big_quiet_on;clear hx inst)
  (refine wpS_quiet rfl rfl ?_;intro K hK inst hx;go_big_quiet_op;go_big_quiet_on;clear hx inst)
  (refine wpS_quiet rfl rfl ?_;intro K hK inst hx;go_big_quiet_op;go_big_quiet_on;clear hx inst)
  refine wpS_fresh rfl rfl (fun w' hb hF => ?_) ?_
  ·change freshAt _ _ _ (fun v W => W.ownsRow v6.heap.size 34 4 v (feetV ss bs ⟨bid,bwi,bde,bce,bhi,bbe⟩ xs).length ((feetV ss bs ⟨bid,bwi,bde,bce,bhi,bbe⟩ xs).flatMap cellsF)) _;unfold freshAt;go_simp;refine (rfeet_any (H1.out.below hb) (H2.out.below hb) (HL.out.below hb) (by omega) HW.out HX.out HALL.out).mono ?_;rintro e w9 ⟨v,rfl,hb9,ho⟩;rw [HFV.out] at ho;exact ⟨_,rfl,hb9,owns_base hb.size ho⟩
  intro v W hv;simp only [pOf,List.lookup_cons,Nat.reduceBEq,beq_self_eq_true] at hv;have hv0 := hv;obtain ⟨fa,fc,rfl, -⟩ := owns_shape hv
  simp only [Act.put,List.setIfInBounds_toArray,List.set_cons_succ,List.set_cons_zero]
  refine wpS_fresh rfl rfl (fun w' hb hF => ?_) ?_
  ·change freshAt _ _ _ (fun v _ => v = .int .i64 ar) _;have h4 : w'.ownsRow v6.heap.size 34 4 _ (feetV ss bs ⟨bid,bwi,bde,bce,bhi,bbe⟩ xs).length ((feetV ss bs ⟨bid,bwi,bde,bce,bhi,bbe⟩ xs).flatMap cellsF) := hF 8 _ rfl (by kernel_rfl);have h9 := feetAt_of_owns feet_ok h4;unfold freshAt;go_simp;exact HAR.out ▸ rArea h9 feet_ok (Nat.le_trans feet_len (by decide))
  intro v W hv;simp only [pOf,List.lookup_cons,Nat.reduceBEq,beq_self_eq_true] at hv;subst hv
  simp only [Act.put,List.setIfInBounds_toArray,List.set_cons_succ,List.set_cons_zero]
  (refine wpS_quiet rfl rfl ?_;intro K hK inst hx;go_big_quiet_op;go_big_quiet_on;clear hx inst)
  (refine wpS_quiet rfl rfl ?_;intro K hK inst hx;go_big_quiet_op;go_big_quiet_on;clear hx inst)
  (refine wpS_quiet rfl rfl ?_;intro K hK inst hx;go_big_quiet_op;go_big_quiet_on;clear hx inst)
  refine wpS_nil ?_
  intro w2 hall
  have hb := hall.1
  clear hall
  replace hb0 := bnext (w := w) hb0 hb
  refine wpAny_done (by kernel_rfl) ?_ _
  go_wp2_with fail
  go_ret2
  exact ⟨rfl,hb0⟩
 ·have hn0 : n = 0 := by rw [← hn];unfold freeA;rw [if_neg (by rw [hc];exact hc0)]
  subst hn0
  have hcn : (c != 0) = true := by simpa using hc0
  have HC := hid hc;clear hc hn
  go_enter Tryz.func34,Tryz.ntmps34
  go_wp2_with fail
  refine (rCheckPack (h1.below (by go_grown)) (h2.below (by go_grown)) (hl.below (by go_grown)) (hp.below (by go_grown)) HC.out).mono ?_
  rintro e w1 ⟨rfl,hb⟩
  replace hb0 := bnext (w := w) (by go_grown) hb;have hz := hb.size;(try simp only [World.size_alloc,World.size_setCell] at hz);replace q0 : w1.cell? ⟨w.heap.size,0,none⟩ = some (vs) := bkeep hb (by first|with_reducible exact q0|with_reducible exact akeep q0|simp[*,go_sem]);replace q1 : w1.cell? ⟨w.heap.size,1,none⟩ = some (vb) := bkeep hb (by first|with_reducible exact q1|with_reducible exact akeep q1|simp[*,go_sem]);replace q2 : w1.cell? ⟨w.heap.size + 1,0,none⟩ = some (.int .i64 bid) := bkeep hb (by first|with_reducible exact q2|with_reducible exact akeep q2|simp[*,go_sem]);replace q3 : w1.cell? ⟨w.heap.size + 1,1,none⟩ = some (.int .i64 bwi) := bkeep hb (by first|with_reducible exact q3|with_reducible exact akeep q3|simp[*,go_sem]);replace q4 : w1.cell? ⟨w.heap.size + 1,2,none⟩ = some (.int .i64 bde) := bkeep hb (by first|with_reducible exact q4|with_reducible exact akeep q4|simp[*,go_sem]);replace q5 : w1.cell? ⟨w.heap.size + 1,3,none⟩ = some (.int .i64 bce) := bkeep hb (by first|with_reducible exact q5|with_reducible exact akeep q5|simp[*,go_sem]);replace q6 : w1.cell? ⟨w.heap.size + 1,4,none⟩ = some (.int .i64 bhi) := bkeep hb (by first|with_reducible exact q6|with_reducible exact akeep q6|simp[*,go_sem]);replace q7 : w1.cell? ⟨w.heap.size + 1,5,none⟩ = some (.int .i64 bbe) := bkeep hb (by first|with_reducible exact q7|with_reducible exact akeep q7|simp[*,go_sem]);clear hb
  go_wp2_with fail
  go_ret2
  exact ⟨rfl,hb0⟩
end Go.Proofs.YtodmidchpbcnpaaGreat