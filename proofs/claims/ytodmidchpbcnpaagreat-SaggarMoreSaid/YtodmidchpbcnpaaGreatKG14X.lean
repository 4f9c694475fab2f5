/- Part of a claim. -/
import Derived.Test.YtodmidchpbcnpaaGreatG4X
import Derived.Test.YtodmidchpbcnpaaGreatKSdX
import Derived.Deep.DeepMust
import Derived.Test.YtodmidchpbcnpaaGreatG1X
import Derived.Test.YtodmidchpbcnpaaGreatKLibX
import Derived.Test.YtodmidchpbcnpaaGreatW25X
import Derived.Test.YtodmidchpbcnpaaGreatKSpX
import Derived.Test.YtodmidchpbcnpaaGreatKTgX
import Derived.Lib.AppendZeros
import Derived.Laws.OwnMore
import Derived.Deep.LoopGhost
import Derived.Test.YtodmidchpbcnpaaGreatW16X
import Derived.Test.YtodmidchpbcnpaaGreatW5X
import Derived.Test.YtodmidchpbcnpaaGreatG3X
set_option linter.unusedVariables false
set_option linter.unusedSimpArgs false
namespace Go.Proofs.YtodmidchpbcnpaaGreat
open Go.RowKit Go.Pb Go.Pb.Ware Go.Pb.Sag


theorem Tryz.infoS : (Tryz.prog.info? 62).map (fun i => (i.zero,i.size,i.bytes)) = some (some (.agg #[.int .i64 0, .int .i64 0, .bool false]),3,24) := by kernel_rfl
set_option maxRecDepth 100000 in
set_option maxHeartbeats 600000 in
theorem cloneS {w : World} {v : Value} {xs : List Sq} (hr : StAt w v xs) (hn : xs.length ≤ 1000) :
  Calls Tryz.prog 126 #[v] w (NewSts 62 xs w) := by
 obtain ⟨i0,hi,hz0,hz1,hz2⟩ := info_parts Tryz.infoS
 unfold NewSts
 obtain ⟨aa,cap,rfl,hl1,hl2⟩ := hr.shape
 cases aa with
 | none =>
  have hx : xs = [] := by rcases hr with ⟨_,h⟩ | ⟨a,_,h,_⟩ <;> first | exact h | exact List.map_eq_nil_iff.1 h | (simp at h;done) | cases h
  subst hx
  have hc : cap = 0 := by rcases hr with ⟨h,_⟩ | ⟨a,_,h,_⟩ <;> first | (injection h;done) | (injection h with _ _ h;exact h) | cases h
  subst hc
  have hnil : ∀ w' : World,(binOp BinOp.eql 41 (.slice none 0 0) (.slice none 0 0)).run Tryz.prog w' = .ok (.bool true) w' := fun w' => rfl
  go_enter Tryz.func126,Tryz.ntmps126
  go_wp2_with fail
  go_ret
  exact ⟨_,rfl,by go_grown,World.ownsRow_nil _ _ _ _⟩
 | some a =>
  have hnil : ∀ w' : World,(binOp BinOp.eql 41 (.slice (some a) xs.length cap) (.slice none 0 0)).run Tryz.prog w' = .ok (.bool false) w' := fun w' => rfl
  go_enter Tryz.func126,Tryz.ntmps126
  go_wp2_with (at_builtin;go_must (refine wpList_append_own _ rfl _ _ 41 rfl w.heap.size 62 i0 (.agg #[.int .i64 0, .int .i64 0, .bool false]) 3 24 Tryz.underlying41 hi hz0 hz1 hz2 rfl (by decide) _ _ _ rfl (owns_empty w 62 3) a xs.length cap (xs.flatMap cellsQ) rfl (flat_len cellsQ lenQ xs) ?c1 one_Q (by unfold maxLen;omega) (by omega) (by simp) ?_;(case c1 => exact fun j u h => akeep (stAt_cells hr j u h));intro v' w4 ho4 hg4 hnil;have hb0 := below_grown ((Below.refl _ w).alloc (Nat.le_refl _) _) hg4 (owns_empty w 62 3) (by simp) (Nat.le_refl _)))
  go_ret
  exact ⟨_,rfl,hb0,by simpa using ho4⟩
set_option maxRecDepth 100000 in
set_option maxHeartbeats 600000 in
theorem cloneF {w : World} {v : Value} {xs : List Ft} (hr : FeetAt w v xs) (hn : xs.length ≤ 1000) :
  Calls Tryz.prog 144 #[v] w (NewFeet 34 xs w) := by
 obtain ⟨i0,hi,hz0,hz1,hz2⟩ := info_parts Tryz.infoF
 unfold NewFeet
 obtain ⟨aa,cap,rfl,hl1⟩ := hr.shape
 rw [List.length_map] at hr hl1 ⊢
 cases aa with
 | none =>
  have hx : xs = [] := by rcases hr with ⟨_,h⟩ | ⟨a,_,h,_⟩ <;> first | exact h | exact List.map_eq_nil_iff.1 h | (simp at h;done) | cases h
  subst hx
  have hc : cap = 0 := by rcases hr with ⟨h,_⟩ | ⟨a,_,h,_⟩ <;> first | (injection h;done) | (injection h with _ _ h;exact h) | cases h
  subst hc
  have hnil : ∀ w' : World,(binOp BinOp.eql 38 (.slice none 0 0) (.slice none 0 0)).run Tryz.prog w' = .ok (.bool true) w' := fun w' => rfl
  go_enter Tryz.func144,Tryz.ntmps144
  go_wp2_with fail
  go_ret
  exact ⟨_,rfl,by go_grown,World.ownsRow_nil _ _ _ _⟩
 | some a =>
  have hnil : ∀ w' : World,(binOp BinOp.eql 38 (.slice (some a) xs.length cap) (.slice none 0 0)).run Tryz.prog w' = .ok (.bool false) w' := fun w' => rfl
  go_enter Tryz.func144,Tryz.ntmps144
  go_wp2_with (at_builtin;go_must (refine wpList_append_own _ rfl _ _ 38 rfl w.heap.size 34 i0 (.agg #[.int .i64 0, .int .i64 0, .int .i64 0, .int .i64 0]) 4 32 Tryz.underlying38 hi hz0 hz1 hz2 rfl (by decide) _ _ _ rfl (owns_empty w 34 4) a xs.length cap (xs.flatMap cellsF) rfl (flat_len cellsF lenF xs) ?c1 one_F (by unfold maxLen;omega) (by omega) (by simp) ?_;(case c1 => exact fun j u h => akeep (feetAt_cells hr j u h));intro v' w4 ho4 hg4 hnil;have hb0 := below_grown ((Below.refl _ w).alloc (Nat.le_refl _) _) hg4 (owns_empty w 34 4) (by simp) (Nat.le_refl _)))
  go_ret
  exact ⟨_,rfl,hb0,by simpa using ho4⟩
end Go.Proofs.YtodmidchpbcnpaaGreat
namespace Go.Proofs.YtodmidchpbcnpaaGreat
open Go.RowKit Go.Pb Go.Pb.Ware Go.Pb.Sag


set_option maxRecDepth 100000 in
set_option maxHeartbeats 600000 in
theorem count_more {w : World} {pv : Value} {M : Nat} {m : Int} (h0 : 0 ≤ m) (h1 : m ≤ 2000) (hl : m + 1 < 1000) (q0 : w.cell? ⟨M,0,none⟩ = some (.int .i64 m)) (f0 : w.frozen? ⟨M,0,none⟩ = false) :
  Calls Tryz.prog 76 #[pv, .pointer (some ⟨M,0,none⟩)] w (fun e w' => e = .returned (.bool true) ∧ w' = w.setCell ⟨M,0,none⟩ (.int .i64 (m + 1))) := by
 go_enter Tryz.func76,Tryz.ntmps76
 go_wp2
 all_goals go_ret
 all_goals exact ⟨ret_bool (by first | rfl | exact decide_eq_true (by omega) | exact decide_eq_false (by omega)),rfl⟩
set_option maxRecDepth 100000 in
set_option maxHeartbeats 600000 in
theorem count_full {w : World} {pv : Value} {M : Nat} {m : Int} (h0 : 0 ≤ m) (h1 : m ≤ 2000) (hl : 1000 ≤ m + 1) (q0 : w.cell? ⟨M,0,none⟩ = some (.int .i64 m)) (f0 : w.frozen? ⟨M,0,none⟩ = false) :
  Calls Tryz.prog 76 #[pv, .pointer (some ⟨M,0,none⟩)] w (fun e w' => e = .returned (.bool false) ∧ w' = w.setCell ⟨M,0,none⟩ (.int .i64 (m + 1))) := by
 go_enter Tryz.func76,Tryz.ntmps76
 go_wp2
 all_goals go_ret
 all_goals exact ⟨ret_bool (by first | rfl | exact decide_eq_true (by omega) | exact decide_eq_false (by omega)),rfl⟩
set_option maxRecDepth 100000 in
set_option maxHeartbeats 600000 in
theorem nth_past {w : World} {pv fv : Value} {xs : List Sq} {A N F I : Nat} {m n : Int} (h0 : 0 ≤ m) (h1 : m ≤ 1000000) (q0 : w.cell? ⟨A,0,none⟩ = some (.int .i64 m)) (f0 : w.frozen? ⟨A,0,none⟩ = false) (q1 : w.cell? ⟨N,0,none⟩ = some (.int .i64 n)) (q2 : w.cell? ⟨F,0,none⟩ = some (.slice none 0 0)) (f2 : w.frozen? ⟨F,0,none⟩ = false) (q3 : w.cell? ⟨I,0,none⟩ = some (.bool false)) (f3 : w.frozen? ⟨I,0,none⟩ = false) (hp : StAt w pv xs) (hn : xs.length ≤ 1000) (hFI : F ≠ I) (hl : m ≠ n) :
  Calls Tryz.prog 125 #[pv, .pointer (some ⟨A,0,none⟩), .pointer (some ⟨N,0,none⟩), .pointer (some ⟨F,0,none⟩), .pointer (some ⟨I,0,none⟩)] w (fun e w' => e = .returned (.bool true) ∧ w' = w.setCell ⟨A,0,none⟩ (.int .i64 (m + 1))) := by
 obtain ⟨aa,cap,rfl,hl1,hl2⟩ := hp.shape
 go_enter Tryz.func125,Tryz.ntmps125
 go_wp2
 all_goals go_ret
 all_goals exact ⟨rfl,rfl⟩
set_option maxRecDepth 100000 in
set_option maxHeartbeats 600000 in
theorem nth_here {w : World} {pv fv : Value} {xs : List Sq} {A N F I : Nat} {m n : Int} (h0 : 0 ≤ m) (h1 : m ≤ 1000000) (q0 : w.cell? ⟨A,0,none⟩ = some (.int .i64 m)) (f0 : w.frozen? ⟨A,0,none⟩ = false) (q1 : w.cell? ⟨N,0,none⟩ = some (.int .i64 n)) (q2 : w.cell? ⟨F,0,none⟩ = some (.slice none 0 0)) (f2 : w.frozen? ⟨F,0,none⟩ = false) (q3 : w.cell? ⟨I,0,none⟩ = some (.bool false)) (f3 : w.frozen? ⟨I,0,none⟩ = false) (hp : StAt w pv xs) (hn : xs.length ≤ 1000) (hFI : F ≠ I) (hl : m = n) :
  Calls Tryz.prog 125 #[pv, .pointer (some ⟨A,0,none⟩), .pointer (some ⟨N,0,none⟩), .pointer (some ⟨F,0,none⟩), .pointer (some ⟨I,0,none⟩)] w (fun e w' => e = .returned (.bool false) ∧ ∃ w1 v,Below w.heap.size w w1 ∧ w1.ownsRow w.heap.size 62 3 v xs.length (xs.flatMap cellsQ) ∧ w' = (w1.setCell ⟨F,0,none⟩ v).setCell ⟨I,0,none⟩ (.bool true)) := by
 obtain ⟨aa,cap,rfl,hl1,hl2⟩ := hp.shape
 subst hl
 go_enter Tryz.func125,Tryz.ntmps125
 go_wp2_with fail
 refine (cloneS hp hn).mono ?_
 rintro e w1 ⟨v,rfl,hb,ho⟩
 have p2 := bkeep hb q2
 have g2 := bfree hb q2 f2
 have p3 := bkeep hb q3
 have g3 := bfree hb q3 f3
 obtain ⟨va,vc,rfl,hvl⟩ := owns_shape ho
 go_wp2_with fail
 go_ret
 exact ⟨rfl,w1,_,hb,ho,rfl⟩
end Go.Proofs.YtodmidchpbcnpaaGreat
namespace Go.Proofs.YtodmidchpbcnpaaGreat
open Go.RowKit Go.Pb Go.Pb.Ware Go.Pb.Sag


set_option maxRecDepth 100000 in
set_option maxHeartbeats 800000 in
theorem chosen_any {w : World} {lv v : Value} {fs : List Ft} {zs : List Int} (hl : FeetAt w lv fs) (hn : fs.length ≤ 1000) (hi : NumsAt w v zs) (hzn : zs.length ≤ 1000) (hz : ∀ z ∈ zs,0 ≤ z ∧ z < (fs.length : Int)) :
  Calls Tryz.prog 97 #[lv,v] w (NewFeet 34 (chosenL fs zs) w) := by
 obtain ⟨i0,hi0,hz0,hz1,hz2⟩ := info_parts Tryz.infoF
 obtain ⟨a,cap,rfl,hl1,hl2⟩ := hi.shape
 obtain ⟨la,lc,rfl,hll⟩ := hl.shape
 rw [List.length_map] at hl hll ⊢
 unfold NewFeet
 go_enter Tryz.func97,Tryz.ntmps97
 go_wp2_with (at_make;refine wpList_make_own _ rfl _ _ 38 rfl w.heap.size 34 i0 (.agg #[.int .i64 0, .int .i64 0, .int .i64 0, .int .i64 0]) 4 Tryz.underlying38 hi0 hz0 hz1 .i64 .i64 _ zs.length rfl rfl rfl (by rw [hz2];omega) (by unfold maxLen;omega) (Nat.le_refl _) ?_;intro w2 ho hg;have hb0 : Below w.heap.size w w2 := (Below.refl _ w).grown hg (Nat.le_refl _) (fun k h => by cases h);have hz3 := hg.size;clear hg)
 go_loopw [5,13] (fun fv iv wr => ∃ k : Nat,k ≤ zs.length ∧ iv = .int .i64 k ∧ wr.ownsRow w.heap.size 34 4 fv k ((chosenL fs (zs.take k)).flatMap cellsF) ∧ Below w.heap.size w wr) (fun _ iv _ => zs.length - (intOf iv).toNat)
 case atStart => exact ⟨0,Nat.zero_le _,rfl,by simpa [chosenL] using ho,hb0⟩
 case round =>
  clear hb0 hz3 ho
  obtain ⟨k,hk,rfl,ho,hb0⟩ := hrel
  have hzr := hb0.size
  obtain ⟨ua,uc,rfl,hul⟩ := owns_shape ho
  by_cases hlt : k < zs.length
  ·obtain ⟨a',ha,r0⟩ := (hi.below hb0).elem hlt
   subst ha
   obtain ⟨m,hm⟩ : ∃ m : Nat,zs[k] = (m : Int) := ⟨zs[k].toNat,by have := hz zs[k] (List.getElem_mem hlt);omega⟩
   have hmb : m < fs.length := by have := hz zs[k] (List.getElem_mem hlt);omega
   rw [hm] at r0
   obtain ⟨b',hb',hrl,hc0,hcc⟩ := (show RowsAt 4 wr (.slice la (fs.map rowF).length lc) (fs.map rowF) by rw [List.length_map];exact hl.below hb0).row (k := m) (by rw [List.length_map];exact hmb)
   subst hb'
   obtain ⟨f,hf⟩ : ∃ f,f = fs[m] := ⟨_,rfl⟩
   have hfs : fs[m]? = some f := by rw [hf];exact List.getElem?_eq_getElem hmb
   obtain ⟨fw,fd,fh,fg⟩ := f
   have hat : (fs.map rowF)[m]'(by rw [List.length_map];exact hmb) = [fw,fd,fh,fg] := by rw [List.getElem_map, ← hf];rfl
   rw [hat] at hc0 hcc
   have p0 := hc0 _ rfl
   have p1 := hcc 1 _ (by decide) rfl
   have p2 := hcc 2 _ (by decide) rfl
   have p3 := hcc 3 _ (by decide) rfl
   clear hc0 hcc hat hrl hf
   have HE := hid (chosen_snoc (fs := fs) hlt hm hfs)
   clear hm hfs
   have hkl : (k : Int) < (zs.length : Int) := by omega
   have hmi : (m : Int) < (fs.length : Int) := by omega
   go_wp2_with (at_builtin;go_must (refine wpList_append_own _ rfl _ _ 38 rfl w.heap.size 34 i0 (.agg #[.int .i64 0, .int .i64 0, .int .i64 0, .int .i64 0]) 4 32 Tryz.underlying38 hi0 hz0 hz1 hz2 rfl (by decide) _ _ _ rfl (ho.alloc _) ⟨wr.heap.size,0,none⟩ 1 1 (cellsF (⟨fw,fd,fh,fg⟩ : Ft)) rfl rfl ?c1 one_cellsF (by unfold maxLen;omega) (by omega) (by simp;omega) ?_;(case c1 => exact new_cellsF wr (⟨fw,fd,fh,fg⟩ : Ft) 34);intro v' w4 ho4 hg4 hnil;replace hb0 := below_grown (hb0.alloc (by omega) _) hg4 (ho.alloc _) (by simp;omega) (by omega);clear hg4 hnil ho))
   rw [HE.out] at ho4
   go_roundw
   case rel => exact ⟨k + 1,by omega,by go_num,ho4,hb0⟩
   case measure => first | (simp [intOf];done) | (simp [intOf];omega)
  ·obtain rfl : k = zs.length := by omega
   rw [List.take_length] at ho
   go_wp2_with fail
   go_ret
   exact ⟨_,rfl,hb0,by rw [show (chosenL fs zs).length = zs.length from List.length_map ..];exact ho⟩
end Go.Proofs.YtodmidchpbcnpaaGreat
namespace Go.Proofs.YtodmidchpbcnpaaGreat
open Go.RowKit Go.Pb Go.Pb.Ware Go.Pb.Sag


def OwnL (T n m : Nat) (cs : List Value) (W : World) (e : Ending) (w' : World) : Prop := ∃ v,e = .returned v ∧ Below W.heap.size W w' ∧ w'.ownsRow W.heap.size T n v m cs
def sumL (a b : Nat) : Nat → Int
 | 0 => 0
 | 1 => a
 | _ => (a : Int) + b
def manyL (a b : Nat) : Nat → Nat
 | 0 => 0
 | 1 => a
 | _ => a + b
def catL (xs ys : List Value) : Nat → List Value
 | 0 => []
 | 1 => xs
 | _ => xs ++ ys
theorem zeros_len (cs : Array Value) (k : Nat) : (Builtin.zeroCells cs k).size = k * cs.size := by
 unfold Builtin.zeroCells
 induction k with
 | zero => simp
 | succ k ih => simp [Nat.succ_mul]
theorem Tryz.infoLX : (Tryz.prog.info? 32).map (fun i => (i.zero,i.size,i.bytes)) = some (some (.agg #[.int .i64 0, .int .i64 0, .int .i64 0]),3,24) := by kernel_rfl
set_option maxRecDepth 100000 in
set_option maxHeartbeats 2000000 in
theorem growX {n : Nat} {w : World} (hn : n ≤ 1000000) :
  Calls Tryz.prog 159 #[.slice none 0 0, .int .i64 n] w (OwnL 32 3 0 [] w) := by
 obtain ⟨i0,hi,hz0,hz1,hz2⟩ := info_parts Tryz.infoLX
 have h9 : (n : Int) ≤ 9223372036854775807 := by omega
 by_cases h0 : 0 < n
 ·have h1 : (0 : Int) < n := by omega
  go_enter Tryz.func159,Tryz.ntmps159
  go_wp2_with (at_builtin;go_must (refine Lib.wpList_append_run _ rfl _ _ _ _ rfl _ _ rfl rfl _ _ (Lib.run_append_nil_zeros _ 28 3 _ 32 i0 (.agg #[.int .i64 0, .int .i64 0, .int .i64 0]) .i64 .i64 Tryz.underlying28 Tryz.underlying3 hi hz0 n h0 (by omega) h9 (by rw [hz2];omega)) ?_))
  go_ret
  refine ⟨_,rfl,by go_grown, ?_⟩
  have hc := grownCap_ge w n 0 32
  refine World.ownsRow_made w.drew _ _ (by simp) (grownCap_le_maxLen w n 0 32 (by unfold maxLen;omega)) ?_
  rw [Array.size_append,zeros_len,zeros_len, ← Nat.add_mul,show n + (grownCap w n 0 32 - n) = grownCap w n 0 32 by omega]
  rfl
 ·obtain rfl : n = 0 := by omega
  go_enter Tryz.func159,Tryz.ntmps159
  go_wp2
  go_ret
  exact ⟨_,rfl,by go_grown,World.ownsRow_nil _ _ _ _⟩
set_option maxRecDepth 100000 in
set_option maxHeartbeats 4000000 in
theorem concatX {B m1 m2 : Nat} {v1 v2 : Value} {xs ys : List Value} {w : World} (h1 : LAt 3 w v1 m1 xs) (h2 : LAt 3 w v2 m2 ys) (d0 : w.cell? ⟨B,0,none⟩ = some v1) (d1 : w.cell? ⟨B,1,none⟩ = some v2) (hx : m1 ≤ 1000) (hy : m2 ≤ 1000) :
  Calls Tryz.prog 137 #[.slice (some ⟨B,0,none⟩) 2 2] w (OwnL 32 3 (m1 + m2) (xs ++ ys) w) := by
 obtain ⟨o1,c1,rfl, -, -, -⟩ := h1.shape
 obtain ⟨o2,c2,rfl, -, -, -⟩ := h2.shape
 obtain ⟨i0,hi,hz0,hz1,hz2⟩ := info_parts Tryz.infoLX
 go_enter Tryz.func137,Tryz.ntmps137
 go_wp2_with fail
 go_loopw [3,11] (fun s i wr => ∃ k : Nat,k ≤ 2 ∧ i = .int .i64 k ∧ s = .int .i64 (sumL m1 m2 k) ∧ Below w.heap.size w wr) (fun _ i _ => 2 - (intOf i).toNat)
 case atStart => exact ⟨0,by omega,rfl,rfl,by go_grown⟩
 case round =>
  obtain ⟨k,hk,rfl,rfl,hb0⟩ := hrel
  have hz0' := hb0.size
  have q0 := bkeep hb0 d0
  have q1 := bkeep hb0 d1
  obtain rfl | rfl | rfl : k = 0 ∨ k = 1 ∨ k = 2 := by omega
  ·simp only [sumL]
   go_wp2_with fail
   go_roundw
   case rel => exact ⟨1,by omega,by go_num,by first | rfl | (simp only [sumL];done) | (simp only [sumL];go_num),hb0⟩
   case measure => first | (simp [intOf];done) | (simp [intOf];omega)
  ·simp only [sumL]
   go_wp2_with fail
   go_roundw
   case rel => exact ⟨2,by omega,by go_num,by first | rfl | (simp only [sumL];done) | (simp only [sumL];go_num),hb0⟩
   case measure => first | (simp [intOf];done) | (simp [intOf];omega)
  ·simp only [sumL]
   have hsum : (0 : Int) ≤ (m1 : Int) + m2 := by omega
   go_wp2_with fail
   refine (growX (n := m1 + m2) (by omega)).mono ?_
   rintro e w2 ⟨nv,rfl,hb,ho⟩
   replace hb0 := bnext (w := w) hb0 hb
   have hzg := hb.size
   clear hb q0 q1
   obtain ⟨vg,hvg⟩ : ∃ v,v = wr := ⟨_,rfl⟩
   rw [← hvg] at ho hzg hz0'
   clear hvg
   go_wp2_with fail
   go_loopw [6,27] (fun nv i wr => ∃ k : Nat,k ≤ 2 ∧ i = .int .i64 k ∧ wr.ownsRow vg.heap.size 32 3 nv (manyL m1 m2 k) (catL xs ys k) ∧ Below w.heap.size w wr ∧ vg.heap.size ≤ wr.heap.size) (fun _ i _ => 2 - (intOf i).toNat)
   case atStart => exact ⟨0,by omega,rfl,ho,hb0,hzg⟩
   case round =>
    clear ho hb0 hzg
    obtain ⟨k,hk,rfl,ho,hb0,hzg⟩ := hrel
    have q0 := bkeep hb0 d0
    have q1 := bkeep hb0 d1
    obtain ⟨na,nc,rfl,hnl⟩ := owns_shape ho
    obtain rfl | rfl | rfl : k = 0 ∨ k = 1 ∨ k = 2 := by omega
    ·simp only [catL,manyL] at ho
     go_wp2_with (at_builtin;go_must (refine wpList_append_lat rfl _ _ 28 rfl vg.heap.size 32 i0 (.agg #[.int .i64 0, .int .i64 0, .int .i64 0]) 3 24 Tryz.underlying28 hi hz0 hz1 hz2 rfl (by decide) _ _ _ rfl ho (.slice o1 m1 c1) m1 xs rfl (h1.below hb0) (by unfold maxLen;omega) (by omega) (by omega) ?_;intro v' w4 ho4 hg4;replace hb0 := below_grown hb0 hg4 ho (by omega) (by omega);have hz4 := hg4.size;clear hg4))
     go_roundw
     case rel => exact ⟨1,by omega,by go_num,by simpa [catL,manyL] using ho4,hb0,by omega⟩
     case measure => first | (simp [intOf];done) | (simp [intOf];omega)
    ·simp only [catL,manyL] at ho
     go_wp2_with (at_builtin;go_must (refine wpList_append_lat rfl _ _ 28 rfl vg.heap.size 32 i0 (.agg #[.int .i64 0, .int .i64 0, .int .i64 0]) 3 24 Tryz.underlying28 hi hz0 hz1 hz2 rfl (by decide) _ _ _ rfl ho (.slice o2 m2 c2) m2 ys rfl (h2.below hb0) (by unfold maxLen;omega) (by omega) (by omega) ?_;intro v' w4 ho4 hg4;replace hb0 := below_grown hb0 hg4 ho (by omega) (by omega);have hz4 := hg4.size;clear hg4))
     go_roundw
     case rel => exact ⟨2,by omega,by go_num,by simpa [catL,manyL] using ho4,hb0,by omega⟩
     case measure => first | (simp [intOf];done) | (simp [intOf];omega)
    ·go_wp2_with fail
     go_ret
     exact ⟨_,rfl,hb0,owns_base0 (by omega) ho⟩
theorem Tryz.infoLS : (Tryz.prog.info? 62).map (fun i => (i.zero,i.size,i.bytes)) = some (some (.agg #[.int .i64 0, .int .i64 0, .bool false]),3,24) := by kernel_rfl
set_option maxRecDepth 100000 in
set_option maxHeartbeats 2000000 in
theorem growS {n : Nat} {w : World} (hn : n ≤ 1000000) :
  Calls Tryz.prog 134 #[.slice none 0 0, .int .i64 n] w (OwnL 62 3 0 [] w) := by
 obtain ⟨i0,hi,hz0,hz1,hz2⟩ := info_parts Tryz.infoLS
 have h9 : (n : Int) ≤ 9223372036854775807 := by omega
 by_cases h0 : 0 < n
 ·have h1 : (0 : Int) < n := by omega
  go_enter Tryz.func134,Tryz.ntmps134
  go_wp2_with (at_builtin;go_must (refine Lib.wpList_append_run _ rfl _ _ _ _ rfl _ _ rfl rfl _ _ (Lib.run_append_nil_zeros _ 41 3 _ 62 i0 (.agg #[.int .i64 0, .int .i64 0, .bool false]) .i64 .i64 Tryz.underlying41 Tryz.underlying3 hi hz0 n h0 (by omega) h9 (by rw [hz2];omega)) ?_))
  go_ret
  refine ⟨_,rfl,by go_grown, ?_⟩
  have hc := grownCap_ge w n 0 62
  refine World.ownsRow_made w.drew _ _ (by simp) (grownCap_le_maxLen w n 0 62 (by unfold maxLen;omega)) ?_
  rw [Array.size_append,zeros_len,zeros_len, ← Nat.add_mul,show n + (grownCap w n 0 62 - n) = grownCap w n 0 62 by omega]
  rfl
 ·obtain rfl : n = 0 := by omega
  go_enter Tryz.func134,Tryz.ntmps134
  go_wp2
  go_ret
  exact ⟨_,rfl,by go_grown,World.ownsRow_nil _ _ _ _⟩
set_option maxRecDepth 100000 in
set_option maxHeartbeats 4000000 in
theorem concatS {B m1 m2 : Nat} {v1 v2 : Value} {xs ys : List Value} {w : World} (h1 : LAt 3 w v1 m1 xs) (h2 : LAt 3 w v2 m2 ys) (d0 : w.cell? ⟨B,0,none⟩ = some v1) (d1 : w.cell? ⟨B,1,none⟩ = some v2) (hx : m1 ≤ 1000) (hy : m2 ≤ 1000) :
  Calls Tryz.prog 84 #[.slice (some ⟨B,0,none⟩) 2 2] w (OwnL 62 3 (m1 + m2) (xs ++ ys) w) := by
 obtain ⟨o1,c1,rfl, -, -, -⟩ := h1.shape
 obtain ⟨o2,c2,rfl, -, -, -⟩ := h2.shape
 obtain ⟨i0,hi,hz0,hz1,hz2⟩ := info_parts Tryz.infoLS
 go_enter Tryz.func84,Tryz.ntmps84
 go_wp2_with fail
 go_loopw [3,11] (fun s i wr => ∃ k : Nat,k ≤ 2 ∧ i = .int .i64 k ∧ s = .int .i64 (sumL m1 m2 k) ∧ Below w.heap.size w wr) (fun _ i _ => 2 - (intOf i).toNat)
 case atStart => exact ⟨0,by omega,rfl,rfl,by go_grown⟩
 case round =>
  obtain ⟨k,hk,rfl,rfl,hb0⟩ := hrel
  have hz0' := hb0.size
  have q0 := bkeep hb0 d0
  have q1 := bkeep hb0 d1
  obtain rfl | rfl | rfl : k = 0 ∨ k = 1 ∨ k = 2 := by omega
  ·simp only [sumL]
   go_wp2_with fail
   go_roundw
   case rel => exact ⟨1,by omega,by go_num,by first | rfl | (simp only [sumL];done) | (simp only [sumL];go_num),hb0⟩
   case measure => first | (simp [intOf];done) | (simp [intOf];omega)
  ·simp only [sumL]
   go_wp2_with fail
   go_roundw
   case rel => exact ⟨2,by omega,by go_num,by first | rfl | (simp only [sumL];done) | (simp only [sumL];go_num),hb0⟩
   case measure => first | (simp [intOf];done) | (simp [intOf];omega)
  ·simp only [sumL]
   have hsum : (0 : Int) ≤ (m1 : Int) + m2 := by omega
   go_wp2_with fail
   refine (growS (n := m1 + m2) (by omega)).mono ?_
   rintro e w2 ⟨nv,rfl,hb,ho⟩
   replace hb0 := bnext (w := w) hb0 hb
   have hzg := hb.size
   clear hb q0 q1
   obtain ⟨vg,hvg⟩ : ∃ v,v = wr := ⟨_,rfl⟩
   rw [← hvg] at ho hzg hz0'
   clear hvg
   go_wp2_with fail
   go_loopw [6,27] (fun nv i wr => ∃ k : Nat,k ≤ 2 ∧ i = .int .i64 k ∧ wr.ownsRow vg.heap.size 62 3 nv (manyL m1 m2 k) (catL xs ys k) ∧ Below w.heap.size w wr ∧ vg.heap.size ≤ wr.heap.size) (fun _ i _ => 2 - (intOf i).toNat)
   case atStart => exact ⟨0,by omega,rfl,ho,hb0,hzg⟩
   case round =>
    clear ho hb0 hzg
    obtain ⟨k,hk,rfl,ho,hb0,hzg⟩ := hrel
    have q0 := bkeep hb0 d0
    have q1 := bkeep hb0 d1
    obtain ⟨na,nc,rfl,hnl⟩ := owns_shape ho
    obtain rfl | rfl | rfl : k = 0 ∨ k = 1 ∨ k = 2 := by omega
    ·simp only [catL,manyL] at ho
     go_wp2_with (at_builtin;go_must (refine wpList_append_lat rfl _ _ 41 rfl vg.heap.size 62 i0 (.agg #[.int .i64 0, .int .i64 0, .bool false]) 3 24 Tryz.underlying41 hi hz0 hz1 hz2 rfl (by decide) _ _ _ rfl ho (.slice o1 m1 c1) m1 xs rfl (h1.below hb0) (by unfold maxLen;omega) (by omega) (by omega) ?_;intro v' w4 ho4 hg4;replace hb0 := below_grown hb0 hg4 ho (by omega) (by omega);have hz4 := hg4.size;clear hg4))
     go_roundw
     case rel => exact ⟨1,by omega,by go_num,by simpa [catL,manyL] using ho4,hb0,by omega⟩
     case measure => first | (simp [intOf];done) | (simp [intOf];omega)
    ·simp only [catL,manyL] at ho
     go_wp2_with (at_builtin;go_must (refine wpList_append_lat rfl _ _ 41 rfl vg.heap.size 62 i0 (.agg #[.int .i64 0, .int .i64 0, .bool false]) 3 24 Tryz.underlying41 hi hz0 hz1 hz2 rfl (by decide) _ _ _ rfl ho (.slice o2 m2 c2) m2 ys rfl (h2.below hb0) (by unfold maxLen;omega) (by omega) (by omega) ?_;intro v' w4 ho4 hg4;replace hb0 := below_grown hb0 hg4 ho (by omega) (by omega);have hz4 := hg4.size;clear hg4))
     go_roundw
     case rel => exact ⟨2,by omega,by go_num,by simpa [catL,manyL] using ho4,hb0,by omega⟩
     case measure => first | (simp [intOf];done) | (simp [intOf];omega)
    ·go_wp2_with fail
     go_ret
     exact ⟨_,rfl,hb0,owns_base0 (by omega) ho⟩
end Go.Proofs.YtodmidchpbcnpaaGreat
namespace Go.Proofs.YtodmidchpbcnpaaGreat
open Go.RowKit Go.Pb Go.Pb.Ware Go.Pb.Sag


theorem concat_freshX {base m1 m2 m : Nat} {v1 v2 : Value} {xs ys zs : List Value} {v : Value} {w : World} (hbs : base ≤ w.heap.size) (e1 : m1 + m2 = m) (ez : xs ++ ys = zs) (h1 : LAt 3 w v1 m1 xs) (h2 : LAt 3 w v2 m2 ys)
  (hp : IsPair v1 v2 v w) (hx : m1 ≤ 1000) (hy : m2 ≤ 1000) :
  Calls Tryz.prog 137 #[v] w fun e w'' => ∃ u,e = .returned u ∧ Below w.heap.size w w'' ∧ w''.ownsRow base 32 3 u m zs := by
 subst e1;subst ez
 obtain ⟨B,rfl,d0,d1⟩ := hp
 exact (concatX h1 h2 d0 d1 hx hy).mono fun e w' ⟨v,e1,hb,ho⟩ => ⟨v,e1,hb,owns_base0 hbs ho⟩
set_option maxRecDepth 100000 in
set_option maxHeartbeats 4000000 in
theorem withoutPX {v : Value} {m i : Nat} {cs : List Value} {w : World} (h : LAt 3 w v m cs) (hi : i < m) (hm : m ≤ 1000) :
  Calls Tryz.prog 86 #[v, .int .i64 i] w (OwnL 32 3 (m - 1) (cs.take (i * 3) ++ cs.drop ((i + 1) * 3)) w) := by
 obtain ⟨oa,cap,rfl,hl1,hl2,hl3⟩ := h.shape
 cases oa with
 | none => exact absurd (hl3 rfl).1 (by omega)
 | some a' =>
  have h1 := h.head (k := i) (by omega)
  have W1 : IntKind.i64.wrap ((i : Int) + 1) = (i : Int) + 1 := IntWalk.i64_in _ (by omega)
  have W2 : (0 : Int) ≤ (i : Int) + 1 := by omega
  have W3 : ((i : Int) + 1).toNat = i + 1 := by omega
  by_cases hc : cap = i + 1
  ·obtain rfl : m = i + 1 := by omega
   subst hc
   have h2 : LAt 3 w (.slice (some a') (0) (0)) (0) (cs.drop ((i + 1) * 3)) := by simpa using h.tail (q := a') (k := i + 1) (by omega) (fun hh => by omega)
   go_enter Tryz.func86,Tryz.ntmps86
   go_upto_region 1 with fail
   refine wp_region_Rs [(7,IsPair (.slice (some a') i (i + 1)) (.slice (some a') (0) (0))),(8,fun v W => W.ownsRow w.heap.size 32 3 v (i) (cs.take (i * 3) ++ cs.drop ((i + 1) * 3)))] [0,1,2,3,4,5,6,7,8] 1 (by kernel_rfl) rfl (by simp only [List.forall_mem_cons];exact ⟨keeps_pair,keeps_owns,fun _ h => by cases h⟩) (by kernel_rfl) ?_
   simp only [numbered,List.filterMap_cons,List.filterMap_nil,List.getElem?_toArray,List.getElem?_cons_succ,List.getElem?_cons_zero,Option.map_some]
   show wpS _ _ _ _ _ _ _ [(_,_),(_,_),(_,_),(_,_),(_,_),(_,_),(_,_),(_,_),(_,_)] _ _
   (refine wpS_quiet rfl rfl ?_;intro K hK inst hx;go_big_quiet_op;go_big_quiet_on;clear hx inst)
   (refine wpS_quiet rfl rfl ?_;intro K hK inst hx;go_big_quiet_op;go_big_quiet_on;clear hx inst)
   (refine wpS_quiet rfl rfl ?_;intro K hK inst hx;go_big_quiet_op;go_big_quiet_on;clear hx inst)
   (refine wpS_quiet rfl rfl ?_;intro K hK inst hx;go_big_quiet_op;go_big_quiet_on;clear hx inst)
   (refine wpS_quiet rfl rfl ?_;intro K hK inst hx;go_big_quiet_op;go_big_quiet_on;clear hx inst)
   (refine wpS_quiet rfl rfl ?_;intro K hK inst hx;go_big_quiet_op;go_big_quiet_on;clear hx inst)
   (refine wpS_quiet rfl rfl ?_;intro K hK inst hx;go_big_quiet_op;go_big_quiet_on;clear hx inst)
   refine wpS_fresh rfl rfl (fun w' hb hF => ?_) ?_
   ·change freshAt _ _ _ (IsPair (.slice (some a') i (i + 1)) (.slice (some a') (0) (0))) _;unfold freshAt;go_simp;exact ⟨by go_grown,_,rfl,by simp,by simp⟩
   intro v W hv;simp only [pOf,List.lookup_cons,Nat.reduceBEq,beq_self_eq_true] at hv;obtain ⟨Bv,rfl, -, -⟩ := hv
   simp only [Act.put,List.setIfInBounds_toArray,List.set_cons_succ,List.set_cons_zero]
   refine wpS_fresh rfl rfl (fun w' hb hF => ?_) ?_
   ·change freshAt _ _ _ (fun v W => W.ownsRow w.heap.size 32 3 v (i) (cs.take (i * 3) ++ cs.drop ((i + 1) * 3))) _;have h7 := hF 7 _ rfl (by kernel_rfl);unfold freshAt;go_simp;exact concat_freshX hb.size (by omega) rfl (h1.below hb) (h2.below hb) h7 (by omega) (by omega)
   intro v W hv;simp only [pOf,List.lookup_cons,Nat.reduceBEq,beq_self_eq_true] at hv;skip
   simp only [Act.put,List.setIfInBounds_toArray,List.set_cons_succ,List.set_cons_zero]
   refine wpS_nil ?_
   intro w2 hall
   have hb := hall.1
   refine wpAny_ready (rs := [9]) (by kernel_rfl) (by simp) ?_
   refine AllReady.cons rfl (fun K hK => ?_) AllReady.nil
   go_simp
   refine hK _ _ ?_;clear hK K
   refine wpAny_done (by kernel_rfl) ?_ _
   go_wp2_with fail
   go_ret
   exact ⟨_,rfl,by go_grown,hall.2 8 _ rfl⟩
  ·have h2 : LAt 3 w (.slice (some (a'.add ((i + 1) * 3))) (m - (i + 1)) (cap - (i + 1))) (m - (i + 1)) (cs.drop ((i + 1) * 3)) := h.tail (k := i + 1) (by omega) (fun _ => rfl)
   go_enter Tryz.func86,Tryz.ntmps86
   go_upto_region 1 with fail
   refine wp_region_Rs [(7,IsPair (.slice (some a') i cap) (.slice (some (a'.add ((i + 1) * 3))) (m - (i + 1)) (cap - (i + 1)))),(8,fun v W => W.ownsRow w.heap.size 32 3 v (m - 1) (cs.take (i * 3) ++ cs.drop ((i + 1) * 3)))] [0,1,2,3,4,5,6,7,8] 1 (by kernel_rfl) rfl (by simp only [List.forall_mem_cons];exact ⟨keeps_pair,keeps_owns,fun _ h => by cases h⟩) (by kernel_rfl) ?_
   simp only [numbered,List.filterMap_cons,List.filterMap_nil,List.getElem?_toArray,List.getElem?_cons_succ,List.getElem?_cons_zero,Option.map_some]
   show wpS _ _ _ _ _ _ _ [(_,_),(_,_),(_,_),(_,_),(_,_),(_,_),(_,_),(_,_),(_,_)] _ _
   (refine wpS_quiet rfl rfl ?_;intro K hK inst hx;go_big_quiet_op;go_big_quiet_on;clear hx inst)
   (refine wpS_quiet rfl rfl ?_;intro K hK inst hx;go_big_quiet_op;go_big_quiet_on;clear hx inst)
   (refine wpS_quiet rfl rfl ?_;intro K hK inst hx;go_big_quiet_op;go_big_quiet_on;clear hx inst)
   (refine wpS_quiet rfl rfl ?_;intro K hK inst hx;go_big_quiet_op;go_big_quiet_on;clear hx inst)
   (refine wpS_quiet rfl rfl ?_;intro K hK inst hx;go_big_quiet_op;go_big_quiet_on;clear hx inst)
   (refine wpS_quiet rfl rfl ?_;intro K hK inst hx;go_big_quiet_op;go_big_quiet_on;clear hx inst)
   (refine wpS_quiet rfl rfl ?_;intro K hK inst hx;go_big_quiet_op;go_big_quiet_on;clear hx inst)
   refine wpS_fresh rfl rfl (fun w' hb hF => ?_) ?_
   ·change freshAt _ _ _ (IsPair (.slice (some a') i cap) (.slice (some (a'.add ((i + 1) * 3))) (m - (i + 1)) (cap - (i + 1)))) _;unfold freshAt;go_simp;exact ⟨by go_grown,_,rfl,by simp,by simp⟩
   intro v W hv;simp only [pOf,List.lookup_cons,Nat.reduceBEq,beq_self_eq_true] at hv;obtain ⟨Bv,rfl, -, -⟩ := hv
   simp only [Act.put,List.setIfInBounds_toArray,List.set_cons_succ,List.set_cons_zero]
   refine wpS_fresh rfl rfl (fun w' hb hF => ?_) ?_
   ·change freshAt _ _ _ (fun v W => W.ownsRow w.heap.size 32 3 v (m - 1) (cs.take (i * 3) ++ cs.drop ((i + 1) * 3))) _;have h7 := hF 7 _ rfl (by kernel_rfl);unfold freshAt;go_simp;exact concat_freshX hb.size (by omega) rfl (h1.below hb) (h2.below hb) h7 (by omega) (by omega)
   intro v W hv;simp only [pOf,List.lookup_cons,Nat.reduceBEq,beq_self_eq_true] at hv;skip
   simp only [Act.put,List.setIfInBounds_toArray,List.set_cons_succ,List.set_cons_zero]
   refine wpS_nil ?_
   intro w2 hall
   have hb := hall.1
   refine wpAny_ready (rs := [9]) (by kernel_rfl) (by simp) ?_
   refine AllReady.cons rfl (fun K hK => ?_) AllReady.nil
   go_simp
   refine hK _ _ ?_;clear hK K
   refine wpAny_done (by kernel_rfl) ?_ _
   go_wp2_with fail
   go_ret
   exact ⟨_,rfl,by go_grown,hall.2 8 _ rfl⟩
theorem concat_freshS {base m1 m2 m : Nat} {v1 v2 : Value} {xs ys zs : List Value} {v : Value} {w : World} (hbs : base ≤ w.heap.size) (e1 : m1 + m2 = m) (ez : xs ++ ys = zs) (h1 : LAt 3 w v1 m1 xs) (h2 : LAt 3 w v2 m2 ys)
  (hp : IsPair v1 v2 v w) (hx : m1 ≤ 1000) (hy : m2 ≤ 1000) :
  Calls Tryz.prog 84 #[v] w fun e w'' => ∃ u,e = .returned u ∧ Below w.heap.size w w'' ∧ w''.ownsRow base 62 3 u m zs := by
 subst e1;subst ez
 obtain ⟨B,rfl,d0,d1⟩ := hp
 exact (concatS h1 h2 d0 d1 hx hy).mono fun e w' ⟨v,e1,hb,ho⟩ => ⟨v,e1,hb,owns_base0 hbs ho⟩
set_option maxRecDepth 100000 in
set_option maxHeartbeats 4000000 in
theorem withoutPS {v : Value} {m i : Nat} {cs : List Value} {w : World} (h : LAt 3 w v m cs) (hi : i < m) (hm : m ≤ 1000) :
  Calls Tryz.prog 87 #[v, .int .i64 i] w (OwnL 62 3 (m - 1) (cs.take (i * 3) ++ cs.drop ((i + 1) * 3)) w) := by
 obtain ⟨oa,cap,rfl,hl1,hl2,hl3⟩ := h.shape
 cases oa with
 | none => exact absurd (hl3 rfl).1 (by omega)
 | some a' =>
  have h1 := h.head (k := i) (by omega)
  have W1 : IntKind.i64.wrap ((i : Int) + 1) = (i : Int) + 1 := IntWalk.i64_in _ (by omega)
  have W2 : (0 : Int) ≤ (i : Int) + 1 := by omega
  have W3 : ((i : Int) + 1).toNat = i + 1 := by omega
  by_cases hc : cap = i + 1
  ·obtain rfl : m = i + 1 := by omega
   subst hc
   have h2 : LAt 3 w (.slice (some a') (0) (0)) (0) (cs.drop ((i + 1) * 3)) := by simpa using h.tail (q := a') (k := i + 1) (by omega) (fun hh => by omega)
   go_enter Tryz.func87,Tryz.ntmps87
   go_upto_region 1 with fail
   refine wp_region_Rs [(7,IsPair (.slice (some a') i (i + 1)) (.slice (some a') (0) (0))),(8,fun v W => W.ownsRow w.heap.size 62 3 v (i) (cs.take (i * 3) ++ cs.drop ((i + 1) * 3)))] [0,1,2,3,4,5,6,7,8] 1 (by kernel_rfl) rfl (by simp only [List.forall_mem_cons];exact ⟨keeps_pair,keeps_owns,fun _ h => by cases h⟩) (by kernel_rfl) ?_
   simp only [numbered,List.filterMap_cons,List.filterMap_nil,List.getElem?_toArray,List.getElem?_cons_succ,List.getElem?_cons_zero,Option.map_some]
   show wpS _ _ _ _ _ _ _ [(_,_),(_,_),(_,_),(_,_),(_,_),(_,_),(_,_),(_,_),(_,_)] _ _
   (refine wpS_quiet rfl rfl ?_;intro K hK inst hx;go_big_quiet_op;go_big_quiet_on;clear hx inst)
   (refine wpS_quiet rfl rfl ?_;intro K hK inst hx;go_big_quiet_op;go_big_quiet_on;clear hx inst)
   (refine wpS_quiet rfl rfl ?_;intro K hK inst hx;go_big_quiet_op;go_big_quiet_on;clear hx inst)
   (refine wpS_quiet rfl rfl ?_;intro K hK inst hx;go_big_quiet_op;go_big_quiet_on;clear hx inst)
   (refine wpS_quiet rfl rfl ?_;intro K hK inst hx;go_big_quiet_op;go_big_quiet_on;clear hx inst)
   (refine wpS_quiet rfl rfl ?_;intro K hK inst hx;go_big_quiet_op;go_big_quiet_on;clear hx inst)
   (refine wpS_quiet rfl rfl ?_;intro K hK inst hx;go_big_quiet_op;go_big_quiet_on;clear hx inst)
   refine wpS_fresh rfl rfl (fun w' hb hF => ?_) ?_
   ·change freshAt _ _ _ (IsPair (.slice (some a') i (i + 1)) (.slice (some a') (0) (0))) _;unfold freshAt;go_simp;exact ⟨by go_grown,_,rfl,by simp,by simp⟩
   intro v W hv;simp only [pOf,List.lookup_cons,Nat.reduceBEq,beq_self_eq_true] at hv;obtain ⟨Bv,rfl, -, -⟩ := hv
   simp only [Act.put,List.setIfInBounds_toArray,List.set_cons_succ,List.set_cons_zero]
   refine wpS_fresh rfl rfl (fun w' hb hF => ?_) ?_
   ·change freshAt _ _ _ (fun v W => W.ownsRow w.heap.size 62 3 v (i) (cs.take (i * 3) ++ cs.drop ((i + 1) * 3))) _;have h7 := hF 7 _ rfl (by kernel_rfl);unfold freshAt;go_simp;exact concat_freshS hb.size (by omega) rfl (h1.below hb) (h2.below hb) h7 (by omega) (by omega)
   intro v W hv;simp only [pOf,List.lookup_cons,Nat.reduceBEq,beq_self_eq_true] at hv;skip
   simp only [Act.put,List.setIfInBounds_toArray,List.set_cons_succ,List.set_cons_zero]
   refine wpS_nil ?_
   intro w2 hall
   have hb := hall.1
   refine wpAny_ready (rs := [9]) (by kernel_rfl) (by simp) ?_
   refine AllReady.cons rfl (fun K hK => ?_) AllReady.nil
   go_simp
   refine hK _ _ ?_;clear hK K
   refine wpAny_done (by kernel_rfl) ?_ _
   go_wp2_with fail
   go_ret
   exact ⟨_,rfl,by go_grown,hall.2 8 _ rfl⟩
  ·have h2 : LAt 3 w (.slice (some (a'.add ((i + 1) * 3))) (m - (i + 1)) (cap - (i + 1))) (m - (i + 1)) (cs.drop ((i + 1) * 3)) := h.tail (k := i + 1) (by omega) (fun _ => rfl)
   go_enter Tryz.func87,Tryz.ntmps87
   go_upto_region 1 with fail
   refine wp_region_Rs [(7,IsPair (.slice (some a') i cap) (.slice (some (a'.add ((i + 1) * 3))) (m - (i + 1)) (cap - (i + 1)))),(8,fun v W => W.ownsRow w.heap.size 62 3 v (m - 1) (cs.take (i * 3) ++ cs.drop ((i + 1) * 3)))] [0,1,2,3,4,5,6,7,8] 1 (by kernel_rfl) rfl (by simp only [List.forall_mem_cons];exact ⟨keeps_pair,keeps_owns,fun _ h => by cases h⟩) (by kernel_rfl) ?_
   simp only [numbered,List.filterMap_cons,List.filterMap_nil,List.getElem?_toArray,List.getElem?_cons_succ,List.getElem?_cons_zero,Option.map_some]
   show wpS _ _ _ _ _ _ _ [(_,_),(_,_),(_,_),(_,_),(_,_),(_,_),(_,_),(_,_),(_,_)] _ _
   (refine wpS_quiet rfl rfl ?_;intro K hK inst hx;go_big_quiet_op;go_big_quiet_on;clear hx inst)
   (refine wpS_quiet rfl rfl ?_;intro K hK inst hx;go_big_quiet_op;go_big_quiet_on;clear hx inst)
   (refine wpS_quiet rfl rfl ?_;intro K hK inst hx;go_big_quiet_op;go_big_quiet_on;clear hx inst)
   (refine wpS_quiet rfl rfl ?_;intro K hK inst hx;go_big_quiet_op;go_big_quiet_on;clear hx inst)
   (refine wpS_quiet rfl rfl ?_;intro K hK inst hx;go_big_quiet_op;go_big_quiet_on;clear hx inst)
   (refine wpS_quiet rfl rfl ?_;intro K hK inst hx;go_big_quiet_op;go_big_quiet_on;clear hx inst)
   (refine wpS_quiet rfl rfl ?_;intro K hK inst hx;go_big_quiet_op;go_big_quiet_on;clear hx inst)
   refine wpS_fresh rfl rfl (fun w' hb hF => ?_) ?_
   ·change freshAt _ _ _ (IsPair (.slice (some a') i cap) (.slice (some (a'.add ((i + 1) * 3))) (m - (i + 1)) (cap - (i + 1)))) _;unfold freshAt;go_simp;exact ⟨by go_grown,_,rfl,by simp,by simp⟩
   intro v W hv;simp only [pOf,List.lookup_cons,Nat.reduceBEq,beq_self_eq_true] at hv;obtain ⟨Bv,rfl, -, -⟩ := hv
   simp only [Act.put,List.setIfInBounds_toArray,List.set_cons_succ,List.set_cons_zero]
   refine wpS_fresh rfl rfl (fun w' hb hF => ?_) ?_
   ·change freshAt _ _ _ (fun v W => W.ownsRow w.heap.size 62 3 v (m - 1) (cs.take (i * 3) ++ cs.drop ((i + 1) * 3))) _;have h7 := hF 7 _ rfl (by kernel_rfl);unfold freshAt;go_simp;exact concat_freshS hb.size (by omega) rfl (h1.below hb) (h2.below hb) h7 (by omega) (by omega)
   intro v W hv;simp only [pOf,List.lookup_cons,Nat.reduceBEq,beq_self_eq_true] at hv;skip
   simp only [Act.put,List.setIfInBounds_toArray,List.set_cons_succ,List.set_cons_zero]
   refine wpS_nil ?_
   intro w2 hall
   have hb := hall.1
   refine wpAny_ready (rs := [9]) (by kernel_rfl) (by simp) ?_
   refine AllReady.cons rfl (fun K hK => ?_) AllReady.nil
   go_simp
   refine hK _ _ ?_;clear hK K
   refine wpAny_done (by kernel_rfl) ?_ _
   go_wp2_with fail
   go_ret
   exact ⟨_,rfl,by go_grown,hall.2 8 _ rfl⟩
end Go.Proofs.YtodmidchpbcnpaaGreat