/- Part of a claim. -/
import Derived.Test.YthdfnkdifjajlaaGreatDoorKW2U
import Derived.Lib.AppendZeros
import Derived.Deep.DeepMust
set_option linter.unusedVariables false
set_option linter.unusedSimpArgs false
namespace Go.Proofs.YthdfnkdifjajlaaGreatDoor
open Go.RowKit Go.Pb Go.Pb.Ware


theorem Tryz.infoI : (Tryz.prog.info? 3).map (fun i => (i.zero,i.size,i.bytes)) = some (some (.int .i64 0),1,8) := by kernel_rfl
def Owns0 (W : World) (e : Ending) (w' : World) : Prop := ∃ v,e = .returned v ∧ Below W.heap.size W w' ∧ w'.ownsRow W.heap.size 3 1 v 0 []
theorem zeros_size (k : Nat) : (Builtin.zeroCells #[Value.int .i64 0] k).size = k := by simp [Builtin.zeroCells]
set_option maxRecDepth 100000 in
set_option maxHeartbeats 2000000 in
theorem grow_nil {n : Nat} {w : World} (hn : n ≤ 1000000) :
  Calls Tryz.prog 121 #[.slice none 0 0, .int .i64 n] w (Owns0 w) := by
 obtain ⟨i0,hi,hz0,hz1,hz2⟩ := info_parts Tryz.infoI
 have h9 : (n : Int) ≤ 9223372036854775807 := by omega
 by_cases h0 : 0 < n
 ·have h1 : (0 : Int) < n := by omega
  go_enter Tryz.func121,Tryz.ntmps121
  go_wp2_with (at_builtin;go_must (refine Lib.wpList_append_run _ rfl _ _ _ _ rfl _ _ rfl rfl _ _ (Lib.run_append_nil_zeros _ 73 3 _ 3 i0 (.int .i64 0) .i64 .i64 Tryz.underlying73 Tryz.underlying3 hi hz0 n h0 (by omega) h9 (by rw [hz2];omega)) ?_))
  go_ret
  refine ⟨_,rfl,by go_grown, ?_⟩
  have hc := grownCap_ge w n 0 3
  refine World.ownsRow_made w.drew _ _ (by simp) (grownCap_le_maxLen w n 0 3 (by unfold maxLen;omega)) ?_
  rw [Array.size_append,zeros_size,zeros_size];omega
 ·obtain rfl : n = 0 := by omega
  go_enter Tryz.func121,Tryz.ntmps121
  go_wp2
  go_ret
  exact ⟨_,rfl,by go_grown,World.ownsRow_nil _ _ _ _⟩
def OwnNums (T : TypeId) (zs : List Int) (W : World) (e : Ending) (w' : World) : Prop := ∃ v,e = .returned v ∧ Below W.heap.size W w' ∧ w'.ownsRow W.heap.size T 1 v zs.length (zs.map (Value.int .i64))
def sumTo (a b : Nat) : Nat → Int
 | 0 => 0
 | 1 => a
 | _ => (a : Int) + b
def catTo (xs ys : List Int) : Nat → List Int
 | 0 => []
 | 1 => xs
 | _ => xs ++ ys
theorem owns_base0 {w : World} {b b2 size n : Nat} {e : TypeId} {v : Value} {xs : List Value} (hb : b2 ≤ b) (h : w.ownsRow b e size v n xs) : w.ownsRow b2 e size v n xs := by
 refine ⟨h.1, ?_⟩
 rcases h.2 with hn | ⟨g,cap,cur,h1,h2,h3⟩
 ·exact .inl hn
 ·exact .inr ⟨g,cap,cur,h1,Nat.le_trans hb h2,h3⟩
theorem nums_cells {w : World} {a : Addr} {cap : Nat} {zs : List Int} (h : NumsAt w (.slice (some a) zs.length cap) zs) : ∀ j u,(zs.map (Value.int .i64))[j]? = some u → w.cell? (a.add j) = some u := by
 intro j u hu
 rw [List.getElem?_map] at hu
 obtain ⟨z,hz,rfl⟩ := Option.map_eq_some_iff.1 hu
 have hk : j < zs.length := (List.getElem?_eq_some_iff.1 hz).1
 obtain ⟨a',ha,hc⟩ := h.elem hk
 cases ha
 rw [hc,(List.getElem?_eq_some_iff.1 hz).2]
theorem nums_one {zs : List Int} : ∀ u ∈ zs.map (Value.int .i64),u.oneCell' = true := by
 intro u hu
 obtain ⟨z,_,rfl⟩ := List.mem_map.1 hu
 rfl
set_option maxRecDepth 100000 in
set_option maxHeartbeats 4000000 in
theorem concat_own {B c1 c2 : Nat} {a1 a2 : Addr} {xs ys : List Int} {w : World} (h1 : NumsAt w (.slice (some a1) xs.length c1) xs) (h2 : NumsAt w (.slice (some a2) ys.length c2) ys) (d0 : w.cell? ⟨B,0,none⟩ = some (.slice (some a1) xs.length c1)) (d1 : w.cell? ⟨B,1,none⟩ = some (.slice (some a2) ys.length c2)) (hx : xs.length ≤ 1000) (hy : ys.length ≤ 1000) :
  Calls Tryz.prog 101 #[.slice (some ⟨B,0,none⟩) 2 2] w (OwnNums 3 (xs ++ ys) w) := by
 obtain ⟨i0,hi,hz0,hz1,hz2⟩ := info_parts Tryz.infoI
 go_enter Tryz.func101,Tryz.ntmps101
 go_wp2_with fail
 go_loopw [3,11] (fun s i wr => ∃ k : Nat,k ≤ 2 ∧ i = .int .i64 k ∧ s = .int .i64 (sumTo xs.length ys.length k) ∧ Below w.heap.size w wr) (fun _ i _ => 2 - (intOf i).toNat)
 case atStart => exact ⟨0,by omega,rfl,rfl,by go_grown⟩
 case round =>
  obtain ⟨k,hk,rfl,rfl,hb0⟩ := hrel
  have hz0' := hb0.size
  have q0 := bkeep hb0 d0
  have q1 := bkeep hb0 d1
  obtain rfl | rfl | rfl : k = 0 ∨ k = 1 ∨ k = 2 := by omega
  ·simp only [sumTo]
   go_wp2_with fail
   go_roundw
   case rel => exact ⟨1,by omega,by go_num,by first | rfl | (simp only [sumTo];done) | (simp only [sumTo];go_num),hb0⟩
   case measure => first | (simp [intOf];done) | (simp [intOf];omega)
  ·simp only [sumTo]
   go_wp2_with fail
   go_roundw
   case rel => exact ⟨2,by omega,by go_num,by first | rfl | (simp only [sumTo];done) | (simp only [sumTo];go_num),hb0⟩
   case measure => first | (simp [intOf];done) | (simp [intOf];omega)
  ·simp only [sumTo]
   have hsum : (0 : Int) ≤ (xs.length : Int) + ys.length := by omega
   go_wp2_with fail
   refine (grow_nil (n := xs.length + ys.length) (by omega)).mono ?_
   rintro e w2 ⟨nv,rfl,hb,ho⟩
   replace hb0 := bnext (w := w) hb0 hb
   have hzg := hb.size
   clear hb q0 q1
   obtain ⟨vg,hvg⟩ : ∃ v,v = wr := ⟨_,rfl⟩
   rw [← hvg] at ho hzg hz0'
   clear hvg
   go_wp2_with fail
   go_loopw [6,27] (fun nv i wr => ∃ k : Nat,k ≤ 2 ∧ i = .int .i64 k ∧ wr.ownsRow vg.heap.size 3 1 nv (catTo xs ys k).length ((catTo xs ys k).map (Value.int .i64)) ∧ Below w.heap.size w wr ∧ vg.heap.size ≤ wr.heap.size) (fun _ i _ => 2 - (intOf i).toNat)
   case atStart => exact ⟨0,by omega,rfl,ho,hb0,hzg⟩
   case round =>
    clear ho hb0 hzg
    obtain ⟨k,hk,rfl,ho,hb0,hzg⟩ := hrel
    have q0 := bkeep hb0 d0
    have q1 := bkeep hb0 d1
    obtain ⟨na,nc,rfl,hnl⟩ := owns_shape ho
    obtain rfl | rfl | rfl : k = 0 ∨ k = 1 ∨ k = 2 := by omega
    ·simp only [catTo] at ho
     go_wp2_with (at_builtin;go_must (refine wpList_append_own _ rfl _ _ 73 rfl vg.heap.size 3 i0 (.int .i64 0) 1 8 Tryz.underlying73 hi hz0 hz1 hz2 rfl (by decide) _ _ _ rfl ho a1 xs.length c1 (xs.map (Value.int .i64)) rfl (by simp) (nums_cells (h1.below hb0)) nums_one (by unfold maxLen;(try simp only [List.length_nil]);omega) (by (try simp only [List.length_nil]);omega) (by omega) ?_;intro v' w4 ho4 hg4 hnil;replace hb0 := Pb.below_grown hb0 hg4 ho (by omega) (by omega);have hz4 := hg4.size;clear hg4 hnil))
     go_roundw
     case rel => exact ⟨1,by omega,by go_num,by simpa [catTo] using ho4,hb0,by omega⟩
     case measure => first | (simp [intOf];done) | (simp [intOf];omega)
    ·simp only [catTo] at ho
     go_wp2_with (at_builtin;go_must (refine wpList_append_own _ rfl _ _ 73 rfl vg.heap.size 3 i0 (.int .i64 0) 1 8 Tryz.underlying73 hi hz0 hz1 hz2 rfl (by decide) _ _ _ rfl ho a2 ys.length c2 (ys.map (Value.int .i64)) rfl (by simp) (nums_cells (h2.below hb0)) nums_one (by unfold maxLen;(try simp only [List.length_nil]);omega) (by (try simp only [List.length_nil]);omega) (by omega) ?_;intro v' w4 ho4 hg4 hnil;replace hb0 := Pb.below_grown hb0 hg4 ho (by omega) (by omega);have hz4 := hg4.size;clear hg4 hnil))
     go_roundw
     case rel => exact ⟨2,by omega,by go_num,by simpa [catTo] using ho4,hb0,by omega⟩
     case measure => first | (simp [intOf];done) | (simp [intOf];omega)
    ·go_wp2_with fail
     go_ret
     exact ⟨_,rfl,hb0,owns_base0 (by omega) ho⟩
end Go.Proofs.YthdfnkdifjajlaaGreatDoor