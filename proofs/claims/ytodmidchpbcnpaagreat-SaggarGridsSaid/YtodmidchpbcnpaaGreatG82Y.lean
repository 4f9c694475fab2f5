/- Part of a claim. -/
import Derived.Test.YtodmidchpbcnpaaGreatG5Y
import Derived.Test.YtodmidchpbcnpaaGreatKSkY
set_option linter.unusedVariables false
set_option linter.unusedSimpArgs false
namespace Go.Proofs.YtodmidchpbcnpaaGreat
open Go.RowKit Go.Pb Go.Pb.Ware Go.Pb.Sag


set_option maxRecDepth 100000 in
set_option maxHeartbeats 1000000 in
theorem gridPut {w : World} {Bi Bg D Wd G R y x k : Nat} {u : Value} (qi : w.cell? ⟨Bi,0,none⟩ = some (.int .i64 (k : Nat))) (qg : w.cell? ⟨Bg,0,none⟩ = some (.slice (some ⟨G,0,none⟩) D D)) (hy : y < D) (hx : x < Wd) (hD : D ≤ 1000) (hW : Wd ≤ 1000) (hk : k ≤ 1000) (qt : w.cell? ⟨G,y,none⟩ = some (.slice (some ⟨R,0,none⟩) Wd Wd)) (qc : w.cell? ⟨R,x,none⟩ = some u) (qf : w.frozen? ⟨R,x,none⟩ = false) :
  Calls Tryz.prog 79 #[.int .i64 (y : Nat), .int .i64 (x : Nat), .pointer (some ⟨Bi,0,none⟩), .pointer (some ⟨Bg,0,none⟩)] w (fun e w' => e = .returned (.tuple #[]) ∧ ∃ W1,Below w.heap.size w W1 ∧ w' = W1.setCell ⟨R,x,none⟩ (.int .i64 ((k : Int) + 1))) := by
 have hyi : (y : Int) < (D : Int) := by omega
 have hxi : (x : Int) < (Wd : Int) := by omega
 go_enter Tryz.func79,Tryz.ntmps79
 go_upto_region 0 with fail
 have xqi := fun x : BW w => bkeep x.below qi
 have xqg := fun x : BW w => bkeep x.below qg
 have xqt := fun x : BW w => bkeep x.below qt
 refine wp_region_gb [0,1,2,3,4,5,6,7] 1 (by kernel_rfl) rfl (by kernel_rfl) fun hc => ?_
 simp only [named,List.filterMap_cons,List.filterMap_nil,List.getElem?_toArray,List.getElem?_cons_succ,List.getElem?_cons_zero]
 show wpQuiet _ _ _ _ [_,_,_,_,_,_,_,_] _
 repeat (go_big_quiet_step (fail))
 (refine wpQuiet_nil ?_;intro w1 hb)
 have c1 := bkeep hb qc
 have f1 := bfree hb qc qf
 refine wpAny_ready (rs := [8]) (by kernel_rfl) (by simp) ?_
 refine AllReady.cons rfl (fun K hK => ?_) AllReady.nil
 go_simp
 refine hK _ _ ?_;clear hK K
 refine wpAny_done (by kernel_rfl) ?_ _
 go_wp2_with fail
 go_end0
 exact ⟨rfl,w1,hb,rfl⟩
set_option maxRecDepth 100000 in
set_option maxHeartbeats 2000000 in
theorem forCells_do {w : World} {fw fd fh fg : Int} {y x wi de : Nat} {t : Bool} {iv gv : Value} (hs : sideV ⟨fw,fd,fh,fg⟩ t = ((wi : Int),(de : Int))) (h1 : x + wi ≤ 6) (h2 : y + de ≤ 6) {I : Nat → Nat → World → Prop} (hgrow : ∀ (k j : Nat) (W W' : World),I k j W → Below W.heap.size W W' → I k j W') (hrow : ∀ (k : Nat) (W : World),I k wi W → I (k + 1) 0 W) (hdo : ∀ (k j : Nat) (W : World),k < de → j < wi → w.heap.size ≤ W.heap.size → I k j W → Calls Tryz.prog 79 #[.int .i64 ((y : Int) + k), .int .i64 ((x : Int) + j),iv,gv] W (fun e W' => e = .returned (.tuple #[]) ∧ I k (j + 1) W' ∧ ∃ r,r < w.heap.size ∧ W.grownBy W' (some r))) (h0 : I 0 0 w) :
  Calls Tryz.prog 78 #[.agg #[.int .i64 fw, .int .i64 fd, .int .i64 fh, .int .i64 fg], .agg #[.int .i64 (y : Nat), .int .i64 (x : Nat), .bool t], .func (.func 79) #[] #[iv,gv]] w (fun e w' => e = .returned (.tuple #[]) ∧ I de 0 w' ∧ w.heap.size ≤ w'.heap.size) := by
 have HS := hid hs;clear hs
 go_enter Tryz.func78,Tryz.ntmps78
 go_wp2_with fail
 refine (sides_any HS.out).mono ?_
 rintro e w1 ⟨rfl,hb⟩
 have hb1 : Below w.heap.size w w1 := bnext (w := w) (by go_grown) hb
 have hz := hb.size
 simp only [World.size_alloc] at hz
 have q0 : w1.cell? ⟨w.heap.size + 1,0,none⟩ = some (.int .i64 (y : Nat)) := bkeep hb (by simp [go_sem])
 have q1 : w1.cell? ⟨w.heap.size + 1,1,none⟩ = some (.int .i64 (x : Nat)) := bkeep hb (by simp [go_sem])
 have q2 : w1.cell? ⟨w.heap.size + 1,2,none⟩ = some (.bool t) := bkeep hb (by simp [go_sem])
 have hI := hgrow 0 0 w w1 h0 hb1
 clear hb hb1 h0
 go_wp2_with fail
 go_loopw [18] (fun iv wr => ∃ k : Nat,k ≤ de ∧ iv = .int .i64 k ∧ I k 0 wr ∧ w.heap.size + 2 ≤ wr.heap.size ∧ wr.cell? ⟨w.heap.size + 1,0,none⟩ = some (.int .i64 (y : Nat)) ∧ wr.cell? ⟨w.heap.size + 1,1,none⟩ = some (.int .i64 (x : Nat)) ∧ wr.cell? ⟨w.heap.size + 1,2,none⟩ = some (.bool t)) (fun iv _ => de - (intOf iv).toNat)
 case atStart => exact ⟨0,Nat.zero_le _,rfl,hI,by omega,q0,q1,q2⟩
 case round =>
  clear hI q0 q1 q2 hz
  obtain ⟨k,hk,rfl,hI,hz,q0,q1,q2⟩ := hrel
  by_cases hlt : k < de
  ·obtain ⟨v3,hv3⟩ : ∃ v,v = wr := ⟨_,rfl⟩
   subst hv3
   go_wp2_with fail
   go_loopw [22] (fun iv wr => ∃ j : Nat,j ≤ wi ∧ iv = .int .i64 j ∧ I k j wr ∧ w.heap.size + 2 ≤ wr.heap.size ∧ wr.cell? ⟨w.heap.size + 1,0,none⟩ = some (.int .i64 (y : Nat)) ∧ wr.cell? ⟨w.heap.size + 1,1,none⟩ = some (.int .i64 (x : Nat)) ∧ wr.cell? ⟨w.heap.size + 1,2,none⟩ = some (.bool t)) (fun iv _ => wi - (intOf iv).toNat)
   case atStart => exact ⟨0,Nat.zero_le _,rfl,hI,by omega,q0,q1,q2⟩
   case round =>
    clear hI q0 q1 q2 hz
    obtain ⟨j,hj,rfl,hI,hz,q0,q1,q2⟩ := hrel
    by_cases hlt2 : j < wi
    ·have hy5 : y + k ≤ 5 := by omega
     have hx5 : x + j ≤ 5 := by omega
     go_wp2_with fail
     refine (hdo k j _ hlt hlt2 (by omega) hI).mono ?_
     rintro e w4 ⟨rfl,hI2,r,hr,hg⟩
     have q0' := grown_kept hg q0 (by simp;omega)
     have q1' := grown_kept hg q1 (by simp;omega)
     have q2' := grown_kept hg q2 (by simp;omega)
     have hz2 := hg.size
     clear hg q0 q1 q2 hI
     go_wp2_with fail
     go_roundw
     case rel => exact ⟨j + 1,by omega,by go_num,hI2,by omega,q0',q1',q2'⟩
     case measure => first | (simp [intOf];done) | (simp [intOf];omega)
    ·obtain rfl : j = wi := by omega
     go_wp2_with fail
     go_roundw
     case rel => exact ⟨k + 1,by omega,by go_num,hrow _ _ hI,by omega,q0,q1,q2⟩
     case measure => first | (simp [intOf];done) | (simp [intOf];omega)
  ·obtain rfl : k = de := by omega
   go_wp2_with fail
   go_end0
   exact ⟨rfl,hI,by omega⟩
end Go.Proofs.YtodmidchpbcnpaaGreat