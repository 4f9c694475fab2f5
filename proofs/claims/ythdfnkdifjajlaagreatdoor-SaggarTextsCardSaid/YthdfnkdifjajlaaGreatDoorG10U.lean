/- Part of a claim. -/
import Derived.Test.YthdfnkdifjajlaaGreatDoorG9U
set_option linter.unusedVariables false
set_option linter.unusedSimpArgs false
namespace Go.Proofs.YthdfnkdifjajlaaGreatDoor
open Go.RowKit Go.Pb Go.Pb.Ware Go.Pb.Sag


theorem trouble_in {w : World} {bid bwi bde bce bhi bbe : Int} {lv : Value} {fs : List Ft} (hX : boxOk ⟨bid,bwi,bde,bce,bhi,bbe⟩ = true) (hl : FeetAt w lv fs) (hok : ∀ f ∈ fs,FtOk f) (hn : fs.length ≤ 1000) {k : Int} (h0 : 1 ≤ k) (h1 : k < 5) {b : Bool} (hb : troubleB ⟨bid,bwi,bde,bce,bhi,bbe⟩ fs k = b) :
  Calls Tryz.prog 45 #[.int .i64 k, .agg #[.int .i64 bid, .int .i64 bwi, .int .i64 bde, .int .i64 bce, .int .i64 bhi, .int .i64 bbe],lv] w (Ret w (.bool b)) := by
 rcases (show k = 1 ∨ k = 2 ∨ k = 3 ∨ k = 4 by omega) with rfl | rfl | rfl | rfl
 ·exact trouble1 hX hl hok hn hb
 ·exact trouble2 hX hl hok hn hb
 ·exact trouble3 hX hl hok hn hb
 ·exact trouble4 hX hl hok hn hb
set_option maxRecDepth 100000 in
set_option maxHeartbeats 1000000 in
theorem plain_any {w : World} {bid bwi bde bce bhi bbe : Int} {lv : Value} {fs : List Ft} (hX : boxOk ⟨bid,bwi,bde,bce,bhi,bbe⟩ = true) (hl : FeetAt w lv fs) (hok : ∀ f ∈ fs,FtOk f) (hn : fs.length ≤ 1000) {b : Bool} (hb : plainB ⟨bid,bwi,bde,bce,bhi,bbe⟩ fs = b) :
  Calls Tryz.prog 64 #[.agg #[.int .i64 bid, .int .i64 bwi, .int .i64 bde, .int .i64 bce, .int .i64 bhi, .int .i64 bbe],lv] w (Ret w (.bool b)) := by
 unfold Ret
 obtain ⟨la,lc,rfl,hll⟩ := hl.shape
 rw [List.length_map] at hl ⊢
 have HB := hid hb;clear hb
 go_enter Tryz.func64,Tryz.ntmps64
 go_wp2_with fail
 go_loopw [5] (fun iv wr => ∃ k : Nat,k ≤ 4 ∧ iv = .int .i64 ((k : Int) + 1) ∧ Hid (∀ j : Int,1 ≤ j → j < (k : Int) + 1 → troubleB ⟨bid,bwi,bde,bce,bhi,bbe⟩ fs j = false) ∧ Below w.heap.size w wr ∧ wr.cell? ⟨w.heap.size,0,none⟩ = some (.int .i64 bid) ∧ wr.cell? ⟨w.heap.size,1,none⟩ = some (.int .i64 bwi) ∧ wr.cell? ⟨w.heap.size,2,none⟩ = some (.int .i64 bde) ∧ wr.cell? ⟨w.heap.size,3,none⟩ = some (.int .i64 bce) ∧ wr.cell? ⟨w.heap.size,4,none⟩ = some (.int .i64 bhi) ∧ wr.cell? ⟨w.heap.size,5,none⟩ = some (.int .i64 bbe)) (fun iv _ => 5 - (intOf iv).toNat)
 case atStart => exact ⟨0,by omega,rfl,fun j h1 h2 => by omega,by go_grown,by simp [go_sem],by simp [go_sem],by simp [go_sem],by simp [go_sem],by simp [go_sem],by simp [go_sem]⟩
 case round =>
  obtain ⟨k,hk,rfl,HA,hb0,q0,q1,q2,q3,q4,q5⟩ := hrel
  by_cases hlt : k < 4
  ·cases ht : troubleB ⟨bid,bwi,bde,bce,bhi,bbe⟩ fs ((k : Int) + 1)
   ·have HT := hid ht;clear ht
    go_wp2_with fail
    refine (trouble_in hX (hl.below hb0) hok hn (by omega) (by omega) HT.out).mono ?_
    rintro e w1 ⟨rfl,hb⟩
    have hb1 := bnext (w := w) hb0 hb
    have p0 := bkeep hb q0
    have p1 := bkeep hb q1
    have p2 := bkeep hb q2
    have p3 := bkeep hb q3
    have p4 := bkeep hb q4
    have p5 := bkeep hb q5
    clear hb hb0 q0 q1 q2 q3 q4 q5
    go_wp2_with fail
    go_roundw
    case rel => exact ⟨k + 1,by omega,by go_num,fun j h1 h2 => by (rcases (show j < (k : Int) + 1 ∨ j = (k : Int) + 1 by omega) with h | rfl;exact HA.out j h1 h;exact HT.out),hb1,p0,p1,p2,p3,p4,p5⟩
    case measure => first | (simp [intOf];done) | (simp [intOf];omega)
   ·have HT := hid ht;clear ht
    go_wp2_with fail
    refine (trouble_in hX (hl.below hb0) hok hn (by omega) (by omega) HT.out).mono ?_
    rintro e w1 ⟨rfl,hb⟩
    have hb1 := bnext (w := w) hb0 hb
    have p0 := bkeep hb q0
    have p1 := bkeep hb q1
    have p2 := bkeep hb q2
    have p3 := bkeep hb q3
    have p4 := bkeep hb q4
    have p5 := bkeep hb q5
    clear hb hb0 q0 q1 q2 q3 q4 q5
    go_wp2_with fail
    go_ret
    exact ⟨ret_bool (by rw [← HB.out,plain_yes (by omega) (by omega) HT.out]),hb1⟩
  ·obtain rfl : k = 4 := by omega
   go_wp2_with fail
   go_ret
   exact ⟨ret_bool (by rw [← HB.out,plain_no (fun j h1 h2 => HA.out j h1 (by omega))]),hb0⟩
end Go.Proofs.YthdfnkdifjajlaaGreatDoor