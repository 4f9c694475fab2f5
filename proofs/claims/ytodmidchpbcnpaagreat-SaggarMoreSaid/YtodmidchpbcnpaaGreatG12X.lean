/- Part of a claim. -/
import Derived.Test.YtodmidchpbcnpaaGreatG11X
import Derived.Test.YtodmidchpbcnpaaGreatG4X
set_option linter.unusedVariables false
set_option linter.unusedSimpArgs false
namespace Go.Proofs.YtodmidchpbcnpaaGreat
open Go.RowKit Go.Pb Go.Pb.Ware Go.Pb.Sag


set_option maxRecDepth 100000 in
set_option maxHeartbeats 400000 in
theorem packed_any {w : World} {vs vb : Value} {ss bs : List (List Int)} (h1 : RowsAt 11 w vs ss) (h2 : RowsAt 7 w vb bs) {lv pv : Value} {xs : List It} {qs : List Sq} {bid bwi bde bce bhi bbe : Int} (hl : RowsAt 3 w lv (xs.map rowX)) (hp : StAt w pv qs) :
  Calls Tryz.prog 77 #[.agg #[vs,vb], .agg #[.int .i64 bid, .int .i64 bwi, .int .i64 bde, .int .i64 bce, .int .i64 bhi, .int .i64 bbe],lv,pv] w (FeetRes 34 (feetK ss bs ⟨bid,bwi,bde,bce,bhi,bbe⟩ xs qs) (ckK ss bs ⟨bid,bwi,bde,bce,bhi,bbe⟩ xs qs) w) := by
 obtain ⟨la,lc,rfl,hll⟩ := hl.shape
 rw [List.length_map] at hl ⊢
 obtain ⟨pa,pc,rfl,hpl,hpc⟩ := hp.shape
 unfold FeetRes
 obtain ⟨c,hc⟩ : ∃ c,ckL ss bs ⟨bid,bwi,bde,bce,bhi,bbe⟩ xs = c := ⟨_,rfl⟩
 by_cases hc0 : c = 0
 ·subst hc0
  obtain ⟨hw,hX,hxl, -⟩ := ckL_0 hc
  obtain ⟨b,hb⟩ : ∃ b,packB ⟨bid,bwi,bde,bce,bhi,bbe⟩ (feetV ss bs ⟨bid,bwi,bde,bce,bhi,bbe⟩ xs) qs = b := ⟨_,rfl⟩
  obtain ⟨k1,k2⟩ := ckK_in hc hb
  rw [k1,k2]
  have HC := hid hc;have HB := hid hb;have HX := hid hX;clear hc hb k1 k2 hw hX
  go_enter Tryz.func77,Tryz.ntmps77
  go_wp2_with fail
  refine (Feet_any (h1.below (by go_grown)) (h2.below (by go_grown)) (hl.below (by go_grown))).mono ?_
  rintro e w1 ⟨fv,rfl,hb,ho⟩
  replace hb0 := bnext (w := w) (by go_grown) hb;have hz := hb.size;(try simp only [World.size_alloc,World.size_setCell] at hz);replace q0 : w1.cell? ⟨w.heap.size,0,none⟩ = some (vs) := bkeep hb (by first|with_reducible exact q0|with_reducible exact akeep q0|simp[*,go_sem]);replace q1 : w1.cell? ⟨w.heap.size,1,none⟩ = some (vb) := bkeep hb (by first|with_reducible exact q1|with_reducible exact akeep q1|simp[*,go_sem]);replace q2 : w1.cell? ⟨w.heap.size + 1,0,none⟩ = some (.int .i64 bid) := bkeep hb (by first|with_reducible exact q2|with_reducible exact akeep q2|simp[*,go_sem]);replace q3 : w1.cell? ⟨w.heap.size + 1,1,none⟩ = some (.int .i64 bwi) := bkeep hb (by first|with_reducible exact q3|with_reducible exact akeep q3|simp[*,go_sem]);replace q4 : w1.cell? ⟨w.heap.size + 1,2,none⟩ = some (.int .i64 bde) := bkeep hb (by first|with_reducible exact q4|with_reducible exact akeep q4|simp[*,go_sem]);replace q5 : w1.cell? ⟨w.heap.size + 1,3,none⟩ = some (.int .i64 bce) := bkeep hb (by first|with_reducible exact q5|with_reducible exact akeep q5|simp[*,go_sem]);replace q6 : w1.cell? ⟨w.heap.size + 1,4,none⟩ = some (.int .i64 bhi) := bkeep hb (by first|with_reducible exact q6|with_reducible exact akeep q6|simp[*,go_sem]);replace q7 : w1.cell? ⟨w.heap.size + 1,5,none⟩ = some (.int .i64 bbe) := bkeep hb (by first|with_reducible exact q7|with_reducible exact akeep q7|simp[*,go_sem]);skip
  clear hb
  rw [HC.out]
  have hfa := feetAt_of_owns feet_ok ho
  obtain ⟨fa,fc,rfl,hfl⟩ := owns_shape ho
  go_wp2_with fail
  refine (isPacking_any HX.out hfa feet_ok (Nat.le_trans feet_len (by decide)) (hp.below (by go_grown)) HB.out).mono ?_
  rintro e w2 ⟨rfl,hb⟩
  replace ho := owns_below ho hb
  replace hb0 := bnext (w := w) (by go_grown) hb
  clear hb
  cases b <;> simp only [if_true,if_false,Bool.false_eq_true]
  ·go_wp2_with fail
   go_ret2
   exact ⟨_,rfl,by go_grown,World.ownsRow_nil _ _ _ _⟩
  ·go_wp2_with fail
   go_ret2
   exact ⟨_,rfl,by go_grown,owns_base (by simp;omega) ho⟩
 ·obtain ⟨k1,k2⟩ := ckK_bad (qs := qs) (show ckL ss bs ⟨bid,bwi,bde,bce,bhi,bbe⟩ xs ≠ 0 by rw [hc];exact hc0)
  rw [k1,k2,hc]
  have hcn : (c != 0) = true := by simpa using hc0
  have HC := hid hc;clear hc k1 k2
  go_enter Tryz.func77,Tryz.ntmps77
  go_wp2_with fail
  refine (Feet_any (h1.below (by go_grown)) (h2.below (by go_grown)) (hl.below (by go_grown))).mono ?_
  rintro e w1 ⟨fv,rfl,hb,ho⟩
  replace hb0 := bnext (w := w) (by go_grown) hb;have hz := hb.size;(try simp only [World.size_alloc,World.size_setCell] at hz);replace q0 : w1.cell? ⟨w.heap.size,0,none⟩ = some (vs) := bkeep hb (by first|with_reducible exact q0|with_reducible exact akeep q0|simp[*,go_sem]);replace q1 : w1.cell? ⟨w.heap.size,1,none⟩ = some (vb) := bkeep hb (by first|with_reducible exact q1|with_reducible exact akeep q1|simp[*,go_sem]);replace q2 : w1.cell? ⟨w.heap.size + 1,0,none⟩ = some (.int .i64 bid) := bkeep hb (by first|with_reducible exact q2|with_reducible exact akeep q2|simp[*,go_sem]);replace q3 : w1.cell? ⟨w.heap.size + 1,1,none⟩ = some (.int .i64 bwi) := bkeep hb (by first|with_reducible exact q3|with_reducible exact akeep q3|simp[*,go_sem]);replace q4 : w1.cell? ⟨w.heap.size + 1,2,none⟩ = some (.int .i64 bde) := bkeep hb (by first|with_reducible exact q4|with_reducible exact akeep q4|simp[*,go_sem]);replace q5 : w1.cell? ⟨w.heap.size + 1,3,none⟩ = some (.int .i64 bce) := bkeep hb (by first|with_reducible exact q5|with_reducible exact akeep q5|simp[*,go_sem]);replace q6 : w1.cell? ⟨w.heap.size + 1,4,none⟩ = some (.int .i64 bhi) := bkeep hb (by first|with_reducible exact q6|with_reducible exact akeep q6|simp[*,go_sem]);replace q7 : w1.cell? ⟨w.heap.size + 1,5,none⟩ = some (.int .i64 bbe) := bkeep hb (by first|with_reducible exact q7|with_reducible exact akeep q7|simp[*,go_sem]);skip
  clear hb
  rw [HC.out]
  go_wp2_with fail
  go_ret2
  exact ⟨_,rfl,by go_grown,World.ownsRow_nil _ _ _ _⟩
set_option maxRecDepth 100000 in
set_option maxHeartbeats 400000 in
theorem CheckPack_any {w : World} {vs vb : Value} {ss bs : List (List Int)} (h1 : RowsAt 11 w vs ss) (h2 : RowsAt 7 w vb bs) {lv pv : Value} {xs : List It} {qs : List Sq} {bid bwi bde bce bhi bbe : Int} (hl : RowsAt 3 w lv (xs.map rowX)) (hp : StAt w pv qs) {c : Int} (hx : ckK ss bs ⟨bid,bwi,bde,bce,bhi,bbe⟩ xs qs = c) :
  Calls Tryz.prog 41 #[.agg #[vs,vb], .agg #[.int .i64 bid, .int .i64 bwi, .int .i64 bde, .int .i64 bce, .int .i64 bhi, .int .i64 bbe],lv,pv] w (Ret w (.int .i64 c)) := by
 unfold Ret
 obtain ⟨la,lc,rfl,hll⟩ := hl.shape
 rw [List.length_map] at hl ⊢
 obtain ⟨pa,pc,rfl,hpl,hpc⟩ := hp.shape
 subst hx
 go_enter Tryz.func41,Tryz.ntmps41
 go_wp2_with fail
 refine (packed_any (h1.below (by go_grown)) (h2.below (by go_grown)) (hl.below (by go_grown)) (hp.below (by go_grown))).mono ?_
 rintro e w1 ⟨fv,rfl,hb, -⟩
 replace hb0 := bnext (w := w) (by go_grown) hb
 go_wp2_with fail
 go_ret
 exact ⟨rfl,hb0⟩
end Go.Proofs.YtodmidchpbcnpaaGreat