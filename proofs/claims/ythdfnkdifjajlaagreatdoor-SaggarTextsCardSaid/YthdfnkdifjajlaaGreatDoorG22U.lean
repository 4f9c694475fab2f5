/- Part of a claim. -/
import Derived.Test.YthdfnkdifjajlaaGreatDoorG21U
import Derived.Test.YthdfnkdifjajlaaGreatDoorG4U
import Derived.Test.YthdfnkdifjajlaaGreatDoorG1U
set_option linter.unusedVariables false
set_option linter.unusedSimpArgs false
namespace Go.Proofs.YthdfnkdifjajlaaGreatDoor
open Go.RowKit Go.Pb Go.Pb.Ware Go.Pb.Sag


def nthA (ss bs : List (List Int)) (s : Bx) (xs : List It) (i : Nat) (bad : Int) : List St × Int := if ckL ss bs s xs = 0 then (match (shownL s (feetV ss bs s xs))[i]? with | some q => (q,0) | none => ([],bad)) else ([],ckL ss bs s xs)
def PackRes (r : List St × Int) (W : World) (e : Ending) (w' : World) : Prop := ∃ v,e = .returned (.tuple #[v, .int .i64 r.2]) ∧ Below W.heap.size W w' ∧ w'.ownsRow W.heap.size 37 3 v r.1.length ((r.1.map toSq).flatMap cellsQ)
set_option maxRecDepth 100000 in
set_option maxHeartbeats 1000000 in
theorem Pack_any {w : World} {vs vb : Value} {ss bs : List (List Int)} (h1 : RowsAt 11 w vs ss) (h2 : RowsAt 7 w vb bs) {lv : Value} {xs : List It} {bid bwi bde bce bhi bbe : Int} (hl : RowsAt 3 w lv (xs.map rowX)) (hspots : ∀ (W : World) (v : Value),FeetAt W v (feetV ss bs ⟨bid,bwi,bde,bce,bhi,bbe⟩ xs) → Calls Tryz.prog 65 #[.agg #[.int .i64 bid, .int .i64 bwi, .int .i64 bde, .int .i64 bce, .int .i64 bhi, .int .i64 bbe],v] W (fun e W' => ∃ u,e = .returned u ∧ Below W.heap.size W W' ∧ SpotsIn W.heap.size W'.heap.size u ((feetV ss bs ⟨bid,bwi,bde,bce,bhi,bbe⟩ xs).map (spotsL ⟨bid,bwi,bde,bce,bhi,bbe⟩)) W' ∧ W.heap.size ≤ W'.heap.size)) :
  Calls Tryz.prog 24 #[.agg #[vs,vb], .agg #[.int .i64 bid, .int .i64 bwi, .int .i64 bde, .int .i64 bce, .int .i64 bhi, .int .i64 bbe],lv] w (PackRes (nthA ss bs ⟨bid,bwi,bde,bce,bhi,bbe⟩ xs 0 24) w) := by
 obtain ⟨la,lc,rfl,hll⟩ := hl.shape
 rw [List.length_map] at hl ⊢
 have HS := hid hspots;clear hspots
 obtain ⟨c,hc⟩ : ∃ c,ckL ss bs ⟨bid,bwi,bde,bce,bhi,bbe⟩ xs = c := ⟨_,rfl⟩
 unfold PackRes
 by_cases hc0 : c = 0
 ·subst hc0
  obtain ⟨hw,hX,hxl, -⟩ := ckL_0 hc
  have HC := hid hc;have HX := hid hX;clear hc hw hX
  go_enter Tryz.func24,Tryz.ntmps24
  go_wp2_with fail
  refine (Feet_any (h1.below (by go_grown)) (h2.below (by go_grown)) (hl.below (by go_grown))).mono ?_
  rintro e w1 ⟨fv,rfl,hb,ho⟩
  replace hb0 := bnext (w := w) (by go_grown) hb;have hz := hb.size;(try simp only [World.size_alloc,World.size_setCell] at hz);replace q0 : w1.cell? ⟨w.heap.size,0,none⟩ = some (vs) := bkeep hb (by first|with_reducible exact q0|with_reducible exact akeep q0|simp[*,go_sem]);replace q1 : w1.cell? ⟨w.heap.size,1,none⟩ = some (vb) := bkeep hb (by first|with_reducible exact q1|with_reducible exact akeep q1|simp[*,go_sem]);replace q2 : w1.cell? ⟨w.heap.size + 1,0,none⟩ = some (.int .i64 bid) := bkeep hb (by first|with_reducible exact q2|with_reducible exact akeep q2|simp[*,go_sem]);replace q3 : w1.cell? ⟨w.heap.size + 1,1,none⟩ = some (.int .i64 bwi) := bkeep hb (by first|with_reducible exact q3|with_reducible exact akeep q3|simp[*,go_sem]);replace q4 : w1.cell? ⟨w.heap.size + 1,2,none⟩ = some (.int .i64 bde) := bkeep hb (by first|with_reducible exact q4|with_reducible exact akeep q4|simp[*,go_sem]);replace q5 : w1.cell? ⟨w.heap.size + 1,3,none⟩ = some (.int .i64 bce) := bkeep hb (by first|with_reducible exact q5|with_reducible exact akeep q5|simp[*,go_sem]);replace q6 : w1.cell? ⟨w.heap.size + 1,4,none⟩ = some (.int .i64 bhi) := bkeep hb (by first|with_reducible exact q6|with_reducible exact akeep q6|simp[*,go_sem]);replace q7 : w1.cell? ⟨w.heap.size + 1,5,none⟩ = some (.int .i64 bbe) := bkeep hb (by first|with_reducible exact q7|with_reducible exact akeep q7|simp[*,go_sem]);skip
  clear hb
  rw [HC.out]
  have hfa := feetAt_of_owns feet_ok ho
  obtain ⟨fa,fc,rfl,hfl⟩ := owns_shape ho
  have hb00 : w.heap.size ≤ w1.heap.size := hb0.size
  go_wp2_with fail
  refine (nth_any (n := 0) HX.out (hfa.below (by go_grown)) feet_ok feet_len (by omega) HS.out).mono ?_
  rintro e w2 ⟨v,b,rfl,hb,hcase⟩
  replace hb0 := bnext (w := w) (by go_grown) hb
  rcases hcase with ⟨k1,rfl,rfl⟩ | ⟨q,k1,rfl,k2⟩
  ·have hR : nthA ss bs ⟨bid,bwi,bde,bce,bhi,bbe⟩ xs 0 24 = ([],24) := by unfold nthA;rw [if_pos HC.out,k1]
   have HR := hid hR
   clear k1 hR hb
   go_wp2_with fail
   go_ret2
   rw [HR.out]
   exact ⟨_,rfl,by go_grown,World.ownsRow_nil _ _ _ _⟩
  ·have hR : nthA ss bs ⟨bid,bwi,bde,bce,bhi,bbe⟩ xs 0 24 = (q,0) := by unfold nthA;rw [if_pos HC.out,k1]
   have HR := hid hR
   obtain ⟨va,vc,rfl,hvl⟩ := owns_shape k2
   clear k1 hR hb
   go_wp2_with fail
   go_ret2
   rw [HR.out]
   exact ⟨_,rfl,by go_grown,owns_base hb00 k2⟩
 ·have hR : nthA ss bs ⟨bid,bwi,bde,bce,bhi,bbe⟩ xs 0 24 = ([],c) := by unfold nthA;rw [if_neg (by rw [hc];exact hc0),hc]
  rw [hR]
  have hcn : (c != 0) = true := by simpa using hc0
  have HC := hid hc;clear hc hR
  go_enter Tryz.func24,Tryz.ntmps24
  go_wp2_with fail
  refine (Feet_any (h1.below (by go_grown)) (h2.below (by go_grown)) (hl.below (by go_grown))).mono ?_
  rintro e w1 ⟨fv,rfl,hb,ho⟩
  replace hb0 := bnext (w := w) (by go_grown) hb;have hz := hb.size;(try simp only [World.size_alloc,World.size_setCell] at hz);replace q0 : w1.cell? ⟨w.heap.size,0,none⟩ = some (vs) := bkeep hb (by first|with_reducible exact q0|with_reducible exact akeep q0|simp[*,go_sem]);replace q1 : w1.cell? ⟨w.heap.size,1,none⟩ = some (vb) := bkeep hb (by first|with_reducible exact q1|with_reducible exact akeep q1|simp[*,go_sem]);replace q2 : w1.cell? ⟨w.heap.size + 1,0,none⟩ = some (.int .i64 bid) := bkeep hb (by first|with_reducible exact q2|with_reducible exact akeep q2|simp[*,go_sem]);replace q3 : w1.cell? ⟨w.heap.size + 1,1,none⟩ = some (.int .i64 bwi) := bkeep hb (by first|with_reducible exact q3|with_reducible exact akeep q3|simp[*,go_sem]);replace q4 : w1.cell? ⟨w.heap.size + 1,2,none⟩ = some (.int .i64 bde) := bkeep hb (by first|with_reducible exact q4|with_reducible exact akeep q4|simp[*,go_sem]);replace q5 : w1.cell? ⟨w.heap.size + 1,3,none⟩ = some (.int .i64 bce) := bkeep hb (by first|with_reducible exact q5|with_reducible exact akeep q5|simp[*,go_sem]);replace q6 : w1.cell? ⟨w.heap.size + 1,4,none⟩ = some (.int .i64 bhi) := bkeep hb (by first|with_reducible exact q6|with_reducible exact akeep q6|simp[*,go_sem]);replace q7 : w1.cell? ⟨w.heap.size + 1,5,none⟩ = some (.int .i64 bbe) := bkeep hb (by first|with_reducible exact q7|with_reducible exact akeep q7|simp[*,go_sem]);skip
  clear hb
  rw [HC.out]
  go_wp2_with fail
  go_ret2
  exact ⟨_,rfl,by go_grown,World.ownsRow_nil _ _ _ _⟩
end Go.Proofs.YthdfnkdifjajlaaGreatDoor