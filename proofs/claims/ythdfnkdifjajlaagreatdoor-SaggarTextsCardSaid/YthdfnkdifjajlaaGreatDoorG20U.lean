/- Part of a claim. -/
import Derived.Test.YthdfnkdifjajlaaGreatDoorG19U
import Derived.Test.YthdfnkdifjajlaaGreatDoorG4U
set_option linter.unusedVariables false
set_option linter.unusedSimpArgs false
namespace Go.Proofs.YthdfnkdifjajlaaGreatDoor
open Go.RowKit Go.Pb Go.Pb.Ware Go.Pb.Sag


def packsN (ss bs : List (List Int)) (s : Bx) (xs : List It) : Int := if ckL ss bs s xs = 0 then ((min (shownL s (feetV ss bs s xs)).length 1000 : Nat) : Int) else 0
set_option maxRecDepth 100000 in
set_option maxHeartbeats 1000000 in
theorem Packs_any {w : World} {vs vb : Value} {ss bs : List (List Int)} (h1 : RowsAt 11 w vs ss) (h2 : RowsAt 7 w vb bs) {lv : Value} {xs : List It} {bid bwi bde bce bhi bbe : Int} (hl : RowsAt 3 w lv (xs.map rowX)) (hspots : ∀ (W : World) (v : Value),FeetAt W v (feetV ss bs ⟨bid,bwi,bde,bce,bhi,bbe⟩ xs) → Calls Tryz.prog 65 #[.agg #[.int .i64 bid, .int .i64 bwi, .int .i64 bde, .int .i64 bce, .int .i64 bhi, .int .i64 bbe],v] W (fun e W' => ∃ u,e = .returned u ∧ Below W.heap.size W W' ∧ SpotsIn W.heap.size W'.heap.size u ((feetV ss bs ⟨bid,bwi,bde,bce,bhi,bbe⟩ xs).map (spotsL ⟨bid,bwi,bde,bce,bhi,bbe⟩)) W' ∧ W.heap.size ≤ W'.heap.size)) :
  Calls Tryz.prog 25 #[.agg #[vs,vb], .agg #[.int .i64 bid, .int .i64 bwi, .int .i64 bde, .int .i64 bce, .int .i64 bhi, .int .i64 bbe],lv] w (fun e w' => e = .returned (.tuple #[.int .i64 (packsN ss bs ⟨bid,bwi,bde,bce,bhi,bbe⟩ xs), .int .i64 (ckL ss bs ⟨bid,bwi,bde,bce,bhi,bbe⟩ xs)]) ∧ Below w.heap.size w w') := by
 obtain ⟨la,lc,rfl,hll⟩ := hl.shape
 rw [List.length_map] at hl ⊢
 obtain ⟨c,hc⟩ : ∃ c,ckL ss bs ⟨bid,bwi,bde,bce,bhi,bbe⟩ xs = c := ⟨_,rfl⟩
 have HS := hid hspots;clear hspots
 by_cases hc0 : c = 0
 ·subst hc0
  obtain ⟨hw,hX,hxl, -⟩ := ckL_0 hc
  have hpn : packsN ss bs ⟨bid,bwi,bde,bce,bhi,bbe⟩ xs = ((min (shownL ⟨bid,bwi,bde,bce,bhi,bbe⟩ (feetV ss bs ⟨bid,bwi,bde,bce,bhi,bbe⟩ xs)).length 1000 : Nat) : Int) := by unfold packsN;rw [if_pos hc]
  obtain ⟨N,hN⟩ : ∃ N : Nat,min (shownL ⟨bid,bwi,bde,bce,bhi,bbe⟩ (feetV ss bs ⟨bid,bwi,bde,bce,bhi,bbe⟩ xs)).length 1000 = N := ⟨_,rfl⟩
  rw [hN] at hpn
  rw [hpn,hc]
  have HC := hid hc;have HX := hid hX;have HN := hid hN;clear hc hw hX hpn hN
  go_enter Tryz.func25,Tryz.ntmps25
  go_wp2_with fail
  refine (Feet_any (h1.below (by go_grown)) (h2.below (by go_grown)) (hl.below (by go_grown))).mono ?_
  rintro e w1 ⟨fv,rfl,hb,ho⟩
  replace hb0 := bnext (w := w) (by go_grown) hb;have hz := hb.size;(try simp only [World.size_alloc,World.size_setCell] at hz);replace q0 : w1.cell? ⟨w.heap.size,0,none⟩ = some (vs) := bkeep hb (by first|with_reducible exact q0|with_reducible exact akeep q0|simp[*,go_sem]);replace q1 : w1.cell? ⟨w.heap.size,1,none⟩ = some (vb) := bkeep hb (by first|with_reducible exact q1|with_reducible exact akeep q1|simp[*,go_sem]);replace q2 : w1.cell? ⟨w.heap.size + 1,0,none⟩ = some (.int .i64 bid) := bkeep hb (by first|with_reducible exact q2|with_reducible exact akeep q2|simp[*,go_sem]);replace q3 : w1.cell? ⟨w.heap.size + 1,1,none⟩ = some (.int .i64 bwi) := bkeep hb (by first|with_reducible exact q3|with_reducible exact akeep q3|simp[*,go_sem]);replace q4 : w1.cell? ⟨w.heap.size + 1,2,none⟩ = some (.int .i64 bde) := bkeep hb (by first|with_reducible exact q4|with_reducible exact akeep q4|simp[*,go_sem]);replace q5 : w1.cell? ⟨w.heap.size + 1,3,none⟩ = some (.int .i64 bce) := bkeep hb (by first|with_reducible exact q5|with_reducible exact akeep q5|simp[*,go_sem]);replace q6 : w1.cell? ⟨w.heap.size + 1,4,none⟩ = some (.int .i64 bhi) := bkeep hb (by first|with_reducible exact q6|with_reducible exact akeep q6|simp[*,go_sem]);replace q7 : w1.cell? ⟨w.heap.size + 1,5,none⟩ = some (.int .i64 bbe) := bkeep hb (by first|with_reducible exact q7|with_reducible exact akeep q7|simp[*,go_sem]);skip
  clear hb
  rw [HC.out]
  have hfa := feetAt_of_owns feet_ok ho
  obtain ⟨fa,fc,rfl,hfl⟩ := owns_shape ho
  go_wp2_with fail
  have hsz := hb0.size
  refine (packs_count (w0 := w) (lo := w.heap.size) (M := w1.heap.size) HX.out (hfa.below (by go_grown)) feet_ok feet_len (by simp;omega) (by omega) (by simp) (by go_grown) (by simp [go_sem]) (by simp [go_sem]) HS.out).mono ?_
  rintro e w2 ⟨rfl,hb2,hm⟩
  rw [HN.out] at hm
  go_wp2_with fail
  go_ret2
  exact ⟨rfl,hb2⟩
 ·have hpn : packsN ss bs ⟨bid,bwi,bde,bce,bhi,bbe⟩ xs = 0 := by unfold packsN;rw [if_neg (by rw [hc];exact hc0)]
  rw [hpn,hc]
  have hcn : (c != 0) = true := by simpa using hc0
  have HC := hid hc;clear hc hpn
  go_enter Tryz.func25,Tryz.ntmps25
  go_wp2_with fail
  refine (Feet_any (h1.below (by go_grown)) (h2.below (by go_grown)) (hl.below (by go_grown))).mono ?_
  rintro e w1 ⟨fv,rfl,hb,ho⟩
  replace hb0 := bnext (w := w) (by go_grown) hb;have hz := hb.size;(try simp only [World.size_alloc,World.size_setCell] at hz);replace q0 : w1.cell? ⟨w.heap.size,0,none⟩ = some (vs) := bkeep hb (by first|with_reducible exact q0|with_reducible exact akeep q0|simp[*,go_sem]);replace q1 : w1.cell? ⟨w.heap.size,1,none⟩ = some (vb) := bkeep hb (by first|with_reducible exact q1|with_reducible exact akeep q1|simp[*,go_sem]);replace q2 : w1.cell? ⟨w.heap.size + 1,0,none⟩ = some (.int .i64 bid) := bkeep hb (by first|with_reducible exact q2|with_reducible exact akeep q2|simp[*,go_sem]);replace q3 : w1.cell? ⟨w.heap.size + 1,1,none⟩ = some (.int .i64 bwi) := bkeep hb (by first|with_reducible exact q3|with_reducible exact akeep q3|simp[*,go_sem]);replace q4 : w1.cell? ⟨w.heap.size + 1,2,none⟩ = some (.int .i64 bde) := bkeep hb (by first|with_reducible exact q4|with_reducible exact akeep q4|simp[*,go_sem]);replace q5 : w1.cell? ⟨w.heap.size + 1,3,none⟩ = some (.int .i64 bce) := bkeep hb (by first|with_reducible exact q5|with_reducible exact akeep q5|simp[*,go_sem]);replace q6 : w1.cell? ⟨w.heap.size + 1,4,none⟩ = some (.int .i64 bhi) := bkeep hb (by first|with_reducible exact q6|with_reducible exact akeep q6|simp[*,go_sem]);replace q7 : w1.cell? ⟨w.heap.size + 1,5,none⟩ = some (.int .i64 bbe) := bkeep hb (by first|with_reducible exact q7|with_reducible exact akeep q7|simp[*,go_sem]);skip
  clear hb
  rw [HC.out]
  go_wp2_with fail
  go_ret2
  exact ⟨rfl,by go_grown⟩
end Go.Proofs.YthdfnkdifjajlaaGreatDoor