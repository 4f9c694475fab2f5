/- Part of a claim. -/
import Derived.Test.YtodmidchpbcnpaaGreatKG32V
import Derived.Test.YtodmidchpbcnpaaGreatG34V
import Derived.Test.YtodmidchpbcnpaaGreatG31V
import Derived.Test.YtodmidchpbcnpaaGreatG20V
import Derived.Test.YtodmidchpbcnpaaGreatG22V
import Derived.Test.YtodmidchpbcnpaaGreatG72V
set_option linter.unusedVariables false
set_option linter.unusedSimpArgs false
namespace Go.Proofs.YtodmidchpbcnpaaGreat
open Go.RowKit Go.Pb Go.Pb.Ware Go.Pb.Sag


def toIt (r : List Int) : It := ⟨r.getD 0 0, r.getD 1 0, r.getD 2 0⟩
theorem rows_it {w : World} {v : Value} {rows : List (List Int)} (h : RowsAt 3 w v rows) : ∃ xs : List It, rows = xs.map rowX := by
 refine ⟨rows.map toIt, ?_⟩
 rw [List.map_map]
 have key : ∀ r ∈ rows, r.length = 3 := by
  rcases h with ⟨_, rfl⟩ | ⟨a, cap, _, _, _, h⟩
  ·intro r hr; cases hr
  ·intro r hr
   obtain ⟨k, hk⟩ := List.getElem?_of_mem hr
   exact (h k r hk).1
 have key2 : ∀ r ∈ rows, (rowX ∘ toIt) r = r := by
  intro r hr
  match r, key r hr with
  | [a, b, c], _ => rfl
 exact (List.map_id rows).symm.trans (List.map_congr_left fun r hr => (key2 r hr).symm)
theorem shown_small {ss bs : List (List Int)} {s : Bx} {xs : List It} {k : Nat} {q : List St} (h : (shownL s (feetV ss bs s xs))[k]? = some q) : q.length ≤ 5 := by
 have h1 := shown_len (List.mem_of_getElem? h)
 have h2 := feet_len (ss := ss) (bs := bs) (s := s) (xs := xs)
 omega
theorem nthA_small {ss bs : List (List Int)} {s : Bx} {xs : List It} {i : Nat} {b : Int} : (nthA ss bs s xs i b).1.length ≤ 5 := by
 unfold nthA
 split
 ·cases h : (shownL s (feetV ss bs s xs))[i]? with
  | none => simp
  | some q => exact shown_small h
 ·simp
theorem nthB_small {ss bs : List (List Int)} {s : Bx} {xs : List It} {n : Int} : (nthB ss bs s xs n).1.length ≤ 5 := by
 unfold nthB
 split
 ·split
  ·exact nthA_small
  ·simp
 ·simp
set_option maxRecDepth 100000 in
set_option maxHeartbeats 4000000 in
theorem saggarPacks_walk0 {w : World} {vs vb lv : Value} {ss bs : List (List Int)} {xs : List It} {bid bwi bde bce bhi bbe n : Int} (h1 : RowsAt 11 w vs ss) (h2 : RowsAt 7 w vb bs) (hl : RowsAt 3 w lv (xs.map rowX)) (hspots : ∀ (W : World) (v : Value), FeetAt W v (feetV ss bs ⟨bid, bwi, bde, bce, bhi, bbe⟩ xs) → Calls Tryz.prog 129 #[.agg #[.int .i64 bid, .int .i64 bwi, .int .i64 bde, .int .i64 bce, .int .i64 bhi, .int .i64 bbe], v] W (fun e W' => ∃ u, e = .returned u ∧ Below W.heap.size W W' ∧ SpotsIn W.heap.size W'.heap.size u ((feetV ss bs ⟨bid, bwi, bde, bce, bhi, bbe⟩ xs).map (spotsL ⟨bid, bwi, bde, bce, bhi, bbe⟩)) W' ∧ W.heap.size ≤ W'.heap.size)) :
  Calls Tryz.prog 4 #[.agg #[vs, vb, .int .i64 bid, .int .i64 bwi, .int .i64 bde, .int .i64 bce, .int .i64 bhi, .int .i64 bbe, lv], .int .i64 n] w (Ret w (.bool true)) := by
 unfold Ret
 obtain ⟨la, lc, rfl, hll⟩ := hl.shape
 rw [List.length_map] at hl hll ⊢
 have HSP := hid hspots; clear hspots
 obtain ⟨⟨pr, pe⟩, hpr⟩ : ∃ r, nthA ss bs ⟨bid, bwi, bde, bce, bhi, bbe⟩ xs 0 24 = r := ⟨_, rfl⟩
 obtain ⟨⟨nr, ne⟩, hnr⟩ : ∃ r, nthB ss bs ⟨bid, bwi, bde, bce, bhi, bbe⟩ xs n = r := ⟨_, rfl⟩
 obtain ⟨pk, hpk⟩ : ∃ r, packsN ss bs ⟨bid, bwi, bde, bce, bhi, bbe⟩ xs = r := ⟨_, rfl⟩
 obtain ⟨ck, hck⟩ : ∃ r, ckL ss bs ⟨bid, bwi, bde, bce, bhi, bbe⟩ xs = r := ⟨_, rfl⟩
 have hps : pr.length ≤ 5 := by have h := nthA_small (ss := ss) (bs := bs) (s := ⟨bid, bwi, bde, bce, bhi, bbe⟩) (xs := xs) (i := 0) (b := 24); rw [hpr] at h; exact h
 have hns : nr.length ≤ 5 := by have h := nthB_small (ss := ss) (bs := bs) (s := ⟨bid, bwi, bde, bce, bhi, bbe⟩) (xs := xs) (n := n); rw [hnr] at h; exact h
 have HPR := hid hpr; have HNR := hid hnr; have HPK := hid hpk; have HCK := hid hck; clear hpr hnr hpk hck
 go_enter Tryz.func4, Tryz.ntmps4
 go_upto_region 1 with fail
 generalize hW : World.alloc w _ = v1
 have q0 : v1.cell? ⟨w.heap.size, 0, none⟩ = some (vs) := by rw [← hW]; simp [go_sem]
 have q1 : v1.cell? ⟨w.heap.size, 1, none⟩ = some (vb) := by rw [← hW]; simp [go_sem]
 have q2 : v1.cell? ⟨w.heap.size, 2, none⟩ = some (.int .i64 bid) := by rw [← hW]; simp [go_sem]
 have q3 : v1.cell? ⟨w.heap.size, 3, none⟩ = some (.int .i64 bwi) := by rw [← hW]; simp [go_sem]
 have q4 : v1.cell? ⟨w.heap.size, 4, none⟩ = some (.int .i64 bde) := by rw [← hW]; simp [go_sem]
 have q5 : v1.cell? ⟨w.heap.size, 5, none⟩ = some (.int .i64 bce) := by rw [← hW]; simp [go_sem]
 have q6 : v1.cell? ⟨w.heap.size, 6, none⟩ = some (.int .i64 bhi) := by rw [← hW]; simp [go_sem]
 have q7 : v1.cell? ⟨w.heap.size, 7, none⟩ = some (.int .i64 bbe) := by rw [← hW]; simp [go_sem]
 have q8 : v1.cell? ⟨w.heap.size, 8, none⟩ = some (.slice la xs.length lc) := by rw [← hW]; simp [go_sem]
 have hb : Below w.heap.size w v1 := by rw [← hW]; go_grown
 have hb0 := hb
 replace h1 := h1.below hb
 replace h2 := h2.below hb
 replace hl := hl.below hb
 clear hb hW
 go_wp2_with fail
 refine (Pack_any h1 h2 hl HSP.out).mono ?_
 rintro e w1 ⟨v11, rfl, hb, ho⟩
 rw [HPR.out] at ho
 dsimp only at ho
 rw [HPR.out]
 dsimp only
 have a1 : StAt w1 v11 (pr.map toSq) := stAt_of_owns (qs := pr.map toSq) (by rw [List.length_map]; exact ho)
 obtain ⟨a1a, a1c, rfl, -⟩ := owns_shape ho
 clear ho
 replace hb0 := bnext (w := w) (by go_grown) hb
 have hz := hb.size
 (try simp only [World.size_alloc, World.size_setCell] at hz)
 replace q0 := bkeep hb q0
 replace q1 := bkeep hb q1
 replace q2 := bkeep hb q2
 replace q3 := bkeep hb q3
 replace q4 := bkeep hb q4
 replace q5 := bkeep hb q5
 replace q6 := bkeep hb q6
 replace q7 := bkeep hb q7
 replace q8 := bkeep hb q8
 replace h1 := h1.below hb
 replace h2 := h2.below hb
 replace hl := hl.below hb
 clear hb
 go_wp2_with fail
 refine (rPack_any h1 h2 hl).mono ?_
 rintro e w1 ⟨v12, rfl, hb, ho⟩
 rw [HPR.out] at ho
 dsimp only at ho
 rw [HPR.out]
 dsimp only
 have a2 : StAt w1 v12 (pr.map toSq) := stAt_of_owns (qs := pr.map toSq) (by rw [List.length_map]; exact ho)
 obtain ⟨a2a, a2c, rfl, -⟩ := owns_shape ho
 clear ho
 replace hb0 := bnext (w := w) (by go_grown) hb
 have hz := hb.size
 (try simp only [World.size_alloc, World.size_setCell] at hz)
 replace q0 := bkeep hb q0
 replace q1 := bkeep hb q1
 replace q2 := bkeep hb q2
 replace q3 := bkeep hb q3
 replace q4 := bkeep hb q4
 replace q5 := bkeep hb q5
 replace q6 := bkeep hb q6
 replace q7 := bkeep hb q7
 replace q8 := bkeep hb q8
 replace h1 := h1.below hb
 replace h2 := h2.below hb
 replace hl := hl.below hb
 replace a1 := a1.below hb
 clear hb
 go_wp2_with fail
 refine (Packs_any h1 h2 hl HSP.out).mono ?_
 rintro e w1 ⟨rfl, hb⟩
 rw [HPK.out, HCK.out]
 replace hb0 := bnext (w := w) (by go_grown) hb
 have hz := hb.size
 (try simp only [World.size_alloc, World.size_setCell] at hz)
 replace q0 := bkeep hb q0
 replace q1 := bkeep hb q1
 replace q2 := bkeep hb q2
 replace q3 := bkeep hb q3
 replace q4 := bkeep hb q4
 replace q5 := bkeep hb q5
 replace q6 := bkeep hb q6
 replace q7 := bkeep hb q7
 replace q8 := bkeep hb q8
 replace h1 := h1.below hb
 replace h2 := h2.below hb
 replace hl := hl.below hb
 replace a1 := a1.below hb
 replace a2 := a2.below hb
 clear hb
 go_wp2_with fail
 refine (rPacksN_any h1 h2 hl).mono ?_
 rintro e w1 ⟨rfl, hb⟩
 rw [HPK.out, HCK.out]
 replace hb0 := bnext (w := w) (by go_grown) hb
 have hz := hb.size
 (try simp only [World.size_alloc, World.size_setCell] at hz)
 replace q0 := bkeep hb q0
 replace q1 := bkeep hb q1
 replace q2 := bkeep hb q2
 replace q3 := bkeep hb q3
 replace q4 := bkeep hb q4
 replace q5 := bkeep hb q5
 replace q6 := bkeep hb q6
 replace q7 := bkeep hb q7
 replace q8 := bkeep hb q8
 replace h1 := h1.below hb
 replace h2 := h2.below hb
 replace hl := hl.below hb
 replace a1 := a1.below hb
 replace a2 := a2.below hb
 clear hb
 go_wp2_with fail
 refine (Nth_any h1 h2 hl HSP.out).mono ?_
 rintro e w1 ⟨v13, rfl, hb, ho⟩
 rw [HNR.out] at ho
 dsimp only at ho
 rw [HNR.out]
 dsimp only
 have a3 : StAt w1 v13 (nr.map toSq) := stAt_of_owns (qs := nr.map toSq) (by rw [List.length_map]; exact ho)
 obtain ⟨a3a, a3c, rfl, -⟩ := owns_shape ho
 clear ho
 replace hb0 := bnext (w := w) (by go_grown) hb
 have hz := hb.size
 (try simp only [World.size_alloc, World.size_setCell] at hz)
 replace q0 := bkeep hb q0
 replace q1 := bkeep hb q1
 replace q2 := bkeep hb q2
 replace q3 := bkeep hb q3
 replace q4 := bkeep hb q4
 replace q5 := bkeep hb q5
 replace q6 := bkeep hb q6
 replace q7 := bkeep hb q7
 replace q8 := bkeep hb q8
 replace h1 := h1.below hb
 replace h2 := h2.below hb
 replace hl := hl.below hb
 replace a1 := a1.below hb
 replace a2 := a2.below hb
 clear hb
 go_wp2_with fail
 refine (rNth_any h1 h2 hl).mono ?_
 rintro e w1 ⟨v14, rfl, hb, ho⟩
 rw [HNR.out] at ho
 dsimp only at ho
 rw [HNR.out]
 dsimp only
 have a4 : StAt w1 v14 (nr.map toSq) := stAt_of_owns (qs := nr.map toSq) (by rw [List.length_map]; exact ho)
 obtain ⟨a4a, a4c, rfl, -⟩ := owns_shape ho
 clear ho
 replace hb0 := bnext (w := w) (by go_grown) hb
 have hz := hb.size
 (try simp only [World.size_alloc, World.size_setCell] at hz)
 replace q0 := bkeep hb q0
 replace q1 := bkeep hb q1
 replace q2 := bkeep hb q2
 replace q3 := bkeep hb q3
 replace q4 := bkeep hb q4
 replace q5 := bkeep hb q5
 replace q6 := bkeep hb q6
 replace q7 := bkeep hb q7
 replace q8 := bkeep hb q8
 replace h1 := h1.below hb
 replace h2 := h2.below hb
 replace hl := hl.below hb
 replace a1 := a1.below hb
 replace a2 := a2.below hb
 replace a3 := a3.below hb
 clear hb
 have hc0 : (pe == pe) = true := by simp
 have hc1 : (pk == pk) = true := by simp
 have hc2 : (ck == ck) = true := by simp
 have hc3 : (ne == ne) = true := by simp
 go_wp2_with fail
 refine (sameStands_any (b := true) a1 a2 (by rw [List.length_map]; omega) (decide_eq_true rfl)).mono ?_
 rintro e w1 ⟨rfl, hb⟩
 replace hb0 := bnext (w := w) (by go_grown) hb
 have hz := hb.size
 (try simp only [World.size_alloc, World.size_setCell] at hz)
 replace q0 := bkeep hb q0
 replace q1 := bkeep hb q1
 replace q2 := bkeep hb q2
 replace q3 := bkeep hb q3
 replace q4 := bkeep hb q4
 replace q5 := bkeep hb q5
 replace q6 := bkeep hb q6
 replace q7 := bkeep hb q7
 replace q8 := bkeep hb q8
 replace h1 := h1.below hb
 replace h2 := h2.below hb
 replace hl := hl.below hb
 replace a1 := a1.below hb
 replace a2 := a2.below hb
 replace a3 := a3.below hb
 replace a4 := a4.below hb
 clear hb
 go_wp2_with fail
 refine (sameStands_any (b := true) a3 a4 (by rw [List.length_map]; omega) (decide_eq_true rfl)).mono ?_
 rintro e w1 ⟨rfl, hb⟩
 replace hb0 := bnext (w := w) (by go_grown) hb
 have hz := hb.size
 (try simp only [World.size_alloc, World.size_setCell] at hz)
 replace q0 := bkeep hb q0
 replace q1 := bkeep hb q1
 replace q2 := bkeep hb q2
 replace q3 := bkeep hb q3
 replace q4 := bkeep hb q4
 replace q5 := bkeep hb q5
 replace q6 := bkeep hb q6
 replace q7 := bkeep hb q7
 replace q8 := bkeep hb q8
 replace h1 := h1.below hb
 replace h2 := h2.below hb
 replace hl := hl.below hb
 clear hb
 go_wp2_with fail
 refine sane_any.mono ?_
 rintro e w1 ⟨rfl, hb⟩
 replace hb0 := bnext (w := w) hb0 hb
 go_wp2_with fail
 go_ret
 exact ⟨rfl, hb0⟩
theorem spots_all {ss bs : List (List Int)} {xs : List It} {bid bwi bde bce bhi bbe : Int} : ∀ (W : World) (v : Value), FeetAt W v (feetV ss bs ⟨bid, bwi, bde, bce, bhi, bbe⟩ xs) → Calls Tryz.prog 129 #[.agg #[.int .i64 bid, .int .i64 bwi, .int .i64 bde, .int .i64 bce, .int .i64 bhi, .int .i64 bbe], v] W (fun e W' => ∃ u, e = .returned u ∧ Below W.heap.size W W' ∧ SpotsIn W.heap.size W'.heap.size u ((feetV ss bs ⟨bid, bwi, bde, bce, bhi, bbe⟩ xs).map (spotsL ⟨bid, bwi, bde, bce, bhi, bbe⟩)) W' ∧ W.heap.size ≤ W'.heap.size) := fun W v h => by
 by_cases hc : ckL ss bs ⟨bid, bwi, bde, bce, bhi, bbe⟩ xs = 0
 ·exact spots_any (ckL_0 hc).2.1 feet_ok feet_len h
 ·exact spots_none (by unfold feetV; rw [if_neg hc]) h
theorem saggarPacks_walk {vs vb lv : Value} {ss bs : List (List Int)} {xs : List It} {bid bwi bde bce bhi bbe n : Int} {w : World} (h1 : RowsAt 11 w vs ss) (h2 : RowsAt 7 w vb bs) (hl : RowsAt 3 w lv (xs.map rowX)) : Calls Tryz.prog 4 #[.agg #[vs, vb, .int .i64 bid, .int .i64 bwi, .int .i64 bde, .int .i64 bce, .int .i64 bhi, .int .i64 bbe, lv], .int .i64 n] w (Ret w (.bool true)) := saggarPacks_walk0 h1 h2 hl spots_all
end Go.Proofs.YtodmidchpbcnpaaGreat