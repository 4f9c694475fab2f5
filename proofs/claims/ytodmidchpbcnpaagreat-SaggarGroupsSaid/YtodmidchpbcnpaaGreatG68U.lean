/- Part of a claim. -/
import Derived.Test.YtodmidchpbcnpaaGreatG67U
import Derived.Test.YtodmidchpbcnpaaGreatG45U
import Derived.Test.YtodmidchpbcnpaaGreatG34U
import Derived.Test.YtodmidchpbcnpaaGreatG31U
set_option linter.unusedVariables false
set_option linter.unusedSimpArgs false
namespace Go.Proofs.YtodmidchpbcnpaaGreat
open Go.RowKit Go.Pb Go.Pb.Ware Go.Pb.Sag


def toIt (r : List Int) : It := ⟨r.getD 0 0, r.getD 1 0, r.getD 2 0⟩
theorem rows_it {w : World} {v : Value} {rows : List (List Int)} (h : RowsAt 3 w v rows) : ∃ xs : List It, rows = xs.map rowX := by
 refine ⟨rows.map toIt, ?_⟩
 rw [List.map_map]
 have key : ∀ r ∈ rows, r.length = 3 := by
  rcases h with ⟨_, rfl⟩ | ⟨a, cap, _, _, _, h⟩
  ·intro r hr; cases hr
  ·intro r hr
   obtain ⟨k, hk⟩ := List.getElem?_of_mem hr
   exact (h k r hk).1
 have key2 : ∀ r ∈ rows, (rowX ∘ toIt) r = r := by
  intro r hr
  match r, key r hr with
  | [a, b, c], _ => rfl
 exact (List.map_id rows).symm.trans (List.map_congr_left fun r hr => (key2 r hr).symm)
theorem groups_small {ss bs : List (List Int)} {s : Bx} {xs : List It} : (groupsA ss bs s xs).1.length ≤ 5 ∧ ∀ g ∈ (groupsA ss bs s xs).1, g.length ≤ 5 ∧ ∀ z ∈ g, -100000 ≤ z ∧ z ≤ 100000 := by
 have hn := feet_len (ss := ss) (bs := bs) (s := s) (xs := xs)
 unfold groupsA
 split
 ·split
  ·show ((groupsF s (feetV ss bs s xs)).getD []).length ≤ 5 ∧ ∀ g ∈ (groupsF s (feetV ss bs s xs)).getD [], _
   cases hg : groupsF s (feetV ss bs s xs) with
   | none => exact ⟨by simp, fun g h => by cases h⟩
   | some r =>
    obtain ⟨k, hk, hp⟩ := find_some hg
    obtain ⟨hG, hl⟩ := putF_good _ _ _ _ Good.nil (by simp) hp
    show r.length ≤ 5 ∧ ∀ g ∈ r, _
    exact ⟨by omega, fun g hm => ⟨by have := hG.len g hm; omega, fun z hz => by have := hG.lt g hm z hz; omega⟩⟩
  ·exact ⟨by simp, fun g h => by cases h⟩
 ·exact ⟨by simp, fun g h => by cases h⟩
set_option maxRecDepth 100000 in
set_option maxHeartbeats 4000000 in
theorem saggarGroups_walk {w : World} {vs vb lv gv : Value} {ss bs gs : List (List Int)} {xs : List It} {bid bwi bde bce bhi bbe : Int} (h1 : RowsAt 11 w vs ss) (h2 : RowsAt 7 w vb bs) (hl : RowsAt 3 w lv (xs.map rowX)) (hg : ListsAt gv gs w) (hgl : gs.length ≤ 9223372036854775807) :
  Calls Tryz.prog 7 #[.agg #[vs, vb, .int .i64 bid, .int .i64 bwi, .int .i64 bde, .int .i64 bce, .int .i64 bhi, .int .i64 bbe, lv], gv] w (Ret w (.bool true)) := by
 unfold Ret
 obtain ⟨la, lc, rfl, hll⟩ := hl.shape
 rw [List.length_map] at hl hll ⊢
 obtain ⟨ga, gcap, rfl, -⟩ := id hg
 obtain ⟨⟨rs, re⟩, hrf⟩ : ∃ r, groupsA ss bs ⟨bid, bwi, bde, bce, bhi, bbe⟩ xs = r := ⟨_, rfl⟩
 obtain ⟨d, hd⟩ : ∃ d, ckGr ss bs ⟨bid, bwi, bde, bce, bhi, bbe⟩ xs gs = d := ⟨_, rfl⟩
 have hsm := groups_small (ss := ss) (bs := bs) (s := ⟨bid, bwi, bde, bce, bhi, bbe⟩) (xs := xs)
 rw [hrf] at hsm
 obtain ⟨hrl, hrs⟩ := hsm
 dsimp only at hrl hrs
 have hsz : ∀ z ∈ rs, z.length ≤ 1000 := fun z hz => by have := (hrs z hz).1; omega
 have hri : ∀ g ∈ rs, ∀ z ∈ g, I64 z := fun g hg z hz => i64_small ((hrs g hg).2 z hz).1 ((hrs g hg).2 z hz).2
 have HRF := hid hrf; have HD := hid hd; have HSZ := hid hsz; have HRI := hid hri; clear hrf hd hrs hsz hri
 go_enter Tryz.func7, Tryz.ntmps7
 go_upto_region 1 with fail
 generalize hW : World.alloc w _ = v1
 have q0 : v1.cell? ⟨w.heap.size, 0, none⟩ = some (vs) := by rw [← hW]; simp [go_sem]
 have q1 : v1.cell? ⟨w.heap.size, 1, none⟩ = some (vb) := by rw [← hW]; simp [go_sem]
 have q2 : v1.cell? ⟨w.heap.size, 2, none⟩ = some (.int .i64 bid) := by rw [← hW]; simp [go_sem]
 have q3 : v1.cell? ⟨w.heap.size, 3, none⟩ = some (.int .i64 bwi) := by rw [← hW]; simp [go_sem]
 have q4 : v1.cell? ⟨w.heap.size, 4, none⟩ = some (.int .i64 bde) := by rw [← hW]; simp [go_sem]
 have q5 : v1.cell? ⟨w.heap.size, 5, none⟩ = some (.int .i64 bce) := by rw [← hW]; simp [go_sem]
 have q6 : v1.cell? ⟨w.heap.size, 6, none⟩ = some (.int .i64 bhi) := by rw [← hW]; simp [go_sem]
 have q7 : v1.cell? ⟨w.heap.size, 7, none⟩ = some (.int .i64 bbe) := by rw [← hW]; simp [go_sem]
 have q8 : v1.cell? ⟨w.heap.size, 8, none⟩ = some (.slice la xs.length lc) := by rw [← hW]; simp [go_sem]
 have hb : Below w.heap.size w v1 := by rw [← hW]; go_grown
 have hb0 := hb
 replace h1 := h1.below hb
 replace h2 := h2.below hb
 replace hl := hl.below hb
 replace hg := hg.below hb
 clear hb hW
 go_wp2_with fail
 refine (Groups_any h1 h2 hl).mono ?_
 rintro e w1 ⟨v7, rfl, hb, hn1⟩
 replace hb0 := bnext (w := w) (by go_grown) hb
 have hz := hb.size
 (try simp only [World.size_alloc, World.size_setCell] at hz)
 replace q0 := bkeep hb q0
 replace q1 := bkeep hb q1
 replace q2 := bkeep hb q2
 replace q3 := bkeep hb q3
 replace q4 := bkeep hb q4
 replace q5 := bkeep hb q5
 replace q6 := bkeep hb q6
 replace q7 := bkeep hb q7
 replace q8 := bkeep hb q8
 replace h1 := h1.below hb
 replace h2 := h2.below hb
 replace hl := hl.below hb
 replace hg := hg.below hb
 clear hb
 rw [HRF.out] at hn1
 rw [HRF.out]
 dsimp only at hn1 ⊢
 have hn1l := groupsAt_lists hn1 HRI.out
 clear hn1
 obtain ⟨na, nc, rfl, -⟩ := id hn1l
 go_wp2_with fail
 refine (rGroups_any h1 h2 hl).mono ?_
 rintro e w1 ⟨v8, rfl, hb, hn2⟩
 replace hb0 := bnext (w := w) (by go_grown) hb
 have hz := hb.size
 (try simp only [World.size_alloc, World.size_setCell] at hz)
 replace q0 := bkeep hb q0
 replace q1 := bkeep hb q1
 replace q2 := bkeep hb q2
 replace q3 := bkeep hb q3
 replace q4 := bkeep hb q4
 replace q5 := bkeep hb q5
 replace q6 := bkeep hb q6
 replace q7 := bkeep hb q7
 replace q8 := bkeep hb q8
 replace h1 := h1.below hb
 replace h2 := h2.below hb
 replace hl := hl.below hb
 replace hg := hg.below hb
 replace hn1l := hn1l.below hb
 clear hb
 rw [HRF.out] at hn2
 rw [HRF.out]
 dsimp only at hn2 ⊢
 have hn2l := groupsAt_lists hn2 HRI.out
 clear hn2
 obtain ⟨ma, mc, rfl, -⟩ := id hn2l
 have hc0 : (re == re) = true := by simp
 have hc1 : (d == d) = true := by simp
 go_upto_region 3 with fail
 have s0 := fun x : BW w1 => bkeep x.below q0
 have s1 := fun x : BW w1 => bkeep x.below q1
 have s2 := fun x : BW w1 => bkeep x.below q2
 have s3 := fun x : BW w1 => bkeep x.below q3
 have s4 := fun x : BW w1 => bkeep x.below q4
 have s5 := fun x : BW w1 => bkeep x.below q5
 have s6 := fun x : BW w1 => bkeep x.below q6
 have s7 := fun x : BW w1 => bkeep x.below q7
 have s8 := fun x : BW w1 => bkeep x.below q8
 refine wp_region_qb (by kernel_rfl) (by kernel_rfl) fun hc => ?_
 repeat (go_big_quiet_step ((first | (go_at_call 37; exact BW.call _ (sameRows_any (b := true) (hn1l.below (BW.below _)) (hn2l.below (BW.below _)) (by omega) HSZ.out (decide_eq_true rfl))) | (go_at_call 52; exact BW.call _ (CheckGroups_any (h1.below (BW.below _)) (h2.below (BW.below _)) (hl.below (BW.below _)) (hg.below (BW.below _)) hgl HD.out)) | (go_at_call 53; exact BW.call _ (rCheckGroups_any (h1.below (BW.below _)) (h2.below (BW.below _)) (hl.below (BW.below _)) (hg.below (BW.below _)) hgl HD.out)) | (go_at_call 24; exact BW.call _ (sane_any)))))
 refine wpQuiet_nil ?_
 intro w9 hb
 replace hb0 := bnext (w := w) hb0 hb
 go_wp2_with fail
 go_ret
 exact ⟨rfl, hb0⟩
end Go.Proofs.YtodmidchpbcnpaaGreat