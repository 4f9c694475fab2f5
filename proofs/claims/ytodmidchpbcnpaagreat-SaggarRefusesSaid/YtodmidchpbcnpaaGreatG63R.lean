/- Part of a claim. -/
import Derived.Test.YtodmidchpbcnpaaGreatG61R
import Derived.Test.YtodmidchpbcnpaaGreatG62R
import Derived.Test.YtodmidchpbcnpaaGreatKG53R
import Derived.Test.YtodmidchpbcnpaaGreatG46R
import Derived.Test.YtodmidchpbcnpaaGreatG34R
import Derived.Test.YtodmidchpbcnpaaGreatG31R
import Derived.Test.YtodmidchpbcnpaaGreatG37R
set_option linter.unusedVariables false
set_option linter.unusedSimpArgs false
namespace Go.Proofs.YtodmidchpbcnpaaGreat
open Go.RowKit Go.Pb Go.Pb.Ware Go.Pb.Sag


def toIt (r : List Int) : It := ⟨r.getD 0 0, r.getD 1 0, r.getD 2 0⟩
theorem rows_it {w : World} {v : Value} {rows : List (List Int)} (h : RowsAt 3 w v rows) : ∃ xs : List It, rows = xs.map rowX := by
 refine ⟨rows.map toIt, ?_⟩
 rw [List.map_map]
 have key : ∀ r ∈ rows, r.length = 3 := by
  rcases h with ⟨_, rfl⟩ | ⟨a, cap, _, _, _, h⟩
  ·intro r hr; cases hr
  ·intro r hr
   obtain ⟨k, hk⟩ := List.getElem?_of_mem hr
   exact (h k r hk).1
 have key2 : ∀ r ∈ rows, (rowX ∘ toIt) r = r := by
  intro r hr
  match r, key r hr with
  | [a, b, c], _ => rfl
 exact (List.map_id rows).symm.trans (List.map_congr_left fun r hr => (key2 r hr).symm)
theorem need_len {s : Bx} {fs : List Ft} {kind : Int} : ∀ (m : Nat) (l : List Int), m ≤ l.length → (needLoop s fs kind m l).length ≤ l.length
 | 0, l, _ => Nat.le_refl _
 | m + 1, l, h => by
  have h1 := needStep_len (s := s) (fs := fs) (kind := kind) (l := l) (i := m) (by omega)
  have h2 := need_len (s := s) (fs := fs) (kind := kind) m (needStep s fs kind l m) h1.1
  rw [needLoop]; omega
theorem refuse_len {ss bs : List (List Int)} {s : Bx} {xs : List It} : (refuseA ss bs s xs).2.1.length ≤ 5 := by
 unfold refuseA
 split
 ·unfold refuseF
  split
  ·rename_i k _
   have h := need_len (s := s) (fs := feetV ss bs s xs) (kind := k) (feetV ss bs s xs).length (idxs (feetV ss bs s xs).length) (by rw [idxs_len]; exact Nat.le_refl _)
   rw [idxs_len] at h
   have h5 := feet_len (ss := ss) (bs := bs) (s := s) (xs := xs)
   exact Nat.le_trans h h5
  ·simp
 ·simp
theorem most_both {ss bs : List (List Int)} {bid bwi bde bce bhi bbe ish imn icl : Int} : ∃ mv mc : Int, (∀ (W : World) (vs vb : Value), RowsAt 11 W vs ss → RowsAt 7 W vb bs → Calls Tryz.prog 45 #[.agg #[vs, vb], .agg #[.int .i64 bid, .int .i64 bwi, .int .i64 bde, .int .i64 bce, .int .i64 bhi, .int .i64 bbe], .agg #[.int .i64 ish, .int .i64 imn, .int .i64 icl]] W (Ret W (.tuple #[.int .i64 mv, .int .i64 mc]))) ∧ (∀ (W : World) (vs vb : Value), RowsAt 11 W vs ss → RowsAt 7 W vb bs → Calls Tryz.prog 46 #[.agg #[vs, vb], .agg #[.int .i64 bid, .int .i64 bwi, .int .i64 bde, .int .i64 bce, .int .i64 bhi, .int .i64 bbe], .agg #[.int .i64 ish, .int .i64 imn, .int .i64 icl]] W (Ret W (.tuple #[.int .i64 mv, .int .i64 mc]))) := by
 obtain ⟨⟨⟨fw, fd, fh, fg⟩, c⟩, hx⟩ : ∃ r, footV ss bs ⟨bid, bwi, bde, bce, bhi, bbe⟩ ⟨ish, imn, icl⟩ = r := ⟨_, rfl⟩
 by_cases hc : c = 0
 ·subst hc
  obtain ⟨hX, hF⟩ := footV_good hx
  exact ⟨_, _, fun W vs vb h1 h2 => Most_any h1 h2 hx hX hF rfl rfl, fun W vs vb h1 h2 => rMost_any h1 h2 hx hX hF rfl rfl⟩
 ·exact ⟨0, c, fun W vs vb h1 h2 => Most_bad h1 h2 hx hc, fun W vs vb h1 h2 => rMost_bad h1 h2 hx hc⟩
set_option maxRecDepth 100000 in
set_option maxHeartbeats 4000000 in
theorem saggarRefuses_walk {w : World} {vs vb lv rv : Value} {ss bs : List (List Int)} {xs : List It} {zs : List Int} {bid bwi bde bce bhi bbe ish imn icl kind : Int} (h1 : RowsAt 11 w vs ss) (h2 : RowsAt 7 w vb bs) (hl : RowsAt 3 w lv (xs.map rowX)) (hzn : NumsAt w rv zs) :
  Calls Tryz.prog 6 #[.agg #[vs, vb, .int .i64 bid, .int .i64 bwi, .int .i64 bde, .int .i64 bce, .int .i64 bhi, .int .i64 bbe, lv], .agg #[.int .i64 kind, rv], .agg #[.int .i64 ish, .int .i64 imn, .int .i64 icl]] w (Ret w (.bool true)) := by
 unfold Ret
 obtain ⟨la, lc, rfl, hll⟩ := hl.shape
 rw [List.length_map] at hl hll ⊢
 obtain ⟨za, zc, rfl, -, -⟩ := hzn.shape
 obtain ⟨⟨rk, rl, re⟩, hrf⟩ : ∃ r, refuseA ss bs ⟨bid, bwi, bde, bce, bhi, bbe⟩ xs = r := ⟨_, rfl⟩
 obtain ⟨d, hd⟩ : ∃ d, ckQ ss bs ⟨bid, bwi, bde, bce, bhi, bbe⟩ xs kind zs = d := ⟨_, rfl⟩
 obtain ⟨mv, mc, hm1, hm2⟩ := most_both (ss := ss) (bs := bs) (bid := bid) (bwi := bwi) (bde := bde) (bce := bce) (bhi := bhi) (bbe := bbe) (ish := ish) (imn := imn) (icl := icl)
 have hrl : rl.length ≤ 5 := by have h := refuse_len (ss := ss) (bs := bs) (s := ⟨bid, bwi, bde, bce, bhi, bbe⟩) (xs := xs); rw [hrf] at h; exact h
 have HRF := hid hrf; have HD := hid hd; have HM1 := hid hm1; have HM2 := hid hm2; clear hrf hd hm1 hm2
 go_enter Tryz.func6, Tryz.ntmps6
 go_upto_region 1 with fail
 generalize hW : World.alloc (World.alloc (World.alloc w _) _) _ = v1
 have q0 : v1.cell? ⟨w.heap.size, 0, none⟩ = some (vs) := by rw [← hW]; simp [go_sem]
 have q1 : v1.cell? ⟨w.heap.size, 1, none⟩ = some (vb) := by rw [← hW]; simp [go_sem]
 have q2 : v1.cell? ⟨w.heap.size, 2, none⟩ = some (.int .i64 bid) := by rw [← hW]; simp [go_sem]
 have q3 : v1.cell? ⟨w.heap.size, 3, none⟩ = some (.int .i64 bwi) := by rw [← hW]; simp [go_sem]
 have q4 : v1.cell? ⟨w.heap.size, 4, none⟩ = some (.int .i64 bde) := by rw [← hW]; simp [go_sem]
 have q5 : v1.cell? ⟨w.heap.size, 5, none⟩ = some (.int .i64 bce) := by rw [← hW]; simp [go_sem]
 have q6 : v1.cell? ⟨w.heap.size, 6, none⟩ = some (.int .i64 bhi) := by rw [← hW]; simp [go_sem]
 have q7 : v1.cell? ⟨w.heap.size, 7, none⟩ = some (.int .i64 bbe) := by rw [← hW]; simp [go_sem]
 have q8 : v1.cell? ⟨w.heap.size, 8, none⟩ = some (.slice la xs.length lc) := by rw [← hW]; simp [go_sem]
 have q9 : v1.cell? ⟨w.heap.size + 1, 0, none⟩ = some (.int .i64 kind) := by rw [← hW]; simp [go_sem]
 have q10 : v1.cell? ⟨w.heap.size + 1, 1, none⟩ = some (.slice za zs.length zc) := by rw [← hW]; simp [go_sem]
 have q11 : v1.cell? ⟨w.heap.size + 1 + 1, 0, none⟩ = some (.int .i64 ish) := by rw [← hW]; simp [go_sem]
 have q12 : v1.cell? ⟨w.heap.size + 1 + 1, 1, none⟩ = some (.int .i64 imn) := by rw [← hW]; simp [go_sem]
 have q13 : v1.cell? ⟨w.heap.size + 1 + 1, 2, none⟩ = some (.int .i64 icl) := by rw [← hW]; simp [go_sem]
 have hb : Below w.heap.size w v1 := by rw [← hW]; go_grown
 have hb0 := hb
 replace h1 := h1.below hb
 replace h2 := h2.below hb
 replace hl := hl.below hb
 replace hzn := hzn.below hb
 clear hb hW
 go_wp2_with fail
 refine (Refuse_any h1 h2 hl).mono ?_
 rintro e w1 ⟨nv1, rfl, hb, hn1⟩
 replace hb0 := bnext (w := w) (by go_grown) hb
 have hz := hb.size
 (try simp only [World.size_alloc, World.size_setCell] at hz)
 replace q0 := bkeep hb q0
 replace q1 := bkeep hb q1
 replace q2 := bkeep hb q2
 replace q3 := bkeep hb q3
 replace q4 := bkeep hb q4
 replace q5 := bkeep hb q5
 replace q6 := bkeep hb q6
 replace q7 := bkeep hb q7
 replace q8 := bkeep hb q8
 replace q9 := bkeep hb q9
 replace q10 := bkeep hb q10
 replace q11 := bkeep hb q11
 replace q12 := bkeep hb q12
 replace q13 := bkeep hb q13
 replace h1 := h1.below hb
 replace h2 := h2.below hb
 replace hl := hl.below hb
 replace hzn := hzn.below hb
 clear hb
 rw [HRF.out] at hn1
 rw [HRF.out]
 dsimp only at hn1 ⊢
 obtain ⟨na, nc, rfl, -, -⟩ := hn1.shape
 obtain ⟨v2, hv2⟩ : ∃ v, v = w1 := ⟨_, rfl⟩
 subst hv2
 go_upto_region 2 with fail
 generalize hW : World.alloc v2 _ = v3
 have d0 : v3.cell? ⟨v2.heap.size, 0, none⟩ = some (.int .i64 rk) := by rw [← hW]; simp [go_sem]
 have d1 : v3.cell? ⟨v2.heap.size, 1, none⟩ = some (.slice na rl.length nc) := by rw [← hW]; simp [go_sem]
 have hb : Below v2.heap.size v2 v3 := by rw [← hW]; exact (Below.refl _ _).alloc (Nat.le_refl _) _
 replace hb0 := bnext (w := w) (by go_grown) hb
 have hz := hb.size
 (try simp only [World.size_alloc, World.size_setCell] at hz)
 replace q0 := bkeep hb q0
 replace q1 := bkeep hb q1
 replace q2 := bkeep hb q2
 replace q3 := bkeep hb q3
 replace q4 := bkeep hb q4
 replace q5 := bkeep hb q5
 replace q6 := bkeep hb q6
 replace q7 := bkeep hb q7
 replace q8 := bkeep hb q8
 replace q9 := bkeep hb q9
 replace q10 := bkeep hb q10
 replace q11 := bkeep hb q11
 replace q12 := bkeep hb q12
 replace q13 := bkeep hb q13
 replace h1 := h1.below hb
 replace h2 := h2.below hb
 replace hl := hl.below hb
 replace hzn := hzn.below hb
 replace hn1 := hn1.below hb
 clear hb
 clear hW
 go_wp2_with fail
 refine (rRefuse_any h1 h2 hl).mono ?_
 rintro e w1 ⟨nv2, rfl, hb, hn2⟩
 replace hb0 := bnext (w := w) (by go_grown) hb
 have hz := hb.size
 (try simp only [World.size_alloc, World.size_setCell] at hz)
 replace q0 := bkeep hb q0
 replace q1 := bkeep hb q1
 replace q2 := bkeep hb q2
 replace q3 := bkeep hb q3
 replace q4 := bkeep hb q4
 replace q5 := bkeep hb q5
 replace q6 := bkeep hb q6
 replace q7 := bkeep hb q7
 replace q8 := bkeep hb q8
 replace q9 := bkeep hb q9
 replace q10 := bkeep hb q10
 replace q11 := bkeep hb q11
 replace q12 := bkeep hb q12
 replace q13 := bkeep hb q13
 replace d0 := bkeep hb d0
 replace d1 := bkeep hb d1
 replace h1 := h1.below hb
 replace h2 := h2.below hb
 replace hl := hl.below hb
 replace hzn := hzn.below hb
 replace hn1 := hn1.below hb
 clear hb
 rw [HRF.out] at hn2
 rw [HRF.out]
 dsimp only at hn2 ⊢
 obtain ⟨ma, mk, rfl, -, -⟩ := hn2.shape
 obtain ⟨v4, hv4⟩ : ∃ v, v = w1 := ⟨_, rfl⟩
 subst hv4
 go_upto_region 3 with fail
 generalize hW : World.alloc v4 _ = v5
 have e0 : v5.cell? ⟨v4.heap.size, 0, none⟩ = some (.int .i64 rk) := by rw [← hW]; simp [go_sem]
 have e1 : v5.cell? ⟨v4.heap.size, 1, none⟩ = some (.slice ma rl.length mk) := by rw [← hW]; simp [go_sem]
 have hb : Below v4.heap.size v4 v5 := by rw [← hW]; exact (Below.refl _ _).alloc (Nat.le_refl _) _
 replace hb0 := bnext (w := w) (by go_grown) hb
 have hz := hb.size
 (try simp only [World.size_alloc, World.size_setCell] at hz)
 replace q0 := bkeep hb q0
 replace q1 := bkeep hb q1
 replace q2 := bkeep hb q2
 replace q3 := bkeep hb q3
 replace q4 := bkeep hb q4
 replace q5 := bkeep hb q5
 replace q6 := bkeep hb q6
 replace q7 := bkeep hb q7
 replace q8 := bkeep hb q8
 replace q9 := bkeep hb q9
 replace q10 := bkeep hb q10
 replace q11 := bkeep hb q11
 replace q12 := bkeep hb q12
 replace q13 := bkeep hb q13
 replace d0 := bkeep hb d0
 replace d1 := bkeep hb d1
 replace h1 := h1.below hb
 replace h2 := h2.below hb
 replace hl := hl.below hb
 replace hzn := hzn.below hb
 replace hn1 := hn1.below hb
 replace hn2 := hn2.below hb
 clear hb
 clear hW
 go_wp2_with fail
 refine (HM1.out _ _ _ h1 h2).mono ?_
 rintro e w1 ⟨rfl, hb⟩
 replace hb0 := bnext (w := w) (by go_grown) hb
 have hz := hb.size
 (try simp only [World.size_alloc, World.size_setCell] at hz)
 replace q0 := bkeep hb q0
 replace q1 := bkeep hb q1
 replace q2 := bkeep hb q2
 replace q3 := bkeep hb q3
 replace q4 := bkeep hb q4
 replace q5 := bkeep hb q5
 replace q6 := bkeep hb q6
 replace q7 := bkeep hb q7
 replace q8 := bkeep hb q8
 replace q9 := bkeep hb q9
 replace q10 := bkeep hb q10
 replace q11 := bkeep hb q11
 replace q12 := bkeep hb q12
 replace q13 := bkeep hb q13
 replace d0 := bkeep hb d0
 replace d1 := bkeep hb d1
 replace e0 := bkeep hb e0
 replace e1 := bkeep hb e1
 replace h1 := h1.below hb
 replace h2 := h2.below hb
 replace hl := hl.below hb
 replace hzn := hzn.below hb
 replace hn1 := hn1.below hb
 replace hn2 := hn2.below hb
 clear hb
 go_wp2_with fail
 refine (HM2.out _ _ _ h1 h2).mono ?_
 rintro e w1 ⟨rfl, hb⟩
 replace hb0 := bnext (w := w) (by go_grown) hb
 have hz := hb.size
 (try simp only [World.size_alloc, World.size_setCell] at hz)
 replace q0 := bkeep hb q0
 replace q1 := bkeep hb q1
 replace q2 := bkeep hb q2
 replace q3 := bkeep hb q3
 replace q4 := bkeep hb q4
 replace q5 := bkeep hb q5
 replace q6 := bkeep hb q6
 replace q7 := bkeep hb q7
 replace q8 := bkeep hb q8
 replace q9 := bkeep hb q9
 replace q10 := bkeep hb q10
 replace q11 := bkeep hb q11
 replace q12 := bkeep hb q12
 replace q13 := bkeep hb q13
 replace d0 := bkeep hb d0
 replace d1 := bkeep hb d1
 replace e0 := bkeep hb e0
 replace e1 := bkeep hb e1
 replace h1 := h1.below hb
 replace h2 := h2.below hb
 replace hl := hl.below hb
 replace hzn := hzn.below hb
 replace hn1 := hn1.below hb
 replace hn2 := hn2.below hb
 clear hb
 have hc0 : (rk == rk) = true := by simp
 have hc1 : (re == re) = true := by simp
 have hc2 : (mv == mv) = true := by simp
 have hc3 : (mc == mc) = true := by simp
 have hc4 : (d == d) = true := by simp
 go_upto_region 5 with fail
 have s0 := fun x : BW w1 => bkeep x.below q0
 have s1 := fun x : BW w1 => bkeep x.below q1
 have s2 := fun x : BW w1 => bkeep x.below q2
 have s3 := fun x : BW w1 => bkeep x.below q3
 have s4 := fun x : BW w1 => bkeep x.below q4
 have s5 := fun x : BW w1 => bkeep x.below q5
 have s6 := fun x : BW w1 => bkeep x.below q6
 have s7 := fun x : BW w1 => bkeep x.below q7
 have s8 := fun x : BW w1 => bkeep x.below q8
 have s9 := fun x : BW w1 => bkeep x.below q9
 have s10 := fun x : BW w1 => bkeep x.below q10
 have s11 := fun x : BW w1 => bkeep x.below q11
 have s12 := fun x : BW w1 => bkeep x.below q12
 have s13 := fun x : BW w1 => bkeep x.below q13
 have td0 := fun x : BW w1 => bkeep x.below d0
 have td1 := fun x : BW w1 => bkeep x.below d1
 have te0 := fun x : BW w1 => bkeep x.below e0
 have te1 := fun x : BW w1 => bkeep x.below e1
 refine wp_region_qb (by kernel_rfl) (by kernel_rfl) fun hc => ?_
 repeat (go_big_quiet_step ((first | (go_at_call 47; exact BW.call _ (sameInts_any (b := true) (hn1.below (BW.below _)) (hn2.below (BW.below _)) (by omega) (decide_eq_true rfl))) | (go_at_call 48; exact BW.call _ (CheckRefusal_any (h1.below (BW.below _)) (h2.below (BW.below _)) (hl.below (BW.below _)) (hzn.below (BW.below _)) HD.out)) | (go_at_call 49; exact BW.call _ (rCheckRefusal_any (h1.below (BW.below _)) (h2.below (BW.below _)) (hl.below (BW.below _)) (hzn.below (BW.below _)) HD.out)) | (go_at_call 24; exact BW.call _ (sane_any)))))
 refine wpQuiet_nil ?_
 intro w9 hb
 replace hb0 := bnext (w := w) hb0 hb
 go_wp2_with fail
 go_ret
 exact ⟨rfl, hb0⟩
end Go.Proofs.YtodmidchpbcnpaaGreat