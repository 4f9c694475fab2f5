/- What items need, and where they may stand: the program and the reference agree. -/
import Derived.Test.YtodmidchpbcnpaaGreatG53T
import Derived.Test.YtodmidchpbcnpaaGreatG34T
import Derived.Test.YtodmidchpbcnpaaGreatG31T
import Derived.Test.YtodmidchpbcnpaaGreatG2T
namespace Go.Proofs.YtodmidchpbcnpaaGreat
open Go.RowKit Go.Pb Go.Pb.Ware Go.Pb.Sag
set_option linter.unusedVariables false
set_option linter.unusedSimpArgs false

def toIt (r : List Int) : It := ⟨r.getD 0 0, r.getD 1 0, r.getD 2 0⟩
theorem rows_it {w : World} {v : Value} {rows : List (List Int)} (h : RowsAt 3 w v rows) : ∃ xs : List It, rows = xs.map rowX := by
  refine ⟨rows.map toIt, ?_⟩
  rw [List.map_map]
  have key : ∀ r ∈ rows, r.length = 3 := by
    rcases h with ⟨_, rfl⟩ | ⟨a, cap, _, _, _, h⟩
    · intro r hr; cases hr
    · intro r hr
      obtain ⟨k, hk⟩ := List.getElem?_of_mem hr
      exact (h k r hk).1
  have key2 : ∀ r ∈ rows, (rowX ∘ toIt) r = r := by
    intro r hr
    match r, key r hr with
    | [a, b, c], _ => rfl
  exact (List.map_id rows).symm.trans (List.map_congr_left fun r hr => (key2 r hr).symm)

set_option maxRecDepth 100000 in
set_option maxHeartbeats 4000000 in
theorem saggarFeet_walk {w : World} {vs vb lv : Value} {ss bs : List (List Int)} {xs : List It} {bid bwi bde bce bhi bbe ish imn icl : Int} (h1 : RowsAt 11 w vs ss) (h2 : RowsAt 7 w vb bs) (hl : RowsAt 3 w lv (xs.map rowX)) :
    Calls Tryz.prog 3 #[.agg #[vs, vb, .int .i64 bid, .int .i64 bwi, .int .i64 bde, .int .i64 bce, .int .i64 bhi, .int .i64 bbe, lv], .agg #[.int .i64 ish, .int .i64 imn, .int .i64 icl]] w (Ret w (.bool true)) := by
  unfold Ret
  obtain ⟨la, lc, rfl, hll⟩ := hl.shape
  rw [List.length_map] at hl hll ⊢
  obtain ⟨⟨⟨fw, fd, fh, fg⟩, c⟩, hx⟩ : ∃ r, footV ss bs ⟨bid, bwi, bde, bce, bhi, bbe⟩ ⟨ish, imn, icl⟩ = r := ⟨_, rfl⟩
  obtain ⟨cx, hcx⟩ : ∃ c, ckX ⟨bid, bwi, bde, bce, bhi, bbe⟩ = c := ⟨_, rfl⟩
  obtain ⟨ci, hci⟩ : ∃ c, ckI ss bs ⟨ish, imn, icl⟩ = c := ⟨_, rfl⟩
  obtain ⟨fs, hfs⟩ : ∃ fs, feetV ss bs ⟨bid, bwi, bde, bce, bhi, bbe⟩ xs = fs := ⟨_, rfl⟩
  obtain ⟨cl, hcl⟩ : ∃ c, ckL ss bs ⟨bid, bwi, bde, bce, bhi, bbe⟩ xs = c := ⟨_, rfl⟩
  obtain ⟨⟨sl, sc⟩, hsl⟩ : ∃ r, standsA ss bs ⟨bid, bwi, bde, bce, bhi, bbe⟩ ⟨ish, imn, icl⟩ = r := ⟨_, rfl⟩
  have hok : ∀ f ∈ fs, FtOk f := hfs ▸ feet_ok
  have hn5 : fs.length ≤ 5 := hfs ▸ feet_len
  have hsn : sl.length ≤ 1000 := by
    have h3 := congrArg (fun r => r.1.length) hsl
    dsimp only at h3
    unfold standsA at h3
    rw [hx] at h3
    by_cases hc0 : c = 0
    · rw [if_pos hc0] at h3; subst hc0; have := stands_small (f := (⟨fw, fd, fh, fg⟩ : Ft)) (footV_good hx).1; dsimp only at h3; omega
    · rw [if_neg hc0] at h3; dsimp only at h3; rw [← h3]; simp
  have HX := hid hx; have HCX := hid hcx; have HCI := hid hci; have HFS := hid hfs; have HCL := hid hcl; have HSL := hid hsl; clear hx hcx hci hfs hcl hsl
  go_enter Tryz.func3, Tryz.ntmps3
  go_upto_region 1 with fail
  generalize hW : World.alloc (World.alloc w _) _ = v1
  have q0 : v1.cell? ⟨w.heap.size, 0, none⟩ = some (vs) := by rw [← hW]; simp [go_sem]
  have q1 : v1.cell? ⟨w.heap.size, 1, none⟩ = some (vb) := by rw [← hW]; simp [go_sem]
  have q2 : v1.cell? ⟨w.heap.size, 2, none⟩ = some (.int .i64 bid) := by rw [← hW]; simp [go_sem]
  have q3 : v1.cell? ⟨w.heap.size, 3, none⟩ = some (.int .i64 bwi) := by rw [← hW]; simp [go_sem]
  have q4 : v1.cell? ⟨w.heap.size, 4, none⟩ = some (.int .i64 bde) := by rw [← hW]; simp [go_sem]
  have q5 : v1.cell? ⟨w.heap.size, 5, none⟩ = some (.int .i64 bce) := by rw [← hW]; simp [go_sem]
  have q6 : v1.cell? ⟨w.heap.size, 6, none⟩ = some (.int .i64 bhi) := by rw [← hW]; simp [go_sem]
  have q7 : v1.cell? ⟨w.heap.size, 7, none⟩ = some (.int .i64 bbe) := by rw [← hW]; simp [go_sem]
  have q8 : v1.cell? ⟨w.heap.size, 8, none⟩ = some (.slice la xs.length lc) := by rw [← hW]; simp [go_sem]
  have q9 : v1.cell? ⟨w.heap.size + 1, 0, none⟩ = some (.int .i64 ish) := by rw [← hW]; simp [go_sem]
  have q10 : v1.cell? ⟨w.heap.size + 1, 1, none⟩ = some (.int .i64 imn) := by rw [← hW]; simp [go_sem]
  have q11 : v1.cell? ⟨w.heap.size + 1, 2, none⟩ = some (.int .i64 icl) := by rw [← hW]; simp [go_sem]
  have hb : Below w.heap.size w v1 := by rw [← hW]; go_grown
  have hb0 := hb
  replace h1 := h1.below hb
  replace h2 := h2.below hb
  replace hl := hl.below hb
  clear hb hW
  go_wp2_with fail
  refine (Foot_any h1 h2 HX.out).mono ?_
  rintro e w1 ⟨rfl, hb⟩
  replace hb0 := bnext (w := w) (by go_grown) hb
  have hz := hb.size
  (try simp only [World.size_alloc, World.size_setCell] at hz)
  replace q0 := bkeep hb q0
  replace q1 := bkeep hb q1
  replace q2 := bkeep hb q2
  replace q3 := bkeep hb q3
  replace q4 := bkeep hb q4
  replace q5 := bkeep hb q5
  replace q6 := bkeep hb q6
  replace q7 := bkeep hb q7
  replace q8 := bkeep hb q8
  replace q9 := bkeep hb q9
  replace q10 := bkeep hb q10
  replace q11 := bkeep hb q11
  replace h1 := h1.below hb
  replace h2 := h2.below hb
  replace hl := hl.below hb
  clear hb
  obtain ⟨v2, hv2⟩ : ∃ v, v = w1 := ⟨_, rfl⟩
  subst hv2
  go_upto_region 2 with fail
  generalize hW : World.alloc v2 _ = v3
  have d0 : v3.cell? ⟨v2.heap.size, 0, none⟩ = some (.int .i64 fw) := by rw [← hW]; simp [go_sem]
  have d1 : v3.cell? ⟨v2.heap.size, 1, none⟩ = some (.int .i64 fd) := by rw [← hW]; simp [go_sem]
  have d2 : v3.cell? ⟨v2.heap.size, 2, none⟩ = some (.int .i64 fh) := by rw [← hW]; simp [go_sem]
  have d3 : v3.cell? ⟨v2.heap.size, 3, none⟩ = some (.int .i64 fg) := by rw [← hW]; simp [go_sem]
  have hb : Below v2.heap.size v2 v3 := by rw [← hW]; exact (Below.refl _ _).alloc (Nat.le_refl _) _
  replace hb0 := bnext (w := w) (by go_grown) hb
  have hz := hb.size
  (try simp only [World.size_alloc, World.size_setCell] at hz)
  replace q0 := bkeep hb q0
  replace q1 := bkeep hb q1
  replace q2 := bkeep hb q2
  replace q3 := bkeep hb q3
  replace q4 := bkeep hb q4
  replace q5 := bkeep hb q5
  replace q6 := bkeep hb q6
  replace q7 := bkeep hb q7
  replace q8 := bkeep hb q8
  replace q9 := bkeep hb q9
  replace q10 := bkeep hb q10
  replace q11 := bkeep hb q11
  replace h1 := h1.below hb
  replace h2 := h2.below hb
  replace hl := hl.below hb
  clear hb
  clear hW
  go_wp2_with fail
  refine (rFoot_any h1 h2 HX.out).mono ?_
  rintro e w1 ⟨rfl, hb⟩
  replace hb0 := bnext (w := w) (by go_grown) hb
  have hz := hb.size
  (try simp only [World.size_alloc, World.size_setCell] at hz)
  replace q0 := bkeep hb q0
  replace q1 := bkeep hb q1
  replace q2 := bkeep hb q2
  replace q3 := bkeep hb q3
  replace q4 := bkeep hb q4
  replace q5 := bkeep hb q5
  replace q6 := bkeep hb q6
  replace q7 := bkeep hb q7
  replace q8 := bkeep hb q8
  replace q9 := bkeep hb q9
  replace q10 := bkeep hb q10
  replace q11 := bkeep hb q11
  replace d0 := bkeep hb d0
  replace d1 := bkeep hb d1
  replace d2 := bkeep hb d2
  replace d3 := bkeep hb d3
  replace h1 := h1.below hb
  replace h2 := h2.below hb
  replace hl := hl.below hb
  clear hb
  obtain ⟨v4, hv4⟩ : ∃ v, v = w1 := ⟨_, rfl⟩
  subst hv4
  go_upto_region 3 with fail
  generalize hW : World.alloc v4 _ = v5
  have e0 : v5.cell? ⟨v4.heap.size, 0, none⟩ = some (.int .i64 fw) := by rw [← hW]; simp [go_sem]
  have e1 : v5.cell? ⟨v4.heap.size, 1, none⟩ = some (.int .i64 fd) := by rw [← hW]; simp [go_sem]
  have e2 : v5.cell? ⟨v4.heap.size, 2, none⟩ = some (.int .i64 fh) := by rw [← hW]; simp [go_sem]
  have e3 : v5.cell? ⟨v4.heap.size, 3, none⟩ = some (.int .i64 fg) := by rw [← hW]; simp [go_sem]
  have hb : Below v4.heap.size v4 v5 := by rw [← hW]; exact (Below.refl _ _).alloc (Nat.le_refl _) _
  replace hb0 := bnext (w := w) (by go_grown) hb
  have hz := hb.size
  (try simp only [World.size_alloc, World.size_setCell] at hz)
  replace q0 := bkeep hb q0
  replace q1 := bkeep hb q1
  replace q2 := bkeep hb q2
  replace q3 := bkeep hb q3
  replace q4 := bkeep hb q4
  replace q5 := bkeep hb q5
  replace q6 := bkeep hb q6
  replace q7 := bkeep hb q7
  replace q8 := bkeep hb q8
  replace q9 := bkeep hb q9
  replace q10 := bkeep hb q10
  replace q11 := bkeep hb q11
  replace d0 := bkeep hb d0
  replace d1 := bkeep hb d1
  replace d2 := bkeep hb d2
  replace d3 := bkeep hb d3
  replace h1 := h1.below hb
  replace h2 := h2.below hb
  replace hl := hl.below hb
  clear hb
  clear hW
  go_wp2_with fail
  refine (Feet_any h1 h2 hl).mono ?_
  rintro e w1 ⟨fv1, rfl, hb, ho⟩
  replace hb0 := bnext (w := w) (by go_grown) hb
  have hz := hb.size
  (try simp only [World.size_alloc, World.size_setCell] at hz)
  replace q0 := bkeep hb q0
  replace q1 := bkeep hb q1
  replace q2 := bkeep hb q2
  replace q3 := bkeep hb q3
  replace q4 := bkeep hb q4
  replace q5 := bkeep hb q5
  replace q6 := bkeep hb q6
  replace q7 := bkeep hb q7
  replace q8 := bkeep hb q8
  replace q9 := bkeep hb q9
  replace q10 := bkeep hb q10
  replace q11 := bkeep hb q11
  replace d0 := bkeep hb d0
  replace d1 := bkeep hb d1
  replace d2 := bkeep hb d2
  replace d3 := bkeep hb d3
  replace e0 := bkeep hb e0
  replace e1 := bkeep hb e1
  replace e2 := bkeep hb e2
  replace e3 := bkeep hb e3
  replace h1 := h1.below hb
  replace h2 := h2.below hb
  replace hl := hl.below hb
  clear hb
  rw [HFS.out] at ho
  rw [HCL.out]
  have hf1 := feetAt_of_owns hok ho
  clear ho
  obtain ⟨f1, g1, rfl, -⟩ := hf1.shape
  rw [List.length_map] at hf1
  rw [List.length_map]
  go_wp2_with fail
  refine (rFeet_any h1 h2 hl).mono ?_
  rintro e w1 ⟨fv2, rfl, hb, ho⟩
  replace hb0 := bnext (w := w) (by go_grown) hb
  have hz := hb.size
  (try simp only [World.size_alloc, World.size_setCell] at hz)
  replace q0 := bkeep hb q0
  replace q1 := bkeep hb q1
  replace q2 := bkeep hb q2
  replace q3 := bkeep hb q3
  replace q4 := bkeep hb q4
  replace q5 := bkeep hb q5
  replace q6 := bkeep hb q6
  replace q7 := bkeep hb q7
  replace q8 := bkeep hb q8
  replace q9 := bkeep hb q9
  replace q10 := bkeep hb q10
  replace q11 := bkeep hb q11
  replace d0 := bkeep hb d0
  replace d1 := bkeep hb d1
  replace d2 := bkeep hb d2
  replace d3 := bkeep hb d3
  replace e0 := bkeep hb e0
  replace e1 := bkeep hb e1
  replace e2 := bkeep hb e2
  replace e3 := bkeep hb e3
  replace h1 := h1.below hb
  replace h2 := h2.below hb
  replace hl := hl.below hb
  replace hf1 := hf1.below hb
  clear hb
  rw [HFS.out] at ho
  rw [HCL.out]
  have hf2 := feetAt_of_owns hok ho
  clear ho
  obtain ⟨f2, g2, rfl, -⟩ := hf2.shape
  rw [List.length_map] at hf2
  rw [List.length_map]
  go_wp2_with fail
  refine (Stands_any3 h1 h2).mono ?_
  rintro e w1 ⟨sv1, rfl, hb, hs1⟩
  replace hb0 := bnext (w := w) (by go_grown) hb
  have hz := hb.size
  (try simp only [World.size_alloc, World.size_setCell] at hz)
  replace q0 := bkeep hb q0
  replace q1 := bkeep hb q1
  replace q2 := bkeep hb q2
  replace q3 := bkeep hb q3
  replace q4 := bkeep hb q4
  replace q5 := bkeep hb q5
  replace q6 := bkeep hb q6
  replace q7 := bkeep hb q7
  replace q8 := bkeep hb q8
  replace q9 := bkeep hb q9
  replace q10 := bkeep hb q10
  replace q11 := bkeep hb q11
  replace d0 := bkeep hb d0
  replace d1 := bkeep hb d1
  replace d2 := bkeep hb d2
  replace d3 := bkeep hb d3
  replace e0 := bkeep hb e0
  replace e1 := bkeep hb e1
  replace e2 := bkeep hb e2
  replace e3 := bkeep hb e3
  replace h1 := h1.below hb
  replace h2 := h2.below hb
  replace hl := hl.below hb
  replace hf1 := hf1.below hb
  replace hf2 := hf2.below hb
  clear hb
  rw [HSL.out] at hs1
  rw [HSL.out]
  dsimp only at hs1
  obtain ⟨p1, t1, rfl, -, -⟩ := hs1.shape
  rw [List.length_map] at hs1
  rw [List.length_map]
  go_wp2_with fail
  refine (rStands_any3 h1 h2).mono ?_
  rintro e w1 ⟨sv2, rfl, hb, hs2⟩
  replace hb0 := bnext (w := w) (by go_grown) hb
  have hz := hb.size
  (try simp only [World.size_alloc, World.size_setCell] at hz)
  replace q0 := bkeep hb q0
  replace q1 := bkeep hb q1
  replace q2 := bkeep hb q2
  replace q3 := bkeep hb q3
  replace q4 := bkeep hb q4
  replace q5 := bkeep hb q5
  replace q6 := bkeep hb q6
  replace q7 := bkeep hb q7
  replace q8 := bkeep hb q8
  replace q9 := bkeep hb q9
  replace q10 := bkeep hb q10
  replace q11 := bkeep hb q11
  replace d0 := bkeep hb d0
  replace d1 := bkeep hb d1
  replace d2 := bkeep hb d2
  replace d3 := bkeep hb d3
  replace e0 := bkeep hb e0
  replace e1 := bkeep hb e1
  replace e2 := bkeep hb e2
  replace e3 := bkeep hb e3
  replace h1 := h1.below hb
  replace h2 := h2.below hb
  replace hl := hl.below hb
  replace hf1 := hf1.below hb
  replace hf2 := hf2.below hb
  replace hs1 := hs1.below hb
  clear hb
  rw [HSL.out] at hs2
  rw [HSL.out]
  dsimp only at hs2
  obtain ⟨p2, t2, rfl, -, -⟩ := hs2.shape
  rw [List.length_map] at hs2
  rw [List.length_map]
  go_wp2_with fail
  refine (sameFeet_eq hf1 hf2 (by omega)).mono ?_
  rintro e w1 ⟨rfl, hb⟩
  replace hb0 := bnext (w := w) (by go_grown) hb
  have hz := hb.size
  (try simp only [World.size_alloc, World.size_setCell] at hz)
  replace q0 := bkeep hb q0
  replace q1 := bkeep hb q1
  replace q2 := bkeep hb q2
  replace q3 := bkeep hb q3
  replace q4 := bkeep hb q4
  replace q5 := bkeep hb q5
  replace q6 := bkeep hb q6
  replace q7 := bkeep hb q7
  replace q8 := bkeep hb q8
  replace q9 := bkeep hb q9
  replace q10 := bkeep hb q10
  replace q11 := bkeep hb q11
  replace h1 := h1.below hb
  replace h2 := h2.below hb
  replace hl := hl.below hb
  replace hs1 := hs1.below hb
  replace hs2 := hs2.below hb
  clear hb
  go_wp2_with fail
  refine (sameStands_any (b := true) hs1 hs2 (by rw [List.length_map]; exact hsn) (decide_eq_true rfl)).mono ?_
  rintro e w1 ⟨rfl, hb⟩
  replace hb0 := bnext (w := w) (by go_grown) hb
  have hz := hb.size
  (try simp only [World.size_alloc, World.size_setCell] at hz)
  replace q0 := bkeep hb q0
  replace q1 := bkeep hb q1
  replace q2 := bkeep hb q2
  replace q3 := bkeep hb q3
  replace q4 := bkeep hb q4
  replace q5 := bkeep hb q5
  replace q6 := bkeep hb q6
  replace q7 := bkeep hb q7
  replace q8 := bkeep hb q8
  replace q9 := bkeep hb q9
  replace q10 := bkeep hb q10
  replace q11 := bkeep hb q11
  replace h1 := h1.below hb
  replace h2 := h2.below hb
  replace hl := hl.below hb
  clear hb
  have hcc1 : (cx == cx) = true := by simp
  have hcc2 : (ci == ci) = true := by simp
  go_upto_region 9 with fail
  have s0 := fun x : BW w1 => bkeep x.below q0
  have s1 := fun x : BW w1 => bkeep x.below q1
  have s2 := fun x : BW w1 => bkeep x.below q2
  have s3 := fun x : BW w1 => bkeep x.below q3
  have s4 := fun x : BW w1 => bkeep x.below q4
  have s5 := fun x : BW w1 => bkeep x.below q5
  have s6 := fun x : BW w1 => bkeep x.below q6
  have s7 := fun x : BW w1 => bkeep x.below q7
  have s8 := fun x : BW w1 => bkeep x.below q8
  have s9 := fun x : BW w1 => bkeep x.below q9
  have s10 := fun x : BW w1 => bkeep x.below q10
  have s11 := fun x : BW w1 => bkeep x.below q11
  refine wp_region_qb (by kernel_rfl) (by kernel_rfl) fun hc => ?_
  repeat (go_big_quiet_step ((first | (go_at_call 20; exact BW.call _ (checkBox_eq HCX.out)) | (go_at_call 21; exact BW.call _ (rCheckBox_eq HCX.out)) | (go_at_call 22; exact BW.call _ (checkItem (h1.below (BW.below _)) (h2.below (BW.below _)) HCI.out)) | (go_at_call 23; exact BW.call _ (rCheckItem (h1.below (BW.below _)) (h2.below (BW.below _)) HCI.out)) | (go_at_call 24; exact BW.call _ (sane_any)))))
  refine wpQuiet_nil ?_
  intro w9 hb
  replace hb0 := bnext (w := w) hb0 hb
  go_wp2_with fail
  go_ret
  exact ⟨rfl, hb0⟩

end Go.Proofs.YtodmidchpbcnpaaGreat
