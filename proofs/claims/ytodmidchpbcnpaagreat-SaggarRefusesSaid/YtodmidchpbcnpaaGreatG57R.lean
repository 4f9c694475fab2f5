/- Part of a claim. -/
import Derived.Test.YtodmidchpbcnpaaGreatG56R
set_option linter.unusedVariables false
set_option linter.unusedSimpArgs false
namespace Go.Proofs.YtodmidchpbcnpaaGreat
open Go.RowKit Go.Pb Go.Pb.Ware Go.Pb.Sag


set_option maxRecDepth 100000 in
set_option maxHeartbeats 2000000 in
theorem rPackable {w : World} {bid bwi bde bce bhi bbe : Int} {lv : Value} {fs : List Ft} (hX : boxOk ⟨bid, bwi, bde, bce, bhi, bbe⟩ = true) (hl : FeetAt w lv fs) (hok : ∀ f ∈ fs, FtOk f) (hn : fs.length ≤ 5) {b : Bool} (hb : fitsB ⟨bid, bwi, bde, bce, bhi, bbe⟩ fs = b) :
  Calls Tryz.prog 95 #[.agg #[.int .i64 bid, .int .i64 bwi, .int .i64 bde, .int .i64 bce, .int .i64 bhi, .int .i64 bbe], lv] w (Ret w (.bool b)) := by
 unfold Ret
 have hX2 := boxOk_iff.1 hX
 dsimp only at hX2
 obtain ⟨lo, hlo⟩ : ∃ z, lowB ⟨bid, bwi, bde, bce, bhi, bbe⟩ fs = z := ⟨_, rfl⟩
 obtain ⟨n0, hn0⟩ : ∃ z, areaL fs = z := ⟨_, rfl⟩
 obtain ⟨rb, hrb⟩ : ∃ z, roomB ⟨bid, bwi, bde, bce, bhi, bbe⟩ fs 0 = z := ⟨_, rfl⟩
 have hbb : (lo && (decide (n0 ≤ bwi * bde) && rb)) = b := by rw [← hb, ← packable_fits, hlo, hn0, hrb]
 have hbd : 0 ≤ n0 ∧ n0 ≤ 5 * 4410000 := by have h := areaL_bd hok fs.length; rw [List.take_length, hn0] at h; omega
 have hmm := mul_bd bwi bde 6 6 (by omega) (by omega) (by omega) (by omega)
 have h1 : ∀ W' : World, Below w.heap.size w W' → Calls Tryz.prog 135 #[.agg #[.int .i64 bid, .int .i64 bwi, .int .i64 bde, .int .i64 bce, .int .i64 bhi, .int .i64 bbe], lv] W' (Ret W' (.bool lo)) := fun W' hb => rLow (hl.below hb) hok (by omega) hlo
 have h2 : ∀ W' : World, Below w.heap.size w W' → Calls Tryz.prog 82 #[lv] W' (Ret W' (.int .i64 n0)) := fun W' hb => hn0 ▸ rArea (hl.below hb) hok (by omega)
 have h3 : ∀ W' : World, Below w.heap.size w W' → Calls Tryz.prog 148 #[.agg #[.int .i64 bid, .int .i64 bwi, .int .i64 bde, .int .i64 bce, .int .i64 bhi, .int .i64 bbe], lv, .int .i64 0] W' (Ret W' (.bool rb)) := fun W' hb => rRoom (u := 0) (t := 0) hX fs.length rfl hn (hl.below hb) hok (by decide) rel_zero hrb
 have H1 := hid h1; have H2 := hid h2; have H3 := hid h3; have HBB := hid hbb; clear h1 h2 h3 hbb hb hX hX2 hlo hn0 hrb hl hok hn
 go_enter Tryz.func95, Tryz.ntmps95
 go_upto_region 1 with fail
 generalize hW : World.alloc w _ = v1
 have c0 : v1.cell? ⟨w.heap.size, 0, none⟩ = some (.int .i64 bid) := by rw [← hW]; simp [go_sem]
 have c1 : v1.cell? ⟨w.heap.size, 1, none⟩ = some (.int .i64 bwi) := by rw [← hW]; simp [go_sem]
 have c2 : v1.cell? ⟨w.heap.size, 2, none⟩ = some (.int .i64 bde) := by rw [← hW]; simp [go_sem]
 have c3 : v1.cell? ⟨w.heap.size, 3, none⟩ = some (.int .i64 bce) := by rw [← hW]; simp [go_sem]
 have c4 : v1.cell? ⟨w.heap.size, 4, none⟩ = some (.int .i64 bhi) := by rw [← hW]; simp [go_sem]
 have c5 : v1.cell? ⟨w.heap.size, 5, none⟩ = some (.int .i64 bbe) := by rw [← hW]; simp [go_sem]
 have hbv : Below w.heap.size w v1 := by rw [← hW]; exact (Below.refl _ _).alloc (Nat.le_refl _) _
 clear hW
 have x0 := fun x : BW v1 => bkeep x.below c0
 have x1 := fun x : BW v1 => bkeep x.below c1
 have x2 := fun x : BW v1 => bkeep x.below c2
 have x3 := fun x : BW v1 => bkeep x.below c3
 have x4 := fun x : BW v1 => bkeep x.below c4
 have x5 := fun x : BW v1 => bkeep x.below c5
 have hw' := fun x : BW v1 => bnext (w := w) hbv x.below
 cases lo
 ·refine wp_region_qb (by kernel_rfl) (by kernel_rfl) fun hc => ?_
  repeat (go_big_quiet_step ((first | (go_at_call 135; exact BW.call _ (H1.out _ (hw' _))) | (go_at_call 82; exact BW.call _ (H2.out _ (hw' _))) | (go_at_call 148; exact BW.call _ (H3.out _ (hw' _))))))
  refine wpQuiet_nil ?_
  intro w9 hb
  replace hbv := bnext (w := w) hbv hb
  go_wp2_with fail
  go_ret
  exact ⟨ret_bool (by first | exact HBB.out | (rw [← HBB.out]; rfl) | (rw [← HBB.out]; simp [*])), hbv⟩
 ·by_cases hle : n0 ≤ bwi * bde
  ·have hd : decide (n0 ≤ bwi * bde) = true := decide_eq_true hle
   refine wp_region_qb (by kernel_rfl) (by kernel_rfl) fun hc => ?_
   repeat (go_big_quiet_step ((first | (go_at_call 135; exact BW.call _ (H1.out _ (hw' _))) | (go_at_call 82; exact BW.call _ (H2.out _ (hw' _))) | (go_at_call 148; exact BW.call _ (H3.out _ (hw' _))))))
   refine wpQuiet_nil ?_
   intro w9 hb
   replace hbv := bnext (w := w) hbv hb
   go_wp2_with fail
   go_ret
   exact ⟨ret_bool (by first | exact HBB.out | (rw [← HBB.out]; rfl) | (rw [← HBB.out]; simp [*])), hbv⟩
  ·have hd : decide (n0 ≤ bwi * bde) = false := decide_eq_false hle
   refine wp_region_qb (by kernel_rfl) (by kernel_rfl) fun hc => ?_
   repeat (go_big_quiet_step ((first | (go_at_call 135; exact BW.call _ (H1.out _ (hw' _))) | (go_at_call 82; exact BW.call _ (H2.out _ (hw' _))) | (go_at_call 148; exact BW.call _ (H3.out _ (hw' _))))))
   refine wpQuiet_nil ?_
   intro w9 hb
   replace hbv := bnext (w := w) hbv hb
   go_wp2_with fail
   go_ret
   exact ⟨ret_bool (by first | exact HBB.out | (rw [← HBB.out]; rfl) | (rw [← HBB.out]; simp [*])), hbv⟩
set_option maxRecDepth 100000 in
set_option maxHeartbeats 2000000 in
theorem rBad3 {w : World} {bid bwi bde bce bhi bbe : Int} {lv : Value} {fs : List Ft} (hX : boxOk ⟨bid, bwi, bde, bce, bhi, bbe⟩ = true) (hl : FeetAt w lv fs) (hok : ∀ f ∈ fs, FtOk f) (hn : fs.length ≤ 5) {b : Bool} (hb : troubleA ⟨bid, bwi, bde, bce, bhi, bbe⟩ fs 3 = b) :
  Calls Tryz.prog 90 #[.agg #[.int .i64 bid, .int .i64 bwi, .int .i64 bde, .int .i64 bce, .int .i64 bhi, .int .i64 bbe], lv, .int .i64 3] w (Ret w (.bool b)) := by
 unfold Ret
 have hX2 := boxOk_iff.1 hX
 dsimp only at hX2
 have hmm := mul_bd bwi bde 6 6 (by omega) (by omega) (by omega) (by omega)
 obtain ⟨n0, hn0⟩ : ∃ z, weightL fs = z := ⟨_, rfl⟩
 have h1 : ∀ W' : World, Below w.heap.size w W' → Calls Tryz.prog 143 #[lv] W' (Ret W' (.int .i64 n0)) := fun W' hb => hn0 ▸ rWeight (hl.below hb) hok (by omega)
 have hbb : decide (bbe < n0) = b := by rw [← hb, ← hn0]; rfl
 have H1 := hid h1; have HBB := hid hbb; clear h1 hbb hb hX hX2 hn0 hl hok hn
 go_enter Tryz.func90, Tryz.ntmps90
 go_upto_region 3 with fail
 generalize hW : World.alloc w _ = v1
 have c0 : v1.cell? ⟨w.heap.size, 0, none⟩ = some (.int .i64 bid) := by rw [← hW]; simp [go_sem]
 have c1 : v1.cell? ⟨w.heap.size, 1, none⟩ = some (.int .i64 bwi) := by rw [← hW]; simp [go_sem]
 have c2 : v1.cell? ⟨w.heap.size, 2, none⟩ = some (.int .i64 bde) := by rw [← hW]; simp [go_sem]
 have c3 : v1.cell? ⟨w.heap.size, 3, none⟩ = some (.int .i64 bce) := by rw [← hW]; simp [go_sem]
 have c4 : v1.cell? ⟨w.heap.size, 4, none⟩ = some (.int .i64 bhi) := by rw [← hW]; simp [go_sem]
 have c5 : v1.cell? ⟨w.heap.size, 5, none⟩ = some (.int .i64 bbe) := by rw [← hW]; simp [go_sem]
 have hbv : Below w.heap.size w v1 := by rw [← hW]; exact (Below.refl _ _).alloc (Nat.le_refl _) _
 clear hW
 have x0 := fun x : BW v1 => bkeep x.below c0
 have x1 := fun x : BW v1 => bkeep x.below c1
 have x2 := fun x : BW v1 => bkeep x.below c2
 have x3 := fun x : BW v1 => bkeep x.below c3
 have x4 := fun x : BW v1 => bkeep x.below c4
 have x5 := fun x : BW v1 => bkeep x.below c5
 have hw' := fun x : BW v1 => bnext (w := w) hbv x.below
 refine wp_region_qb (by kernel_rfl) (by kernel_rfl) fun hc => ?_
 repeat (go_big_quiet_step ((go_at_call 143; exact BW.call _ (H1.out _ (hw' _)))))
 refine wpQuiet_nil ?_
 intro w9 hb
 replace hbv := bnext (w := w) hbv hb
 go_wp2_with fail
 go_ret
 exact ⟨ret_bool HBB.out, hbv⟩
set_option maxRecDepth 100000 in
set_option maxHeartbeats 2000000 in
theorem rBad4 {w : World} {bid bwi bde bce bhi bbe : Int} {lv : Value} {fs : List Ft} (hX : boxOk ⟨bid, bwi, bde, bce, bhi, bbe⟩ = true) (hl : FeetAt w lv fs) (hok : ∀ f ∈ fs, FtOk f) (hn : fs.length ≤ 5) {b : Bool} (hb : troubleA ⟨bid, bwi, bde, bce, bhi, bbe⟩ fs 4 = b) :
  Calls Tryz.prog 90 #[.agg #[.int .i64 bid, .int .i64 bwi, .int .i64 bde, .int .i64 bce, .int .i64 bhi, .int .i64 bbe], lv, .int .i64 4] w (Ret w (.bool b)) := by
 unfold Ret
 have hX2 := boxOk_iff.1 hX
 dsimp only at hX2
 have hmm := mul_bd bwi bde 6 6 (by omega) (by omega) (by omega) (by omega)
 obtain ⟨n0, hn0⟩ : ∃ z, areaL fs = z := ⟨_, rfl⟩
 have h1 : ∀ W' : World, Below w.heap.size w W' → Calls Tryz.prog 82 #[lv] W' (Ret W' (.int .i64 n0)) := fun W' hb => hn0 ▸ rArea (hl.below hb) hok (by omega)
 have hbb : decide (bwi * bde < n0) = b := by rw [← hb, ← hn0]; rfl
 have H1 := hid h1; have HBB := hid hbb; clear h1 hbb hb hX hX2 hn0 hl hok hn
 go_enter Tryz.func90, Tryz.ntmps90
 go_upto_region 5 with fail
 generalize hW : World.alloc w _ = v1
 have c0 : v1.cell? ⟨w.heap.size, 0, none⟩ = some (.int .i64 bid) := by rw [← hW]; simp [go_sem]
 have c1 : v1.cell? ⟨w.heap.size, 1, none⟩ = some (.int .i64 bwi) := by rw [← hW]; simp [go_sem]
 have c2 : v1.cell? ⟨w.heap.size, 2, none⟩ = some (.int .i64 bde) := by rw [← hW]; simp [go_sem]
 have c3 : v1.cell? ⟨w.heap.size, 3, none⟩ = some (.int .i64 bce) := by rw [← hW]; simp [go_sem]
 have c4 : v1.cell? ⟨w.heap.size, 4, none⟩ = some (.int .i64 bhi) := by rw [← hW]; simp [go_sem]
 have c5 : v1.cell? ⟨w.heap.size, 5, none⟩ = some (.int .i64 bbe) := by rw [← hW]; simp [go_sem]
 have hbv : Below w.heap.size w v1 := by rw [← hW]; exact (Below.refl _ _).alloc (Nat.le_refl _) _
 clear hW
 have x0 := fun x : BW v1 => bkeep x.below c0
 have x1 := fun x : BW v1 => bkeep x.below c1
 have x2 := fun x : BW v1 => bkeep x.below c2
 have x3 := fun x : BW v1 => bkeep x.below c3
 have x4 := fun x : BW v1 => bkeep x.below c4
 have x5 := fun x : BW v1 => bkeep x.below c5
 have hw' := fun x : BW v1 => bnext (w := w) hbv x.below
 refine wp_region_qb (by kernel_rfl) (by kernel_rfl) fun hc => ?_
 repeat (go_big_quiet_step ((go_at_call 82; exact BW.call _ (H1.out _ (hw' _)))))
 refine wpQuiet_nil ?_
 intro w9 hb
 replace hbv := bnext (w := w) hbv hb
 go_wp2_with fail
 go_ret
 exact ⟨ret_bool HBB.out, hbv⟩
set_option maxRecDepth 100000 in
set_option maxHeartbeats 2000000 in
theorem rBad5 {w : World} {bid bwi bde bce bhi bbe : Int} {lv : Value} {fs : List Ft} (hX : boxOk ⟨bid, bwi, bde, bce, bhi, bbe⟩ = true) (hl : FeetAt w lv fs) (hok : ∀ f ∈ fs, FtOk f) (hn : fs.length ≤ 5) {b : Bool} (hb : troubleA ⟨bid, bwi, bde, bce, bhi, bbe⟩ fs 5 = b) :
  Calls Tryz.prog 90 #[.agg #[.int .i64 bid, .int .i64 bwi, .int .i64 bde, .int .i64 bce, .int .i64 bhi, .int .i64 bbe], lv, .int .i64 5] w (Ret w (.bool b)) := by
 unfold Ret
 have hX2 := boxOk_iff.1 hX
 dsimp only at hX2
 have hmm := mul_bd bwi bde 6 6 (by omega) (by omega) (by omega) (by omega)
 obtain ⟨n0, hn0⟩ : ∃ z, fitsB ⟨bid, bwi, bde, bce, bhi, bbe⟩ fs = z := ⟨_, rfl⟩
 have h1 : ∀ W' : World, Below w.heap.size w W' → Calls Tryz.prog 95 #[.agg #[.int .i64 bid, .int .i64 bwi, .int .i64 bde, .int .i64 bce, .int .i64 bhi, .int .i64 bbe], lv] W' (Ret W' (.bool n0)) := fun W' hb => rPackable hX (hl.below hb) hok hn hn0
 have hbb : (!n0) = b := by rw [← hb, ← hn0]; rfl
 have H1 := hid h1; have HBB := hid hbb; clear h1 hbb hb hX hX2 hn0 hl hok hn
 go_enter Tryz.func90, Tryz.ntmps90
 go_upto_region 6 with fail
 generalize hW : World.alloc w _ = v1
 have c0 : v1.cell? ⟨w.heap.size, 0, none⟩ = some (.int .i64 bid) := by rw [← hW]; simp [go_sem]
 have c1 : v1.cell? ⟨w.heap.size, 1, none⟩ = some (.int .i64 bwi) := by rw [← hW]; simp [go_sem]
 have c2 : v1.cell? ⟨w.heap.size, 2, none⟩ = some (.int .i64 bde) := by rw [← hW]; simp [go_sem]
 have c3 : v1.cell? ⟨w.heap.size, 3, none⟩ = some (.int .i64 bce) := by rw [← hW]; simp [go_sem]
 have c4 : v1.cell? ⟨w.heap.size, 4, none⟩ = some (.int .i64 bhi) := by rw [← hW]; simp [go_sem]
 have c5 : v1.cell? ⟨w.heap.size, 5, none⟩ = some (.int .i64 bbe) := by rw [← hW]; simp [go_sem]
 have hbv : Below w.heap.size w v1 := by rw [← hW]; exact (Below.refl _ _).alloc (Nat.le_refl _) _
 clear hW
 go_wp2_with fail
 refine (H1.out _ hbv).mono ?_
 rintro e w8 ⟨rfl, hb⟩
 replace hbv := bnext (w := w) hbv hb
 go_wp2_with fail
 go_ret
 exact ⟨ret_bool HBB.out, hbv⟩
set_option maxRecDepth 100000 in
set_option maxHeartbeats 1000000 in
theorem rBad {w : World} {bid bwi bde bce bhi bbe kind : Int} {lv : Value} {fs : List Ft} (hX : boxOk ⟨bid, bwi, bde, bce, bhi, bbe⟩ = true) (hl : FeetAt w lv fs) (hok : ∀ f ∈ fs, FtOk f) (hn : fs.length ≤ 5) {b : Bool} (hk : kind = 3 ∨ kind = 4 ∨ kind = 5) (hb : troubleA ⟨bid, bwi, bde, bce, bhi, bbe⟩ fs kind = b) :
  Calls Tryz.prog 90 #[.agg #[.int .i64 bid, .int .i64 bwi, .int .i64 bde, .int .i64 bce, .int .i64 bhi, .int .i64 bbe], lv, .int .i64 kind] w (Ret w (.bool b)) := by
 rcases hk with rfl | rfl | rfl
 ·exact rBad3 hX hl hok hn hb
 ·exact rBad4 hX hl hok hn hb
 ·exact rBad5 hX hl hok hn hb
end Go.Proofs.YtodmidchpbcnpaaGreat