/- Part of a claim. -/
import Derived.Test.YthdfnkdifjajlaaGreatDoorG8U
set_option linter.unusedVariables false
set_option linter.unusedSimpArgs false
namespace Go.Proofs.YthdfnkdifjajlaaGreatDoor
open Go.RowKit Go.Pb Go.Pb.Ware Go.Pb.Sag


theorem weight_eq {w : World} {lv : Value} {fs : List Ft} {n : Int} (hl : FeetAt w lv fs) (hok : ∀ f ∈ fs,FtOk f) (hn : fs.length ≤ 1000) (h : weightL fs = n) :
  Calls Tryz.prog 72 #[lv] w (Ret w (.int .i64 n)) := by subst h;exact weight_any hl hok hn
theorem area_eq {w : World} {lv : Value} {fs : List Ft} {n : Int} (hl : FeetAt w lv fs) (hok : ∀ f ∈ fs,FtOk f) (hn : fs.length ≤ 1000) (h : areaL fs = n) :
  Calls Tryz.prog 73 #[lv] w (Ret w (.int .i64 n)) := by subst h;exact area_any hl hok hn
set_option maxRecDepth 100000 in
set_option maxHeartbeats 600000 in
theorem trouble1 {w : World} {bid bwi bde bce bhi bbe : Int} {lv : Value} {fs : List Ft} (hX : boxOk ⟨bid,bwi,bde,bce,bhi,bbe⟩ = true) (hl : FeetAt w lv fs) (hok : ∀ f ∈ fs,FtOk f) (hn : fs.length ≤ 1000) {b : Bool} (hb : troubleB ⟨bid,bwi,bde,bce,bhi,bbe⟩ fs 1 = b) :
  Calls Tryz.prog 45 #[.int .i64 1, .agg #[.int .i64 bid, .int .i64 bwi, .int .i64 bde, .int .i64 bce, .int .i64 bhi, .int .i64 bbe],lv] w (Ret w (.bool b)) := by
 unfold Ret
 obtain ⟨la,lc,rfl,hll⟩ := hl.shape
 rw [List.length_map] at hl ⊢
 have hb2 : fs.any (highB ⟨bid,bwi,bde,bce,bhi,bbe⟩) = b := hb
 have HB := hid hb2;clear hb hb2
 have hp : ∀ (w' : World) (fw fd fh fg : Int),Below (w.alloc (.cells #[.int .i64 bid, .int .i64 bwi, .int .i64 bde, .int .i64 bce, .int .i64 bhi, .int .i64 bbe] 61)).heap.size (w.alloc (.cells #[.int .i64 bid, .int .i64 bwi, .int .i64 bde, .int .i64 bce, .int .i64 bhi, .int .i64 bbe] 61)) w' → FtOk ⟨fw,fd,fh,fg⟩ → Calls Tryz.prog 69 #[.agg #[.int .i64 fw, .int .i64 fd, .int .i64 fh, .int .i64 fg], .pointer (some ⟨w.heap.size,0,none⟩)] w' (Ret w' (.bool (highB ⟨bid,bwi,bde,bce,bhi,bbe⟩ ⟨fw,fd,fh,fg⟩))) := fun w' fw fd fh fg hb2 hf => tro1 (bkeep hb2 (by simp [go_sem])) rfl
 have HP := hid hp;clear hp
 have hb0 : Below w.heap.size w (w.alloc (.cells #[.int .i64 bid, .int .i64 bwi, .int .i64 bde, .int .i64 bce, .int .i64 bhi, .int .i64 bbe] 61)) := (Below.refl _ w).alloc (Nat.le_refl _) _
 have hl0 := hl.below hb0
 go_enter Tryz.func45,Tryz.ntmps45
 go_wp2_with fail
 refine (contains1 hl0 hok hn HP.out HB.out).mono ?_
 rintro e w1 ⟨rfl,hb⟩
 have hb1 := bnext (w := w) hb0 hb
 go_wp2_with fail
 go_ret
 exact ⟨rfl,hb1⟩
set_option maxRecDepth 100000 in
set_option maxHeartbeats 600000 in
theorem trouble2 {w : World} {bid bwi bde bce bhi bbe : Int} {lv : Value} {fs : List Ft} (hX : boxOk ⟨bid,bwi,bde,bce,bhi,bbe⟩ = true) (hl : FeetAt w lv fs) (hok : ∀ f ∈ fs,FtOk f) (hn : fs.length ≤ 1000) {b : Bool} (hb : troubleB ⟨bid,bwi,bde,bce,bhi,bbe⟩ fs 2 = b) :
  Calls Tryz.prog 45 #[.int .i64 2, .agg #[.int .i64 bid, .int .i64 bwi, .int .i64 bde, .int .i64 bce, .int .i64 bhi, .int .i64 bbe],lv] w (Ret w (.bool b)) := by
 unfold Ret
 obtain ⟨la,lc,rfl,hll⟩ := hl.shape
 rw [List.length_map] at hl ⊢
 have hb2 : fs.any (noStand ⟨bid,bwi,bde,bce,bhi,bbe⟩) = b := hb
 have HB := hid hb2;clear hb hb2
 have hp : ∀ (w' : World) (fw fd fh fg : Int),Below (w.alloc (.cells #[.int .i64 bid, .int .i64 bwi, .int .i64 bde, .int .i64 bce, .int .i64 bhi, .int .i64 bbe] 61)).heap.size (w.alloc (.cells #[.int .i64 bid, .int .i64 bwi, .int .i64 bde, .int .i64 bce, .int .i64 bhi, .int .i64 bbe] 61)) w' → FtOk ⟨fw,fd,fh,fg⟩ → Calls Tryz.prog 70 #[.agg #[.int .i64 fw, .int .i64 fd, .int .i64 fh, .int .i64 fg], .pointer (some ⟨w.heap.size,0,none⟩)] w' (Ret w' (.bool (noStand ⟨bid,bwi,bde,bce,bhi,bbe⟩ ⟨fw,fd,fh,fg⟩))) := fun w' fw fd fh fg hb2 hf => tro2 hX hf (bkeep hb2 (by simp [go_sem])) (bkeep hb2 (by simp [go_sem])) (bkeep hb2 (by simp [go_sem])) (bkeep hb2 (by simp [go_sem])) (bkeep hb2 (by simp [go_sem])) (bkeep hb2 (by simp [go_sem])) rfl
 have HP := hid hp;clear hp
 have hb0 : Below w.heap.size w (w.alloc (.cells #[.int .i64 bid, .int .i64 bwi, .int .i64 bde, .int .i64 bce, .int .i64 bhi, .int .i64 bbe] 61)) := (Below.refl _ w).alloc (Nat.le_refl _) _
 have hl0 := hl.below hb0
 go_enter Tryz.func45,Tryz.ntmps45
 go_wp2_with fail
 refine (contains2 hl0 hok hn HP.out HB.out).mono ?_
 rintro e w1 ⟨rfl,hb⟩
 have hb1 := bnext (w := w) hb0 hb
 go_wp2_with fail
 go_ret
 exact ⟨rfl,hb1⟩
set_option maxRecDepth 100000 in
set_option maxHeartbeats 600000 in
theorem trouble3 {w : World} {bid bwi bde bce bhi bbe : Int} {lv : Value} {fs : List Ft} (hX : boxOk ⟨bid,bwi,bde,bce,bhi,bbe⟩ = true) (hl : FeetAt w lv fs) (hok : ∀ f ∈ fs,FtOk f) (hn : fs.length ≤ 1000) {b : Bool} (hb : troubleB ⟨bid,bwi,bde,bce,bhi,bbe⟩ fs 3 = b) :
  Calls Tryz.prog 45 #[.int .i64 3, .agg #[.int .i64 bid, .int .i64 bwi, .int .i64 bde, .int .i64 bce, .int .i64 bhi, .int .i64 bbe],lv] w (Ret w (.bool b)) := by
 unfold Ret
 obtain ⟨la,lc,rfl,hll⟩ := hl.shape
 rw [List.length_map] at hl ⊢
 have hX2 := boxOk_iff.1 hX
 dsimp only at hX2
 have hbd := weightL_bd hok fs.length
 rw [List.take_length] at hbd
 have hb2 : decide (bbe < weightL fs) = b := hb
 have HB := hid hb2;clear hb hb2
 obtain ⟨n,hw⟩ : ∃ n,weightL fs = n := ⟨_,rfl⟩
 rw [hw] at hbd HB
 have HW := hid hw;clear hw
 have hb0 : Below w.heap.size w (w.alloc (.cells #[.int .i64 bid, .int .i64 bwi, .int .i64 bde, .int .i64 bce, .int .i64 bhi, .int .i64 bbe] 61)) := (Below.refl _ w).alloc (Nat.le_refl _) _
 go_enter Tryz.func45,Tryz.ntmps45
 go_upto_region 7 with fail
 have q0 : (w.alloc (.cells #[.int .i64 bid, .int .i64 bwi, .int .i64 bde, .int .i64 bce, .int .i64 bhi, .int .i64 bbe] 61)).cell? ⟨w.heap.size,0,none⟩ = some (.int .i64 bid) := by simp [go_sem]
 have q1 : (w.alloc (.cells #[.int .i64 bid, .int .i64 bwi, .int .i64 bde, .int .i64 bce, .int .i64 bhi, .int .i64 bbe] 61)).cell? ⟨w.heap.size,1,none⟩ = some (.int .i64 bwi) := by simp [go_sem]
 have q2 : (w.alloc (.cells #[.int .i64 bid, .int .i64 bwi, .int .i64 bde, .int .i64 bce, .int .i64 bhi, .int .i64 bbe] 61)).cell? ⟨w.heap.size,2,none⟩ = some (.int .i64 bde) := by simp [go_sem]
 have q3 : (w.alloc (.cells #[.int .i64 bid, .int .i64 bwi, .int .i64 bde, .int .i64 bce, .int .i64 bhi, .int .i64 bbe] 61)).cell? ⟨w.heap.size,3,none⟩ = some (.int .i64 bce) := by simp [go_sem]
 have q4 : (w.alloc (.cells #[.int .i64 bid, .int .i64 bwi, .int .i64 bde, .int .i64 bce, .int .i64 bhi, .int .i64 bbe] 61)).cell? ⟨w.heap.size,4,none⟩ = some (.int .i64 bhi) := by simp [go_sem]
 have q5 : (w.alloc (.cells #[.int .i64 bid, .int .i64 bwi, .int .i64 bde, .int .i64 bce, .int .i64 bhi, .int .i64 bbe] 61)).cell? ⟨w.heap.size,5,none⟩ = some (.int .i64 bbe) := by simp [go_sem]
 refine wp_region_qb (by kernel_rfl) (by kernel_rfl) fun hc => ?_
 repeat (go_big_quiet_step ((go_at_call 72;exact BW.call _ (weight_eq (hl.below (bnext (w := w) hb0 (BW.below _))) hok hn HW.out))))
 (refine wpQuiet_nil ?_;intro w1 hb;replace hb0 := bnext (w := w) (by go_grown) hb;have hz := hb.size;(try simp only [World.size_alloc,World.size_setCell] at hz);replace q0 : w1.cell? ⟨w.heap.size,0,none⟩ = some (.int .i64 bid) := bkeep hb (by first|with_reducible exact q0|with_reducible exact akeep q0|simp[*,go_sem]);replace q1 : w1.cell? ⟨w.heap.size,1,none⟩ = some (.int .i64 bwi) := bkeep hb (by first|with_reducible exact q1|with_reducible exact akeep q1|simp[*,go_sem]);replace q2 : w1.cell? ⟨w.heap.size,2,none⟩ = some (.int .i64 bde) := bkeep hb (by first|with_reducible exact q2|with_reducible exact akeep q2|simp[*,go_sem]);replace q3 : w1.cell? ⟨w.heap.size,3,none⟩ = some (.int .i64 bce) := bkeep hb (by first|with_reducible exact q3|with_reducible exact akeep q3|simp[*,go_sem]);replace q4 : w1.cell? ⟨w.heap.size,4,none⟩ = some (.int .i64 bhi) := bkeep hb (by first|with_reducible exact q4|with_reducible exact akeep q4|simp[*,go_sem]);replace q5 : w1.cell? ⟨w.heap.size,5,none⟩ = some (.int .i64 bbe) := bkeep hb (by first|with_reducible exact q5|with_reducible exact akeep q5|simp[*,go_sem]);clear hb)
 go_wp2
 go_ret
 exact ⟨ret_bool (by rw [← HB.out]),by go_grown⟩
set_option maxRecDepth 100000 in
set_option maxHeartbeats 600000 in
theorem trouble4 {w : World} {bid bwi bde bce bhi bbe : Int} {lv : Value} {fs : List Ft} (hX : boxOk ⟨bid,bwi,bde,bce,bhi,bbe⟩ = true) (hl : FeetAt w lv fs) (hok : ∀ f ∈ fs,FtOk f) (hn : fs.length ≤ 1000) {b : Bool} (hb : troubleB ⟨bid,bwi,bde,bce,bhi,bbe⟩ fs 4 = b) :
  Calls Tryz.prog 45 #[.int .i64 4, .agg #[.int .i64 bid, .int .i64 bwi, .int .i64 bde, .int .i64 bce, .int .i64 bhi, .int .i64 bbe],lv] w (Ret w (.bool b)) := by
 unfold Ret
 obtain ⟨la,lc,rfl,hll⟩ := hl.shape
 rw [List.length_map] at hl ⊢
 have hX2 := boxOk_iff.1 hX
 dsimp only at hX2
 have hbd := areaL_bd hok fs.length
 rw [List.take_length] at hbd
 have hmm := mul_bd bwi bde 6 6 (by omega) (by omega) (by omega) (by omega)
 have hb2 : decide (bwi * bde < areaL fs) = b := hb
 have HB := hid hb2;clear hb hb2
 obtain ⟨n,hw⟩ : ∃ n,areaL fs = n := ⟨_,rfl⟩
 rw [hw] at hbd HB
 have HW := hid hw;clear hw
 have hb0 : Below w.heap.size w (w.alloc (.cells #[.int .i64 bid, .int .i64 bwi, .int .i64 bde, .int .i64 bce, .int .i64 bhi, .int .i64 bbe] 61)) := (Below.refl _ w).alloc (Nat.le_refl _) _
 go_enter Tryz.func45,Tryz.ntmps45
 go_upto_region 9 with fail
 have q0 : (w.alloc (.cells #[.int .i64 bid, .int .i64 bwi, .int .i64 bde, .int .i64 bce, .int .i64 bhi, .int .i64 bbe] 61)).cell? ⟨w.heap.size,0,none⟩ = some (.int .i64 bid) := by simp [go_sem]
 have q1 : (w.alloc (.cells #[.int .i64 bid, .int .i64 bwi, .int .i64 bde, .int .i64 bce, .int .i64 bhi, .int .i64 bbe] 61)).cell? ⟨w.heap.size,1,none⟩ = some (.int .i64 bwi) := by simp [go_sem]
 have q2 : (w.alloc (.cells #[.int .i64 bid, .int .i64 bwi, .int .i64 bde, .int .i64 bce, .int .i64 bhi, .int .i64 bbe] 61)).cell? ⟨w.heap.size,2,none⟩ = some (.int .i64 bde) := by simp [go_sem]
 have q3 : (w.alloc (.cells #[.int .i64 bid, .int .i64 bwi, .int .i64 bde, .int .i64 bce, .int .i64 bhi, .int .i64 bbe] 61)).cell? ⟨w.heap.size,3,none⟩ = some (.int .i64 bce) := by simp [go_sem]
 have q4 : (w.alloc (.cells #[.int .i64 bid, .int .i64 bwi, .int .i64 bde, .int .i64 bce, .int .i64 bhi, .int .i64 bbe] 61)).cell? ⟨w.heap.size,4,none⟩ = some (.int .i64 bhi) := by simp [go_sem]
 have q5 : (w.alloc (.cells #[.int .i64 bid, .int .i64 bwi, .int .i64 bde, .int .i64 bce, .int .i64 bhi, .int .i64 bbe] 61)).cell? ⟨w.heap.size,5,none⟩ = some (.int .i64 bbe) := by simp [go_sem]
 refine wp_region_qb (by kernel_rfl) (by kernel_rfl) fun hc => ?_
 repeat (go_big_quiet_step ((go_at_call 73;exact BW.call _ (area_eq (hl.below (bnext (w := w) hb0 (BW.below _))) hok hn HW.out))))
 (refine wpQuiet_nil ?_;intro w1 hb;replace hb0 := bnext (w := w) (by go_grown) hb;have hz := hb.size;(try simp only [World.size_alloc,World.size_setCell] at hz);replace q0 : w1.cell? ⟨w.heap.size,0,none⟩ = some (.int .i64 bid) := bkeep hb (by first|with_reducible exact q0|with_reducible exact akeep q0|simp[*,go_sem]);replace q1 : w1.cell? ⟨w.heap.size,1,none⟩ = some (.int .i64 bwi) := bkeep hb (by first|with_reducible exact q1|with_reducible exact akeep q1|simp[*,go_sem]);replace q2 : w1.cell? ⟨w.heap.size,2,none⟩ = some (.int .i64 bde) := bkeep hb (by first|with_reducible exact q2|with_reducible exact akeep q2|simp[*,go_sem]);replace q3 : w1.cell? ⟨w.heap.size,3,none⟩ = some (.int .i64 bce) := bkeep hb (by first|with_reducible exact q3|with_reducible exact akeep q3|simp[*,go_sem]);replace q4 : w1.cell? ⟨w.heap.size,4,none⟩ = some (.int .i64 bhi) := bkeep hb (by first|with_reducible exact q4|with_reducible exact akeep q4|simp[*,go_sem]);replace q5 : w1.cell? ⟨w.heap.size,5,none⟩ = some (.int .i64 bbe) := bkeep hb (by first|with_reducible exact q5|with_reducible exact akeep q5|simp[*,go_sem]);clear hb)
 go_wp2
 go_ret
 exact ⟨ret_bool (by rw [← HB.out]),by go_grown⟩
end Go.Proofs.YthdfnkdifjajlaaGreatDoor