/- Part of a claim. -/
import Derived.Test.YthdfnkdifjajlaaGreatDoorG24U
import Derived.Test.YthdfnkdifjajlaaGreatDoorG9U
import Derived.Test.YthdfnkdifjajlaaGreatDoorKXaU
set_option linter.unusedVariables false
set_option linter.unusedSimpArgs false
namespace Go.Proofs.YthdfnkdifjajlaaGreatDoor
open Go.RowKit Go.Pb Go.Pb.Ware Go.Pb.Sag


set_option maxRecDepth 100000 in
set_option maxHeartbeats 600000 in
theorem trouble5 {w : World} {bid bwi bde bce bhi bbe : Int} {lv : Value} {fs : List Ft} (hX : boxOk ⟨bid,bwi,bde,bce,bhi,bbe⟩ = true) (hl : FeetAt w lv fs) (hok : ∀ f ∈ fs,FtOk f) (hn : fs.length ≤ 5) {b : Bool} (hb : fitsB ⟨bid,bwi,bde,bce,bhi,bbe⟩ fs = b) :
  Calls Tryz.prog 45 #[.int .i64 5, .agg #[.int .i64 bid, .int .i64 bwi, .int .i64 bde, .int .i64 bce, .int .i64 bhi, .int .i64 bbe],lv] w (Ret w (.bool (!b))) := by
 unfold Ret
 obtain ⟨la,lc,rfl,hll⟩ := hl.shape
 rw [List.length_map] at hl ⊢
 have hb0 : Below w.heap.size w (w.alloc (.cells #[.int .i64 bid, .int .i64 bwi, .int .i64 bde, .int .i64 bce, .int .i64 bhi, .int .i64 bbe] 61)) := (Below.refl _ w).alloc (Nat.le_refl _) _
 have HX := hid hX;have HB := hid hb;clear hX hb
 go_enter Tryz.func45,Tryz.ntmps45
 go_wp2_with fail
 refine (fits_any HB.out HX.out (hl.below hb0) hok hn).mono ?_
 rintro e w1 ⟨rfl,hb⟩
 have hb1 := bnext (w := w) hb0 hb
 go_wp2_with fail
 go_ret
 exact ⟨rfl,hb1⟩
set_option maxRecDepth 100000 in
set_option maxHeartbeats 600000 in
theorem trouble0 {w : World} {bid bwi bde bce bhi bbe kind : Int} {lv : Value} {fs : List Ft} (hl : FeetAt w lv fs) (h1 : kind ≠ 1) (h2 : kind ≠ 2) (h3 : kind ≠ 3) (h4 : kind ≠ 4) (h5 : kind ≠ 5) :
  Calls Tryz.prog 45 #[.int .i64 kind, .agg #[.int .i64 bid, .int .i64 bwi, .int .i64 bde, .int .i64 bce, .int .i64 bhi, .int .i64 bbe],lv] w (Ret w (.bool false)) := by
 unfold Ret
 obtain ⟨la,lc,rfl,hll⟩ := hl.shape
 rw [List.length_map] at hl ⊢
 have hb0 : Below w.heap.size w (w.alloc (.cells #[.int .i64 bid, .int .i64 bwi, .int .i64 bde, .int .i64 bce, .int .i64 bhi, .int .i64 bbe] 61)) := (Below.refl _ w).alloc (Nat.le_refl _) _
 go_enter Tryz.func45,Tryz.ntmps45
 go_wp2_with fail
 go_ret
 exact ⟨rfl,hb0⟩
set_option maxRecDepth 100000 in
set_option maxHeartbeats 600000 in
theorem trouble_any {w : World} {bid bwi bde bce bhi bbe kind : Int} {lv : Value} {fs : List Ft} (hX : boxOk ⟨bid,bwi,bde,bce,bhi,bbe⟩ = true) (hl : FeetAt w lv fs) (hok : ∀ f ∈ fs,FtOk f) (hn : fs.length ≤ 5) {b : Bool} (hb : troubleA ⟨bid,bwi,bde,bce,bhi,bbe⟩ fs kind = b) :
  Calls Tryz.prog 45 #[.int .i64 kind, .agg #[.int .i64 bid, .int .i64 bwi, .int .i64 bde, .int .i64 bce, .int .i64 bhi, .int .i64 bbe],lv] w (Ret w (.bool b)) := by
 by_cases h5 : kind = 5
 ·subst h5;rw [← hb,troubleA_5];exact trouble5 hX hl hok hn rfl
 rw [troubleA_B h5] at hb
 by_cases h1 : kind = 1
 ·subst h1;exact trouble1 hX hl hok (by omega) hb
 by_cases h2 : kind = 2
 ·subst h2;exact trouble2 hX hl hok (by omega) hb
 by_cases h3 : kind = 3
 ·subst h3;exact trouble3 hX hl hok (by omega) hb
 by_cases h4 : kind = 4
 ·subst h4;exact trouble4 hX hl hok (by omega) hb
 have hf : b = false := by rw [← hb];unfold troubleB;rw [if_neg h1,if_neg h2,if_neg h3,if_neg h4]
 subst hf
 exact trouble0 hl h1 h2 h3 h4 h5
end Go.Proofs.YthdfnkdifjajlaaGreatDoor