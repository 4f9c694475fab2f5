/- Part of a claim. -/
import Derived.Test.YthdfnkdifjajlaaGreatDoorW16U
import Derived.Test.YthdfnkdifjajlaaGreatDoorW5U
import Derived.Test.YthdfnkdifjajlaaGreatDoorKLibU
import Derived.Lib.MinMax
set_option linter.unusedVariables false
set_option linter.unusedSimpArgs false
namespace Go.Proofs.YthdfnkdifjajlaaGreatDoor
open Go.RowKit Go.Pb Go.Pb.Ware Go.Pb.Sag


set_option maxRecDepth 100000 in
set_option maxHeartbeats 1000000 in
theorem sBetween_any {w : World} {n lo hi : Int} :
  Calls Tryz.prog 30 #[.int .i64 n, .int .i64 lo, .int .i64 hi] w (Ret w (.bool (btw n lo hi))) := by
 unfold Ret
 unfold btw
 go_enter Tryz.func30,Tryz.ntmps30
 go_wp2
 all_goals (go_ret;exact ⟨ret_bool (by rw [Bool.eq_iff_iff];simp;omega),by go_grown⟩)
set_option maxRecDepth 100000 in
set_option maxHeartbeats 1000000 in
theorem sUp {w : World} {n d : Int} (h0 : 0 ≤ n) (h1 : n ≤ 1000000) (h2 : 1 ≤ d) (h3 : d ≤ 100000) :
  Calls Tryz.prog 61 #[.int .i64 n, .int .i64 d] w (Ret w (.int .i64 (up n d))) := by
 unfold Ret
 go_enter Tryz.func61,Tryz.ntmps61
 rw [← up_eq n d (by omega)]
 go_wp2
 go_ret
 exact ⟨ret_int (by omega),by go_grown⟩
theorem sBetween {w : World} {n lo hi : Int} {b : Bool} (hx : btw n lo hi = b) :
  Calls Tryz.prog 30 #[.int .i64 n, .int .i64 lo, .int .i64 hi] w (Ret w (.bool b)) := by subst hx;exact sBetween_any
set_option maxRecDepth 100000 in
set_option maxHeartbeats 4000000 in
theorem checkBox {w : World} {bid bwi bde bce bhi bbe : Int} :
  Calls Tryz.prog 56 #[.agg #[.int .i64 bid, .int .i64 bwi, .int .i64 bde, .int .i64 bce, .int .i64 bhi, .int .i64 bbe]] w (Ret w (.int .i64 (ckX ⟨bid,bwi,bde,bce,bhi,bbe⟩))) := by
 unfold Ret
 go_enter Tryz.func56,Tryz.ntmps56
 go_upto_region 1 with (fail)
 refine wp_region_qf fun hc => ?_
 all_goals (repeat (go_big_quiet_step ((go_at_call 30;exact BW.call _ (sBetween_any)))))
 all_goals (first | (refine wpQuiet_nil ?_;intro w1 hb;have hb0 := bnext (w := w) (by go_grown) hb;obtain ⟨hc,hf⟩ := bcell hb;clear hb) | (show wpQuiet _ _ _ _ _ _;cases g0 : btw bid 1 999 <;> try simp only [Bool.not_true,Bool.not_false]) | skip)
 all_goals (repeat (go_big_quiet_step ((go_at_call 30;exact BW.call _ (sBetween_any)))))
 all_goals (first | (refine wpQuiet_nil ?_;intro w1 hb;have hb0 := bnext (w := w) (by go_grown) hb;obtain ⟨hc,hf⟩ := bcell hb;clear hb) | (show wpQuiet _ _ _ _ _ _;cases g1 : btw bwi 1 6 <;> try simp only [Bool.not_true,Bool.not_false]) | skip)
 all_goals (repeat (go_big_quiet_step ((go_at_call 30;exact BW.call _ (sBetween_any)))))
 all_goals (first | (refine wpQuiet_nil ?_;intro w1 hb;have hb0 := bnext (w := w) (by go_grown) hb;obtain ⟨hc,hf⟩ := bcell hb;clear hb) | (show wpQuiet _ _ _ _ _ _;cases g2 : btw bde 1 6 <;> try simp only [Bool.not_true,Bool.not_false]) | skip)
 all_goals (repeat (go_big_quiet_step ((go_at_call 30;exact BW.call _ (sBetween_any)))))
 all_goals (first | (refine wpQuiet_nil ?_;intro w1 hb;have hb0 := bnext (w := w) (by go_grown) hb;obtain ⟨hc,hf⟩ := bcell hb;clear hb) | (show wpQuiet _ _ _ _ _ _;cases g3 : btw bce 1 500 <;> try simp only [Bool.not_true,Bool.not_false]) | skip)
 all_goals (repeat (go_big_quiet_step ((go_at_call 30;exact BW.call _ (sBetween_any)))))
 all_goals (first | (refine wpQuiet_nil ?_;intro w1 hb;have hb0 := bnext (w := w) (by go_grown) hb;obtain ⟨hc,hf⟩ := bcell hb;clear hb) | (show wpQuiet _ _ _ _ _ _;cases g4 : btw bhi 1 2000 <;> try simp only [Bool.not_true,Bool.not_false]) | skip)
 all_goals (repeat (go_big_quiet_step ((go_at_call 30;exact BW.call _ (sBetween_any)))))
 all_goals (first | (refine wpQuiet_nil ?_;intro w1 hb;have hb0 := bnext (w := w) (by go_grown) hb;obtain ⟨hc,hf⟩ := bcell hb;clear hb) | skip)
 cases g5 : btw bbe 0 1000000
 all_goals go_wp2
 all_goals (go_ret;exact ⟨ret_int (by first | (simp [ckX,boxOk, *];done) | (simp_all [ckX,boxOk];done)),by go_grown⟩)
theorem checkBox_eq {w : World} {bid bwi bde bce bhi bbe c : Int} (h : ckX ⟨bid,bwi,bde,bce,bhi,bbe⟩ = c) :
  Calls Tryz.prog 56 #[.agg #[.int .i64 bid, .int .i64 bwi, .int .i64 bde, .int .i64 bce, .int .i64 bhi, .int .i64 bbe]] w (Ret w (.int .i64 c)) := by subst h;exact checkBox
end Go.Proofs.YthdfnkdifjajlaaGreatDoor