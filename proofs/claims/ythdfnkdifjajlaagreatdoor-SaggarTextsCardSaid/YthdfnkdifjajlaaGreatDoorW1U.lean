/- Part of a claim. -/
import Derived.Test.YthdfnkdifjajlaaGreatDoorRows
import Derived.Test.YthdfnkdifjajlaaGreatDoorKLibU
set_option linter.unusedVariables false
set_option linter.unusedSimpArgs false
namespace Go.Proofs.YthdfnkdifjajlaaGreatDoor
open Go.RowKit Go.Pb Go.Pb.Ware


theorem isBetween {n lo hi : Int}  {w : World} :
  Calls Tryz.prog 30 #[.int .i64 n, .int .i64 lo, .int .i64 hi] w (Ret w (.bool (btw n lo hi))) := by
 unfold Ret
 unfold btw
 go_enter Tryz.func30,Tryz.ntmps30
 go_wp2
 all_goals (go_ret;exact ⟨ret_bool (by rw [Bool.eq_iff_iff];simp;omega),by go_grown⟩)
theorem isWithin {a b lo hi : Int}  {w : World} :
  Calls Tryz.prog 141 #[.agg #[.int .i64 a, .int .i64 b], .int .i64 lo, .int .i64 hi] w (Ret w (.bool (rgOk ⟨a,b⟩ lo hi))) := by
 unfold Ret
 unfold rgOk
 go_enter Tryz.func141,Tryz.ntmps141
 go_wp2
 all_goals (go_ret;exact ⟨ret_bool (by rw [Bool.eq_iff_iff];simp;omega),by go_grown⟩)
theorem bodyValid {id sl sh ll lh hl hh : Int}  {w : World} :
  Calls Tryz.prog 166 #[.agg #[.int .i64 id, .int .i64 sl, .int .i64 sh, .int .i64 ll, .int .i64 lh, .int .i64 hl, .int .i64 hh]] w (Ret w (.bool (boOk ⟨id,⟨sl,sh⟩,⟨ll,lh⟩,⟨hl,hh⟩⟩))) := by
 unfold Ret
 go_enter Tryz.func166,Tryz.ntmps166
 go_upto_region 1 with (fail)
 refine wp_region_qf fun hc => ?_
 all_goals (repeat (go_big_quiet_step ((first | (go_at_call 30;exact BW.call _ (isBetween)) | (go_at_call 141;exact BW.call _ (isWithin))))))
 all_goals (first | (refine wpQuiet_nil ?_;intro w1 hb;have hb0 := bnext (w := w) (by go_grown) hb;obtain ⟨hc,hf⟩ := bcell hb;clear hb) | (show wpQuiet _ _ _ _ _ _;cases g0 : btw id 1 999 <;> try simp only [Bool.not_true,Bool.not_false]) | skip)
 all_goals (repeat (go_big_quiet_step ((first | (go_at_call 30;exact BW.call _ (isBetween)) | (go_at_call 141;exact BW.call _ (isWithin))))))
 all_goals (first | (refine wpQuiet_nil ?_;intro w1 hb;have hb0 := bnext (w := w) (by go_grown) hb;obtain ⟨hc,hf⟩ := bcell hb;clear hb) | (show wpQuiet _ _ _ _ _ _;cases g1 : rgOk ⟨sl,sh⟩ 0 200 <;> try simp only [Bool.not_true,Bool.not_false]) | skip)
 all_goals (repeat (go_big_quiet_step ((first | (go_at_call 30;exact BW.call _ (isBetween)) | (go_at_call 141;exact BW.call _ (isWithin))))))
 all_goals (first | (refine wpQuiet_nil ?_;intro w1 hb;have hb0 := bnext (w := w) (by go_grown) hb;obtain ⟨hc,hf⟩ := bcell hb;clear hb) | (show wpQuiet _ _ _ _ _ _;cases g2 : rgOk ⟨ll,lh⟩ 0 300 <;> try simp only [Bool.not_true,Bool.not_false]) | skip)
 all_goals (repeat (go_big_quiet_step ((first | (go_at_call 30;exact BW.call _ (isBetween)) | (go_at_call 141;exact BW.call _ (isWithin))))))
 all_goals (first | (refine wpQuiet_nil ?_;intro w1 hb;have hb0 := bnext (w := w) (by go_grown) hb;obtain ⟨hc,hf⟩ := bcell hb;clear hb) | skip)
 all_goals go_wp2
 all_goals (go_ret;exact ⟨ret_bool (by simp [boOk, *]),by go_grown⟩)
set_option maxHeartbeats 1000000 in
theorem shapeValid {id wl wh dl dh hl hh ne gl gh be : Int}  {w : World} :
  Calls Tryz.prog 129 #[.agg #[.int .i64 id, .int .i64 wl, .int .i64 wh, .int .i64 dl, .int .i64 dh, .int .i64 hl, .int .i64 hh, .int .i64 ne, .int .i64 gl, .int .i64 gh, .int .i64 be]] w (Ret w (.bool (shOk ⟨id,⟨wl,wh⟩,⟨dl,dh⟩,⟨hl,hh⟩,ne,⟨gl,gh⟩,be⟩))) := by
 unfold Ret
 go_enter Tryz.func129,Tryz.ntmps129
 go_upto_region 1 with (fail)
 refine wp_region_qf fun hc => ?_
 all_goals (repeat (go_big_quiet_step ((first | (go_at_call 30;exact BW.call _ (isBetween)) | (go_at_call 141;exact BW.call _ (isWithin))))))
 all_goals (first | (refine wpQuiet_nil ?_;intro w1 hb;have hb0 := bnext (w := w) (by go_grown) hb;obtain ⟨hc,hf⟩ := bcell hb;clear hb) | (show wpQuiet _ _ _ _ _ _;cases g0 : btw id 1 999 <;> try simp only [Bool.not_true,Bool.not_false]) | skip)
 all_goals (repeat (go_big_quiet_step ((first | (go_at_call 30;exact BW.call _ (isBetween)) | (go_at_call 141;exact BW.call _ (isWithin))))))
 all_goals (first | (refine wpQuiet_nil ?_;intro w1 hb;have hb0 := bnext (w := w) (by go_grown) hb;obtain ⟨hc,hf⟩ := bcell hb;clear hb) | (show wpQuiet _ _ _ _ _ _;cases g1 : rgOk ⟨wl,wh⟩ 0 2000 <;> try simp only [Bool.not_true,Bool.not_false]) | skip)
 all_goals (repeat (go_big_quiet_step ((first | (go_at_call 30;exact BW.call _ (isBetween)) | (go_at_call 141;exact BW.call _ (isWithin))))))
 all_goals (first | (refine wpQuiet_nil ?_;intro w1 hb;have hb0 := bnext (w := w) (by go_grown) hb;obtain ⟨hc,hf⟩ := bcell hb;clear hb) | (show wpQuiet _ _ _ _ _ _;cases g2 : rgOk ⟨dl,dh⟩ 0 2000 <;> try simp only [Bool.not_true,Bool.not_false]) | skip)
 all_goals (repeat (go_big_quiet_step ((first | (go_at_call 30;exact BW.call _ (isBetween)) | (go_at_call 141;exact BW.call _ (isWithin))))))
 all_goals (first | (refine wpQuiet_nil ?_;intro w1 hb;have hb0 := bnext (w := w) (by go_grown) hb;obtain ⟨hc,hf⟩ := bcell hb;clear hb) | (show wpQuiet _ _ _ _ _ _;cases g3 : rgOk ⟨hl,hh⟩ 0 2000 <;> try simp only [Bool.not_true,Bool.not_false]) | skip)
 all_goals (repeat (go_big_quiet_step ((first | (go_at_call 30;exact BW.call _ (isBetween)) | (go_at_call 141;exact BW.call _ (isWithin))))))
 all_goals (first | (refine wpQuiet_nil ?_;intro w1 hb;have hb0 := bnext (w := w) (by go_grown) hb;obtain ⟨hc,hf⟩ := bcell hb;clear hb) | (show wpQuiet _ _ _ _ _ _;cases g4 : btw ne 0 hl <;> try simp only [Bool.not_true,Bool.not_false]) | skip)
 all_goals (repeat (go_big_quiet_step ((first | (go_at_call 30;exact BW.call _ (isBetween)) | (go_at_call 141;exact BW.call _ (isWithin))))))
 all_goals (first | (refine wpQuiet_nil ?_;intro w1 hb;have hb0 := bnext (w := w) (by go_grown) hb;obtain ⟨hc,hf⟩ := bcell hb;clear hb) | (show wpQuiet _ _ _ _ _ _;cases g5 : rgOk ⟨gl,gh⟩ 0 100000 <;> try simp only [Bool.not_true,Bool.not_false]) | skip)
 all_goals (repeat (go_big_quiet_step ((first | (go_at_call 30;exact BW.call _ (isBetween)) | (go_at_call 141;exact BW.call _ (isWithin))))))
 all_goals (first | (refine wpQuiet_nil ?_;intro w1 hb;have hb0 := bnext (w := w) (by go_grown) hb;obtain ⟨hc,hf⟩ := bcell hb;clear hb) | skip)
 all_goals go_wp2
 all_goals (go_ret;exact ⟨ret_bool (by simp [shOk, *]),by go_grown⟩)
theorem checkShape {id wl wh dl dh hl hh ne gl gh be : Int}  {w : World} :
  Calls Tryz.prog 114 #[.agg #[.int .i64 id, .int .i64 wl, .int .i64 wh, .int .i64 dl, .int .i64 dh, .int .i64 hl, .int .i64 hh, .int .i64 ne, .int .i64 gl, .int .i64 gh, .int .i64 be]] w (Ret w (.int .i64 (ckS ⟨id,⟨wl,wh⟩,⟨dl,dh⟩,⟨hl,hh⟩,ne,⟨gl,gh⟩,be⟩))) := by
 unfold Ret
 unfold ckS
 cases hB : shOk ⟨id,⟨wl,wh⟩,⟨dl,dh⟩,⟨hl,hh⟩,ne,⟨gl,gh⟩,be⟩
 all_goals
  go_enter Tryz.func114,Tryz.ntmps114
  go_wp2_with ((go_at_call 129;refine (shapeValid).mono ?_;rintro e w1 ⟨rfl,hb⟩;replace hb0 := bnext (w := w) (by go_grown) hb;have hz := hb.size;(try simp only [World.size_alloc,World.size_setCell] at hz);obtain ⟨hc,hf⟩ := bcell hb;clear hb))
  go_ret
  exact ⟨rfl,by go_grown⟩
end Go.Proofs.YthdfnkdifjajlaaGreatDoor