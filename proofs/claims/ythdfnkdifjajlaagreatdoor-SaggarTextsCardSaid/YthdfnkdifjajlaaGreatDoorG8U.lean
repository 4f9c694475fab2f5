/- Part of a claim. -/
import Derived.Test.YthdfnkdifjajlaaGreatDoorG7U
set_option linter.unusedVariables false
set_option linter.unusedSimpArgs false
namespace Go.Proofs.YthdfnkdifjajlaaGreatDoor
open Go.RowKit Go.Pb Go.Pb.Ware Go.Pb.Sag


set_option maxRecDepth 100000 in
set_option maxHeartbeats 1000000 in
theorem tro1 {w : World} {fw fd fh fg bhi : Int} {p : Nat} {b : Bool} (hp : w.cell? ⟨p,4,none⟩ = some (.int .i64 bhi)) (hb : decide (bhi < fh) = b) :
  Calls Tryz.prog 69 #[.agg #[.int .i64 fw, .int .i64 fd, .int .i64 fh, .int .i64 fg], .pointer (some ⟨p,0,none⟩)] w (Ret w (.bool b)) := by
 unfold Ret
 subst hb
 cases h : decide (bhi < fh)
 ·go_enter Tryz.func69,Tryz.ntmps69
  go_wp2
  all_goals go_ret
  all_goals exact ⟨ret_bool (by first | rfl | (simp at h ⊢;done) | (simp at h ⊢;omega)),by go_grown⟩
 ·go_enter Tryz.func69,Tryz.ntmps69
  go_wp2
  all_goals go_ret
  all_goals exact ⟨ret_bool (by first | rfl | (simp at h ⊢;done) | (simp at h ⊢;omega)),by go_grown⟩
set_option maxRecDepth 100000 in
set_option maxHeartbeats 1000000 in
theorem tro2 {w : World} {bid bwi bde bce bhi bbe fw fd fh fg : Int} (hX : boxOk ⟨bid,bwi,bde,bce,bhi,bbe⟩ = true) (hF : FtOk ⟨fw,fd,fh,fg⟩) {p : Nat} {b : Bool} (q0 : w.cell? ⟨p,0,none⟩ = some (.int .i64 bid)) (q1 : w.cell? ⟨p,1,none⟩ = some (.int .i64 bwi)) (q2 : w.cell? ⟨p,2,none⟩ = some (.int .i64 bde)) (q3 : w.cell? ⟨p,3,none⟩ = some (.int .i64 bce)) (q4 : w.cell? ⟨p,4,none⟩ = some (.int .i64 bhi)) (q5 : w.cell? ⟨p,5,none⟩ = some (.int .i64 bbe)) (hb : noStand ⟨bid,bwi,bde,bce,bhi,bbe⟩ ⟨fw,fd,fh,fg⟩ = b) :
  Calls Tryz.prog 70 #[.agg #[.int .i64 fw, .int .i64 fd, .int .i64 fh, .int .i64 fg], .pointer (some ⟨p,0,none⟩)] w (Ret w (.bool b)) := by
 unfold Ret
 have hb2 : (!(standsL ⟨bid,bwi,bde,bce,bhi,bbe⟩ ⟨fw,fd,fh,fg⟩).isEmpty) = !b := by rw [← hb];rfl
 have HB := hid hb2;clear hb2 hb
 go_enter Tryz.func70,Tryz.ntmps70
 go_wp2_with ((go_at_call 71;refine (hasStand_any hX hF HB.out).mono ?_;rintro e w1 ⟨rfl,hb⟩;replace hb0 := bnext (w := w) (by go_grown) hb;have hz := hb.size;(try simp only [World.size_alloc,World.size_setCell] at hz);obtain ⟨hc,hf⟩ := bcell hb;clear hb))
 go_ret
 exact ⟨by simp,by go_grown⟩
set_option maxRecDepth 100000 in
set_option maxHeartbeats 2000000 in
theorem index1 {w : World} {pr : Ft → Bool} {cap lv : Value} {fs : List Ft} (hl : FeetAt w lv fs) (hok : ∀ f ∈ fs,FtOk f) (hn : fs.length ≤ 1000) (hp : ∀ (w' : World) (fw fd fh fg : Int),Below w.heap.size w w' → FtOk ⟨fw,fd,fh,fg⟩ → Calls Tryz.prog 69 #[.agg #[.int .i64 fw, .int .i64 fd, .int .i64 fh, .int .i64 fg],cap] w' (Ret w' (.bool (pr ⟨fw,fd,fh,fg⟩)))) :
  Calls Tryz.prog 97 #[lv, .func (.func 69) #[] #[cap]] w (fun e w' => ∃ r : Int,e = .returned (.int .i64 r) ∧ Below w.heap.size w w' ∧ decide (0 ≤ r) = fs.any pr) := by
 obtain ⟨la,lc,rfl,hll⟩ := hl.shape
 rw [List.length_map] at hll
 go_enter Tryz.func97,Tryz.ntmps97
 simp only [List.length_map]
 go_wp2_with fail
 go_loopw [8] (fun iv wr => ∃ k : Nat,k ≤ fs.length ∧ iv = .int .i64 k ∧ Hid ((fs.take k).any pr = false) ∧ Below w.heap.size w wr) (fun iv _ => fs.length - (intOf iv).toNat)
 case atStart => exact ⟨0,Nat.zero_le _,rfl,by simp [Hid],by go_grown⟩
 case round =>
  obtain ⟨k,hk,rfl,HA,hb0⟩ := hrel
  have hzz := hb0.size
  by_cases hlt : k < fs.length
  ·obtain ⟨a',ha,hrl,hc0,hcc⟩ := (hl.below hb0).row (k := k) (by rw [List.length_map];exact hlt)
   subst ha
   obtain ⟨f,hf⟩ : ∃ f,f = fs[k] := ⟨_,rfl⟩
   have hfo := hok f (by rw [hf];exact List.getElem_mem hlt)
   obtain ⟨fw,fd,fh,fg⟩ := f
   have hat : (fs.map rowF)[k]'(by rw [List.length_map];exact hlt) = [fw,fd,fh,fg] := by rw [List.getElem_map, ← hf];rfl
   rw [hat] at hc0 hcc
   have r0 := hc0 _ rfl
   have r1 := hcc 1 _ (by decide) rfl
   have r2 := hcc 2 _ (by decide) rfl
   have r3 := hcc 3 _ (by decide) rfl
   clear hc0 hcc hat hrl
   have HF := hid hf;clear hf
   have hcall := hp wr fw fd fh fg hb0 hfo
   cases hpr : pr ⟨fw,fd,fh,fg⟩
   ·rw [hpr] at hcall
    have HP := hid hpr;clear hpr
    go_wp2_with (go_at_call 69;refine hcall.mono ?_;rintro e w1 ⟨rfl,hb⟩;replace hb0 := bnext (w := w) hb0 hb)
    go_roundw
    case rel => exact ⟨k + 1,by omega,by go_num,any_no hlt HA.out (by rw [← HF.out];exact HP.out),hb0⟩
    case measure => first | (simp [intOf];done) | (simp [intOf];omega)
   ·rw [hpr] at hcall
    have HP := hid hpr;clear hpr
    go_wp2_with (go_at_call 69;refine hcall.mono ?_;rintro e w1 ⟨rfl,hb⟩;replace hb0 := bnext (w := w) hb0 hb)
    go_ret
    exact ⟨_,rfl,hb0,by rw [any_yes hlt (by rw [← HF.out];exact HP.out)];exact decide_eq_true (by omega)⟩
  ·obtain rfl : k = fs.length := by omega
   rw [List.take_length] at HA
   go_wp2_with fail
   go_ret
   exact ⟨_,rfl,hb0,by rw [HA.out];rfl⟩
set_option maxRecDepth 100000 in
set_option maxHeartbeats 400000 in
theorem contains1 {w : World} {pr : Ft → Bool} {cap lv : Value} {fs : List Ft} (hl : FeetAt w lv fs) (hok : ∀ f ∈ fs,FtOk f) (hn : fs.length ≤ 1000) (hp : ∀ (w' : World) (fw fd fh fg : Int),Below w.heap.size w w' → FtOk ⟨fw,fd,fh,fg⟩ → Calls Tryz.prog 69 #[.agg #[.int .i64 fw, .int .i64 fd, .int .i64 fh, .int .i64 fg],cap] w' (Ret w' (.bool (pr ⟨fw,fd,fh,fg⟩)))) {b : Bool} (hb : fs.any pr = b) :
  Calls Tryz.prog 68 #[lv, .func (.func 69) #[] #[cap]] w (Ret w (.bool b)) := by
 cases b
 ·have HI := hid (index1 (pr := pr) (cap := cap) hl hok hn hp)
  rw [hb] at HI
  clear hp hok hb
  unfold Ret
  go_enter Tryz.func68,Tryz.ntmps68
  go_wp2_with fail
  refine HI.out.mono ?_
  rintro e w1 ⟨r,rfl,hb0,hr⟩
  have hr2 : r < 0 := by simpa using hr
  clear hr HI
  go_wp2_with fail
  go_ret
  exact ⟨ret_bool (by first | rfl | exact decide_eq_false (by omega) | exact decide_eq_true (by omega)),hb0⟩
 ·have HI := hid (index1 (pr := pr) (cap := cap) hl hok hn hp)
  rw [hb] at HI
  clear hp hok hb
  unfold Ret
  go_enter Tryz.func68,Tryz.ntmps68
  go_wp2_with fail
  refine HI.out.mono ?_
  rintro e w1 ⟨r,rfl,hb0,hr⟩
  have hr2 : 0 ≤ r := by simpa using hr
  clear hr HI
  go_wp2_with fail
  go_ret
  exact ⟨ret_bool (by first | rfl | exact decide_eq_false (by omega) | exact decide_eq_true (by omega)),hb0⟩
set_option maxRecDepth 100000 in
set_option maxHeartbeats 2000000 in
theorem index2 {w : World} {pr : Ft → Bool} {cap lv : Value} {fs : List Ft} (hl : FeetAt w lv fs) (hok : ∀ f ∈ fs,FtOk f) (hn : fs.length ≤ 1000) (hp : ∀ (w' : World) (fw fd fh fg : Int),Below w.heap.size w w' → FtOk ⟨fw,fd,fh,fg⟩ → Calls Tryz.prog 70 #[.agg #[.int .i64 fw, .int .i64 fd, .int .i64 fh, .int .i64 fg],cap] w' (Ret w' (.bool (pr ⟨fw,fd,fh,fg⟩)))) :
  Calls Tryz.prog 97 #[lv, .func (.func 70) #[] #[cap]] w (fun e w' => ∃ r : Int,e = .returned (.int .i64 r) ∧ Below w.heap.size w w' ∧ decide (0 ≤ r) = fs.any pr) := by
 obtain ⟨la,lc,rfl,hll⟩ := hl.shape
 rw [List.length_map] at hll
 go_enter Tryz.func97,Tryz.ntmps97
 simp only [List.length_map]
 go_wp2_with fail
 go_loopw [8] (fun iv wr => ∃ k : Nat,k ≤ fs.length ∧ iv = .int .i64 k ∧ Hid ((fs.take k).any pr = false) ∧ Below w.heap.size w wr) (fun iv _ => fs.length - (intOf iv).toNat)
 case atStart => exact ⟨0,Nat.zero_le _,rfl,by simp [Hid],by go_grown⟩
 case round =>
  obtain ⟨k,hk,rfl,HA,hb0⟩ := hrel
  have hzz := hb0.size
  by_cases hlt : k < fs.length
  ·obtain ⟨a',ha,hrl,hc0,hcc⟩ := (hl.below hb0).row (k := k) (by rw [List.length_map];exact hlt)
   subst ha
   obtain ⟨f,hf⟩ : ∃ f,f = fs[k] := ⟨_,rfl⟩
   have hfo := hok f (by rw [hf];exact List.getElem_mem hlt)
   obtain ⟨fw,fd,fh,fg⟩ := f
   have hat : (fs.map rowF)[k]'(by rw [List.length_map];exact hlt) = [fw,fd,fh,fg] := by rw [List.getElem_map, ← hf];rfl
   rw [hat] at hc0 hcc
   have r0 := hc0 _ rfl
   have r1 := hcc 1 _ (by decide) rfl
   have r2 := hcc 2 _ (by decide) rfl
   have r3 := hcc 3 _ (by decide) rfl
   clear hc0 hcc hat hrl
   have HF := hid hf;clear hf
   have hcall := hp wr fw fd fh fg hb0 hfo
   cases hpr : pr ⟨fw,fd,fh,fg⟩
   ·rw [hpr] at hcall
    have HP := hid hpr;clear hpr
    go_wp2_with (go_at_call 70;refine hcall.mono ?_;rintro e w1 ⟨rfl,hb⟩;replace hb0 := bnext (w := w) hb0 hb)
    go_roundw
    case rel => exact ⟨k + 1,by omega,by go_num,any_no hlt HA.out (by rw [← HF.out];exact HP.out),hb0⟩
    case measure => first | (simp [intOf];done) | (simp [intOf];omega)
   ·rw [hpr] at hcall
    have HP := hid hpr;clear hpr
    go_wp2_with (go_at_call 70;refine hcall.mono ?_;rintro e w1 ⟨rfl,hb⟩;replace hb0 := bnext (w := w) hb0 hb)
    go_ret
    exact ⟨_,rfl,hb0,by rw [any_yes hlt (by rw [← HF.out];exact HP.out)];exact decide_eq_true (by omega)⟩
  ·obtain rfl : k = fs.length := by omega
   rw [List.take_length] at HA
   go_wp2_with fail
   go_ret
   exact ⟨_,rfl,hb0,by rw [HA.out];rfl⟩
set_option maxRecDepth 100000 in
set_option maxHeartbeats 400000 in
theorem contains2 {w : World} {pr : Ft → Bool} {cap lv : Value} {fs : List Ft} (hl : FeetAt w lv fs) (hok : ∀ f ∈ fs,FtOk f) (hn : fs.length ≤ 1000) (hp : ∀ (w' : World) (fw fd fh fg : Int),Below w.heap.size w w' → FtOk ⟨fw,fd,fh,fg⟩ → Calls Tryz.prog 70 #[.agg #[.int .i64 fw, .int .i64 fd, .int .i64 fh, .int .i64 fg],cap] w' (Ret w' (.bool (pr ⟨fw,fd,fh,fg⟩)))) {b : Bool} (hb : fs.any pr = b) :
  Calls Tryz.prog 68 #[lv, .func (.func 70) #[] #[cap]] w (Ret w (.bool b)) := by
 cases b
 ·have HI := hid (index2 (pr := pr) (cap := cap) hl hok hn hp)
  rw [hb] at HI
  clear hp hok hb
  unfold Ret
  go_enter Tryz.func68,Tryz.ntmps68
  go_wp2_with fail
  refine HI.out.mono ?_
  rintro e w1 ⟨r,rfl,hb0,hr⟩
  have hr2 : r < 0 := by simpa using hr
  clear hr HI
  go_wp2_with fail
  go_ret
  exact ⟨ret_bool (by first | rfl | exact decide_eq_false (by omega) | exact decide_eq_true (by omega)),hb0⟩
 ·have HI := hid (index2 (pr := pr) (cap := cap) hl hok hn hp)
  rw [hb] at HI
  clear hp hok hb
  unfold Ret
  go_enter Tryz.func68,Tryz.ntmps68
  go_wp2_with fail
  refine HI.out.mono ?_
  rintro e w1 ⟨r,rfl,hb0,hr⟩
  have hr2 : 0 ≤ r := by simpa using hr
  clear hr HI
  go_wp2_with fail
  go_ret
  exact ⟨ret_bool (by first | rfl | exact decide_eq_false (by omega) | exact decide_eq_true (by omega)),hb0⟩
end Go.Proofs.YthdfnkdifjajlaaGreatDoor