/- Contracts of layer 1's firing: Shrunk, Burnt, Mould and Fired, of the program and of the reference; below the blocks that were there nothing turns. -/
import Derived.Test.YtpmlnbjogmngfaaW1T
import Derived.Deep.RegionHeld3
import Derived.Test.YtpmlnbjogmngfaaKLibT
import Derived.Test.YtpmlnbjogmngfaaKSbT
import Derived.IntWalk
import Derived.Test.YtpmlnbjogmngfaaKAppT
namespace Go.Proofs.Ytpmlnbjogmngfaa
open Go.RowKit Go.Pb Go.Pb.Ware
set_option linter.unusedVariables false
set_option linter.unusedSimpArgs false

/-- The closure that turner hands back, and what its two variables hold. -/
def Turner (f : FuncId) (c d : Int) (W : World) (e : Ending) (w' : World) : Prop :=
  ∃ p q : Nat, W.heap.size ≤ p ∧ W.heap.size ≤ q ∧ e = .returned (.func (.func f) #[] #[.pointer (some ⟨p, 0, none⟩), .pointer (some ⟨q, 0, none⟩)]) ∧ w'.cell? ⟨p, 0, none⟩ = some (.int .i64 (1000 - d)) ∧ w'.cell? ⟨q, 0, none⟩ = some (.int .i64 (1000 - c)) ∧ Below W.heap.size W w'

end Go.Proofs.Ytpmlnbjogmngfaa

/- Contracts of layer 1's moulds and fired shapes, of the program and of the reference; below the blocks that were there nothing turns. -/
namespace Go.Proofs.Ytpmlnbjogmngfaa
open Go.RowKit Go.Pb Go.Pb.Ware
set_option linter.unusedVariables false
set_option linter.unusedSimpArgs false

end Go.Proofs.Ytpmlnbjogmngfaa

/- Contracts of what one trial tells, of the program and of the reference; below the blocks that were there nothing turns. -/
namespace Go.Proofs.Ytpmlnbjogmngfaa
open Go.RowKit Go.Pb Go.Pb.Ware
set_option linter.unusedVariables false
set_option linter.unusedSimpArgs false

def ckT (t : Tr) : Int := if trOk t = true then 0 else 13

end Go.Proofs.Ytpmlnbjogmngfaa

/- Contracts of ranges over trials: slices.Values, and what all trials allow; below the blocks that were there nothing turns. -/
namespace Go.Proofs.Ytpmlnbjogmngfaa
open Go.RowKit Go.Pb Go.Pb.Ware Go.Shelf
set_option linter.unusedVariables false
set_option linter.unusedSimpArgs false
attribute [local go_sem] Oper.semAt_some

end Go.Proofs.Ytpmlnbjogmngfaa

/- Contracts of CheckTrials, Narrow and Bar; below the blocks that were there nothing turns. -/
namespace Go.Proofs.Ytpmlnbjogmngfaa
open Go.RowKit Go.Pb Go.Pb.Ware
set_option linter.unusedVariables false
set_option linter.unusedSimpArgs false

end Go.Proofs.Ytpmlnbjogmngfaa

/- Contracts of Narrow and Bar of the program; below the blocks that were there nothing turns. -/
namespace Go.Proofs.Ytpmlnbjogmngfaa
open Go.RowKit Go.Pb Go.Pb.Ware
set_option linter.unusedVariables false
set_option linter.unusedSimpArgs false

/-- The closure that slices.Values hands back. -/
def IsVals (sv : Value) (v : Value) (W : World) : Prop := ∃ B : Nat, v = .func (.func 99999) #[] #[.pointer (some ⟨B, 0, none⟩)] ∧ W.cell? ⟨B, 0, none⟩ = some sv
theorem keeps_vals {sv : Value} : Keeps (IsVals sv) := fun _ _ _ ⟨B, h1, h2⟩ hb => ⟨B, h1, bkeep hb h2⟩
theorem keeps_some : Keeps (fun v _ => ∃ r : Rg, v = .agg #[.int .i64 r.lo, .int .i64 r.hi] ∧ emptyB r = true) := fun _ _ _ h _ => h

end Go.Proofs.Ytpmlnbjogmngfaa

/- Contracts of searches in slices of sources, of trialsBy and contradict; below the blocks that were there nothing turns. -/
namespace Go.Proofs.Ytpmlnbjogmngfaa
open Go.RowKit Go.Pb Go.Pb.Ware Go.Shelf
set_option linter.unusedVariables false
set_option linter.unusedSimpArgs false
attribute [local go_sem] Oper.semAt_some

/-- A place, from 0 on exactly if the number is there. -/
def Found (zs : List Int) (x : Int) (W : World) (e : Ending) (w' : World) : Prop := ∃ i : Int, e = .returned (.int .i64 i) ∧ (0 ≤ i ↔ zs.contains x = true) ∧ Below W.heap.size W w'

end Go.Proofs.Ytpmlnbjogmngfaa

/- The small functions of layer 2's laws. -/
namespace Go.Proofs.Ytpmlnbjogmngfaa
open Go.RowKit Go.Pb Go.Pb.Ware Go.Pb.Sag
set_option linter.unusedVariables false
set_option linter.unusedSimpArgs false

theorem modL {n m : Int} {w : World} (h1 : 1 ≤ m) (h2 : m ≤ 140737488355328) :
    Calls Try.prog 15 #[.int .i64 n, .int .i64 m] w fun e w' => e = .returned (.int .i64 (n % m)) ∧ w = w' := by
  obtain ⟨e1, e2, e3⟩ := mod_eq n m (by omega)
  have E : Hid ((n.tmod m + m) % m = n % m) := hid (by rw [← Int.tmod_eq_emod_of_nonneg (by omega)]; exact e1)
  clear e1
  go_enter Try.func15, Try.ntmps15
  go_wp2
  all_goals go_ret
  all_goals exact ⟨ret_int E, rfl⟩

set_option maxRecDepth 100000 in
set_option maxHeartbeats 800000 in
theorem sizeL {w : World} {lo hi n : Int} (h0 : 0 ≤ lo) (h1 : lo ≤ hi) (h2 : hi ≤ 1000000000) :
    Calls Try.prog 17 #[.agg #[.int .i64 lo, .int .i64 hi], .int .i64 n] w (Ret w (.int .i64 (lo + n % (hi - lo + 1)))) := by
  unfold Ret
  have y0 := Int.emod_nonneg n (b := hi - lo + 1) (by omega)
  have y1 := Int.emod_lt_of_pos n (b := hi - lo + 1) (by omega)
  go_enter Try.func17, Try.ntmps17
  go_upto_region 1 with fail
  have hb0 : Below w.heap.size w (w.alloc (.cells #[.int .i64 lo, .int .i64 hi] 58)) := (Below.refl _ w).alloc (Nat.le_refl _) _
  have q0 : (w.alloc (.cells #[.int .i64 lo, .int .i64 hi] 58)).cell? ⟨w.heap.size, 0, none⟩ = some (.int .i64 lo) := by simp [go_sem]
  have q1 : (w.alloc (.cells #[.int .i64 lo, .int .i64 hi] 58)).cell? ⟨w.heap.size, 1, none⟩ = some (.int .i64 hi) := by simp [go_sem]
  refine wp_region_qb (by kernel_rfl) (by kernel_rfl) fun hc => ?_
  repeat (go_big_quiet_step ((go_at_call 15; exact BW.call _ (Ret.of_same (modL (by omega) (by omega))))))
  (refine wpQuiet_nil ?_; intro w1 hb; replace hb0 := bnext (w := w) (by go_grown) hb; have hz := hb.size; (try simp only [World.size_alloc, World.size_setCell] at hz); replace q0 : w1.cell? ⟨w.heap.size, 0, none⟩ = some (.int .i64 lo) := bkeep hb (by first | (with_reducible exact q0) | (with_reducible exact akeep q0) | simp [*, go_sem]); replace q1 : w1.cell? ⟨w.heap.size, 1, none⟩ = some (.int .i64 hi) := bkeep hb (by first | (with_reducible exact q1) | (with_reducible exact akeep q1) | simp [*, go_sem]); clear hb)
  go_wp2
  go_ret
  exact ⟨ret_int (by first | rfl | omega), by go_grown⟩

set_option maxRecDepth 100000 in
set_option maxHeartbeats 800000 in
theorem sameI {w : World} {v1 v2 : Value} {zs : List Int} (h1 : NumsAt w v1 zs) (h2 : NumsAt w v2 zs) :
    Calls Try.prog 35 #[v1, v2] w (Ret w (.bool true)) := by
  unfold Ret
  obtain ⟨a1, c1, rfl, hl1, hl2⟩ := h1.shape
  obtain ⟨a2, c2, rfl, hl3, hl4⟩ := h2.shape
  go_enter Try.func35, Try.ntmps35
  go_wp2_with fail
  go_loopw [13] (fun iv wr => ∃ k : Nat, k ≤ zs.length ∧ iv = .int .i64 k ∧ Below w.heap.size w wr) (fun iv _ => zs.length - (intOf iv).toNat)
  case atStart => exact ⟨0, by omega, rfl, by go_grown⟩
  case round =>
    obtain ⟨k, hk, rfl, hb0⟩ := hrel
    have hz0 := hb0.size
    by_cases hlt : k < zs.length
    · obtain ⟨a1', e1, r0⟩ := (h1.below hb0).elem hlt
      obtain ⟨a2', e2, r1⟩ := (h2.below hb0).elem hlt
      subst e1; subst e2
      obtain ⟨z, hz⟩ : ∃ z, z = zs[k] := ⟨_, rfl⟩
      rw [← hz] at r0 r1
      clear hz
      have hkl : (k : Int) < (zs.length : Int) := by omega
      have x_r0 := fun x : BW wr => bkeep x.below r0
      have x_r1 := fun x : BW wr => bkeep x.below r1
      go_upto_region 6 with fail
      refine wp_region_qb (by kernel_rfl) (by kernel_rfl) fun hc => ?_
      repeat (go_big_quiet_step (fail))
      (refine wpQuiet_nil ?_; intro w1 hb; replace hb0 := bnext (w := w) (by go_grown) hb; have hz := hb.size; (try simp only [World.size_alloc, World.size_setCell] at hz); obtain ⟨hc, hf⟩ := bcell hb; clear hb)
      go_wp2_with fail
      go_roundw
      case rel => exact ⟨k + 1, by omega, by go_num, hb0⟩
      case measure => first | (simp [intOf]; done) | (simp [intOf]; omega)
    · go_wp2_with fail
      go_ret
      exact ⟨rfl, by go_grown⟩

set_option maxRecDepth 100000 in
set_option maxHeartbeats 800000 in
theorem sameS {w : World} {v1 v2 : Value} {zs : List Sq} (h1 : StAt w v1 zs) (h2 : StAt w v2 zs) :
    Calls Try.prog 20 #[v1, v2] w (Ret w (.bool true)) := by
  unfold Ret
  obtain ⟨a1, c1, rfl, hl1, hl2⟩ := h1.shape
  obtain ⟨a2, c2, rfl, hl3, hl4⟩ := h2.shape
  go_enter Try.func20, Try.ntmps20
  go_wp2_with fail
  go_loopw [13] (fun iv wr => ∃ k : Nat, k ≤ zs.length ∧ iv = .int .i64 k ∧ Below w.heap.size w wr) (fun iv _ => zs.length - (intOf iv).toNat)
  case atStart => exact ⟨0, by omega, rfl, by go_grown⟩
  case round =>
    obtain ⟨k, hk, rfl, hb0⟩ := hrel
    have hz0 := hb0.size
    by_cases hlt : k < zs.length
    · obtain ⟨a1', e1, r0, r1, r2⟩ := (h1.below hb0).row hlt
      obtain ⟨a2', e2, r3, r4, r5⟩ := (h2.below hb0).row hlt
      subst e1; subst e2
      obtain ⟨z, hz⟩ : ∃ z, z = zs[k] := ⟨_, rfl⟩
      rw [← hz] at r0 r1 r2 r3 r4 r5
      clear hz
      obtain ⟨zy, zx, zt⟩ := z
      dsimp only at r0 r1 r2 r3 r4 r5
      have hkl : (k : Int) < (zs.length : Int) := by omega
      have x_r0 := fun x : BW wr => bkeep x.below r0
      have x_r1 := fun x : BW wr => bkeep x.below r1
      have x_r2 := fun x : BW wr => bkeep x.below r2
      have x_r3 := fun x : BW wr => bkeep x.below r3
      have x_r4 := fun x : BW wr => bkeep x.below r4
      have x_r5 := fun x : BW wr => bkeep x.below r5
      go_upto_region 6 with fail
      refine wp_region_qb (by kernel_rfl) (by kernel_rfl) fun hc => ?_
      repeat (go_big_quiet_step (fail))
      (refine wpQuiet_nil ?_; intro w1 hb; replace hb0 := bnext (w := w) (by go_grown) hb; have hz := hb.size; (try simp only [World.size_alloc, World.size_setCell] at hz); obtain ⟨hc, hf⟩ := bcell hb; clear hb)
      go_wp2_with fail
      go_roundw
      case rel => exact ⟨k + 1, by omega, by go_num, hb0⟩
      case measure => first | (simp [intOf]; done) | (simp [intOf]; omega)
    · go_wp2_with fail
      go_ret
      exact ⟨rfl, by go_grown⟩

set_option maxRecDepth 100000 in
set_option maxHeartbeats 800000 in
theorem apartL {w : World} {a h b o r : Int} (h0 : -100000 ≤ a ∧ a ≤ 100000) (h1 : -100000 ≤ h ∧ h ≤ 100000) (h2 : -100000 ≤ b ∧ b ≤ 100000) (h3 : -100000 ≤ o ∧ o ≤ 100000) (h4 : -100000 ≤ r ∧ r ≤ 100000) :
    Calls Try.prog 19 #[.int .i64 a, .int .i64 h, .int .i64 b, .int .i64 o, .int .i64 r] w (Ret w (.bool (decide (a + h + r ≤ b - o) || decide (b + o + r ≤ a - h)))) := by
  unfold Ret
  by_cases c1 : a + h + r ≤ b - o
  · go_enter Try.func19, Try.ntmps19
    go_wp2
    all_goals go_ret
    all_goals exact ⟨ret_bool (by first | (simp [c1]; done) | (simp; omega)), by go_grown⟩
  · go_enter Try.func19, Try.ntmps19
    go_wp2
    all_goals go_ret
    all_goals exact ⟨ret_bool (by first | (simp [c1]; done) | (simp; omega)), by go_grown⟩

end Go.Proofs.Ytpmlnbjogmngfaa

/- What the law of true ware picks. -/
namespace Go.Proofs.Ytpmlnbjogmngfaa
open Go.RowKit Go.Pb Go.Pb.Ware Go.Pb.Sag
set_option linter.unusedVariables false
set_option linter.unusedSimpArgs false

/-- The i-th of numbers, over and over. -/
def pickV (zs : List Int) (i : Nat) : Int := if zs.length = 0 then 0 else zs.getD (i % zs.length) 0
theorem pick_at {zs : List Int} {i : Nat} (h : ¬ zs.length = 0) : ∃ hk : i % zs.length < zs.length, pickV zs i = zs[i % zs.length] := by
  have hk : i % zs.length < zs.length := Nat.mod_lt _ (by omega)
  refine ⟨hk, ?_⟩
  unfold pickV
  rw [if_neg h, List.getD_eq_getElem?_getD, List.getElem?_eq_getElem hk]; rfl
theorem pick_rem (i n : Nat) : Int.tmod (i : Int) (n : Int) = ((i % n : Nat) : Int) := by
  rw [Int.tmod_eq_emod_of_nonneg (by omega)]; rfl

set_option maxRecDepth 100000 in
set_option maxHeartbeats 800000 in
theorem pick_any {w : World} {nv : Value} {zs : List Int} {i : Nat} (hn : NumsAt w nv zs) (hi : i ≤ 1000) :
    Calls Try.prog 18 #[nv, .int .i64 i] w (Ret w (.int .i64 (pickV zs i))) := by
  unfold Ret
  obtain ⟨a, cap, rfl, hl1, hl2⟩ := hn.shape
  by_cases h0 : zs.length = 0
  · have hv : pickV zs i = 0 := by unfold pickV; rw [if_pos h0]
    have hb : ((zs.length : Int) == 0) = true := by simp [h0]
    rw [hv]
    clear hv
    go_enter Try.func18, Try.ntmps18
    go_wp2
    all_goals go_ret
    all_goals exact ⟨ret_int rfl, by go_grown⟩
  · obtain ⟨hk, hv⟩ := pick_at (i := i) h0
    obtain ⟨a', ha, r0⟩ := hn.elem hk
    subst ha
    rw [← hv] at r0
    obtain ⟨z, hz⟩ : ∃ z, pickV zs i = z := ⟨_, rfl⟩
    rw [hz] at r0 ⊢
    clear hv hz
    have hb : ((zs.length : Int) == 0) = false := beq_eq_false_iff_ne.mpr (by omega)
    have hne : ¬ (zs.length : Int) = 0 := by omega
    obtain ⟨m, hm⟩ : ∃ m, i % zs.length = m := ⟨_, rfl⟩
    rw [hm] at r0 hk
    have hr : Int.tmod (i : Int) (zs.length : Int) = (m : Int) := by rw [pick_rem, hm]
    have hkl : (m : Int) < (zs.length : Int) := by omega
    have hm1 : m ≤ 1000 := by rw [← hm]; exact Nat.le_trans (Nat.mod_le _ _) hi
    clear hm
    go_enter Try.func18, Try.ntmps18
    go_wp2
    all_goals go_ret
    all_goals exact ⟨ret_int rfl, by go_grown⟩

end Go.Proofs.Ytpmlnbjogmngfaa
