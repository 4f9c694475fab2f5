/- The small functions of layer 2's laws. -/
import Derived.Test.YtodmidchpbcnpaaW1X
import Derived.Deep.RegionHeld3
import Derived.Test.YtodmidchpbcnpaaKLibX
import Derived.Test.YtodmidchpbcnpaaKSdX
import Derived.IntWalk
import Derived.Test.YtodmidchpbcnpaaKSpX
namespace Go.Proofs.Ytodmidchpbcnpaa
open Go.RowKit Go.Pb Go.Pb.Ware Go.Pb.Sag
set_option linter.unusedVariables false
set_option linter.unusedSimpArgs false

theorem modL {n m : Int} {w : World} (h1 : 1 ≤ m) (h2 : m ≤ 140737488355328) :
    Calls Try.prog 8 #[.int .i64 n, .int .i64 m] w fun e w' => e = .returned (.int .i64 (n % m)) ∧ w = w' := by
  obtain ⟨e1, e2, e3⟩ := mod_eq n m (by omega)
  have E : Hid ((n.tmod m + m) % m = n % m) := hid (by rw [← Int.tmod_eq_emod_of_nonneg (by omega)]; exact e1)
  clear e1
  go_enter Try.func8, Try.ntmps8
  go_wp2
  all_goals go_ret
  all_goals exact ⟨ret_int E, rfl⟩

set_option maxRecDepth 100000 in
set_option maxHeartbeats 800000 in
theorem sizeL {w : World} {lo hi n : Int} (h0 : 0 ≤ lo) (h1 : lo ≤ hi) (h2 : hi ≤ 1000000000) :
    Calls Try.prog 10 #[.agg #[.int .i64 lo, .int .i64 hi], .int .i64 n] w (Ret w (.int .i64 (lo + n % (hi - lo + 1)))) := by
  unfold Ret
  have y0 := Int.emod_nonneg n (b := hi - lo + 1) (by omega)
  have y1 := Int.emod_lt_of_pos n (b := hi - lo + 1) (by omega)
  go_enter Try.func10, Try.ntmps10
  go_upto_region 1 with fail
  have hb0 : Below w.heap.size w (w.alloc (.cells #[.int .i64 lo, .int .i64 hi] 50)) := (Below.refl _ w).alloc (Nat.le_refl _) _
  have q0 : (w.alloc (.cells #[.int .i64 lo, .int .i64 hi] 50)).cell? ⟨w.heap.size, 0, none⟩ = some (.int .i64 lo) := by simp [go_sem]
  have q1 : (w.alloc (.cells #[.int .i64 lo, .int .i64 hi] 50)).cell? ⟨w.heap.size, 1, none⟩ = some (.int .i64 hi) := by simp [go_sem]
  refine wp_region_qb (by kernel_rfl) (by kernel_rfl) fun hc => ?_
  repeat (go_big_quiet_step ((go_at_call 8; exact BW.call _ (Ret.of_same (modL (by omega) (by omega))))))
  (refine wpQuiet_nil ?_; intro w1 hb; replace hb0 := bnext (w := w) (by go_grown) hb; have hz := hb.size; (try simp only [World.size_alloc, World.size_setCell] at hz); replace q0 : w1.cell? ⟨w.heap.size, 0, none⟩ = some (.int .i64 lo) := bkeep hb (by first | (with_reducible exact q0) | (with_reducible exact akeep q0) | simp [*, go_sem]); replace q1 : w1.cell? ⟨w.heap.size, 1, none⟩ = some (.int .i64 hi) := bkeep hb (by first | (with_reducible exact q1) | (with_reducible exact akeep q1) | simp [*, go_sem]); clear hb)
  go_wp2
  go_ret
  exact ⟨ret_int (by first | rfl | omega), by go_grown⟩

set_option maxRecDepth 100000 in
set_option maxHeartbeats 800000 in
theorem apartL {w : World} {a h b o r : Int} (h0 : -100000 ≤ a ∧ a ≤ 100000) (h1 : -100000 ≤ h ∧ h ≤ 100000) (h2 : -100000 ≤ b ∧ b ≤ 100000) (h3 : -100000 ≤ o ∧ o ≤ 100000) (h4 : -100000 ≤ r ∧ r ≤ 100000) :
    Calls Try.prog 12 #[.int .i64 a, .int .i64 h, .int .i64 b, .int .i64 o, .int .i64 r] w (Ret w (.bool (decide (a + h + r ≤ b - o) || decide (b + o + r ≤ a - h)))) := by
  unfold Ret
  by_cases c1 : a + h + r ≤ b - o
  · go_enter Try.func12, Try.ntmps12
    go_wp2
    all_goals go_ret
    all_goals exact ⟨ret_bool (by first | (simp [c1]; done) | (simp; omega)), by go_grown⟩
  · go_enter Try.func12, Try.ntmps12
    go_wp2
    all_goals go_ret
    all_goals exact ⟨ret_bool (by first | (simp [c1]; done) | (simp; omega)), by go_grown⟩

end Go.Proofs.Ytodmidchpbcnpaa

/- What the law of true ware picks. -/
namespace Go.Proofs.Ytodmidchpbcnpaa
open Go.RowKit Go.Pb Go.Pb.Ware Go.Pb.Sag
set_option linter.unusedVariables false
set_option linter.unusedSimpArgs false

/-- The i-th of numbers, over and over. -/
def pickV (zs : List Int) (i : Nat) : Int := if zs.length = 0 then 0 else zs.getD (i % zs.length) 0
theorem pick_at {zs : List Int} {i : Nat} (h : ¬ zs.length = 0) : ∃ hk : i % zs.length < zs.length, pickV zs i = zs[i % zs.length] := by
  have hk : i % zs.length < zs.length := Nat.mod_lt _ (by omega)
  refine ⟨hk, ?_⟩
  unfold pickV
  rw [if_neg h, List.getD_eq_getElem?_getD, List.getElem?_eq_getElem hk]; rfl
theorem pick_rem (i n : Nat) : Int.tmod (i : Int) (n : Int) = ((i % n : Nat) : Int) := by
  rw [Int.tmod_eq_emod_of_nonneg (by omega)]; rfl

set_option maxRecDepth 100000 in
set_option maxHeartbeats 800000 in
theorem pick_any {w : World} {nv : Value} {zs : List Int} {i : Nat} (hn : NumsAt w nv zs) (hi : i ≤ 1000) :
    Calls Try.prog 11 #[nv, .int .i64 i] w (Ret w (.int .i64 (pickV zs i))) := by
  unfold Ret
  obtain ⟨a, cap, rfl, hl1, hl2⟩ := hn.shape
  by_cases h0 : zs.length = 0
  · have hv : pickV zs i = 0 := by unfold pickV; rw [if_pos h0]
    have hb : ((zs.length : Int) == 0) = true := by simp [h0]
    rw [hv]
    clear hv
    go_enter Try.func11, Try.ntmps11
    go_wp2
    all_goals go_ret
    all_goals exact ⟨ret_int rfl, by go_grown⟩
  · obtain ⟨hk, hv⟩ := pick_at (i := i) h0
    obtain ⟨a', ha, r0⟩ := hn.elem hk
    subst ha
    rw [← hv] at r0
    obtain ⟨z, hz⟩ : ∃ z, pickV zs i = z := ⟨_, rfl⟩
    rw [hz] at r0 ⊢
    clear hv hz
    have hb : ((zs.length : Int) == 0) = false := beq_eq_false_iff_ne.mpr (by omega)
    have hne : ¬ (zs.length : Int) = 0 := by omega
    obtain ⟨m, hm⟩ : ∃ m, i % zs.length = m := ⟨_, rfl⟩
    rw [hm] at r0 hk
    have hr : Int.tmod (i : Int) (zs.length : Int) = (m : Int) := by rw [pick_rem, hm]
    have hkl : (m : Int) < (zs.length : Int) := by omega
    have hm1 : m ≤ 1000 := by rw [← hm]; exact Nat.le_trans (Nat.mod_le _ _) hi
    clear hm
    go_enter Try.func11, Try.ntmps11
    go_wp2
    all_goals go_ret
    all_goals exact ⟨ret_int rfl, by go_grown⟩

end Go.Proofs.Ytodmidchpbcnpaa
