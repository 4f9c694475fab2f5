/- Contracts of the reference's Rising and Same; below the blocks that were there nothing turns. -/
import Derived.Test.YtgnljgceddphfaaW31
import Derived.IntWalk
namespace Go.Proofs.Ytgnljgceddphfaa
open Go.RowKit Go.Pb Go.Pb.Ware
set_option linter.unusedVariables false
set_option linter.unusedSimpArgs false

set_option maxRecDepth 100000 in
set_option maxHeartbeats 4000000 in
theorem same_any {v1 v2 : Value} {zs : List Int} {w : World} (h1 : NumsAt w v1 zs) (h2 : NumsAt w v2 zs) :
    Calls Try.prog 43 #[v1, v2] w (Ret w (.bool true)) := by
  unfold Ret
  obtain ⟨a1, c1, rfl, hl1, hl2⟩ := h1.shape
  obtain ⟨a2, c2, rfl, hl3, hl4⟩ := h2.shape
  go_enter Try.func43, Try.ntmps43
  go_wp2_with fail
  go_loopw [5] (fun iv wr => ∃ k : Nat, k ≤ zs.length ∧ iv = .int .i64 k ∧ Below w.heap.size w wr) (fun iv _ => zs.length - (intOf iv).toNat)
  case atStart => exact ⟨0, by omega, rfl, by go_grown⟩
  case round =>
    obtain ⟨k, hk, rfl, hb0⟩ := hrel
    have hz0 := hb0.size
    by_cases hlt : k < zs.length
    · obtain ⟨a1', e1, r0⟩ := (h1.below hb0).elem hlt
      obtain ⟨a2', e2, r1⟩ := (h2.below hb0).elem hlt
      subst e1; subst e2
      obtain ⟨z, hz⟩ : ∃ z, z = zs[k] := ⟨_, rfl⟩
      rw [← hz] at r0 r1
      clear hz
      have s0 := fun x : BW wr => bkeep x.below r0
      have s1 := fun x : BW wr => bkeep x.below r1
      go_upto_region 6 with fail
      refine wp_region_qb (by kernel_rfl) (by kernel_rfl) fun hc => ?_
      repeat (go_big_quiet_step (fail))
      (refine wpQuiet_nil ?_; intro w1 hb; replace hb0 := bnext (w := w) (by go_grown) hb; have hz := hb.size; (try simp only [World.size_alloc, World.size_setCell] at hz); obtain ⟨hc, hf⟩ := bcell hb; clear hb)
      go_wp2_with fail
      go_roundw
      case rel => exact ⟨k + 1, by omega, by go_num, hb0⟩
      case measure => first | (simp [intOf]; done) | (simp [intOf]; omega)
    · go_wp2_with fail
      go_ret
      exact ⟨rfl, by go_grown⟩
set_option maxRecDepth 100000 in
set_option maxHeartbeats 4000000 in
theorem rising_any {bv av : Value} {b all : List Int} {x : Bool} {w : World} (hi : NumsAt w bv b) (ha : NumsAt w av all) (hpos : ∀ z ∈ all, 1 ≤ z) (hx : goodB all 0 b = x) :
    Calls Try.prog 96 #[bv, av] w (Ret w (.bool x)) := by
  unfold Ret
  obtain ⟨ba, bc, rfl, hbl, hbl2⟩ := hi.shape
  obtain ⟨aa, ac, rfl, hal, hal2⟩ := ha.shape
  have HG := hid hx; clear hx
  have HP := hid hpos; clear hpos
  go_enter Try.func96, Try.ntmps96
  go_wp2_with fail
  go_loopw [5] (fun iv wr => ∃ (k : Nat) (z : Int), k ≤ b.length ∧ iv = .int .i64 k ∧ goodB all z (b.drop k) = x ∧ (k = 0 → z = 0) ∧ (∀ m, k = m + 1 → b[m]? = some z) ∧ Below w.heap.size w wr) (fun iv _ => b.length - (intOf iv).toNat)
  case atStart => exact ⟨0, 0, by omega, rfl, by rw [List.drop_zero]; exact HG.out, fun _ => rfl, fun m h => by omega, by go_grown⟩
  case round =>
    obtain ⟨k, z, hk, rfl, hK, hz0, hz1, hb0⟩ := hrel
    have HK := hid hK; clear hK
    have hw0 := hb0.size
    by_cases hlt : k < b.length
    · obtain ⟨a', e1, r0⟩ := (hi.below hb0).elem hlt
      subst e1
      obtain ⟨s, hs⟩ : ∃ s, s = b[k] := ⟨_, rfl⟩
      rw [← hs] at r0
      have HS := hid hs; clear hs
      cases hc : all.contains s
      · have HX := hid hc; clear hc hz0 hz1
        go_upto_region 4 with fail
        have s0 := fun x : BW wr => bkeep x.below r0
        refine wp_region_qb (by kernel_rfl) (by kernel_rfl) fun hc => ?_
        repeat (go_big_quiet_step ((go_at_call 109; exact BW.call _ (has_eq (ha.below (bnext (w := w) hb0 (BW.below _))) HX.out))))
        (refine wpQuiet_nil ?_; intro w1 hb; replace hb0 := bnext (w := w) (by go_grown) hb; have hz := hb.size; (try simp only [World.size_alloc, World.size_setCell] at hz); obtain ⟨hc, hf⟩ := bcell hb; clear hb)
        go_wp2_with fail
        go_ret
        exact ⟨ret_bool (good_no2 hlt HK.out (by rw [← HS.out]; exact HX.out)).symm, by go_grown⟩
      · have HX := hid hc; clear hc
        rcases k with _ | m
        · obtain rfl := hz0 rfl
          have e0 : a'.add 0 = a' := by simp [Addr.add]
          rw [e0] at r0
          clear e0
          have HC := hid (show ¬ s ≤ 0 by have := HP.out s (by have := HX.out; rwa [List.contains_eq_mem, decide_eq_true_eq] at this); omega)
          clear hz0 hz1
          go_upto_region 4 with fail
          have s0 := fun x : BW wr => bkeep x.below r0
          refine wp_region_qb (by kernel_rfl) (by kernel_rfl) fun hc => ?_
          repeat (go_big_quiet_step ((go_at_call 109; exact BW.call _ (has_eq (ha.below (bnext (w := w) hb0 (BW.below _))) HX.out))))
          (refine wpQuiet_nil ?_; intro w1 hb; replace hb0 := bnext (w := w) (by go_grown) hb; have hz := hb.size; (try simp only [World.size_alloc, World.size_setCell] at hz); obtain ⟨hc, hf⟩ := bcell hb; clear hb)
          go_wp2_with fail
          go_roundw
          case rel => exact ⟨0 + 1, s, by omega, by go_num, (by have hg := good_yes hlt HK.out (by rw [← HS.out]; exact HC.out) (by rw [← HS.out]; exact HX.out); rwa [← HS.out] at hg), fun h => (by omega), fun j h => (by have e : j = 0 := (by omega); subst e; rw [List.getElem?_eq_getElem hlt, HS.out]), hb0⟩
          case measure => first | (simp [intOf]; done) | (simp [intOf]; omega)
        · have hm := hz1 m rfl
          have hml : m < b.length := by omega
          obtain ⟨a2, e2, r1⟩ := (hi.below hb0).elem hml
          injection e2 with e2; subst e2
          rw [List.getElem?_eq_getElem hml] at hm; injection hm with hm; rw [hm] at r1
          clear hz0 hz1 hm
          have e9 : a'.add (m + 1) = ⟨a'.block, a'.off + (m + 1), none⟩ := by unfold Addr.add; rw [if_neg (by omega)]
          rw [e9] at r0
          clear e9
          have W0 : IntKind.i64.wrap ((m : Int) + 1 - 1) = (m : Int) := by rw [show (m : Int) + 1 - 1 = m by omega]; exact IntWalk.i64_in _ (by omega)
          by_cases hc : s ≤ z
          · have HC := hid hc
            go_upto_region 4 with fail
            have s0 := fun x : BW wr => bkeep x.below r0
            have s1 := fun x : BW wr => bkeep x.below r1
            refine wp_region_qb (by kernel_rfl) (by kernel_rfl) fun hc => ?_
            repeat (go_big_quiet_step ((go_at_call 109; exact BW.call _ (has_eq (ha.below (bnext (w := w) hb0 (BW.below _))) HX.out))))
            (refine wpQuiet_nil ?_; intro w1 hb; replace hb0 := bnext (w := w) (by go_grown) hb; have hz := hb.size; (try simp only [World.size_alloc, World.size_setCell] at hz); obtain ⟨hc, hf⟩ := bcell hb; clear hb)
            go_wp2_with fail
            go_ret
            exact ⟨ret_bool (good_no1 hlt HK.out (by rw [← HS.out]; exact HC.out)).symm, by go_grown⟩
          · have hc2 : z < s := by omega
            have HC := hid (show ¬ s ≤ z from hc)
            go_upto_region 4 with fail
            have s0 := fun x : BW wr => bkeep x.below r0
            have s1 := fun x : BW wr => bkeep x.below r1
            refine wp_region_qb (by kernel_rfl) (by kernel_rfl) fun hc => ?_
            repeat (go_big_quiet_step ((go_at_call 109; exact BW.call _ (has_eq (ha.below (bnext (w := w) hb0 (BW.below _))) HX.out))))
            (refine wpQuiet_nil ?_; intro w1 hb; replace hb0 := bnext (w := w) (by go_grown) hb; have hz := hb.size; (try simp only [World.size_alloc, World.size_setCell] at hz); obtain ⟨hc, hf⟩ := bcell hb; clear hb)
            go_wp2_with fail
            go_roundw
            case rel => exact ⟨m + 1 + 1, s, by omega, by go_num, (by have hg := good_yes hlt HK.out (by rw [← HS.out]; exact HC.out) (by rw [← HS.out]; exact HX.out); rwa [← HS.out] at hg), fun h => (by omega), fun j h => (by have e : j = m + 1 := (by omega); subst e; rw [List.getElem?_eq_getElem hlt, HS.out]), hb0⟩
            case measure => first | (simp [intOf]; done) | (simp [intOf]; omega)
    · have HE := hid (good_end hlt HK.out)
      clear hz0 hz1
      go_wp2_with fail
      go_ret
      exact ⟨ret_bool HE.out.symm, by go_grown⟩
end Go.Proofs.Ytgnljgceddphfaa
