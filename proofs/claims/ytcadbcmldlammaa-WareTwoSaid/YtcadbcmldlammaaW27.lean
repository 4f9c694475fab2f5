/- Contract of areSources; below the blocks that were there nothing turns. -/
import Derived.Test.YtcadbcmldlammaaW26
import Derived.Test.YtcadbcmldlammaaP8
namespace Go.Proofs.Ytcadbcmldlammaa
open Go.RowKit Go.Pb Go.Pb.Ware
set_option linter.unusedVariables false
set_option linter.unusedSimpArgs false

set_option maxRecDepth 100000 in
set_option maxHeartbeats 4000000 in
theorem areSources_any {lv bv : Value} {ts : List TT} {b : List Int} {x : Bool} {w : World} (h : RowsAt 5 w lv (ts.map rowT)) (hi : NumsAt w bv b) (hm : ts.length ≤ 30) (hx : goodB (srcs ts) 0 b = x) :
    Calls Try.prog 49 #[lv, bv] w (Ret w (.bool x)) := by
  unfold Ret
  obtain ⟨ba, bc, rfl, hbl, hbl2⟩ := hi.shape
  have hl3 : b.length ≤ 9223372036854775807 := by omega
  have HX := hid hx; clear hx
  go_enter Try.func49, Try.ntmps49
  go_wp2_with fail
  refine (sources_any h hm).mono ?_
  rintro e w1 ⟨u, rfl, hb1, hn⟩
  replace hb1 : Below w.heap.size w w1 := hb1
  have hzz := hb1.size
  obtain ⟨ua, uc, rfl, hul, hul2⟩ := hn.shape
  go_wp2_with fail
  go_loopw [6, 13] (fun last i wr => ∃ (k : Nat) (z : Int), k ≤ b.length ∧ last = .int .i64 z ∧ i = .int .i64 k ∧ goodB (srcs ts) z (b.drop k) = x ∧ Below w.heap.size w wr ∧ Below w1.heap.size w1 wr) (fun _ i _ => b.length - (intOf i).toNat)
  case atStart => exact ⟨0, 0, by omega, rfl, rfl, by rw [List.drop_zero]; exact HX.out, hb1, Below.refl _ _⟩
  case round =>
    obtain ⟨k, z, hk, rfl, rfl, hK, hb0, hb2⟩ := hrel
    have HK := hid hK; clear hK
    have hz0 := hb0.size
    have hz2 := hb2.size
    by_cases hlt : k < b.length
    · obtain ⟨a', ha, r0⟩ := (hi.below hb0).elem hlt
      subst ha
      obtain ⟨s, hs⟩ : ∃ s, s = b[k] := ⟨_, rfl⟩
      rw [← hs] at r0
      have HS := hid hs; clear hs
      by_cases hc : s ≤ z
      · have HC := hid hc
        go_wp2_with fail
        go_ret
        exact ⟨ret_bool (good_no1 hlt HK.out (by rw [← HS.out]; exact HC.out)).symm, by go_grown⟩
      · have HC := hid hc
        go_wp2_with fail
        refine (contains_any (hn.below hb2)).mono ?_
        rintro e w3 ⟨rfl, hb3⟩; replace hb0 := bnext (w := w) (by omega) hb3; replace hb2 := bnext (w := w1) (by omega) hb3; clear hb3; have hz0 := hb0.size; have hz2 := hb2.size
        cases hx2 : (srcs ts).contains s
        · have HY := hid hx2; clear hx2
          go_wp2_with fail
          go_ret
          exact ⟨ret_bool (good_no2 hlt HK.out (by rw [← HS.out]; exact HY.out)).symm, by go_grown⟩
        · have HY := hid hx2; clear hx2
          go_wp2_with fail
          go_roundw
          case rel => exact ⟨k + 1, s, by omega, rfl, by go_num, by have hg := good_yes hlt HK.out (by rw [← HS.out]; have := HC.out; omega) (by rw [← HS.out]; exact HY.out); rwa [← HS.out] at hg, hb0, hb2⟩
          case measure => first | (simp [intOf]; done) | (simp [intOf]; omega)
    · go_wp2_with fail
      go_ret
      exact ⟨ret_bool (good_end hlt HK.out).symm, by go_grown⟩
end Go.Proofs.Ytcadbcmldlammaa
