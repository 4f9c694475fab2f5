/- Contracts of the reference's Less, only and add; below the blocks that were there nothing turns. -/
import Derived.Test.YtgnljgceddphfaaW26
import Derived.Test.YtgnljgceddphfaaP9
namespace Go.Proofs.Ytgnljgceddphfaa
open Go.RowKit Go.Pb Go.Pb.Ware
set_option linter.unusedVariables false
set_option linter.unusedSimpArgs false

set_option maxRecDepth 100000 in
set_option maxHeartbeats 4000000 in
theorem less_any {w : World} {v : Value} {zs : List Int} {n : Int} (h : NumsAt w v zs) (hm : zs.length ≤ 1000) :
    Calls Try.prog 92 #[v, .int .i64 n] w (NewNums (lessL n zs) w) := by
  obtain ⟨a, cap, rfl, hl1, hl2⟩ := h.shape
  obtain ⟨i0, hi, hz0, hz1, hz2⟩ := info_parts Try.infoI
  go_enter Try.func92, Try.ntmps92
  go_wp2_with fail
  go_loopw [5, 6] (fun nv iv wr => ∃ (k : Nat) (acc : List Int), k ≤ zs.length ∧ iv = .int .i64 k ∧ lessL n (zs.take k) = acc ∧ wr.ownsRow w.heap.size 3 1 nv acc.length (acc.map (Value.int .i64)) ∧ Below w.heap.size w wr) (fun _ iv _ => zs.length - (intOf iv).toNat)
  case atStart => exact ⟨0, [], by omega, rfl, rfl, World.ownsRow_nil _ _ _ _, by go_grown⟩
  case round =>
    obtain ⟨k, acc, hk, rfl, hK, ho, hb0⟩ := hrel
    have hal : acc.length ≤ k := by rw [← hK]; exact less_le n zs k
    have HK := hid hK; clear hK
    have hw0 := hb0.size
    obtain ⟨ua, uc, rfl, hul⟩ := owns_shape ho
    by_cases hlt : k < zs.length
    · obtain ⟨a', ha, r0⟩ := (h.below hb0).elem hlt
      subst ha
      obtain ⟨z, hz⟩ : ∃ z, z = zs[k] := ⟨_, rfl⟩
      rw [← hz] at r0
      have HZ := hid hz; clear hz
      by_cases hx : z = n
      · have e1 : (z != n) = false := by simp [hx]
        have e2 : (z == n) = true := by simp [hx]
        have HX := hid (show zs[k] = n by rw [← HZ.out]; exact hx); clear hx
        go_wp2_with fail
        go_roundw
        case rel => exact ⟨k + 1, acc, by omega, by go_num, by rw [less_no hlt HX.out]; exact HK.out, ho, hb0⟩
        case measure => first | (simp [intOf]; done) | (simp [intOf]; omega)
      · have e1 : (z != n) = true := by simp [hx]
        have e2 : (z == n) = false := by simp [hx]
        have HX := hid (show ¬ zs[k] = n by rw [← HZ.out]; exact hx); clear hx
        go_wp2_with (at_builtin; go_must (refine wpList_append_own _ rfl _ _ 55 rfl w.heap.size 3 i0 (.int .i64 0) 1 8 Try.underlying55 hi hz0 hz1 hz2 rfl (by decide) _ _ _ rfl (ho.alloc _) ⟨wr.heap.size, 0, none⟩ 1 1 [.int .i64 z] rfl rfl (one_new _ _ _ _ rfl) (by simp [Value.oneCell']) (by unfold maxLen; omega) (by omega) (by simp; omega) ?_; intro v' w4 ho4 hg4 hnil; replace hb0 := below_grown (hb0.alloc (by omega) _) hg4 (ho.alloc _) (by simp; omega) (by omega); have hz4 := hg4.size; simp only [World.size_alloc] at hz4; clear hg4 hnil ho))
        go_roundw
        case rel => exact ⟨k + 1, acc ++ [z], by omega, by go_num, by rw [less_yes hlt HX.out, HK.out, HZ.out], by rw [List.length_append, List.map_append]; exact ho4, hb0⟩
        case measure => first | (simp [intOf]; done) | (simp [intOf]; omega)
    · have hacc : lessL n zs = acc := by have := HK.out; rwa [List.take_of_length_le (by omega)] at this
      go_wp2_with fail
      go_ret
      exact ⟨_, rfl, hb0, by rw [hacc]; exact numsAt_of_owns (fun z hz => h.i64 z (by rw [← hacc] at hz; exact less_mem hz)) ho⟩
theorem Try.infoT2 : (Try.prog.info? 64).map (fun i => (i.zero, i.size, i.bytes)) = some (some (.agg #[.int .i64 0, .int .i64 0, .int .i64 0, .int .i64 0, .int .i64 0]), 5, 40) := by kernel_rfl
def NewTrials (ts : List TT) (W : World) (e : Ending) (w' : World) : Prop := ∃ v, e = .returned v ∧ Below W.heap.size W w' ∧ RowsAt 5 w' v (ts.map rowT)
set_option maxRecDepth 100000 in
set_option maxHeartbeats 4000000 in
theorem only_any {w : World} {v bv : Value} {ts : List TT} {b : List Int} (h : RowsAt 5 w v (ts.map rowT)) (hb : NumsAt w bv b) (hm : ts.length ≤ 30) :
    Calls Try.prog 107 #[v, bv] w (NewTrials (only b ts) w) := by
  obtain ⟨a, cap, rfl, hlen⟩ := h.shape
  rw [List.length_map] at hlen
  simp only [List.length_map] at h ⊢
  obtain ⟨ba, bc, rfl, hbl, hbl2⟩ := hb.shape
  obtain ⟨i0, hi', hz0, hz1, hz2⟩ := info_parts Try.infoT2
  go_enter Try.func107, Try.ntmps107
  go_wp2_with fail
  go_loopw [5, 6] (fun nv iv wr => ∃ (k : Nat) (acc : List TT), k ≤ ts.length ∧ iv = .int .i64 k ∧ only b (ts.take k) = acc ∧ wr.ownsRow w.heap.size 64 5 nv acc.length (acc.flatMap cellsT) ∧ Below w.heap.size w wr) (fun _ iv _ => ts.length - (intOf iv).toNat)
  case atStart => exact ⟨0, [], by omega, rfl, rfl, World.ownsRow_nil _ _ _ _, by go_grown⟩
  case round =>
    obtain ⟨k, acc, hk, rfl, hK, ho, hb0⟩ := hrel
    have hal : acc.length ≤ k := by rw [← hK]; exact Nat.le_trans (List.length_filter_le _ _) (by rw [List.length_take]; omega)
    have HK := hid hK; clear hK
    have hw0 := hb0.size
    obtain ⟨ua, uc, rfl, hul⟩ := owns_shape ho
    by_cases hlt : k < ts.length
    · obtain ⟨a', ha, hl, hc0, hcc⟩ := (show RowsAt 5 _ (.slice a (ts.map rowT).length _) (ts.map rowT) by rw [List.length_map]; exact h.below hb0).row (k := k) (by simpa using hlt)
      rw [List.getElem_map] at hc0 hcc
      have r0 := hc0 _ rfl
      have r1 := hcc 1 _ (by decide) rfl
      have r2 := hcc 2 _ (by decide) rfl
      have r3 := hcc 3 _ (by decide) rfl
      have r4 := hcc 4 _ (by decide) rfl
      subst ha
      clear hc0 hcc hl
      go_wp2_with fail
      cases hx : b.contains (src ts[k])
      · have HX := hid hx; clear hx
        refine (has_eq (hb.below hb0) HX.out).mono ?_
        rintro e w2 ⟨rfl, hb2⟩
        replace r0 := bkeep hb2 r0
        replace r1 := bkeep hb2 r1
        replace r2 := bkeep hb2 r2
        replace r3 := bkeep hb2 r3
        replace r4 := bkeep hb2 r4
        replace ho := owns_below ho hb2
        replace hb0 := bnext (w := w) (by omega) hb2
        have hw2 := hb2.size
        clear hb2
        go_wp2_with fail
        go_roundw
        case rel => exact ⟨k + 1, acc, by omega, by go_num, by rw [only_snoc_no hlt HX.out]; exact HK.out, ho, hb0⟩
        case measure => first | (simp [intOf]; done) | (simp [intOf]; omega)
      · have HX := hid hx; clear hx
        refine (has_eq (hb.below hb0) HX.out).mono ?_
        rintro e w2 ⟨rfl, hb2⟩
        replace r0 := bkeep hb2 r0
        replace r1 := bkeep hb2 r1
        replace r2 := bkeep hb2 r2
        replace r3 := bkeep hb2 r3
        replace r4 := bkeep hb2 r4
        replace ho := owns_below ho hb2
        replace hb0 := bnext (w := w) (by omega) hb2
        have hw2 := hb2.size
        clear hb2
        go_wp2_with (at_builtin; go_must (refine wpList_append_own _ rfl _ _ 54 rfl w.heap.size 64 i0 (.agg #[.int .i64 0, .int .i64 0, .int .i64 0, .int .i64 0, .int .i64 0]) 5 40 Try.underlying54 hi' hz0 hz1 hz2 rfl (by decide) _ _ _ rfl (ho.alloc _) ⟨w2.heap.size, 0, none⟩ 1 1 (cellsT ts[k]) rfl rfl ?c1 one_cellsT (by unfold maxLen; omega) (by omega) (by simp; omega) ?_; (case c1 => exact new_cellsT w2 ts[k] 64); intro v' w4 ho4 hg4 hnil; replace hb0 := below_grown (hb0.alloc (by omega) _) hg4 (ho.alloc _) (by simp; omega) (by omega); have hz4 := hg4.size; simp only [World.size_alloc] at hz4; clear hg4 hnil ho))
        go_roundw
        case rel => exact ⟨k + 1, acc ++ [ts[k]], by omega, by go_num, by rw [only_snoc_yes hlt HX.out, HK.out], by rw [List.length_append, ← flatMap_snoc]; exact ho4, hb0⟩
        case measure => first | (simp [intOf]; done) | (simp [intOf]; omega)
    · have hacc : only b ts = acc := by have := HK.out; rwa [List.take_of_length_le (by omega)] at this
      go_wp2_with fail
      go_ret
      exact ⟨_, rfl, hb0, by rw [hacc]; exact trialsAt_of_owns ho⟩
set_option maxRecDepth 100000 in
set_option maxHeartbeats 4000000 in
theorem add_any {w : World} {v : Value} {zs : List Int} {n : Int} (h : NumsAt w v zs) (hm : zs.length ≤ 1000) (hn : I64 n) :
    Calls Try.prog 106 #[v, .int .i64 n] w (NewNums (addL n zs) w) := by
  obtain ⟨a, cap, rfl, hl1, hl2⟩ := h.shape
  obtain ⟨i0, hi, hz0, hz1, hz2⟩ := info_parts Try.infoI
  go_enter Try.func106, Try.ntmps106
  go_wp2_with fail
  go_loopw [5, 6, 7] (fun nv dv iv wr => ∃ (k : Nat) (acc : List Int) (d : Bool), k ≤ zs.length ∧ iv = .int .i64 k ∧ dv = .bool d ∧ addTo n (zs.take k) = (acc, d) ∧ (zs.take k).contains n = false ∧ wr.ownsRow w.heap.size 3 1 nv acc.length (acc.map (Value.int .i64)) ∧ Below w.heap.size w wr) (fun _ _ iv _ => zs.length - (intOf iv).toNat)
  case atStart => exact ⟨0, [], false, by omega, rfl, rfl, rfl, by simp, World.ownsRow_nil _ _ _ _, by go_grown⟩
  case round =>
    obtain ⟨k, acc, d, hk, rfl, rfl, hK, hN, ho, hb0⟩ := hrel
    obtain ⟨hal, hal2⟩ := add_bd hk hK
    have HK := hid hK; clear hK
    have HN := hid hN; clear hN
    have HI := hid (add_i64 (h.i64) hn HK.out)
    have hw0 := hb0.size
    obtain ⟨ua, uc, rfl, hul⟩ := owns_shape ho
    by_cases hlt : k < zs.length
    · obtain ⟨a', ha, r0⟩ := (h.below hb0).elem hlt
      subst ha
      obtain ⟨z, hz⟩ : ∃ z, z = zs[k] := ⟨_, rfl⟩
      rw [← hz] at r0
      have HZ := hid hz; clear hz
      by_cases hx : z = n
      · have e1 : (z == n) = true := by simp [hx]
        have HX := hid (show zs[k] = n by rw [← HZ.out]; exact hx); clear hx
        go_wp2_with fail
        go_ret
        exact ⟨_, rfl, hb0, by rw [add_has (has_yes hlt HX.out)]; exact h.below hb0⟩
      · have e1 : (z == n) = false := by simp [hx]
        have HX := hid (show ¬ zs[k] = n by rw [← HZ.out]; exact hx); clear hx
        have HNN := hid (has_no hlt HN.out HX.out)
        by_cases hg : n < z
        · have HG := hid (show n < zs[k] by rw [← HZ.out]; exact hg)
          cases d
          · have hal3 := hal2 rfl
            clear hal2
            go_upto_region 11 with (at_builtin; go_must (refine wpList_append_own _ rfl _ _ 55 rfl w.heap.size 3 i0 (.int .i64 0) 1 8 Try.underlying55 hi hz0 hz1 hz2 rfl (by decide) _ _ _ rfl (ho.alloc _) ⟨wr.heap.size, 0, none⟩ 1 1 [.int .i64 n] rfl rfl (one_new _ _ _ _ rfl) (by simp [Value.oneCell']) (by unfold maxLen; omega) (by omega) (by simp; omega) ?_; intro v' w4 ho4 hg4 hnil; replace hb0 := below_grown (hb0.alloc (by omega) _) hg4 (ho.alloc _) (by simp; omega) (by omega); have hz4 := hg4.size; simp only [World.size_alloc] at hz4; clear hg4 hnil ho; obtain ⟨a2, e2, r1⟩ := (h.below hb0).elem hlt; injection e2 with e2; subst e2; rw [← HZ.out] at r1; clear r0; obtain ⟨va, vc, rfl, hvl⟩ := owns_shape ho4))
            go_wp2_with (at_builtin; go_must (refine wpList_append_own _ rfl _ _ 55 rfl w.heap.size 3 i0 (.int .i64 0) 1 8 Try.underlying55 hi hz0 hz1 hz2 rfl (by decide) _ _ _ rfl (ho4.alloc _) ⟨w4.heap.size, 0, none⟩ 1 1 [.int .i64 z] rfl rfl (one_new _ _ _ _ rfl) (by simp [Value.oneCell']) (by unfold maxLen; omega) (by omega) (by simp; omega) ?_; intro v'' w5 ho5 hg4 hnil; replace hb0 := below_grown (hb0.alloc (by omega) _) hg4 (ho4.alloc _) (by simp; omega) (by omega); have hz4 := hg4.size; simp only [World.size_alloc] at hz4; clear hg4 hnil ho4))
            go_roundw
            case rel => exact ⟨k + 1, acc ++ [n] ++ [z], true, by omega, by go_num, rfl, by rw [add_yes hlt HK.out HG.out, HZ.out], HNN.out, by rw [List.length_append, List.length_append, List.map_append, List.map_append]; exact ho5, hb0⟩
            case measure => first | (simp [intOf]; done) | (simp [intOf]; omega)
          · go_wp2_with (at_builtin; go_must (refine wpList_append_own _ rfl _ _ 55 rfl w.heap.size 3 i0 (.int .i64 0) 1 8 Try.underlying55 hi hz0 hz1 hz2 rfl (by decide) _ _ _ rfl (ho.alloc _) ⟨wr.heap.size, 0, none⟩ 1 1 [.int .i64 z] rfl rfl (one_new _ _ _ _ rfl) (by simp [Value.oneCell']) (by unfold maxLen; omega) (by omega) (by simp; omega) ?_; intro v' w4 ho4 hg4 hnil; replace hb0 := below_grown (hb0.alloc (by omega) _) hg4 (ho.alloc _) (by simp; omega) (by omega); have hz4 := hg4.size; simp only [World.size_alloc] at hz4; clear hg4 hnil))
            go_roundw
            case rel => exact ⟨k + 1, acc ++ [z], true, by omega, by go_num, rfl, by rw [add_no hlt HK.out (by simp), HZ.out], HNN.out, by rw [List.length_append, List.map_append]; exact ho4, hb0⟩
            case measure => first | (simp [intOf]; done) | (simp [intOf]; omega)
        · have HG := hid (show ¬ n < zs[k] by rw [← HZ.out]; exact hg)
          cases d
          · go_wp2_with (at_builtin; go_must (refine wpList_append_own _ rfl _ _ 55 rfl w.heap.size 3 i0 (.int .i64 0) 1 8 Try.underlying55 hi hz0 hz1 hz2 rfl (by decide) _ _ _ rfl (ho.alloc _) ⟨wr.heap.size, 0, none⟩ 1 1 [.int .i64 z] rfl rfl (one_new _ _ _ _ rfl) (by simp [Value.oneCell']) (by unfold maxLen; omega) (by omega) (by simp; omega) ?_; intro v' w4 ho4 hg4 hnil; replace hb0 := below_grown (hb0.alloc (by omega) _) hg4 (ho.alloc _) (by simp; omega) (by omega); have hz4 := hg4.size; simp only [World.size_alloc] at hz4; clear hg4 hnil))
            go_roundw
            case rel => exact ⟨k + 1, acc ++ [z], false, by omega, by go_num, rfl, by rw [add_no hlt HK.out (fun h => HG.out h.2), HZ.out], HNN.out, by rw [List.length_append, List.map_append]; exact ho4, hb0⟩
            case measure => first | (simp [intOf]; done) | (simp [intOf]; omega)
          · go_wp2_with (at_builtin; go_must (refine wpList_append_own _ rfl _ _ 55 rfl w.heap.size 3 i0 (.int .i64 0) 1 8 Try.underlying55 hi hz0 hz1 hz2 rfl (by decide) _ _ _ rfl (ho.alloc _) ⟨wr.heap.size, 0, none⟩ 1 1 [.int .i64 z] rfl rfl (one_new _ _ _ _ rfl) (by simp [Value.oneCell']) (by unfold maxLen; omega) (by omega) (by simp; omega) ?_; intro v' w4 ho4 hg4 hnil; replace hb0 := below_grown (hb0.alloc (by omega) _) hg4 (ho.alloc _) (by simp; omega) (by omega); have hz4 := hg4.size; simp only [World.size_alloc] at hz4; clear hg4 hnil))
            go_roundw
            case rel => exact ⟨k + 1, acc ++ [z], true, by omega, by go_num, rfl, by rw [add_no hlt HK.out (fun h => HG.out h.2), HZ.out], HNN.out, by rw [List.length_append, List.map_append]; exact ho4, hb0⟩
            case measure => first | (simp [intOf]; done) | (simp [intOf]; omega)
    · have HC := hid (has_end hlt HN.out)
      cases d
      · have hacc : addTo n zs = (acc, false) := by have := HK.out; rwa [List.take_of_length_le (by omega)] at this
        go_wp2_with (at_builtin; go_must (refine wpList_append_own _ rfl _ _ 55 rfl w.heap.size 3 i0 (.int .i64 0) 1 8 Try.underlying55 hi hz0 hz1 hz2 rfl (by decide) _ _ _ rfl (ho.alloc _) ⟨wr.heap.size, 0, none⟩ 1 1 [.int .i64 n] rfl rfl (one_new _ _ _ _ rfl) (by simp [Value.oneCell']) (by unfold maxLen; omega) (by omega) (by simp; omega) ?_; intro v' w4 ho4 hg4 hnil; replace hb0 := below_grown (hb0.alloc (by omega) _) hg4 (ho.alloc _) (by simp; omega) (by omega); have hz4 := hg4.size; simp only [World.size_alloc] at hz4; clear hg4 hnil ho))
        go_ret
        exact ⟨_, rfl, hb0, by rw [add_end HC.out hacc]; exact numsAt_of_owns (fun z hz => (List.mem_append.1 hz).elim (HI.out z) (fun h => by rw [List.mem_singleton.1 h]; exact hn)) (by simp only [Bool.false_eq_true, if_false]; rw [List.length_append, List.map_append]; exact ho4)⟩
      · have hacc : addTo n zs = (acc, true) := by have := HK.out; rwa [List.take_of_length_le (by omega)] at this
        go_wp2_with fail
        go_ret
        exact ⟨_, rfl, hb0, by rw [add_end HC.out hacc]; exact numsAt_of_owns HI.out ho⟩
end Go.Proofs.Ytgnljgceddphfaa
