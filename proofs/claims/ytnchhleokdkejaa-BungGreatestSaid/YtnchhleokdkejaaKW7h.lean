/- Contracts of slices.Grow of nil, slices.Concat of two slices, of without and contradict; below the blocks that were there nothing turns. -/
import Derived.Test.YtnchhleokdkejaaKTdh
import Derived.Test.YtnchhleokdkejaaKLibh
import Derived.Lib.AppendZeros
import Derived.Deep.DeepMust
import Derived.Test.YtnchhleokdkejaaKCbh
import Derived.WalkMore
import Derived.Deep.LoopGhost
import Derived.Test.YtnchhleokdkejaaKInRoundh
import Derived.Test.YtnchhleokdkejaaKB6h
namespace Go.Proofs.Ytnchhleokdkejaa
open Go.RowKit Go.Pb Go.Pb.Ware
set_option linter.unusedVariables false
set_option linter.unusedSimpArgs false

theorem Try.infoI : (Try.prog.info? 3).map (fun i => (i.zero, i.size, i.bytes)) = some (some (.int .i64 0), 1, 8) := by kernel_rfl
theorem nums_one {zs : List Int} : ∀ u ∈ zs.map (Value.int .i64), u.oneCell' = true := by
  intro u hu
  obtain ⟨z, _, rfl⟩ := List.mem_map.1 hu
  rfl

end Go.Proofs.Ytnchhleokdkejaa

/- Putting things into parts. -/
namespace Go.Proofs.Ytnchhleokdkejaa
open Go.RowKit Go.Pb Go.Pb.Ware Go.Pb.Sag
set_option linter.unusedVariables false
set_option linter.unusedSimpArgs false

theorem Try.infoGG : (Try.prog.info? 41).map (fun i => (i.zero, i.size, i.bytes)) = some (some (.slice none 0 0), 1, 24) := by kernel_rfl
set_option maxRecDepth 100000 in
set_option maxHeartbeats 1500000 in
theorem tryIn_any {B n most : Nat} {ca cb : Value} {does : List Int → Bool} {Q : World → Prop} (hn : n ≤ 1000) (hmn : most ≤ n) (hQ : ∀ W W', Q W → Below B W W' → Q W') (hdo : ∀ (W : World) (v : Value) (g : List Int), Q W → NumsAt W v g → (∀ z ∈ g, 0 ≤ z ∧ z < (n : Int)) → 0 < g.length → g.length ≤ n → g.Pairwise (· < ·) → Calls Try.prog 137 #[v, ca, cb] W (fun e W' => e = .returned (.bool (does g)) ∧ Q W' ∧ Above B W W')) {d i k : Nat} {gs : List (List Int)} {g : List Int} {w : World}
    (hput : ∀ (gs : List (List Int)) (W : World), GoodR (i + 1) gs → gs.length ≤ most → PartsAt B 41 3 gs W → BoxesAt B (.int .i64 (n : Int)) (.int .i64 (most : Int)) (.func (.func 137) #[] #[ca, cb]) (.func (.func 146) #[] #[.pointer (some ⟨B, 0, none⟩), .pointer (some ⟨B + 3, 0, none⟩), .pointer (some ⟨B + 5, 0, none⟩), .pointer (some ⟨B + 1, 0, none⟩)]) (.func (.func 145) #[] #[.pointer (some ⟨B + 3, 0, none⟩), .pointer (some ⟨B + 2, 0, none⟩), .pointer (some ⟨B + 4, 0, none⟩)]) W → Q W → Calls Try.prog 146 #[.int .i64 ((i : Int) + 1), .pointer (some ⟨B, 0, none⟩), .pointer (some ⟨B + 3, 0, none⟩), .pointer (some ⟨B + 5, 0, none⟩), .pointer (some ⟨B + 1, 0, none⟩)] W (PutsRes B 41 3 (.int .i64 (n : Int)) (.int .i64 (most : Int)) (.func (.func 137) #[] #[ca, cb]) (.func (.func 146) #[] #[.pointer (some ⟨B, 0, none⟩), .pointer (some ⟨B + 3, 0, none⟩), .pointer (some ⟨B + 5, 0, none⟩), .pointer (some ⟨B + 1, 0, none⟩)]) (.func (.func 145) #[] #[.pointer (some ⟨B + 3, 0, none⟩), .pointer (some ⟨B + 2, 0, none⟩), .pointer (some ⟨B + 4, 0, none⟩)]) Q gs (putG does most d (i + 1) gs)))
    (hi : i < n) (hg : gs[k]? = some g) (hG : GoodR (i + 1) (gs.set k (g ++ [(i : Int)]))) (hm : gs.length ≤ most) (hP : PartsAt B 41 3 gs w) (hB : BoxesAt B (.int .i64 (n : Int)) (.int .i64 (most : Int)) (.func (.func 137) #[] #[ca, cb]) (.func (.func 146) #[] #[.pointer (some ⟨B, 0, none⟩), .pointer (some ⟨B + 3, 0, none⟩), .pointer (some ⟨B + 5, 0, none⟩), .pointer (some ⟨B + 1, 0, none⟩)]) (.func (.func 145) #[] #[.pointer (some ⟨B + 3, 0, none⟩), .pointer (some ⟨B + 2, 0, none⟩), .pointer (some ⟨B + 4, 0, none⟩)]) w) (hq : Q w) :
    Calls Try.prog 145 #[.int .i64 (k : Int), .int .i64 (i : Int), .pointer (some ⟨B + 3, 0, none⟩), .pointer (some ⟨B + 2, 0, none⟩), .pointer (some ⟨B + 4, 0, none⟩)] w (PutsRes B 41 3 (.int .i64 (n : Int)) (.int .i64 (most : Int)) (.func (.func 137) #[] #[ca, cb]) (.func (.func 146) #[] #[.pointer (some ⟨B, 0, none⟩), .pointer (some ⟨B + 3, 0, none⟩), .pointer (some ⟨B + 5, 0, none⟩), .pointer (some ⟨B + 1, 0, none⟩)]) (.func (.func 145) #[] #[.pointer (some ⟨B + 3, 0, none⟩), .pointer (some ⟨B + 2, 0, none⟩), .pointer (some ⟨B + 4, 0, none⟩)]) Q gs (tryG does most d i gs k)) := by
  obtain ⟨N, hNN⟩ : ∃ N, gs.length = N := ⟨_, rfl⟩
  have hk : k < gs.length := (List.getElem?_eq_some_iff.1 hg).1
  rw [hNN] at hm hk
  have HN := hid hNN; clear hNN
  obtain ⟨g2, hg2e⟩ : ∃ x, g ++ [(i : Int)] = x := ⟨_, rfl⟩
  obtain ⟨gs2, hgs2e⟩ : ∃ x, gs.set k (g ++ [(i : Int)]) = x := ⟨_, rfl⟩
  have hg2 : gs2[k]? = some g2 := by rw [← hgs2e, ← hg2e]; exact List.getElem?_set_self (by rw [HN.out]; exact hk)
  have hl2 : gs2.length = N := by rw [← hgs2e, List.length_set]; exact HN.out
  have hlg2 : g2.length = g.length + 1 := by rw [← hg2e]; simp
  have hG2 : GoodR (i + 1) gs2 := hgs2e ▸ hG
  have hgm := List.mem_of_getElem? hg2
  have hglen := hG2.1.len g2 hgm
  have hzl : ∀ z ∈ g2, 0 ≤ z ∧ z < (n : Int) := fun z hz => by have := hG2.1.lt g2 hgm z hz; omega
  have hrise := hG2.2 g2 hgm
  have htry : tryG does most d i gs k = if does g2 = true then putG does most d (i + 1) gs2 else none := by unfold tryG; rw [List.getD_eq_getElem?_getD, hg, Option.getD_some, hgs2e, hg2e]
  obtain ⟨b, hbb⟩ : ∃ b, does g2 = b := ⟨_, rfl⟩
  rw [hbb] at htry
  rw [htry]
  have HBB := hid hbb; have HZL := hid hzl; have HRI := hid hrise; have HL2 := hid hl2; have HLG := hid hlg2; have HG2E := hid hg2e; have HGS := hid hgs2e; have HPUT := hid hput; have HDO := hid hdo; have HQ := hid hQ; clear hbb hzl hrise hl2 hg2e hgs2e htry hput hdo hQ
  obtain ⟨gv0, vs0, d0, ho0, hr0, hA0, hz0⟩ := hP
  rw [HN.out] at ho0
  obtain ⟨gb0, gcap0, rfl, hc0, he0⟩ := own_some ho0 (by omega)
  obtain ⟨v0, hv0⟩ : ∃ v, vs0[k]? = some v := ⟨_, List.getElem?_eq_getElem (by have := ho0.1; omega)⟩
  have hrow0 := hr0 k v0 _ hv0 hg
  obtain ⟨xa, xc, rfl, hgl⟩ := owns_shape hrow0
  have y90 : w.cell? ⟨gb0, k, none⟩ = some (.slice xa g.length xc) := by have h := ho0.cells (g := gb0) rfl k _ hv0; rw [Go.WideShapes.add_plain, Nat.zero_add] at h; exact h
  have hB0 := hB
  have q0 := d0.1
  obtain ⟨i1, hj, hy0, hy1, hy2⟩ := info_parts Try.infoI
  rw [HLG.out] at hglen
  have hki : (k : Int) < (N : Int) := by omega
  go_enter Try.func145, Try.ntmps145
  go_upto_region 1 with fail
  refine wp_region_G (fun V => V.cell? ⟨B + 3, 0, none⟩ = some (.slice (some ⟨gb0, 0, none⟩) N gcap0)) (fun V hV => bkeep hV q0) [0, 1] (by kernel_rfl) [(7, NewList w.heap.size 1 [.int .i64 (i : Int)])] [2, 3, 4, 5, 6, 7] 3 (by kernel_rfl) rfl (by simp only [List.forall_mem_cons]; exact ⟨keeps_list, fun _ h => by cases h⟩) (by kernel_rfl) ?_
  refine ⟨_, .slice (some ⟨gb0, 0, none⟩) N gcap0, rfl, ⟨rfl, fun V hV => by (try dsimp only at hV); go_simp⟩, ?_⟩
  simp only [Act.put, List.getElem_toArray, List.getElem_cons_succ, List.getElem_cons_zero, List.setIfInBounds_toArray, List.set_cons_succ, List.set_cons_zero]
  refine ⟨_, .int .i64 (k : Int), rfl, ⟨rfl, fun V hV => by (try dsimp only at hV); go_simp⟩, ?_⟩
  simp only [Act.put, List.getElem_toArray, List.getElem_cons_succ, List.getElem_cons_zero, List.setIfInBounds_toArray, List.set_cons_succ, List.set_cons_zero]
  simp only [numbered, List.filterMap_cons, List.filterMap_nil, List.getElem?_toArray, List.getElem?_cons_succ, List.getElem?_cons_zero, Option.map_some]
  show wpS _ _ _ _ _ _ _ [(_, _), (_, _), (_, _), (_, _), (_, _), (_, _)] _ _
  (refine wpS_quiet rfl rfl ?_; intro K hK inst hx; have s0 := fun x => (fun _ => bkeep (BQ.below x) q0) (hx x); go_big_quiet_op; (first | go_big_quiet_on | (refine ⟨_, fun _ => rfl, ?_⟩; go_big_quiet_on)); clear hx inst)
  (refine wpS_quiet rfl rfl ?_; intro K hK inst hx; go_big_quiet_op; (first | go_big_quiet_on | (refine ⟨_, fun _ => rfl, ?_⟩; go_big_quiet_on)); clear hx inst)
  (refine wpS_quiet rfl rfl ?_; intro K hK inst hx; go_big_quiet_op; (first | go_big_quiet_on | (refine ⟨_, fun _ => rfl, ?_⟩; go_big_quiet_on)); clear hx inst)
  (refine wpS_quiet rfl rfl ?_; intro K hK inst hx; have s0 := fun x => (fun _ => bkeep (BQ.below x) y90) (hx x); go_big_quiet_op; (first | go_big_quiet_on | (refine ⟨_, fun _ => rfl, ?_⟩; go_big_quiet_on)); clear hx inst)
  (refine wpS_quiet rfl rfl ?_; intro K hK inst hx; go_big_quiet_op; (first | go_big_quiet_on | (refine ⟨_, fun _ => rfl, ?_⟩; go_big_quiet_on)); clear hx inst)
  refine wpS_fresh rfl rfl (fun w' hb hF => ?_) ?_
  · change freshAt _ _ _ (NewList w.heap.size 1 [.int .i64 (i : Int)]) _; unfold freshAt; go_simp; exact list_of hb
  intro v W hv; simp only [pOf, List.lookup_cons, Nat.reduceBEq, beq_self_eq_true] at hv; obtain ⟨B13, hB13, rfl, -⟩ := hv
  simp only [Act.put, List.setIfInBounds_toArray, List.set_cons_succ, List.set_cons_zero]
  refine wpS_nil ?_
  intro w2 hall
  have hb := hall.1
  have h51 : NewList w.heap.size 1 [.int .i64 (i : Int)] _ w2 := hall.2 7 _ rfl
  obtain ⟨B', hB', hv', hn'⟩ := h51
  obtain rfl : B13 = B' := by simpa using hv'
  clear hall
  have hown2 := owns_below hrow0 hb
  have x2 : (fun V => V.cell? ⟨B + 3, 0, none⟩ = some (.slice (some ⟨gb0, 0, none⟩) N gcap0)) w2 := bkeep hb q0
  refine wpAnyC_op (r := 8) x2 (by kernel_rfl) rfl rfl (fun K hK => ?_)
  refine wp_append_own w2 (.tmp 13) (.tmp 15) 41 rfl (B + 6) 3 i1 (.int .i64 0) 1 8 Try.underlying41 hj hy0 hy1 hy2 rfl (by decide) (.slice xa g.length xc) g.length _ rfl hown2 ⟨B13, 0, none⟩ 1 1 [.int .i64 (i : Int)] rfl rfl (fun j u h => by rw [Go.WideShapes.add_plain, Nat.zero_add]; exact (hn' j u h).1) (fun u h => by simp only [List.mem_cons, List.not_mem_nil, or_false] at h; rcases h with rfl; rfl) (by unfold maxLen; omega) (by omega) (by have := hb.size; omega) ?_
  intro v35 w3 ho3 hg3 hnil3
  refine hK _ _ ?_
  clear hK K hnil3
  have hpush := PartsAt.push (TO := 41) (TI := 3) (i := i) (by decide) hG.1 hg hv0 ⟨d0.1.trans (by rw [HN.out]), d0.2⟩ (by rw [HN.out]; exact ho0) hr0 hA0 hz0 hb hg3 ho3
  rw [HGS.out] at hpush
  obtain ⟨⟨p0, p1⟩, hP2, hB2⟩ := hpush
  obtain ⟨xb, xd, rfl, -⟩ := owns_shape ho3
  have x3 : (fun V => V.cell? ⟨B + 3, 0, none⟩ = some (.slice (some ⟨gb0, 0, none⟩) N gcap0)) w3 := grown_kept hg3 x2 (fun e => by have := own_ge hrow0 _ e.symm; omega)
  have hgb : B + 6 ≤ gb0 := own_ge ho0 gb0 rfl
  refine wpAnyC_op (r := 9) x3 (by kernel_rfl) rfl rfl (fun K hK => ?_)
  go_simp
  refine hK _ _ ?_; clear hK K
  refine wpAnyC_op (r := 10) x3 (by kernel_rfl) rfl rfl (fun K hK => ?_)
  go_simp
  refine hK _ _ ?_; clear hK K
  refine wpAnyC_end (setc_block x3 (by omega)) (by kernel_rfl) ?_
  refine ⟨rfl, ?_⟩
  generalize hW4 : w3.setCell ⟨gb0, k, none⟩ (.slice xb (g.length + 1) xd) = W4 at *
  have hB4 := hB0.below hB2
  have hq4 := HQ.out _ _ hq (hB2.mono (by omega))
  clear hW4 hB2 x2 x3 hg3 ho3 p0 p1 hown2 hn' hb hB0 hB hq q0 hr0 hA0 hz0 d0 ho0 hrow0 y90 hv0
  have hP4 := hP2
  obtain ⟨gv4, vs4, d4, ho4, hr4, hA4, hz4⟩ := hP2
  rw [HL2.out] at ho4
  obtain ⟨gb4, gcap4, rfl, hc4, he4⟩ := own_some ho4 (by omega)
  obtain ⟨v4, hv4⟩ : ∃ v, vs4[k]? = some v := ⟨_, List.getElem?_eq_getElem (by have := ho4.1; omega)⟩
  have hrow4 := hr4 k v4 _ hv4 hg2
  rw [HLG.out] at hrow4
  obtain ⟨vb4, vc4, rfl, hu1, hu2⟩ := own_some hrow4 (by omega)
  have y94 : W4.cell? ⟨gb4, k, none⟩ = some (.slice (some ⟨vb4, 0, none⟩) (g.length + 1) vc4) := by have h := ho4.cells (g := gb4) rfl k _ hv4; rw [Go.WideShapes.add_plain, Nat.zero_add] at h; exact h
  have hnum := numsAt_of_owns (fun z hz => by have := HZL.out z hz; exact I64.mk (by omega) (by omega)) (show W4.ownsRow (B + 6) 3 1 (.slice (some ⟨vb4, 0, none⟩) (g.length + 1) vc4) g2.length _ by rw [HLG.out]; exact hrow4)
  have y3 := d4.1
  have y2 := hB4.2.2.1
  have HNUM := hid hnum; clear hnum
  go_upto_region 2 with fail
  refine wp_region_Rs [] [0, 1, 2, 3, 4] 7 (by kernel_rfl) rfl (fun _ h => by cases h) (by kernel_rfl) ?_
  simp only [numbered, List.filterMap_cons, List.filterMap_nil, List.getElem?_toArray, List.getElem?_cons_succ, List.getElem?_cons_zero, Option.map_some]
  show wpS _ _ _ _ _ _ _ [(_, _), (_, _), (_, _), (_, _), (_, _)] _ _
  (refine wpS_quiet rfl rfl ?_; intro K hK inst hx; have s0 := fun x => (fun _ => bkeep (BQ.below x) y2) (hx x); go_big_quiet_op; (first | go_big_quiet_on | (refine ⟨_, fun _ => rfl, ?_⟩; go_big_quiet_on)); clear hx inst)
  (refine wpS_quiet rfl rfl ?_; intro K hK inst hx; have s0 := fun x => (fun _ => bkeep (BQ.below x) y3) (hx x); go_big_quiet_op; (first | go_big_quiet_on | (refine ⟨_, fun _ => rfl, ?_⟩; go_big_quiet_on)); clear hx inst)
  (refine wpS_quiet rfl rfl ?_; intro K hK inst hx; go_big_quiet_op; (first | go_big_quiet_on | (refine ⟨_, fun _ => rfl, ?_⟩; go_big_quiet_on)); clear hx inst)
  (refine wpS_quiet rfl rfl ?_; intro K hK inst hx; go_big_quiet_op; (first | go_big_quiet_on | (refine ⟨_, fun _ => rfl, ?_⟩; go_big_quiet_on)); clear hx inst)
  (refine wpS_quiet rfl rfl ?_; intro K hK inst hx; have s0 := fun x => (fun _ => bkeep (BQ.below x) y94) (hx x); go_big_quiet_op; (first | go_big_quiet_on | (refine ⟨_, fun _ => rfl, ?_⟩; go_big_quiet_on)); clear hx inst)
  refine wpS_nil ?_
  intro w5 hall
  have hb5 := hall.1
  clear hall
  have hq5 := HQ.out _ _ hq4 (hb5.mono (by omega))
  have ha5 : Above B W4 w5 := Above.of_below hb5
  refine wpAny_ready (rs := [5]) (by kernel_rfl) (by simp) ?_
  refine AllReady.cons rfl (fun K hK => ?_) AllReady.nil
  refine (if_pos (show Region.wanted _ _ = true from rfl)).mpr ?_
  go_simp
  refine (HDO.out w5 _ g2 hq5 (NumsAt.below HNUM.out hb5) HZL.out (by rw [HLG.out]; omega) (by rw [HLG.out]; omega) HRI.out).mono ?_
  rintro e w6 ⟨rfl, hq6, ha6⟩
  dsimp only
  refine hK _ _ ?_
  clear hK K
  rw [HBB.out]
  replace ha6 := ha5.trans ha6
  have hP6 := hP4.keep ha6
  have hB6 := hB4.above hz4 ha6
  have hz6 : B + 6 ≤ w6.heap.size := by have := ha6.size; omega
  clear hq5 ha5 hb5 hq4 ha6 y2 y3 y94 hP4 hB4 d4 ho4 hr4 hA4 hrow4 hv4 HNUM
  refine wpAny_ready (rs := [6]) (by kernel_rfl) (by simp) ?_
  refine AllReady.cons rfl (fun K hK => ?_) AllReady.nil
  go_simp
  refine hK _ _ ?_; clear hK K
  cases b
  · refine wpAny_Rs (w0 := w6) [(10, fun v _ => v = undef)] [7, 8, 9, 10] 1 rfl (by simp only [List.forall_mem_cons]; exact ⟨keeps_eq, fun _ h => by cases h⟩) (by kernel_rfl) (Below.refl _ _) ?_
    simp only [numbered, List.filterMap_cons, List.filterMap_nil, List.getElem?_toArray, List.getElem?_cons_succ, List.getElem?_cons_zero, Option.map_some]
    show wpS _ _ _ _ _ _ _ [(_, _), (_, _), (_, _), (_, _)] _ _
    refine wpS_skip rfl ?_; simp only [Act.put, List.setIfInBounds_toArray, List.set_cons_succ, List.set_cons_zero]
    refine wpS_skip rfl ?_; simp only [Act.put, List.setIfInBounds_toArray, List.set_cons_succ, List.set_cons_zero]
    refine wpS_skip rfl ?_; simp only [Act.put, List.setIfInBounds_toArray, List.set_cons_succ, List.set_cons_zero]
    refine wpS_skip rfl ?_; simp only [Act.put, List.setIfInBounds_toArray, List.set_cons_succ, List.set_cons_zero]
    refine wpS_nil ?_
    intro w7 hall
    have hb := hall.1
    clear hall
    refine wpAny_ready (rs := [11]) (by kernel_rfl) (by simp) ?_
    refine AllReady.cons rfl (fun K hK => ?_) AllReady.nil
    go_simp
    refine hK _ _ ?_; clear hK K
    refine wpAny_done (by kernel_rfl) ?_ _
    replace hP6 := hP6.keep (Above.of_below hb)
    replace hB6 := hB6.above hz6 (Above.of_below hb)
    replace hq6 := HQ.out _ _ hq6 (hb.mono (by omega))
    clear hb hz6
    obtain ⟨gv7, vs7, d7, ho7, hr7, hA7, hz7⟩ := hP6
    rw [HL2.out] at ho7
    obtain ⟨gb7, gcap7, rfl, hc7, he7⟩ := own_some ho7 (by omega)
    obtain ⟨v7, hv7⟩ : ∃ v, vs7[k]? = some v := ⟨_, List.getElem?_eq_getElem (by have := ho7.1; omega)⟩
    have hrow7 := hr7 k v7 _ hv7 hg2
    rw [HLG.out] at hrow7
    obtain ⟨vb7, vc7, rfl, hu1, hu2⟩ := own_some hrow7 (by omega)
    have z9 : w7.cell? ⟨gb7, k, none⟩ = some (.slice (some ⟨vb7, 0, none⟩) (g.length + 1) vc7) := by have h := ho7.cells (g := gb7) rfl k _ hv7; rw [Go.WideShapes.add_plain, Nat.zero_add] at h; exact h
    have z8 := d7.1
    have z10 := owns_frozen ho7 rfl k
    have hgi : (0 : Int) ≤ (g.length : Int) := by omega
    have hgv : (g.length : Int) ≤ (vc7 : Int) := by omega
    have HR7 := hid hr7; clear hr7 hrow7 hu1 hu2
    go_upto_region 4 with fail
    refine wp_region_Rs [] [0, 1, 2, 3, 4, 5, 6, 7, 8, 9, 10, 11, 12, 13] 1 (by kernel_rfl) rfl (fun _ h => by cases h) (by kernel_rfl) ?_
    simp only [numbered, List.filterMap_cons, List.filterMap_nil, List.getElem?_toArray, List.getElem?_cons_succ, List.getElem?_cons_zero, Option.map_some]
    show wpS _ _ _ _ _ _ _ [(_, _), (_, _), (_, _), (_, _), (_, _), (_, _), (_, _), (_, _), (_, _), (_, _), (_, _), (_, _), (_, _), (_, _)] _ _
    (refine wpS_quiet rfl rfl ?_; intro K hK inst hx; have s0 := fun x => (fun _ => bkeep (BQ.below x) z8) (hx x); go_big_quiet_op; (first | go_big_quiet_on | (refine ⟨_, fun _ => rfl, ?_⟩; go_big_quiet_on)); clear hx inst)
    (refine wpS_quiet rfl rfl ?_; intro K hK inst hx; go_big_quiet_op; (first | go_big_quiet_on | (refine ⟨_, fun _ => rfl, ?_⟩; go_big_quiet_on)); clear hx inst)
    (refine wpS_quiet rfl rfl ?_; intro K hK inst hx; have s0 := fun x => (fun _ => bkeep (BQ.below x) z8) (hx x); go_big_quiet_op; (first | go_big_quiet_on | (refine ⟨_, fun _ => rfl, ?_⟩; go_big_quiet_on)); clear hx inst)
    (refine wpS_quiet rfl rfl ?_; intro K hK inst hx; go_big_quiet_op; (first | go_big_quiet_on | (refine ⟨_, fun _ => rfl, ?_⟩; go_big_quiet_on)); clear hx inst)
    (refine wpS_quiet rfl rfl ?_; intro K hK inst hx; go_big_quiet_op; (first | go_big_quiet_on | (refine ⟨_, fun _ => rfl, ?_⟩; go_big_quiet_on)); clear hx inst)
    (refine wpS_quiet rfl rfl ?_; intro K hK inst hx; have s0 := fun x => (fun _ => bkeep (BQ.below x) z9) (hx x); go_big_quiet_op; (first | go_big_quiet_on | (refine ⟨_, fun _ => rfl, ?_⟩; go_big_quiet_on)); clear hx inst)
    (refine wpS_quiet rfl rfl ?_; intro K hK inst hx; have s0 := fun x => (fun _ => bkeep (BQ.below x) z8) (hx x); go_big_quiet_op; (first | go_big_quiet_on | (refine ⟨_, fun _ => rfl, ?_⟩; go_big_quiet_on)); clear hx inst)
    (refine wpS_quiet rfl rfl ?_; intro K hK inst hx; go_big_quiet_op; (first | go_big_quiet_on | (refine ⟨_, fun _ => rfl, ?_⟩; go_big_quiet_on)); clear hx inst)
    (refine wpS_quiet rfl rfl ?_; intro K hK inst hx; go_big_quiet_op; (first | go_big_quiet_on | (refine ⟨_, fun _ => rfl, ?_⟩; go_big_quiet_on)); clear hx inst)
    (refine wpS_quiet rfl rfl ?_; intro K hK inst hx; have s0 := fun x => (fun _ => bkeep (BQ.below x) z9) (hx x); go_big_quiet_op; (first | go_big_quiet_on | (refine ⟨_, fun _ => rfl, ?_⟩; go_big_quiet_on)); clear hx inst)
    (refine wpS_quiet rfl rfl ?_; intro K hK inst hx; go_big_quiet_op; (first | go_big_quiet_on | (refine ⟨_, fun _ => rfl, ?_⟩; go_big_quiet_on)); clear hx inst)
    (refine wpS_quiet rfl rfl ?_; intro K hK inst hx; go_big_quiet_op; (first | go_big_quiet_on | (refine ⟨_, fun _ => rfl, ?_⟩; go_big_quiet_on)); clear hx inst)
    (refine wpS_quiet rfl rfl ?_; intro K hK inst hx; go_big_quiet_op; (first | go_big_quiet_on | (refine ⟨_, fun _ => rfl, ?_⟩; go_big_quiet_on)); clear hx inst)
    (refine wpS_quiet rfl rfl ?_; intro K hK inst hx; go_big_quiet_op; (first | go_big_quiet_on | (refine ⟨_, fun _ => rfl, ?_⟩; go_big_quiet_on)); clear hx inst)
    refine wpS_nil ?_
    intro w8 hall
    have hb := hall.1
    clear hall
    have p8 := bkeep hb z9; have p9 := bfree hb z9 z10
    refine wpAny_ready (rs := [14]) (by kernel_rfl) (by simp) ?_
    refine AllReady.cons rfl (fun K hK => ?_) AllReady.nil
    go_simp
    refine hK _ _ ?_; clear hK K
    refine wpAny_done (by kernel_rfl) ?_ _
    have hpop := PartsAt.pop (TO := 41) (TI := 3) (i := i) (by decide) hg HN.out ⟨bkeep hb d7.1, bfree hb d7.1 d7.2⟩ (owns_below ho7 hb) (fun j u h h1 h2 => owns_below (HR7.out j u h h1 (by rw [← HGS.out, HG2E.out]; rw [HG2E.out] at h2; exact h2)) hb) hA7 (by have := hb.size; omega) (by rw [hv7])
    obtain ⟨hP8, hB8⟩ := hpop
    generalize hW8 : w8.setCell ⟨gb7, k, none⟩ (.slice (some ⟨vb7, 0, none⟩) g.length vc7) = W8 at *
    have hC8 : Below (B + 6) w7 W8 := (hb.mono hz7).trans hB8
    have hD8 := hB6.below hC8
    have hq8 := HQ.out _ _ hq6 (hC8.mono (by omega))
    clear hW8 hb z8 z9 z10 p8 p9 d7 ho7 hv7 hB8 hC8
    go_wp2_with fail
    go_ret
    exact PutsRes.no hq8 hD8 rfl rfl hP8
  · have y4 := hB6.2.2.2.1
    refine wpAny_Rs (w0 := w6) [] [7, 8, 9] 2 rfl (fun _ h => by cases h) (by kernel_rfl) (Below.refl _ _) ?_
    simp only [numbered, List.filterMap_cons, List.filterMap_nil, List.getElem?_toArray, List.getElem?_cons_succ, List.getElem?_cons_zero, Option.map_some]
    show wpS _ _ _ _ _ _ _ [(_, _), (_, _), (_, _)] _ _
    (refine wpS_quiet rfl rfl ?_; intro K hK inst hx; have s0 := fun x => (fun _ => bkeep (BQ.below x) y4) (hx x); go_big_quiet_op; (first | go_big_quiet_on | (refine ⟨_, fun _ => rfl, ?_⟩; go_big_quiet_on)); clear hx inst)
    (refine wpS_quiet rfl rfl ?_; intro K hK inst hx; go_big_quiet_op; (first | go_big_quiet_on | (refine ⟨_, fun _ => rfl, ?_⟩; go_big_quiet_on)); clear hx inst)
    (refine wpS_quiet rfl rfl ?_; intro K hK inst hx; go_big_quiet_op; (first | go_big_quiet_on | (refine ⟨_, fun _ => rfl, ?_⟩; go_big_quiet_on)); clear hx inst)
    refine wpS_nil ?_
    intro w7 hall
    have hb := hall.1
    clear hall
    replace hP6 := hP6.keep (Above.of_below hb)
    replace hB6 := hB6.above hz6 (Above.of_below hb)
    replace hq6 := HQ.out _ _ hq6 (hb.mono (by omega))
    clear hb hz6 y4
    refine wpAny_ready (rs := [10]) (by kernel_rfl) (by simp) ?_
    refine AllReady.cons rfl (fun K hK => ?_) AllReady.nil
    refine (if_pos (show Region.wanted _ _ = true from rfl)).mpr ?_
    go_simp
    refine (HPUT.out gs2 w7 hG2 (by rw [HL2.out]; exact hm) hP6 hB6 hq6).mono ?_
    rintro e w8 ⟨hq9, hB9, ⟨rs, hrs, rfl, hP9⟩ | ⟨hrs, rfl, hP9⟩⟩
    · dsimp only
      refine hK _ _ ?_
      clear hK K
      refine wpAny_ready (rs := [11]) (by kernel_rfl) (by simp) ?_
      refine AllReady.cons rfl (fun K hK => ?_) AllReady.nil
      go_simp
      refine hK _ _ ?_; clear hK K
      refine wpAny_done (by kernel_rfl) ?_ _
      go_wp2_with fail
      go_ret
      exact PutsRes.yes hq9 hB9 (by first | rfl | exact hrs) rfl hP9
    · dsimp only
      refine hK _ _ ?_
      clear hK K
      refine wpAny_ready (rs := [11]) (by kernel_rfl) (by simp) ?_
      refine AllReady.cons rfl (fun K hK => ?_) AllReady.nil
      go_simp
      refine hK _ _ ?_; clear hK K
      refine wpAny_done (by kernel_rfl) ?_ _
      have HRS := hid hrs; clear hrs hP6 hB6 hq6
      have hz9 : B + 6 ≤ w8.heap.size := by obtain ⟨_, _, _, _, _, _, h⟩ := hP9; exact h
      obtain ⟨gv7, vs7, d7, ho7, hr7, hA7, hz7⟩ := hP9
      rw [HL2.out] at ho7
      obtain ⟨gb7, gcap7, rfl, hc7, he7⟩ := own_some ho7 (by omega)
      obtain ⟨v7, hv7⟩ : ∃ v, vs7[k]? = some v := ⟨_, List.getElem?_eq_getElem (by have := ho7.1; omega)⟩
      have hrow7 := hr7 k v7 _ hv7 hg2
      rw [HLG.out] at hrow7
      obtain ⟨vb7, vc7, rfl, hu1, hu2⟩ := own_some hrow7 (by omega)
      have z9 : w8.cell? ⟨gb7, k, none⟩ = some (.slice (some ⟨vb7, 0, none⟩) (g.length + 1) vc7) := by have h := ho7.cells (g := gb7) rfl k _ hv7; rw [Go.WideShapes.add_plain, Nat.zero_add] at h; exact h
      have z8 := d7.1
      have z10 := owns_frozen ho7 rfl k
      have hgi : (0 : Int) ≤ (g.length : Int) := by omega
      have hgv : (g.length : Int) ≤ (vc7 : Int) := by omega
      have HR7 := hid hr7; clear hr7 hrow7 hu1 hu2
      go_upto_region 4 with fail
      refine wp_region_Rs [] [0, 1, 2, 3, 4, 5, 6, 7, 8, 9, 10, 11, 12, 13] 1 (by kernel_rfl) rfl (fun _ h => by cases h) (by kernel_rfl) ?_
      simp only [numbered, List.filterMap_cons, List.filterMap_nil, List.getElem?_toArray, List.getElem?_cons_succ, List.getElem?_cons_zero, Option.map_some]
      show wpS _ _ _ _ _ _ _ [(_, _), (_, _), (_, _), (_, _), (_, _), (_, _), (_, _), (_, _), (_, _), (_, _), (_, _), (_, _), (_, _), (_, _)] _ _
      (refine wpS_quiet rfl rfl ?_; intro K hK inst hx; have s0 := fun x => (fun _ => bkeep (BQ.below x) z8) (hx x); go_big_quiet_op; (first | go_big_quiet_on | (refine ⟨_, fun _ => rfl, ?_⟩; go_big_quiet_on)); clear hx inst)
      (refine wpS_quiet rfl rfl ?_; intro K hK inst hx; go_big_quiet_op; (first | go_big_quiet_on | (refine ⟨_, fun _ => rfl, ?_⟩; go_big_quiet_on)); clear hx inst)
      (refine wpS_quiet rfl rfl ?_; intro K hK inst hx; have s0 := fun x => (fun _ => bkeep (BQ.below x) z8) (hx x); go_big_quiet_op; (first | go_big_quiet_on | (refine ⟨_, fun _ => rfl, ?_⟩; go_big_quiet_on)); clear hx inst)
      (refine wpS_quiet rfl rfl ?_; intro K hK inst hx; go_big_quiet_op; (first | go_big_quiet_on | (refine ⟨_, fun _ => rfl, ?_⟩; go_big_quiet_on)); clear hx inst)
      (refine wpS_quiet rfl rfl ?_; intro K hK inst hx; go_big_quiet_op; (first | go_big_quiet_on | (refine ⟨_, fun _ => rfl, ?_⟩; go_big_quiet_on)); clear hx inst)
      (refine wpS_quiet rfl rfl ?_; intro K hK inst hx; have s0 := fun x => (fun _ => bkeep (BQ.below x) z9) (hx x); go_big_quiet_op; (first | go_big_quiet_on | (refine ⟨_, fun _ => rfl, ?_⟩; go_big_quiet_on)); clear hx inst)
      (refine wpS_quiet rfl rfl ?_; intro K hK inst hx; have s0 := fun x => (fun _ => bkeep (BQ.below x) z8) (hx x); go_big_quiet_op; (first | go_big_quiet_on | (refine ⟨_, fun _ => rfl, ?_⟩; go_big_quiet_on)); clear hx inst)
      (refine wpS_quiet rfl rfl ?_; intro K hK inst hx; go_big_quiet_op; (first | go_big_quiet_on | (refine ⟨_, fun _ => rfl, ?_⟩; go_big_quiet_on)); clear hx inst)
      (refine wpS_quiet rfl rfl ?_; intro K hK inst hx; go_big_quiet_op; (first | go_big_quiet_on | (refine ⟨_, fun _ => rfl, ?_⟩; go_big_quiet_on)); clear hx inst)
      (refine wpS_quiet rfl rfl ?_; intro K hK inst hx; have s0 := fun x => (fun _ => bkeep (BQ.below x) z9) (hx x); go_big_quiet_op; (first | go_big_quiet_on | (refine ⟨_, fun _ => rfl, ?_⟩; go_big_quiet_on)); clear hx inst)
      (refine wpS_quiet rfl rfl ?_; intro K hK inst hx; go_big_quiet_op; (first | go_big_quiet_on | (refine ⟨_, fun _ => rfl, ?_⟩; go_big_quiet_on)); clear hx inst)
      (refine wpS_quiet rfl rfl ?_; intro K hK inst hx; go_big_quiet_op; (first | go_big_quiet_on | (refine ⟨_, fun _ => rfl, ?_⟩; go_big_quiet_on)); clear hx inst)
      (refine wpS_quiet rfl rfl ?_; intro K hK inst hx; go_big_quiet_op; (first | go_big_quiet_on | (refine ⟨_, fun _ => rfl, ?_⟩; go_big_quiet_on)); clear hx inst)
      (refine wpS_quiet rfl rfl ?_; intro K hK inst hx; go_big_quiet_op; (first | go_big_quiet_on | (refine ⟨_, fun _ => rfl, ?_⟩; go_big_quiet_on)); clear hx inst)
      refine wpS_nil ?_
      intro w10 hall
      have hb := hall.1
      clear hall
      have p8 := bkeep hb z9; have p9 := bfree hb z9 z10
      refine wpAny_ready (rs := [14]) (by kernel_rfl) (by simp) ?_
      refine AllReady.cons rfl (fun K hK => ?_) AllReady.nil
      go_simp
      refine hK _ _ ?_; clear hK K
      refine wpAny_done (by kernel_rfl) ?_ _
      have hpop := PartsAt.pop (TO := 41) (TI := 3) (i := i) (by decide) hg HN.out ⟨bkeep hb d7.1, bfree hb d7.1 d7.2⟩ (owns_below ho7 hb) (fun j u h h1 h2 => owns_below (HR7.out j u h h1 (by rw [← HGS.out, HG2E.out]; rw [HG2E.out] at h2; exact h2)) hb) hA7 (by have := hb.size; omega) (by rw [hv7])
      obtain ⟨hP8, hB8⟩ := hpop
      generalize hW10 : w10.setCell ⟨gb7, k, none⟩ (.slice (some ⟨vb7, 0, none⟩) g.length vc7) = W10 at *
      have hC8 : Below (B + 6) w8 W10 := (hb.mono hz7).trans hB8
      have hD8 := hB9.below hC8
      have hq8 := HQ.out _ _ hq9 (hC8.mono (by omega))
      clear hW10 hb z8 z9 z10 p8 p9 d7 ho7 hv7 hB8 hC8
      go_wp2_with fail
      go_ret
      exact PutsRes.no hq8 hD8 HRS.out rfl hP8
set_option maxRecDepth 100000 in
set_option maxHeartbeats 1500000 in
theorem puts_any {B n most : Nat} {ca cb : Value} {does : List Int → Bool} {Q : World → Prop} (hn : n ≤ 1000) (hmn : most ≤ n) (hQ : ∀ W W', Q W → Below B W W' → Q W') (hdo : ∀ (W : World) (v : Value) (g : List Int), Q W → NumsAt W v g → (∀ z ∈ g, 0 ≤ z ∧ z < (n : Int)) → 0 < g.length → g.length ≤ n → g.Pairwise (· < ·) → Calls Try.prog 137 #[v, ca, cb] W (fun e W' => e = .returned (.bool (does g)) ∧ Q W' ∧ Above B W W')) : ∀ (d i : Nat) (gs : List (List Int)) (w : World), i + d = n → GoodR i gs → gs.length ≤ most → PartsAt B 41 3 gs w → BoxesAt B (.int .i64 (n : Int)) (.int .i64 (most : Int)) (.func (.func 137) #[] #[ca, cb]) (.func (.func 146) #[] #[.pointer (some ⟨B, 0, none⟩), .pointer (some ⟨B + 3, 0, none⟩), .pointer (some ⟨B + 5, 0, none⟩), .pointer (some ⟨B + 1, 0, none⟩)]) (.func (.func 145) #[] #[.pointer (some ⟨B + 3, 0, none⟩), .pointer (some ⟨B + 2, 0, none⟩), .pointer (some ⟨B + 4, 0, none⟩)]) w → Q w →
    Calls Try.prog 146 #[.int .i64 ((i : Int)), .pointer (some ⟨B, 0, none⟩), .pointer (some ⟨B + 3, 0, none⟩), .pointer (some ⟨B + 5, 0, none⟩), .pointer (some ⟨B + 1, 0, none⟩)] w (PutsRes B 41 3 (.int .i64 (n : Int)) (.int .i64 (most : Int)) (.func (.func 137) #[] #[ca, cb]) (.func (.func 146) #[] #[.pointer (some ⟨B, 0, none⟩), .pointer (some ⟨B + 3, 0, none⟩), .pointer (some ⟨B + 5, 0, none⟩), .pointer (some ⟨B + 1, 0, none⟩)]) (.func (.func 145) #[] #[.pointer (some ⟨B + 3, 0, none⟩), .pointer (some ⟨B + 2, 0, none⟩), .pointer (some ⟨B + 4, 0, none⟩)]) Q gs (putG does most d i gs)) := by
  intro d
  induction d with
  | zero =>
    intro i gs w hi hG hm hP hB hq
    obtain rfl : i = n := by omega
    obtain ⟨b0, b1, b2, b4, b5⟩ := id hB
    go_enter Try.func146, Try.ntmps146
    go_wp2_with fail
    go_ret
    exact PutsRes.yes hq hB rfl rfl hP
  | succ d ih =>
    intro i gs w hi hG hm hP hB hq
    have hne : ¬ (i : Int) = (n : Int) := by omega
    have hB0 := hB
    have hP0 := hP
    obtain ⟨gv, vs, d0, ho, hr, hA, hz⟩ := hP
    obtain ⟨N, hNN⟩ : ∃ N, gs.length = N := ⟨_, rfl⟩
    have HN := hid hNN
    rw [hNN] at ho hm
    clear hNN
    obtain ⟨ga, gcap, rfl, -⟩ := owns_shape ho
    have q0 := d0.1
    obtain ⟨b0, b1, b2, b4, b5⟩ := id hB
    have HIH := hid ih; have HQ := hid hQ; have HDO := hid hdo; clear ih hQ hdo
    have hni := hG.1.many
    rw [HN.out] at hni
    go_enter Try.func146, Try.ntmps146
    go_wp2_with fail
    (try rw [show ((i : Int) == (n : Int)) = false from beq_eq_false_iff_ne.mpr hne])
    go_loopg [13] N (fun gk kv wr => ∃ k : Nat, k ≤ N ∧ gk = N - k ∧ kv = .int .i64 k ∧ PartsAt B 41 3 gs wr ∧ BoxesAt B (.int .i64 (n : Int)) (.int .i64 (most : Int)) (.func (.func 137) #[] #[ca, cb]) (.func (.func 146) #[] #[.pointer (some ⟨B, 0, none⟩), .pointer (some ⟨B + 3, 0, none⟩), .pointer (some ⟨B + 5, 0, none⟩), .pointer (some ⟨B + 1, 0, none⟩)]) (.func (.func 145) #[] #[.pointer (some ⟨B + 3, 0, none⟩), .pointer (some ⟨B + 2, 0, none⟩), .pointer (some ⟨B + 4, 0, none⟩)]) wr ∧ Q wr ∧ (∀ j, j < k → tryG does most d i gs j = none))
    case atStart => exact ⟨0, Nat.zero_le _, rfl, rfl, hP0, hB0, hq, fun j h => by omega⟩
    case round =>
      clear hP0 hB0 hq ho hr d0 hA hz b0 b1 b2 b4 b5
      obtain ⟨k, hk, hgk, rfl, hP, hB, hq, hT⟩ := hrel
      have HGK := hid hgk; have HT := hid hT; clear hgk hT
      obtain ⟨b0, b1, b2, b4, b5⟩ := id hB
      by_cases hlt : k < N
      · have hki : (k : Int) < (N : Int) := by omega
        obtain ⟨g, hg⟩ : ∃ g, gs[k]? = some g := ⟨_, List.getElem?_eq_getElem (by rw [HN.out]; exact hlt)⟩
        go_wp2_with fail
        refine (tryIn_any (d := d) (gs := gs) (k := k) hn hmn HQ.out HDO.out (fun gs W h1 h2 h3 h4 h5 => by have h := HIH.out (i + 1) gs W (by omega) h1 h2 h3 h4 h5; rw [show (((i + 1 : Nat)) : Int) = (i : Int) + 1 by omega] at h; exact h) (by omega) hg (hG.push hg) (by rw [HN.out]; exact hm) hP hB hq).mono ?_
        rintro e w3 ⟨hq3, hB3, ⟨rs, hrs, rfl, hP3⟩ | ⟨hrs, rfl, hP3⟩⟩
        · go_wp2_with fail
          go_ret
          exact PutsRes.yes hq3 hB3 (by rw [putG_succ, find_here (by rw [HN.out]; exact hlt) HT.out hrs]) rfl hP3
        · have HRS := hid hrs; clear hrs hP hB hq b0 b1 b2 b4 b5
          go_wp2_with fail
          go_roundg (N - (k + 1))
          case measure => have h := HGK.out; omega
          case rel => exact ⟨k + 1, by omega, rfl, by go_num, hP3, hB3, hq3, fun j hj => by (rcases Nat.lt_or_ge j k with h3 | h3); exact HT.out j h3; rw [show j = k by omega]; exact HRS.out⟩
      · obtain rfl : k = N := by omega
        have hpf : putG does most (d + 1) i gs = if gs.length = most then none else tryG does most d i (gs ++ [[]]) gs.length := by rw [putG_succ, find_no (n := gs.length) (f := tryG does most d i gs) (by rw [HN.out]; exact HT.out)]
        rw [HN.out] at hpf
        have HPF := hid hpf; clear hpf HT
        have hP9 := hP
        obtain ⟨gv2, vs2, d2, ho2, hr2, hA2, hz2⟩ := hP
        rw [HN.out] at ho2
        obtain ⟨ga2, gcap2, rfl, -⟩ := owns_shape ho2
        have q0 := d2.1; have q1 := d2.2
        have HR2 := hid hr2; clear hr2
        by_cases hmo : k = most
        · subst hmo
          go_wp2_with fail
          go_ret
          exact PutsRes.no hq hB (by rw [HPF.out]; simp) rfl hP9
        · have hmo2 : ¬ (k : Int) = (most : Int) := by omega
          clear hP9
          obtain ⟨i2, hq2, ha0, ha1, ha2⟩ := info_parts Try.infoGG
          have hcg : ∀ j u, ([.slice none 0 0] : List Value)[j]? = some u → (wr.alloc (.cells #[.slice none 0 0] 41)).cell? ((⟨wr.heap.size, 0, none⟩ : Addr).add j) = some u := fun j u h => by
            rw [Go.WideShapes.add_plain, Nat.zero_add]
            exact (CellsAt.new wr [.slice none 0 0] 41 j u h).1
          have HCG := hid hcg; clear hcg
          go_upto_region 12 with (at_builtin; go_must (refine wpList_append_own _ rfl _ _ 76 rfl (B + 6) 41 i2 (.slice none 0 0) 1 24 Try.underlying76 hq2 ha0 ha1 ha2 rfl (by decide) _ _ _ rfl (ho2.alloc _) ⟨wr.heap.size, 0, none⟩ 1 1 [.slice none 0 0] rfl rfl HCG.out (fun u h => by simp only [List.mem_cons, List.not_mem_nil, or_false] at h; rcases h with rfl; rfl) (by unfold maxLen; omega) (by omega) (by simp; omega) ?_; intro v' w4 ho4 hg4 hnil; obtain ⟨⟨p0, p1⟩, hPg, hBg⟩ := PartsAt.grow (TO := 41) (TI := 3) (by decide) HN.out d2 ho2 HR2.out hA2 hz2 ((Below.refl _ wr).alloc (Nat.le_refl _) _) hg4 ho4; obtain ⟨xb, xd, rfl, -⟩ := owns_shape ho4; clear ho4 hg4 hnil))
          generalize hW5 : w4.setCell ⟨B + 3, 0, none⟩ (.slice xb (k + 1) xd) = W5 at *
          have hB5 : BoxesAt B (.int .i64 (n : Int)) (.int .i64 (most : Int)) (.func (.func 137) #[] #[ca, cb]) (.func (.func 146) #[] #[.pointer (some ⟨B, 0, none⟩), .pointer (some ⟨B + 3, 0, none⟩), .pointer (some ⟨B + 5, 0, none⟩), .pointer (some ⟨B + 1, 0, none⟩)]) (.func (.func 145) #[] #[.pointer (some ⟨B + 3, 0, none⟩), .pointer (some ⟨B + 2, 0, none⟩), .pointer (some ⟨B + 4, 0, none⟩)]) W5 := by rw [← hW5]; exact (hB.below hBg).set
          have hq5 : Q W5 := by rw [← hW5]; exact HQ.out _ _ hq ((hBg.mono (by omega)).setCell (p := ⟨B + 3, 0, none⟩) (by show B ≤ B + 3; omega) _)
          clear hW5 hBg p0 p1 q0 q1 d2 ho2 hA2 hB hq b0 b1 b2 b4 b5
          have hls : (gs ++ [[]]).length = k + 1 := by rw [List.length_append, List.length_singleton, HN.out]
          have hP5 := hPg
          obtain ⟨gv5, vs5, d5, ho5, hr5, hA5, hz5⟩ := hPg
          rw [hls] at ho5
          obtain ⟨gb5, gcap5, rfl, hf1, hf2⟩ := own_some ho5 (by omega)
          have q0 := d5.1
          obtain ⟨b0, b1, b2, b4, b5⟩ := id hB5
          have HLS := hid hls; clear hls hr5 hA5 ho5 HR2
          go_wp2_with fail
          have hgl : (gs ++ [[]])[k]? = some [] := by rw [List.getElem?_append_right (by rw [HN.out]; exact Nat.le_refl _), HN.out, Nat.sub_self]; rfl
          have hgs : (gs ++ [[]]).set k ([] ++ [(i : Int)]) = gs ++ [[(i : Int)]] := by have h := set_last gs [(i : Int)]; rw [HN.out] at h; exact h
          refine (tryIn_any (d := d) (gs := gs ++ [[]]) (k := k) hn hmn HQ.out HDO.out (fun gs W h1 h2 h3 h4 h5 => by have h := HIH.out (i + 1) gs W (by omega) h1 h2 h3 h4 h5; rw [show (((i + 1 : Nat)) : Int) = (i : Int) + 1 by omega] at h; exact h) (by omega) hgl (by rw [hgs]; exact hG.snoc) (by rw [HLS.out]; omega) hP5 hB5 hq5).mono ?_
          clear hgl hgs
          rintro e w6 ⟨hq6, hB6, ⟨rs, hrs, rfl, hP6⟩ | ⟨hrs, rfl, hP6⟩⟩
          · go_wp2_with fail
            go_ret
            exact PutsRes.yes hq6 hB6 (by rw [HPF.out, if_neg hmo]; exact hrs) rfl hP6
          · have HRS := hid hrs; clear hrs q0 d5 hB5 hq5 hP5 b0 b1 b2 b4 b5
            obtain ⟨gv6, vs6, d6, ho6, hr6, hA6, hz6⟩ := hP6
            rw [HLS.out] at ho6
            obtain ⟨gb6, gcap6, rfl, hf1, hf2⟩ := own_some ho6 (by omega)
            have q0 := d6.1; have q1 := d6.2
            have hk0 : (0 : Int) ≤ (k : Int) := by omega
            have hk1 : (k : Int) ≤ (gcap6 : Int) := by omega
            have HR6 := hid hr6; clear hr6
            go_upto_region 15 with fail
            have hP8 := PartsAt.shrink (TO := 41) (TI := 3) HN.out d6 ho6 HR6.out hA6 hz6
            have hB8 := hB6.set (v := .slice (some ⟨gb6, 0, none⟩) k gcap6)
            have hq8 := HQ.out _ _ hq6 ((Below.refl B _).setCell (p := ⟨B + 3, 0, none⟩) (by show B ≤ B + 3; omega) (.slice (some ⟨gb6, 0, none⟩) k gcap6))
            generalize hW8 : w6.setCell ⟨B + 3, 0, none⟩ (.slice (some ⟨gb6, 0, none⟩) k gcap6) = W8 at *
            clear hW8
            go_wp2_with fail
            go_ret
            exact PutsRes.no hq8 hB8 (by rw [HPF.out, if_neg hmo]; exact HRS.out) rfl hP8
end Go.Proofs.Ytnchhleokdkejaa

/- A copy of parts. -/
namespace Go.Proofs.Ytnchhleokdkejaa
open Go.RowKit Go.Pb Go.Pb.Ware Go.Pb.Sag
set_option linter.unusedVariables false
set_option linter.unusedSimpArgs false

/-- New memory that holds these groups. -/
def GroupsAt (lo : Nat) (v : Value) (gs : List (List Int)) (W : World) : Prop := ∃ us : List Value, W.ownsRow lo 41 1 v gs.length us ∧ Go.Pb.Sag.RowsIn lo 3 W us gs
theorem rows_snoc {lo T k : Nat} {W W' : World} {us : List Value} {gs : List (List Int)} {g : List Int} {u : Value} (h : Go.Pb.Sag.RowsIn lo T W us (gs.take k)) (hk : us.length = k) (hg : gs[k]? = some g) (hold : ∀ (v : Value) (n : Nat) (xs : List Value), W.ownsRow lo T 1 v n xs → W'.ownsRow lo T 1 v n xs) (hu : W'.ownsRow lo T 1 u g.length (g.map (Value.int .i64))) : Go.Pb.Sag.RowsIn lo T W' (us ++ [u]) (gs.take (k + 1)) := by
  have hkl := (List.getElem?_eq_some_iff.1 hg).1
  intro j v g' hv hg'
  rcases Nat.lt_or_ge j k with h1 | h1
  · rw [List.getElem?_append_left (by omega)] at hv
    rw [List.getElem?_take, if_pos (by omega)] at hg'
    exact hold v _ _ (h j v g' hv (by rw [List.getElem?_take, if_pos h1]; exact hg'))
  · rw [List.getElem?_append_right (by omega), hk] at hv
    have h2 := (List.getElem?_eq_some_iff.1 hv).1
    simp at h2
    have e : j = k := by omega
    subst e
    rw [List.getElem?_take, if_pos (by omega), hg] at hg'
    simp at hv hg'
    subst hv; subst hg'
    exact hu

set_option maxRecDepth 100000 in
set_option maxHeartbeats 1000000 in
theorem copied_any {w : World} {lo i : Nat} {gs : List (List Int)} {gv : Value} {vs : List Value} (hG : Go.Pb.Sag.Good i gs) (hi5 : i ≤ 1000) (hn5 : gs.length ≤ 1000) (ho : w.ownsRow lo 41 1 gv gs.length vs) (hr : Go.Pb.Sag.RowsIn lo 3 w vs gs) :
    Calls Try.prog 147 #[gv] w (fun e w' => ∃ v, e = .returned v ∧ Below w.heap.size w w' ∧ GroupsAt w.heap.size v gs w') := by
  obtain ⟨n, hnn⟩ : ∃ n, gs.length = n := ⟨_, rfl⟩
  have HN := hid hnn
  rw [hnn] at ho hn5
  clear hnn
  obtain ⟨ga, gcap, rfl, -⟩ := owns_shape ho
  obtain ⟨i2, hq, ha0, ha1, ha2⟩ := info_parts Try.infoGG
  obtain ⟨i1, hj, hy0, hy1, hy2⟩ := info_parts Try.infoI
  go_enter Try.func147, Try.ntmps147
  go_wp2_with (at_make; refine wpList_make_own _ rfl _ _ 76 rfl w.heap.size 41 i2 (.slice none 0 0) 1 Try.underlying76 hq ha0 ha1 .i64 .i64 _ n rfl rfl rfl (by rw [ha2]; omega) (by unfold maxLen; omega) (Nat.le_refl _) ?_; intro w2 ho2 hg; have hb0 : Below w.heap.size w w2 := (Below.refl _ w).grown hg (Nat.le_refl _) (fun k h => by cases h); clear hg; skip)
  go_loopg [3, 12] n (fun gk av kv wr => ∃ (k : Nat) (us : List Value), k ≤ n ∧ gk = n - k ∧ kv = .int .i64 k ∧ wr.ownsRow w.heap.size 41 1 av k us ∧ Go.Pb.Sag.RowsIn w.heap.size 3 wr us (gs.take k) ∧ us.length = k ∧ Below w.heap.size w wr)
  case atStart => exact ⟨0, [], Nat.zero_le _, rfl, rfl, ho2, fun k v g h => by simp at h, rfl, hb0⟩
  case round =>
    clear ho2 hb0
    obtain ⟨k, us, hk, hgk, rfl, ho3, hr3, hul, hB⟩ := hrel
    have HGK := hid hgk; clear hgk
    obtain ⟨aa, ac, rfl, -⟩ := owns_shape ho3
    have hsz := hB.size
    by_cases hlt : k < n
    · have hki : (k : Int) < (n : Int) := by omega
      obtain ⟨gb, gc2, e1, hc1, hc2⟩ := own_some ho (by omega)
      injection e1 with e1 _ e2
      subst e1; subst e2
      obtain ⟨g, hg⟩ : ∃ g, gs[k]? = some g := ⟨_, List.getElem?_eq_getElem (by rw [HN.out]; exact hlt)⟩
      obtain ⟨v, hv⟩ : ∃ v, vs[k]? = some v := ⟨_, List.getElem?_eq_getElem (by have := ho.1; omega)⟩
      have hrow := owns_below (hr k v g hv hg) hB
      obtain ⟨x0, hx0⟩ := hG.one k g hg
      have hgl : 0 < g.length := (List.getElem?_eq_some_iff.1 hx0).1
      have hgl2 := hG.len g (List.mem_of_getElem? hg)
      obtain ⟨vb, vc, rfl, hv1, hv2⟩ := own_some hrow hgl
      have q1 : wr.cell? ⟨gb, k, none⟩ = some (.slice (some ⟨vb, 0, none⟩) g.length vc) := by have h := ho.cells (g := gb) rfl k _ hv; rw [Go.WideShapes.add_plain, Nat.zero_add] at h; exact bkeep hB h
      have HR3 := hid hr3; have HUL := hid hul; clear hr3 hul hx0
      go_upto_region 6 with (at_make; refine wpList_make_full _ rfl _ _ 41 rfl w.heap.size 3 i1 (.int .i64 0) 1 Try.underlying41 hj hy0 hy1 .i64 .i64 _ _ g.length rfl rfl rfl rfl (by rw [hy2]; omega) (by unfold maxLen; omega) hsz ?_; intro w5 ho5 hg5)
      have hb5 : Below wr.heap.size wr w5 := (Below.refl _ wr).grown hg5 (Nat.le_refl _) (fun k h => by cases h)
      obtain ⟨cur, hcur, hcs⟩ : ∃ cur, w5.heap[wr.heap.size]? = some (.cells cur 3 (0, 0)) ∧ cur.size = g.length := by
        rcases ho5.2 with ⟨h1, _⟩ | ⟨g', cap, cur, h1, _, h3, _, _, h6, _⟩
        · cases h1
        · injection h1 with h1 _ h2; injection h1 with h1; injection h1 with h1; subst h1; subst h2; exact ⟨cur, h3, by omega⟩
      clear ho5 hg5
      have hsrc : ∀ j u, (g.map (Value.int .i64))[j]? = some u → w5.cell? ((⟨vb, 0, none⟩ : Addr).add j) = some u := fun j u h => bkeep hb5 (hrow.cells (g := vb) rfl j u h)
      have HSRC := hid hsrc; clear hsrc
      have hmin : (g.map (Value.int .i64)).length = Nat.min g.length g.length := by rw [List.length_map]; exact (Nat.min_self _).symm
      have HMIN := hid hmin; clear hmin
      go_upto_region 7 with (with_reducible refine wpList_copy_own rfl (.tmp 19) (.tmp 20) 41 41 rfl 3 Try.underlying41 (by kernel_rfl) wr.heap.size 0 g.length g.length ⟨vb, 0, none⟩ g.length vc rfl rfl cur 3 hcur (g.map (Value.int .i64)) HMIN.out HSRC.out (by simp; omega) nums_one ?_)
      have hco := copy_owns (lo := w.heap.size) (cs := g.map (Value.int .i64)) hcur hsz hcs (by unfold maxLen; omega) (by simp)
      have hb6 := below_setRow hb5 (Nat.le_refl _) (cur.toList.take 0 ++ (g.map (Value.int .i64) ++ cur.toList.drop (0 + (g.map (Value.int .i64)).length))).toArray
      generalize hW6 : w5.setRow wr.heap.size (cur.toList.take 0 ++ (g.map (Value.int .i64) ++ cur.toList.drop (0 + (g.map (Value.int .i64)).length))).toArray = w6 at *
      clear hW6 hb5 hcur hcs HSRC HMIN q1
      have ho6 := owns_below ho3 hb6
      have hr6 : Go.Pb.Sag.RowsIn w.heap.size 3 w6 us (gs.take k) := fun j u h h1 h2 => owns_below (HR3.out j u h h1 h2) hb6
      have HR6 := hid hr6; clear hr6
      have hB6 : Below w.heap.size w w6 := bnext (w := w) hB hb6
      have hs6 : w.heap.size ≤ w6.heap.size := hB6.size
      have hcg : ∀ j u, ([.slice (some ⟨wr.heap.size, 0, none⟩) g.length g.length] : List Value)[j]? = some u → (w6.alloc (.cells #[.slice (some ⟨wr.heap.size, 0, none⟩) g.length g.length] 41)).cell? ((⟨w6.heap.size, 0, none⟩ : Addr).add j) = some u := fun j u h => by
        rw [Go.WideShapes.add_plain, Nat.zero_add]
        exact (CellsAt.new w6 [.slice (some ⟨wr.heap.size, 0, none⟩) g.length g.length] 41 j u h).1
      have HCG := hid hcg; have HCO := hid hco; clear hcg hco
      go_wp2_with (at_builtin; go_must (refine wpList_append_own _ rfl _ _ 76 rfl w.heap.size 41 i2 (.slice none 0 0) 1 24 Try.underlying76 hq ha0 ha1 ha2 rfl (by decide) _ _ _ rfl (ho6.alloc _) ⟨w6.heap.size, 0, none⟩ 1 1 [.slice (some ⟨wr.heap.size, 0, none⟩) g.length g.length] rfl rfl HCG.out (fun u h => by simp only [List.mem_cons, List.not_mem_nil, or_false] at h; rcases h with rfl; rfl) (by unfold maxLen; omega) (by omega) (by simp; omega) ?_; intro v' w7 ho7 hg7 hnil))
      have hold : ∀ (v : Value) (n : Nat) (xs : List Value), w6.ownsRow w.heap.size 3 1 v n xs → w7.ownsRow w.heap.size 3 1 v n xs := fun v n xs h => (h.alloc (.cells #[.slice (some ⟨wr.heap.size, 0, none⟩) g.length g.length] 41)).kept hg7 (apart_types (h.alloc (.cells #[.slice (some ⟨wr.heap.size, 0, none⟩) g.length g.length] 41)) (ho6.alloc (.cells #[.slice (some ⟨wr.heap.size, 0, none⟩) g.length g.length] 41)) (show (3 : Nat) ≠ 41 by decide))
      have hB7 : Below w.heap.size w w7 := Pb.below_grown (hB6.alloc hs6 (.cells #[.slice (some ⟨wr.heap.size, 0, none⟩) g.length g.length] 41)) hg7 (ho6.alloc (.cells #[.slice (some ⟨wr.heap.size, 0, none⟩) g.length g.length] 41)) (by simp; omega) (Nat.le_refl _)
      have HOLD := hid hold; clear hg7 hold
      go_roundg (n - (k + 1))
      case measure => have h := HGK.out; omega
      case rel => exact ⟨k + 1, us ++ [.slice (some ⟨wr.heap.size, 0, none⟩) g.length g.length], by omega, rfl, by go_num, ho7, rows_snoc HR6.out HUL.out hg HOLD.out (HOLD.out _ _ _ HCO.out), by rw [List.length_append, HUL.out]; rfl, hB7⟩
    · obtain rfl : k = n := by omega
      rw [List.take_of_length_le (by rw [HN.out]; exact Nat.le_refl _)] at hr3
      have HR3 := hid hr3; clear hr3
      go_wp2_with fail
      go_ret
      exact ⟨_, rfl, hB, us, by rw [HN.out]; exact ho3, HR3.out⟩

end Go.Proofs.Ytnchhleokdkejaa

/- The fewest parts. -/
namespace Go.Proofs.Ytnchhleokdkejaa
open Go.RowKit Go.Pb Go.Pb.Ware Go.Pb.Sag
set_option linter.unusedVariables false
set_option linter.unusedSimpArgs false

/-- What First answers. -/
def FirstRes (lo : Nat) (r : Option (List (List Int))) (e : Ending) (w' : World) : Prop := (∃ rs v, r = some rs ∧ e = .returned (.tuple #[v, .bool true]) ∧ GroupsAt lo v rs w') ∨ (r = none ∧ e = .returned (.tuple #[.slice none 0 0, .bool false]))
theorem groupsAt_base {lo lo2 : Nat} {v : Value} {gs : List (List Int)} {W : World} (h : GroupsAt lo v gs W) (hb : lo2 ≤ lo) : GroupsAt lo2 v gs W := by
  obtain ⟨us, h1, h2⟩ := h
  exact ⟨us, owns_base hb h1, fun k v g h3 h4 => owns_base hb (h2 k v g h3 h4)⟩
theorem groupsAt_nil (lo : Nat) (W : World) : GroupsAt lo (.slice none 0 0) [] W := ⟨[], World.ownsRow_nil _ _ _ _, fun k v g h => by simp at h⟩

set_option maxRecDepth 100000 in
set_option maxHeartbeats 1500000 in
theorem firstP_any {w : World} {n most : Nat} {ca cb : Value} {does : List Int → Bool} {Q : World → Prop} (hn : n ≤ 1000) (hmn : most ≤ n) (hQ : (∀ W W', Q W → Below w.heap.size W W' → Q W')) (hdo : (∀ (W : World) (v : Value) (g : List Int), Q W → NumsAt W v g → (∀ z ∈ g, 0 ≤ z ∧ z < (n : Int)) → 0 < g.length → g.length ≤ n → g.Pairwise (· < ·) → Calls Try.prog 137 #[v, ca, cb] W (fun e W' => e = .returned (.bool (does g)) ∧ Q W' ∧ Above w.heap.size W W'))) (hq : Q w) :
    Calls Try.prog 136 #[.int .i64 (n : Int), .int .i64 (most : Int), .func (.func 137) #[] #[ca, cb]] w (fun e w' => Q w' ∧ w.heap.size ≤ w'.heap.size ∧ FirstRes w.heap.size (putG does most n 0 []) e w') := by
  have hmf : ∀ (fn : Fn) (first cap : Array Value) (w : World), (Instr.makeFunc fn first cap).run Try.prog w = .ok (.func fn first cap) w := fun _ _ _ _ => rfl
  have hsf : ∀ (w : World) (a : Addr) (m : Mode) (fn : Fn) (first captured : Array Value), (store a (.func fn first captured) m).run Try.prog w = stored Try.prog w a (.func fn first captured) m := fun w a m _ _ _ => run_store _ w a _ m rfl
  go_enter Try.func136, Try.ntmps136
  go_upto_region 3 with fail
  generalize hW3 : World.alloc (World.alloc (World.alloc (World.alloc (World.alloc w _) _) _) _) _ = W3
  have x0 : W3.cell? ⟨w.heap.size, 0, none⟩ = some (.int .i64 (n : Int)) := by rw [← hW3]; simp [go_sem]
  have x1 : W3.cell? ⟨w.heap.size + 1, 0, none⟩ = some (.int .i64 (most : Int)) := by rw [← hW3]; simp [go_sem]
  have x2 : W3.cell? ⟨w.heap.size + 1 + 1, 0, none⟩ = some (.func (.func 137) #[] #[ca, cb]) := by rw [← hW3]; simp [go_sem]
  have x3 : W3.cell? ⟨w.heap.size + 1 + 1 + 1, 0, none⟩ = some (.slice none 0 0) := by rw [← hW3]; simp [go_sem]
  have x4 : W3.cell? ⟨w.heap.size + 1 + 1 + 1 + 1, 0, none⟩ = some (.nilFunc) := by rw [← hW3]; simp [go_sem]
  have f3 : W3.frozen? ⟨w.heap.size + 1 + 1 + 1, 0, none⟩ = false := by rw [← hW3]; simp [go_sem]
  have f4 : W3.frozen? ⟨w.heap.size + 1 + 1 + 1 + 1, 0, none⟩ = false := by rw [← hW3]; simp [go_sem]
  have hs3 : W3.heap.size = w.heap.size + 5 := by rw [← hW3]; simp
  have hb3 : Below w.heap.size w W3 := by rw [← hW3]; go_grown
  have HS3 := hid hs3; clear hs3 hW3
  go_upto_region 4 with fail
  generalize hW4 : World.alloc W3 _ = W4
  have y5 : W4.cell? ⟨W3.heap.size, 0, none⟩ = some (.func (.func 145) #[] #[.pointer (some ⟨w.heap.size + 1 + 1 + 1, 0, none⟩), .pointer (some ⟨w.heap.size + 1 + 1, 0, none⟩), .pointer (some ⟨w.heap.size + 1 + 1 + 1 + 1, 0, none⟩)]) := by rw [← hW4]; simp [go_sem]
  have y0 : W4.cell? ⟨w.heap.size, 0, none⟩ = some (.int .i64 (n : Int)) := by rw [← hW4]; exact akeep x0
  have y1 : W4.cell? ⟨w.heap.size + 1, 0, none⟩ = some (.int .i64 (most : Int)) := by rw [← hW4]; exact akeep x1
  have y2 : W4.cell? ⟨w.heap.size + 1 + 1, 0, none⟩ = some (.func (.func 137) #[] #[ca, cb]) := by rw [← hW4]; exact akeep x2
  have y3 : W4.cell? ⟨w.heap.size + 1 + 1 + 1, 0, none⟩ = some (.slice none 0 0) := by rw [← hW4]; exact akeep x3
  have y4 : W4.cell? ⟨w.heap.size + 1 + 1 + 1 + 1, 0, none⟩ = some (.nilFunc) := by rw [← hW4]; exact akeep x4
  have g3 : W4.frozen? ⟨w.heap.size + 1 + 1 + 1, 0, none⟩ = false := by rw [← hW4]; exact afree x3 f3
  have g4 : W4.frozen? ⟨w.heap.size + 1 + 1 + 1 + 1, 0, none⟩ = false := by rw [← hW4]; exact afree x4 f4
  have hs4 : W4.heap.size = w.heap.size + 6 := by rw [← hW4, World.size_alloc]; have := HS3.out; omega
  have hb4 : Below w.heap.size w W4 := by rw [← hW4]; exact hb3.alloc (by have := HS3.out; omega) _
  have HS4 := hid hs4
  clear hs4 hW4 hb3 x0 x1 x2 x3 x4 f3 f4
  go_upto_region 5 with fail
  generalize hW0 : World.setCell W4 _ _ = W0
  have hs0 : W0.heap.size = w.heap.size + 6 := by rw [← hW0]; have := HS4.out; simp; omega
  have hb0 : Below w.heap.size w W0 := by rw [← hW0]; exact hb4.setCell (p := ⟨w.heap.size + 1 + 1 + 1 + 1, 0, none⟩) (by show w.heap.size ≤ w.heap.size + 1 + 1 + 1 + 1; omega) _
  have hP0 : PartsAt w.heap.size 41 3 [] W0 := by
    refine ⟨.slice none 0 0, [], ⟨?_, ?_⟩, World.ownsRow_nil _ _ _ _, fun k v g h => by simp at h, fun j k u v h h1 => by simp at h1, by omega⟩
    · rw [← hW0]; exact setc_block y3 (by omega)
    · rw [← hW0]; exact set_free y3 g3
  have hB0 : BoxesAt w.heap.size (.int .i64 (n : Int)) (.int .i64 (most : Int)) (.func (.func 137) #[] #[ca, cb]) (.func (.func 146) #[] #[.pointer (some ⟨w.heap.size, 0, none⟩), .pointer (some ⟨w.heap.size + 3, 0, none⟩), .pointer (some ⟨w.heap.size + 5, 0, none⟩), .pointer (some ⟨w.heap.size + 1, 0, none⟩)]) (.func (.func 145) #[] #[.pointer (some ⟨w.heap.size + 3, 0, none⟩), .pointer (some ⟨w.heap.size + 2, 0, none⟩), .pointer (some ⟨w.heap.size + 4, 0, none⟩)]) W0 := by
    have z5 := y5
    rw [HS3.out] at z5 hW0
    rw [← hW0]
    exact ⟨setc_block y0 (by omega), setc_block y1 (by omega), setc_block y2 (by omega), setc_same y4, setc_block z5 (by omega)⟩
  have b4 := hB0.2.2.2.1
  clear hW0 hb4 y0 y1 y2 y3 y4 y5 g3 g4
  rw [HS3.out]
  go_wp2_with fail
  have hq0 := hQ _ _ hq hb0
  refine (puts_any (B := w.heap.size) hn hmn hQ hdo n 0 [] W0 (by omega) GoodR.nil (by simp) hP0 hB0 hq0).mono ?_
  unfold PutsRes
  rintro e w1 ⟨hq1, hB1, ⟨rs, hrs, rfl, hP1⟩ | ⟨hrs, rfl, hP1⟩⟩
  · have hgd := putG_good _ _ _ _ GoodR.nil (by simp) hrs
    obtain ⟨gv, vs, d1, ho, hr, hA, hz⟩ := hP1
    obtain ⟨ga, gcap, rfl, -⟩ := owns_shape ho
    have q0 := d1.1
    have HRS := hid hrs; clear hrs
    go_wp2_with fail
    refine (copied_any hgd.1.1 (by omega) (by omega) ho hr).mono ?_
    rintro e w2 ⟨v, rfl, hb2, hg2⟩
    have hq2 := hQ _ _ hq1 (hb2.mono (by omega))
    have hz2 := hb2.size
    go_wp2_with fail
    go_ret2
    exact ⟨hq2, by omega, .inl ⟨rs, v, HRS.out, rfl, groupsAt_base hg2 (by omega)⟩⟩
  · obtain ⟨gv, vs, d1, ho, hr, hA, hz⟩ := hP1
    have HRS := hid hrs; clear hrs
    go_wp2_with fail
    go_ret2
    exact ⟨hq1, by omega, .inr ⟨HRS.out, rfl⟩⟩

set_option maxRecDepth 100000 in
set_option maxHeartbeats 1500000 in
theorem fewest_any {w : World} {n : Nat} {ca cb : Value} {does : List Int → Bool} {Q : World → Prop} (hn : n ≤ 1000) (hQ : (∀ W W', Q W → Below w.heap.size W W' → Q W')) (hdo : (∀ (W : World) (v : Value) (g : List Int), Q W → NumsAt W v g → (∀ z ∈ g, 0 ≤ z ∧ z < (n : Int)) → 0 < g.length → g.length ≤ n → g.Pairwise (· < ·) → Calls Try.prog 137 #[v, ca, cb] W (fun e W' => e = .returned (.bool (does g)) ∧ Q W' ∧ Above w.heap.size W W'))) (hq : Q w) :
    Calls Try.prog 113 #[.int .i64 (n : Int), .func (.func 137) #[] #[ca, cb]] w (fun e w' => Q w' ∧ w.heap.size ≤ w'.heap.size ∧ FirstRes w.heap.size (fewG does n) e w') := by
  unfold FirstRes
  have HQ := hid hQ; have HDO := hid hdo; clear hQ hdo
  go_enter Try.func113, Try.ntmps113
  go_wp2_with fail
  go_loopg [11] n (fun gk iv wr => ∃ i : Nat, i ≤ n ∧ gk = n - i ∧ iv = .int .i64 i ∧ Q wr ∧ w.heap.size ≤ wr.heap.size ∧ (∀ j, j < i → does [(j : Int)] = true))
  case atStart => exact ⟨0, Nat.zero_le _, rfl, rfl, hq, Nat.le_refl _, fun j h => by omega⟩
  case round =>
    clear hq
    obtain ⟨i, hi, hgk, rfl, hq, hz, ho⟩ := hrel
    have HGK := hid hgk; have HO := hid ho; clear hgk ho
    by_cases hlt : i < n
    · have hki : (i : Int) < (n : Int) := by omega
      go_wp2_with fail
      obtain ⟨b, hbb⟩ : ∃ b, does [(i : Int)] = b := ⟨_, rfl⟩
      have hnum : NumsAt (wr.alloc (.cells #[.int .i64 (i : Int)] 3)) (.slice (some ⟨wr.heap.size, 0, none⟩) 1 1) [(i : Int)] := numsAt_of_owns (base := wr.heap.size) (e := 3) (fun z hz => by rw [List.mem_singleton.1 hz]; exact I64.mk (by omega) (by omega)) ⟨rfl, .inr ⟨wr.heap.size, 1, #[.int .i64 (i : Int)], rfl, Nat.le_refl _, World.alloc_heap_new wr _, Nat.le_refl _, by unfold maxLen; omega, rfl, rfl⟩⟩
      have hbl : Below w.heap.size wr (wr.alloc (.cells #[.int .i64 (i : Int)] 3)) := ((Below.refl _ wr).alloc (Nat.le_refl _) _).mono hz
      refine (HDO.out _ _ [(i : Int)] (HQ.out _ _ hq hbl) hnum (fun z hz => by rw [List.mem_singleton.1 hz]; omega) (by simp) (by simp; omega) (List.pairwise_singleton _ _)).mono ?_
      clear hnum hbl
      rintro e w2 ⟨rfl, hq2, ha2⟩
      rw [hbb]
      have hz2 : w.heap.size ≤ w2.heap.size := by have := ha2.size; simp at this; omega
      have HBB := hid hbb; clear hbb ha2 hq
      cases b
      · have hf : fewG does n = none := by unfold fewG; rw [if_neg]; intro h; have h2 := List.all_eq_true.1 h i (List.mem_range.2 hlt); rw [HBB.out] at h2; cases h2
        have HF := hid hf; clear hf
        go_wp2_with fail
        go_ret2
        exact ⟨hq2, hz2, .inr ⟨HF.out, rfl⟩⟩
      · go_wp2_with fail
        go_roundg (n - (i + 1))
        case measure => have h := HGK.out; omega
        case rel => exact ⟨i + 1, by omega, rfl, by go_num, hq2, hz2, fun j hj => by (rcases Nat.lt_or_ge j i with h3 | h3); exact HO.out j h3; rw [show j = i by omega]; exact HBB.out⟩
    · obtain rfl : i = n := by omega
      have hfw : fewG does i = (List.range (i + 1)).findSome? (fun m => putG does m i 0 []) := by unfold fewG; rw [if_pos (List.all_eq_true.2 fun j hj => HO.out j (List.mem_range.1 hj))]
      have HF := hid hfw; clear hfw
      go_wp2_with fail
      go_loopg [21] i (fun gk mv wr => ∃ m : Nat, m ≤ i ∧ gk = i - m ∧ mv = .int .i64 m ∧ Q wr ∧ w.heap.size ≤ wr.heap.size ∧ (∀ j, j < m → putG does j i 0 [] = none))
      case atStart => exact ⟨0, Nat.zero_le _, rfl, rfl, hq, hz, fun j h => by omega⟩
      case round =>
        clear hq hz
        obtain ⟨m, hm, hgk2, rfl, hq, hz, hno⟩ := hrel
        have HGK2 := hid hgk2; have HNO := hid hno; clear hgk2 hno
        by_cases hlt2 : m < i
        · have hmi : (m : Int) < (i : Int) := by omega
          go_wp2_with fail
          refine (firstP_any (w := wr) (n := i) (most := m) hn (by omega) (fun W W' h1 h2 => HQ.out W W' h1 (h2.mono (by omega))) (fun W v g h1 h2 h3 h4 h5 h6 => (HDO.out W v g h1 h2 h3 h4 h5 h6).mono fun e W' h => ⟨h.1, h.2.1, h.2.2.mono (by omega)⟩) hq).mono ?_
          unfold FirstRes
          rintro e w3 ⟨hq3, hz3, ⟨rs, v, hrs, rfl, hg3⟩ | ⟨hrs, rfl⟩⟩
          · have HRS := hid hrs; clear hrs
            go_wp2_with fail
            go_ret2
            exact ⟨hq3, by omega, .inl ⟨rs, v, by rw [HF.out]; exact find_here (k := m) (by omega) HNO.out HRS.out, rfl, groupsAt_base hg3 hz⟩⟩
          · have HRS := hid hrs; clear hrs
            go_wp2_with fail
            go_roundg (i - (m + 1))
            case measure => have h := HGK2.out; omega
            case rel => exact ⟨m + 1, by omega, rfl, by go_num, hq3, by omega, fun j hj => by (rcases Nat.lt_or_ge j m with h3 | h3); exact HNO.out j h3; rw [show j = m by omega]; exact HRS.out⟩
        · obtain rfl : m = i := by omega
          go_wp2_with fail
          refine (firstP_any (w := wr) (n := m) (most := m) hn (Nat.le_refl _) (fun W W' h1 h2 => HQ.out W W' h1 (h2.mono (by omega))) (fun W v g h1 h2 h3 h4 h5 h6 => (HDO.out W v g h1 h2 h3 h4 h5 h6).mono fun e W' h => ⟨h.1, h.2.1, h.2.2.mono (by omega)⟩) hq).mono ?_
          unfold FirstRes
          rintro e w3 ⟨hq3, hz3, ⟨rs, v, hrs, rfl, hg3⟩ | ⟨hrs, rfl⟩⟩
          · have HRS := hid hrs; clear hrs
            go_wp2_with fail
            go_ret2
            exact ⟨hq3, by omega, .inl ⟨rs, v, by rw [HF.out]; exact find_here (k := m) (by omega) HNO.out HRS.out, rfl, groupsAt_base hg3 hz⟩⟩
          · exfalso
            obtain ⟨r, hr⟩ := putG_some (does := does) (most := m) m 0 [] (fun j h1 h2 => HO.out j (by omega)) (by omega) (by simp)
            rw [hr] at hrs; cases hrs

end Go.Proofs.Ytnchhleokdkejaa

/- The fewest bungs. -/
namespace Go.Proofs.Ytnchhleokdkejaa
open Go.RowKit Go.Pb Go.Pb.Ware Go.Pb.Sag
set_option linter.unusedVariables false
set_option linter.unusedSimpArgs false

open Go.Proofs Go.Pb.Bung
def ckYd (lo hi : Int) (l : List Sg) (cr le : Int) : Int := if ckWd lo hi ≠ 0 then ckWd lo hi else if ckLs l ≠ 0 then ckLs l else ckSp cr le
/-- What Fewest answers. -/
def fewA (lo hi : Int) (l : List Sg) (cr le : Int) : List (List Int) × Int := if ckYd lo hi l cr le ≠ 0 then ([], ckYd lo hi l cr le) else if l.length > 9 then ([], 36) else match fewG (doesB lo hi l cr le) l.length with | some gs => (gs, 0) | none => ([], 3)
def FewRes (r : List (List Int) × Int) (W : World) (e : Ending) (w' : World) : Prop := ∃ v, e = .returned (.tuple #[v, .int .i64 r.2]) ∧ Below W.heap.size W w' ∧ GroupsAt W.heap.size v r.1 w'
theorem below_but {w w2 W : World} {M : Nat} (hb : Below w.heap.size w w2) (hg : w2.grownBy W (some M)) (hM : w.heap.size ≤ M) : Below w.heap.size w W :=
  ⟨hg.os.trans hb.os, hg.tape.trans hb.tape, hg.output.trans hb.output, Nat.le_trans hb.size hg.size, fun k hk => (hg.block k (Nat.lt_of_lt_of_le hk hb.size) (fun e => by injection e with e; omega)).trans (hb.block k hk)⟩
theorem yard_ok {lo hi cr le : Int} {l : List Sg} (h : ckYd lo hi l cr le = 0) : (0 ≤ lo ∧ lo ≤ 200) ∧ (0 ≤ hi ∧ hi ≤ 200) ∧ listOk l = true := by
  unfold ckYd at h
  by_cases h1 : ckWd lo hi = 0
  · rw [if_neg (by simpa using h1)] at h
    by_cases h2 : ckLs l = 0
    · unfold ckWd at h1
      split at h1
      · rename_i hw
        unfold wadOk rgOk at hw
        simp only [Bool.and_eq_true, decide_eq_true_eq] at hw
        refine ⟨by omega, by omega, ?_⟩
        unfold ckLs at h2
        split at h2
        · assumption
        · cases h2
      · cases h1
    · rw [if_pos h2] at h; exact absurd h h2
  · rw [if_pos h1] at h; exact absurd h h1

set_option maxRecDepth 100000 in
set_option maxHeartbeats 1000000 in
theorem ckYd_any {w : World} {v : Value} {l : List Sg} {lo hi cr le r : Int} (h : RowsAt 8 w v (l.map rowG)) (hr : ckYd lo hi l cr le = r) :
    Calls Try.prog 112 #[.agg #[.int .i64 lo, .int .i64 hi], v, .agg #[.int .i64 cr, .int .i64 le]] w (Ret w (.int .i64 r)) := by
  unfold Ret
  obtain ⟨a, cap, rfl, hll⟩ := h.shape
  rw [List.length_map] at h hll ⊢
  obtain ⟨c1, hc1⟩ : ∃ c, ckWd lo hi = c := ⟨_, rfl⟩
  obtain ⟨c2, hc2⟩ : ∃ c, ckLs l = c := ⟨_, rfl⟩
  obtain ⟨c3, hc3⟩ : ∃ c, ckSp cr le = c := ⟨_, rfl⟩
  have hr2 : r = if c1 ≠ 0 then c1 else if c2 ≠ 0 then c2 else c3 := by rw [← hr]; unfold ckYd; rw [hc1, hc2, hc3]
  clear hr
  have HC1 := hid hc1; have HC2 := hid hc2; have HC3 := hid hc3; clear hc1 hc2 hc3
  by_cases h1 : c1 = 0
  · subst h1
    by_cases h2 : c2 = 0
    · subst h2
      simp at hr2
      subst hr2
      go_enter Try.func112, Try.ntmps112
      go_wp2_with fail
      refine (ckWd_any HC1.out).mono ?_
      rintro e w1 ⟨rfl, hb⟩
      replace hb0 := bnext (w := w) (by go_grown) hb; have hz := hb.size; (try simp only [World.size_alloc, World.size_setCell] at hz); replace q0 : w1.cell? ⟨w.heap.size, 0, none⟩ = some (.int .i64 lo) := bkeep hb (by first | (with_reducible exact q0) | (with_reducible exact akeep q0) | simp [*, go_sem]); replace q1 : w1.cell? ⟨w.heap.size, 1, none⟩ = some (.int .i64 hi) := bkeep hb (by first | (with_reducible exact q1) | (with_reducible exact akeep q1) | simp [*, go_sem]); replace q2 : w1.cell? ⟨w.heap.size + 1, 0, none⟩ = some (.int .i64 cr) := bkeep hb (by first | (with_reducible exact q2) | (with_reducible exact akeep q2) | simp [*, go_sem]); replace q3 : w1.cell? ⟨w.heap.size + 1, 1, none⟩ = some (.int .i64 le) := bkeep hb (by first | (with_reducible exact q3) | (with_reducible exact akeep q3) | simp [*, go_sem]); skip
      clear hb
      go_wp2_with fail
      refine (ckLs_any (h.below (by go_grown)) HC2.out).mono ?_
      rintro e w1 ⟨rfl, hb⟩
      replace hb0 := bnext (w := w) (by go_grown) hb; have hz := hb.size; (try simp only [World.size_alloc, World.size_setCell] at hz); replace q0 : w1.cell? ⟨w.heap.size, 0, none⟩ = some (.int .i64 lo) := bkeep hb (by first | (with_reducible exact q0) | (with_reducible exact akeep q0) | simp [*, go_sem]); replace q1 : w1.cell? ⟨w.heap.size, 1, none⟩ = some (.int .i64 hi) := bkeep hb (by first | (with_reducible exact q1) | (with_reducible exact akeep q1) | simp [*, go_sem]); replace q2 : w1.cell? ⟨w.heap.size + 1, 0, none⟩ = some (.int .i64 cr) := bkeep hb (by first | (with_reducible exact q2) | (with_reducible exact akeep q2) | simp [*, go_sem]); replace q3 : w1.cell? ⟨w.heap.size + 1, 1, none⟩ = some (.int .i64 le) := bkeep hb (by first | (with_reducible exact q3) | (with_reducible exact akeep q3) | simp [*, go_sem]); skip
      clear hb
      go_wp2_with fail
      refine (ckSp_any HC3.out).mono ?_
      rintro e w1 ⟨rfl, hb⟩
      replace hb0 := bnext (w := w) (by go_grown) hb; have hz := hb.size; (try simp only [World.size_alloc, World.size_setCell] at hz); replace q0 : w1.cell? ⟨w.heap.size, 0, none⟩ = some (.int .i64 lo) := bkeep hb (by first | (with_reducible exact q0) | (with_reducible exact akeep q0) | simp [*, go_sem]); replace q1 : w1.cell? ⟨w.heap.size, 1, none⟩ = some (.int .i64 hi) := bkeep hb (by first | (with_reducible exact q1) | (with_reducible exact akeep q1) | simp [*, go_sem]); replace q2 : w1.cell? ⟨w.heap.size + 1, 0, none⟩ = some (.int .i64 cr) := bkeep hb (by first | (with_reducible exact q2) | (with_reducible exact akeep q2) | simp [*, go_sem]); replace q3 : w1.cell? ⟨w.heap.size + 1, 1, none⟩ = some (.int .i64 le) := bkeep hb (by first | (with_reducible exact q3) | (with_reducible exact akeep q3) | simp [*, go_sem]); skip
      clear hb
      go_wp2_with fail
      go_ret
      exact ⟨rfl, by first | exact hb0 | go_grown⟩
    · rw [if_neg (by simp), if_pos h2] at hr2
      subst hr2
      have h2b : (r != 0) = true := by simpa using h2
      go_enter Try.func112, Try.ntmps112
      go_wp2_with fail
      refine (ckWd_any HC1.out).mono ?_
      rintro e w1 ⟨rfl, hb⟩
      replace hb0 := bnext (w := w) (by go_grown) hb; have hz := hb.size; (try simp only [World.size_alloc, World.size_setCell] at hz); replace q0 : w1.cell? ⟨w.heap.size, 0, none⟩ = some (.int .i64 lo) := bkeep hb (by first | (with_reducible exact q0) | (with_reducible exact akeep q0) | simp [*, go_sem]); replace q1 : w1.cell? ⟨w.heap.size, 1, none⟩ = some (.int .i64 hi) := bkeep hb (by first | (with_reducible exact q1) | (with_reducible exact akeep q1) | simp [*, go_sem]); replace q2 : w1.cell? ⟨w.heap.size + 1, 0, none⟩ = some (.int .i64 cr) := bkeep hb (by first | (with_reducible exact q2) | (with_reducible exact akeep q2) | simp [*, go_sem]); replace q3 : w1.cell? ⟨w.heap.size + 1, 1, none⟩ = some (.int .i64 le) := bkeep hb (by first | (with_reducible exact q3) | (with_reducible exact akeep q3) | simp [*, go_sem]); skip
      clear hb
      go_wp2_with fail
      refine (ckLs_any (h.below (by go_grown)) HC2.out).mono ?_
      rintro e w1 ⟨rfl, hb⟩
      replace hb0 := bnext (w := w) (by go_grown) hb; have hz := hb.size; (try simp only [World.size_alloc, World.size_setCell] at hz); replace q0 : w1.cell? ⟨w.heap.size, 0, none⟩ = some (.int .i64 lo) := bkeep hb (by first | (with_reducible exact q0) | (with_reducible exact akeep q0) | simp [*, go_sem]); replace q1 : w1.cell? ⟨w.heap.size, 1, none⟩ = some (.int .i64 hi) := bkeep hb (by first | (with_reducible exact q1) | (with_reducible exact akeep q1) | simp [*, go_sem]); replace q2 : w1.cell? ⟨w.heap.size + 1, 0, none⟩ = some (.int .i64 cr) := bkeep hb (by first | (with_reducible exact q2) | (with_reducible exact akeep q2) | simp [*, go_sem]); replace q3 : w1.cell? ⟨w.heap.size + 1, 1, none⟩ = some (.int .i64 le) := bkeep hb (by first | (with_reducible exact q3) | (with_reducible exact akeep q3) | simp [*, go_sem]); skip
      clear hb
      go_wp2_with fail
      go_ret
      exact ⟨rfl, by first | exact hb0 | go_grown⟩
  · rw [if_pos h1] at hr2
    subst hr2
    have h1b : (r != 0) = true := by simpa using h1
    go_enter Try.func112, Try.ntmps112
    go_wp2_with fail
    refine (ckWd_any HC1.out).mono ?_
    rintro e w1 ⟨rfl, hb⟩
    replace hb0 := bnext (w := w) (by go_grown) hb; have hz := hb.size; (try simp only [World.size_alloc, World.size_setCell] at hz); replace q0 : w1.cell? ⟨w.heap.size, 0, none⟩ = some (.int .i64 lo) := bkeep hb (by first | (with_reducible exact q0) | (with_reducible exact akeep q0) | simp [*, go_sem]); replace q1 : w1.cell? ⟨w.heap.size, 1, none⟩ = some (.int .i64 hi) := bkeep hb (by first | (with_reducible exact q1) | (with_reducible exact akeep q1) | simp [*, go_sem]); replace q2 : w1.cell? ⟨w.heap.size + 1, 0, none⟩ = some (.int .i64 cr) := bkeep hb (by first | (with_reducible exact q2) | (with_reducible exact akeep q2) | simp [*, go_sem]); replace q3 : w1.cell? ⟨w.heap.size + 1, 1, none⟩ = some (.int .i64 le) := bkeep hb (by first | (with_reducible exact q3) | (with_reducible exact akeep q3) | simp [*, go_sem]); skip
    clear hb
    go_wp2_with fail
    go_ret
    exact ⟨rfl, by first | exact hb0 | go_grown⟩

set_option maxRecDepth 100000 in
set_option maxHeartbeats 1000000 in
theorem Fewest_any {w : World} {v : Value} {l : List Sg} {lo hi cr le : Int} {r : List (List Int) × Int} (h : RowsAt 8 w v (l.map rowG)) (hr : fewA lo hi l cr le = r) :
    Calls Try.prog 59 #[.agg #[.int .i64 lo, .int .i64 hi], v, .agg #[.int .i64 cr, .int .i64 le]] w (FewRes r w) := by
  obtain ⟨a, cap, rfl, hll⟩ := h.shape
  rw [List.length_map] at h hll ⊢
  obtain ⟨c, hc⟩ : ∃ c, ckYd lo hi l cr le = c := ⟨_, rfl⟩
  obtain ⟨n, hn⟩ : ∃ n, l.length = n := ⟨_, rfl⟩
  have hr2 : r = if c ≠ 0 then ([], c) else if n > 9 then ([], 36) else match fewG (doesB lo hi l cr le) n with | some gs => (gs, 0) | none => ([], 3) := by rw [← hr]; unfold fewA; rw [hc, hn]
  clear hr
  unfold FewRes
  have HN : Hid (l.length = n) := hn
  rw [hn] at h hll ⊢
  clear hn
  by_cases h1 : c = 0
  · subst h1
    obtain ⟨hw1, hw2, hk⟩ := yard_ok hc
    rw [if_neg (by simp)] at hr2
    have HC := hid hc; clear hc
    by_cases h9 : n > 9
    · rw [if_pos h9] at hr2
      subst hr2
      have h9i : (9 : Int) < (n : Int) := by omega
      go_enter Try.func59, Try.ntmps59
      go_wp2_with fail
      refine (ckYd_any (h.below (by go_grown)) HC.out).mono ?_
      rintro e w1 ⟨rfl, hb⟩
      replace hb0 := bnext (w := w) (by go_grown) hb; have hz := hb.size; (try simp only [World.size_alloc, World.size_setCell] at hz); replace q0 : w1.cell? ⟨w.heap.size, 0, none⟩ = some (.int .i64 lo) := bkeep hb (by first | (with_reducible exact q0) | (with_reducible exact akeep q0) | simp [*, go_sem]); replace q1 : w1.cell? ⟨w.heap.size, 1, none⟩ = some (.int .i64 hi) := bkeep hb (by first | (with_reducible exact q1) | (with_reducible exact akeep q1) | simp [*, go_sem]); replace q2 : w1.cell? ⟨w.heap.size + 1, 0, none⟩ = some (.int .i64 cr) := bkeep hb (by first | (with_reducible exact q2) | (with_reducible exact akeep q2) | simp [*, go_sem]); replace q3 : w1.cell? ⟨w.heap.size + 1, 1, none⟩ = some (.int .i64 le) := bkeep hb (by first | (with_reducible exact q3) | (with_reducible exact akeep q3) | simp [*, go_sem]); skip
      clear hb
      go_wp2_with fail
      go_ret2
      exact ⟨_, rfl, by first | exact hb0 | go_grown, groupsAt_nil _ _⟩
    · rw [if_neg h9] at hr2
      have h9i : ¬ (9 : Int) < (n : Int) := by omega
      have HR := hid hr2; clear hr2
      go_enter Try.func59, Try.ntmps59
      go_wp2_with fail
      refine (ckYd_any (h.below (by go_grown)) HC.out).mono ?_
      rintro e w1 ⟨rfl, hb⟩
      replace hb0 := bnext (w := w) (by go_grown) hb; have hz := hb.size; (try simp only [World.size_alloc, World.size_setCell] at hz); replace q0 : w1.cell? ⟨w.heap.size, 0, none⟩ = some (.int .i64 lo) := bkeep hb (by first | (with_reducible exact q0) | (with_reducible exact akeep q0) | simp [*, go_sem]); replace q1 : w1.cell? ⟨w.heap.size, 1, none⟩ = some (.int .i64 hi) := bkeep hb (by first | (with_reducible exact q1) | (with_reducible exact akeep q1) | simp [*, go_sem]); replace q2 : w1.cell? ⟨w.heap.size + 1, 0, none⟩ = some (.int .i64 cr) := bkeep hb (by first | (with_reducible exact q2) | (with_reducible exact akeep q2) | simp [*, go_sem]); replace q3 : w1.cell? ⟨w.heap.size + 1, 1, none⟩ = some (.int .i64 le) := bkeep hb (by first | (with_reducible exact q3) | (with_reducible exact akeep q3) | simp [*, go_sem]); skip
      clear hb
      go_wp2_with fail
      have h1 := h.below hb0
      obtain ⟨v1, hv1⟩ : ∃ v, v = w1 := ⟨_, rfl⟩
      subst hv1
      have hz1 := hb0.size
      refine (remembered_any (does := doesB lo hi l cr le) h1).mono ?_
      rintro e w2 ⟨XM, M, rfl, hb2, hM, hcM, hne1, hne2, hcY, hQ⟩
      have hb02 := bnext (w := w) hb0 hb2
      have hMl := hQ.lt
      have hMw : w.heap.size ≤ M := Nat.le_trans hz1 hM
      go_wp2_with fail
      refine (fewest_any (w := w2) (n := n) (does := doesB lo hi l cr le) (Q := fun W => w2.grownBy W (some M) ∧ MapQ Try.prog 152 4 M (doesB lo hi l cr le) W) (by omega) (fun W W' h1 h2 => ⟨⟨h2.os.trans h1.1.os, h2.tape.trans h1.1.tape, h2.output.trans h1.1.output, Nat.le_trans h1.1.size h2.size, fun k hk hne => (h2.block k hk).trans (h1.1.block k hk hne)⟩, h1.2.low h2 hMl⟩) (fun W v g hq hv hz h0 h1 h2 => ?_) ⟨grown_below (Below.refl _ _), hQ⟩).mono ?_
      · have hBW := below_but hb02 hq.1 hMw
        refine (recall_any (w := W) (u := v) (M := M) rfl (h.below hBW) hk (by rw [HN.out]; omega) hw1 hw2 hv (by rw [HN.out]; exact hz) h2 (by omega) (grown_cell hq.1 hcM hne1) ⟨grown_cell hq.1 hcY.1 hne2, grown_cell hq.1 hcY.2.1 hne2, grown_cell hq.1 hcY.2.2.1 hne2, grown_cell hq.1 hcY.2.2.2.1 hne2, grown_cell hq.1 hcY.2.2.2.2 hne2⟩ hq.2).mono ?_
        rintro e W' ⟨rfl, hg, hq2⟩
        exact ⟨rfl, ⟨hq.1.andThen hg (fun j e => .inr e), hq2⟩, ⟨hg.size, fun b hb1 hb2 => hg.block b hb2 (fun e => by injection e with e; omega)⟩⟩
      unfold FirstRes
      rintro e w3 ⟨⟨hg3, -⟩, hz3, ⟨rs, v, hrs, rfl, hgr⟩ | ⟨hrs, rfl⟩⟩
      all_goals have hb03 := below_but hb02 hg3 hMw
      · have hR := HR.out; rw [hrs] at hR; subst hR
        have HRS := hid hrs; clear hrs HR
        go_wp2_with fail
        go_ret2
        exact ⟨_, rfl, hb03, groupsAt_base hgr (by have := hb2.size; omega)⟩
      · have hR := HR.out; rw [hrs] at hR; subst hR
        have HRS := hid hrs; clear hrs HR
        go_wp2_with fail
        go_ret2
        exact ⟨_, rfl, hb03, groupsAt_nil _ _⟩
  · rw [if_pos h1] at hr2
    subst hr2
    have HC := hid hc; clear hc
    have h1b : (c != 0) = true := by simpa using h1
    go_enter Try.func59, Try.ntmps59
    go_wp2_with fail
    refine (ckYd_any (h.below (by go_grown)) HC.out).mono ?_
    rintro e w1 ⟨rfl, hb⟩
    replace hb0 := bnext (w := w) (by go_grown) hb; have hz := hb.size; (try simp only [World.size_alloc, World.size_setCell] at hz); replace q0 : w1.cell? ⟨w.heap.size, 0, none⟩ = some (.int .i64 lo) := bkeep hb (by first | (with_reducible exact q0) | (with_reducible exact akeep q0) | simp [*, go_sem]); replace q1 : w1.cell? ⟨w.heap.size, 1, none⟩ = some (.int .i64 hi) := bkeep hb (by first | (with_reducible exact q1) | (with_reducible exact akeep q1) | simp [*, go_sem]); replace q2 : w1.cell? ⟨w.heap.size + 1, 0, none⟩ = some (.int .i64 cr) := bkeep hb (by first | (with_reducible exact q2) | (with_reducible exact akeep q2) | simp [*, go_sem]); replace q3 : w1.cell? ⟨w.heap.size + 1, 1, none⟩ = some (.int .i64 le) := bkeep hb (by first | (with_reducible exact q3) | (with_reducible exact akeep q3) | simp [*, go_sem]); skip
    clear hb
    go_wp2_with fail
    go_ret2
    exact ⟨_, rfl, by first | exact hb0 | go_grown, groupsAt_nil _ _⟩

end Go.Proofs.Ytnchhleokdkejaa

/- Lists that are the same. -/
namespace Go.Proofs.Ytnchhleokdkejaa
open Go.RowKit Go.Pb Go.Pb.Ware Go.Pb.Sag
set_option linter.unusedVariables false
set_option linter.unusedSimpArgs false

open Go.Proofs Go.Pb.Bung
theorem take_same {zs ys : List Int} {k : Nat} (hk : k < zs.length) (hl : zs.length = ys.length) (h : zs.take k = ys.take k) (h2 : zs[k] = ys[k]'(by omega)) : zs.take (k + 1) = ys.take (k + 1) := by
  rw [List.take_succ_eq_append_getElem hk, List.take_succ_eq_append_getElem (by omega), h, h2]

set_option maxRecDepth 100000 in
set_option maxHeartbeats 600000 in
theorem same01_any {w : World} {v1 v2 : Value} {zs ys : List Int} {b : Bool} (h1 : NumsAt w v1 zs) (h2 : NumsAt w v2 ys) (hz : zs.length ≤ 1000) (hd : decide (zs = ys) = b) :
    Calls Try.prog 39 #[v1, v2] w (Ret w (.bool b)) := by
  unfold Ret
  obtain ⟨a, ac, rfl, ha1, ha2⟩ := h1.shape
  obtain ⟨c, cc, rfl, hc1, hc2⟩ := h2.shape
  obtain ⟨n, hn⟩ : ∃ n, zs.length = n := ⟨_, rfl⟩
  have HN := hid hn
  by_cases hl : zs.length = ys.length
  · have HL := hid hl
    rw [← hl] at h2 ⊢
    rw [hn] at h1 h2 hz ⊢
    clear hn hl ha1 hc1
    go_enter Try.func39, Try.ntmps39
    go_wp2_with fail
    go_loopg [5] n (fun gk kv wr => ∃ k : Nat, k ≤ n ∧ gk = n - k ∧ kv = .int .i64 k ∧ zs.take k = ys.take k ∧ Below w.heap.size w wr)
    case atStart => exact ⟨0, Nat.zero_le _, rfl, rfl, by simp, Below.refl _ _⟩
    case round =>
      obtain ⟨k, hk, hgk, rfl, ht, hB⟩ := hrel
      have HGK := hid hgk; have HT := hid ht; clear hgk ht
      by_cases hlt : k < n
      · have hki : (k : Int) < (n : Int) := by omega
        have k1 : k < zs.length := by rw [HN.out]; exact hlt
        have k2 : k < ys.length := by rw [← HL.out]; exact k1
        obtain ⟨a', e1, r0⟩ := (show NumsAt wr (.slice a zs.length ac) zs by rw [HN.out]; exact h1.below hB).elem k1
        obtain ⟨c', e2, r1⟩ := (show NumsAt wr (.slice c ys.length cc) ys by rw [← HL.out, HN.out]; exact h2.below hB).elem k2
        subst e1; subst e2
        obtain ⟨x, hx⟩ : ∃ x, zs[k] = x := ⟨_, rfl⟩
        obtain ⟨y, hy⟩ : ∃ y, ys[k] = y := ⟨_, rfl⟩
        rw [hx] at r0; rw [hy] at r1
        have HX := hid hx; have HY := hid hy; clear hx hy
        have s0 := fun x : BW wr => bkeep x.below r0
        have s1 := fun x : BW wr => bkeep x.below r1
        go_upto_region 6 with fail
        refine wp_region_qb (by kernel_rfl) (by kernel_rfl) fun hc => ?_
        repeat (go_big_quiet_step (fail))
        refine wpQuiet_nil ?_
        intro w3 hb
        replace hB := bnext (w := w) hB hb
        by_cases hxy : x = y
        · have hnx : (x != y) = false := by simp [hxy]
          rw [hnx]
          go_wp2_with fail
          go_roundg (n - (k + 1))
          case measure => have h := HGK.out; omega
          case rel => exact ⟨k + 1, by omega, rfl, by go_num, take_same k1 HL.out HT.out (by rw [HX.out, HY.out]; exact hxy), hB⟩
        · have hnx : (x != y) = true := by simp [hxy]
          rw [hnx]
          have hb2 : b = false := by
            rw [← hd, decide_eq_false_iff_not]; intro e; subst e; exact hxy (HX.out.symm.trans HY.out)
          subst hb2
          go_wp2_with fail
          go_ret
          exact ⟨rfl, hB⟩
      · obtain rfl : k = n := by omega
        have hb2 : b = true := by
          rw [← hd, decide_eq_true_eq]; have h := HT.out; rwa [List.take_of_length_le (by rw [HN.out]; exact Nat.le_refl _), List.take_of_length_le (by rw [← HL.out, HN.out]; exact Nat.le_refl _)] at h
        subst hb2
        go_wp2_with fail
        go_ret
        exact ⟨rfl, hB⟩
  · have hb2 : b = false := by
      rw [← hd, decide_eq_false_iff_not]; intro e; exact hl (by rw [e])
    subst hb2
    have hli : ¬ (zs.length : Int) = (ys.length : Int) := by omega
    go_enter Try.func39, Try.ntmps39
    go_wp2_with fail
    go_ret
    exact ⟨rfl, Below.refl _ _⟩

theorem take_sameR {zs ys : List (List Int)} {k : Nat} (hk : k < zs.length) (hl : zs.length = ys.length) (h : zs.take k = ys.take k) (h2 : zs[k] = ys[k]'(by omega)) : zs.take (k + 1) = ys.take (k + 1) := by
  rw [List.take_succ_eq_append_getElem hk, List.take_succ_eq_append_getElem (by omega), h, h2]

theorem len2 {z : List Int} (h : z.length = 2) : ∃ x0 x1, z = [x0, x1] := by
  match z, h with
  | [x0, x1], _ => exact ⟨_, _, rfl⟩
set_option maxRecDepth 100000 in
set_option maxHeartbeats 1000000 in
theorem sameRanges_any {w : World} {v1 v2 : Value} {xs ys : List (List Int)} {b : Bool} (h1 : RowsAt 2 w v1 xs) (h2 : RowsAt 2 w v2 ys) (hx : xs.length ≤ 1000) (hd : decide (xs = ys) = b) :
    Calls Try.prog 38 #[v1, v2] w (Ret w (.bool b)) := by
  unfold Ret
  obtain ⟨a, ac, rfl, ha1⟩ := h1.shape
  obtain ⟨d, dc, rfl, hd1⟩ := h2.shape
  obtain ⟨n, hn⟩ : ∃ n, xs.length = n := ⟨_, rfl⟩
  have HN := hid hn
  by_cases hl : xs.length = ys.length
  · have HL := hid hl
    rw [← hl] at h2 ⊢
    rw [hn] at h1 h2 hx ⊢
    clear hn hl ha1 hd1
    go_enter Try.func38, Try.ntmps38
    go_wp2_with fail
    go_loopg [5, 6] n (fun gk sv kv wr => ∃ (k : Nat) (sm : Bool), k ≤ n ∧ gk = n - k ∧ sv = .bool sm ∧ kv = .int .i64 k ∧ Hid (sm = true → xs.take k = ys.take k) ∧ Hid (sm = false → xs ≠ ys) ∧ Below w.heap.size w wr)
    case atStart => exact ⟨0, true, Nat.zero_le _, rfl, by simp, rfl, hid (fun _ => by simp), hid (fun h => by cases h), Below.refl _ _⟩
    case round =>
      obtain ⟨k, sm, hk, hgk, rfl, rfl, HT, HF, hB⟩ := hrel
      have HGK := hid hgk; clear hgk
      cases sm
      · obtain rfl : b = false := by rw [← hd, decide_eq_false_iff_not]; exact HF.out rfl
        by_cases hlt : k < n
        · have hki : (k : Int) < (n : Int) := by omega
          go_wp2_with fail
          go_ret
          exact ⟨rfl, hB⟩
        · have hki : ¬ (k : Int) < (n : Int) := by omega
          go_wp2_with fail
          go_ret
          exact ⟨rfl, hB⟩
      · by_cases hlt : k < n
        · have hki : (k : Int) < (n : Int) := by omega
          have k1 : k < xs.length := by rw [HN.out]; exact hlt
          have k2 : k < ys.length := by rw [← HL.out]; exact k1
          obtain ⟨x, hx0⟩ : ∃ x, xs[k] = x := ⟨_, rfl⟩
          obtain ⟨y, hy0⟩ : ∃ y, ys[k] = y := ⟨_, rfl⟩
          obtain ⟨a', e1, hxl, r0, rc⟩ := RowsAt.row (show RowsAt 2 wr (.slice a xs.length ac) xs by rw [HN.out]; exact h1.below hB) k1
          obtain ⟨d', e2, hyl, s0, sc⟩ := RowsAt.row (show RowsAt 2 wr (.slice d ys.length dc) ys by rw [← HL.out, HN.out]; exact h2.below hB) k2
          subst e1; subst e2
          rw [hx0] at hxl r0 rc; rw [hy0] at hyl s0 sc
          obtain ⟨x0, x1, rfl⟩ := len2 hxl
          obtain ⟨y0, y1, rfl⟩ := len2 hyl
          replace r0 := r0 _ rfl; replace s0 := s0 _ rfl
          have r1 := rc 1 _ (by decide) rfl; have s1 := sc 1 _ (by decide) rfl
          obtain ⟨bb, hbb⟩ : ∃ bb, decide ([x0, x1] = [y0, y1]) = bb := ⟨_, rfl⟩
          have HX := hid hx0; have HY := hid hy0; have HBB := hid hbb; clear hx0 hy0 hbb rc sc hxl hyl
          go_upto_region 5 with fail
          refine wp_region_Rs [(8, fun v _ => v = .bool bb)] [0, 1, 2, 3, 4, 5, 6, 7, 8] 1 (by kernel_rfl) rfl (by simp only [List.forall_mem_cons]; exact ⟨keeps_eq, fun _ h => by cases h⟩) (by kernel_rfl) ?_
          simp only [numbered, List.filterMap_cons, List.filterMap_nil, List.getElem?_toArray, List.getElem?_cons_succ, List.getElem?_cons_zero, Option.map_some]
          show wpS _ _ _ _ _ _ _ [(_, _), (_, _), (_, _), (_, _), (_, _), (_, _), (_, _), (_, _), (_, _)] _ _
          (refine wpS_quiet rfl rfl ?_; intro K hK inst hx; go_big_quiet_op; (first | go_big_quiet_on | (refine ⟨_, fun _ => rfl, ?_⟩; go_big_quiet_on)); clear hx inst)
          (refine wpS_quiet rfl rfl ?_; intro K hK inst hx; go_big_quiet_op; (first | go_big_quiet_on | (refine ⟨_, fun _ => rfl, ?_⟩; go_big_quiet_on)); clear hx inst)
          (refine wpS_quiet rfl rfl ?_; intro K hK inst hx; go_big_quiet_op; (first | go_big_quiet_on | (refine ⟨_, fun _ => rfl, ?_⟩; go_big_quiet_on)); clear hx inst)
          (refine wpS_quiet rfl rfl ?_; intro K hK inst hx; have t0 := fun x => (fun _ => bkeep (BQ.below x) r0) (hx x); have t1 := fun x => (fun _ => bkeep (BQ.below x) r1) (hx x); go_big_quiet_op; (first | go_big_quiet_on | (refine ⟨_, fun _ => rfl, ?_⟩; go_big_quiet_on)); clear hx inst)
          (refine wpS_quiet rfl rfl ?_; intro K hK inst hx; go_big_quiet_op; (first | go_big_quiet_on | (refine ⟨_, fun _ => rfl, ?_⟩; go_big_quiet_on)); clear hx inst)
          (refine wpS_quiet rfl rfl ?_; intro K hK inst hx; go_big_quiet_op; (first | go_big_quiet_on | (refine ⟨_, fun _ => rfl, ?_⟩; go_big_quiet_on)); clear hx inst)
          (refine wpS_quiet rfl rfl ?_; intro K hK inst hx; go_big_quiet_op; (first | go_big_quiet_on | (refine ⟨_, fun _ => rfl, ?_⟩; go_big_quiet_on)); clear hx inst)
          (refine wpS_quiet rfl rfl ?_; intro K hK inst hx; have t0 := fun x => (fun _ => bkeep (BQ.below x) s0) (hx x); have t1 := fun x => (fun _ => bkeep (BQ.below x) s1) (hx x); go_big_quiet_op; (first | go_big_quiet_on | (refine ⟨_, fun _ => rfl, ?_⟩; go_big_quiet_on)); clear hx inst)
          refine wpS_fresh rfl rfl (fun w' hb hF => ?_) ?_
          · change freshAt _ _ _ (fun v _ => v = .bool bb) _; unfold freshAt; go_simp; rw [← HBB.out]; by_cases e0 : x0 = y0; (by_cases e1 : x1 = y1; (simp [e0, e1, Below.refl]); (simp [e0, e1, Below.refl])); (simp [e0, Below.refl])
          intro v W hv; simp only [pOf, List.lookup_cons, Nat.reduceBEq, beq_self_eq_true] at hv; subst hv
          simp only [Act.put, List.setIfInBounds_toArray, List.set_cons_succ, List.set_cons_zero]
          refine wpS_nil ?_
          intro w3 hall
          have hb := hall.1
          clear hall
          refine wpAny_ready (rs := [9]) (by kernel_rfl) (by simp) ?_
          refine AllReady.cons rfl (fun K hK => ?_) AllReady.nil
          go_simp
          refine hK _ _ ?_; clear hK K
          refine wpAny_done (by kernel_rfl) ?_ _
          replace hB := bnext (w := w) hB hb
          go_wp2_with fail
          go_roundg (n - (k + 1))
          case measure => have h := HGK.out; omega
          case rel => exact ⟨k + 1, bb, by omega, rfl, rfl, by go_num, hid (fun e => take_sameR k1 HL.out (HT.out (by simp)) (by rw [HX.out, HY.out]; exact of_decide_eq_true (HBB.out.trans e))), hid (fun e e2 => (decide_eq_false_iff_not.1 (HBB.out.trans e)) (by subst e2; exact HX.out.symm.trans HY.out)), hB⟩
        · obtain rfl : k = n := by omega
          obtain rfl : b = true := by rw [← hd, decide_eq_true_eq]; have h := HT.out (by simp); rwa [List.take_of_length_le (by rw [HN.out]; exact Nat.le_refl _), List.take_of_length_le (by rw [← HL.out, HN.out]; exact Nat.le_refl _)] at h
          go_wp2_with fail
          go_ret
          exact ⟨rfl, hB⟩
  · obtain rfl : b = false := by rw [← hd, decide_eq_false_iff_not]; intro e; exact hl (by rw [e])
    have hle : ((n : Int) == (ys.length : Int)) = false := beq_eq_false_iff_ne.mpr (by omega)
    go_enter Try.func38, Try.ntmps38
    go_wp2_with fail
    refine wp_loop_rounds 1 ?_
    rw [rounds_succ]
    by_cases h0 : 0 < xs.length
    · have h0i : (0 : Int) < (xs.length : Int) := by omega
      go_wp2_with fail
      go_ret
      exact ⟨rfl, Below.refl _ _⟩
    · have h0i : ¬ (0 : Int) < (xs.length : Int) := by omega
      go_wp2_with fail
      go_ret
      exact ⟨rfl, Below.refl _ _⟩

/-- In the world w the slice v reads as these lists of numbers. -/
def ListsAt (v : Value) (gs : List (List Int)) (W : World) : Prop := ∃ (a : Option Addr) (cap : Nat), v = .slice a gs.length cap ∧ ∀ k g, gs[k]? = some g → ∃ a', a = some a' ∧ ∃ u, W.cell? (a'.add k) = some u ∧ NumsAt W u g
theorem ListsAt.below {v : Value} {gs : List (List Int)} {W W' : World} (h : ListsAt v gs W) (hb : Below W.heap.size W W') : ListsAt v gs W' := by
  obtain ⟨a, cap, e, h⟩ := h
  refine ⟨a, cap, e, fun k g hg => ?_⟩
  obtain ⟨a', e2, u, h1, h2⟩ := h k g hg
  exact ⟨a', e2, u, bkeep hb h1, h2.below hb⟩
set_option maxRecDepth 100000 in
set_option maxHeartbeats 1000000 in
theorem sameParts_any {w : World} {v1 v2 : Value} {zs ys : List (List Int)} {b : Bool} (h1 : ListsAt v1 zs w) (h2 : ListsAt v2 ys w) (hz : zs.length ≤ 1000) (hsz : ∀ z ∈ zs, z.length ≤ 1000) (hd : decide (zs = ys) = b) :
    Calls Try.prog 61 #[v1, v2] w (Ret w (.bool b)) := by
  unfold Ret
  obtain ⟨a, ac, rfl, ha⟩ := h1
  obtain ⟨d, dc, rfl, hdd⟩ := h2
  have HA := hid ha; have HC := hid hdd; clear ha hdd
  obtain ⟨n, hn⟩ : ∃ n, zs.length = n := ⟨_, rfl⟩
  have HN := hid hn
  by_cases hl : zs.length = ys.length
  · have HL := hid hl
    rw [← hl]
    rw [hn] at hz ⊢
    clear hn hl
    go_enter Try.func61, Try.ntmps61
    go_wp2_with fail
    go_loopg [5, 6] n (fun gk sv kv wr => ∃ (k : Nat) (sm : Bool), k ≤ n ∧ gk = n - k ∧ sv = .bool sm ∧ kv = .int .i64 k ∧ Hid (sm = true → zs.take k = ys.take k) ∧ Hid (sm = false → zs ≠ ys) ∧ Below w.heap.size w wr)
    case atStart => exact ⟨0, true, Nat.zero_le _, rfl, by simp, rfl, hid (fun _ => by simp), hid (fun h => by cases h), Below.refl _ _⟩
    case round =>
      obtain ⟨k, sm, hk, hgk, rfl, rfl, HT, HF, hB⟩ := hrel
      have HGK := hid hgk; clear hgk
      cases sm
      · obtain rfl : b = false := by rw [← hd, decide_eq_false_iff_not]; exact HF.out rfl
        by_cases hlt : k < n
        · have hki : (k : Int) < (n : Int) := by omega
          go_wp2_with fail
          go_ret
          exact ⟨rfl, hB⟩
        · have hki : ¬ (k : Int) < (n : Int) := by omega
          go_wp2_with fail
          go_ret
          exact ⟨rfl, hB⟩
      · by_cases hlt : k < n
        · have hki : (k : Int) < (n : Int) := by omega
          have k1 : k < zs.length := by rw [HN.out]; exact hlt
          have k2 : k < ys.length := by rw [← HL.out]; exact k1
          obtain ⟨x, hx0⟩ : ∃ x, zs[k] = x := ⟨_, rfl⟩
          obtain ⟨y, hy0⟩ : ∃ y, ys[k] = y := ⟨_, rfl⟩
          obtain ⟨a', e1, u, r0, hu⟩ := HA.out k x (by rw [List.getElem?_eq_getElem k1, hx0])
          obtain ⟨d', e2, t, s0, ht⟩ := HC.out k y (by rw [List.getElem?_eq_getElem k2, hy0])
          subst e1; subst e2
          replace r0 := bkeep hB r0; replace s0 := bkeep hB s0
          replace hu := hu.below hB; replace ht := ht.below hB
          have hxl := hsz x (by rw [← hx0]; exact List.getElem_mem k1)
          obtain ⟨ua, uc, rfl, -⟩ := hu.shape
          obtain ⟨ta, tc, rfl, -⟩ := ht.shape
          obtain ⟨bb, hbb⟩ : ∃ bb, decide (x = y) = bb := ⟨_, rfl⟩
          have HX := hid hx0; have HY := hid hy0; have HBB := hid hbb; clear hx0 hy0 hbb
          go_upto_region 5 with fail
          refine wp_region_Rs [(8, fun v _ => v = .bool bb)] [0, 1, 2, 3, 4, 5, 6, 7, 8] 1 (by kernel_rfl) rfl (by simp only [List.forall_mem_cons]; exact ⟨keeps_eq, fun _ h => by cases h⟩) (by kernel_rfl) ?_
          simp only [numbered, List.filterMap_cons, List.filterMap_nil, List.getElem?_toArray, List.getElem?_cons_succ, List.getElem?_cons_zero, Option.map_some]
          show wpS _ _ _ _ _ _ _ [(_, _), (_, _), (_, _), (_, _), (_, _), (_, _), (_, _), (_, _), (_, _)] _ _
          (refine wpS_quiet rfl rfl ?_; intro K hK inst hx; go_big_quiet_op; (first | go_big_quiet_on | (refine ⟨_, fun _ => rfl, ?_⟩; go_big_quiet_on)); clear hx inst)
          (refine wpS_quiet rfl rfl ?_; intro K hK inst hx; go_big_quiet_op; (first | go_big_quiet_on | (refine ⟨_, fun _ => rfl, ?_⟩; go_big_quiet_on)); clear hx inst)
          (refine wpS_quiet rfl rfl ?_; intro K hK inst hx; go_big_quiet_op; (first | go_big_quiet_on | (refine ⟨_, fun _ => rfl, ?_⟩; go_big_quiet_on)); clear hx inst)
          (refine wpS_quiet rfl rfl ?_; intro K hK inst hx; have t0 := fun x => (fun _ => bkeep (BQ.below x) r0) (hx x); go_big_quiet_op; (first | go_big_quiet_on | (refine ⟨_, fun _ => rfl, ?_⟩; go_big_quiet_on)); clear hx inst)
          (refine wpS_quiet rfl rfl ?_; intro K hK inst hx; go_big_quiet_op; (first | go_big_quiet_on | (refine ⟨_, fun _ => rfl, ?_⟩; go_big_quiet_on)); clear hx inst)
          (refine wpS_quiet rfl rfl ?_; intro K hK inst hx; go_big_quiet_op; (first | go_big_quiet_on | (refine ⟨_, fun _ => rfl, ?_⟩; go_big_quiet_on)); clear hx inst)
          (refine wpS_quiet rfl rfl ?_; intro K hK inst hx; go_big_quiet_op; (first | go_big_quiet_on | (refine ⟨_, fun _ => rfl, ?_⟩; go_big_quiet_on)); clear hx inst)
          (refine wpS_quiet rfl rfl ?_; intro K hK inst hx; have t0 := fun x => (fun _ => bkeep (BQ.below x) s0) (hx x); go_big_quiet_op; (first | go_big_quiet_on | (refine ⟨_, fun _ => rfl, ?_⟩; go_big_quiet_on)); clear hx inst)
          refine wpS_fresh rfl rfl (fun w' hb hF => ?_) ?_
          · change freshAt _ _ _ (fun v _ => v = .bool bb) _; unfold freshAt; go_simp; exact same01_any (hu.below hb) (ht.below hb) hxl HBB.out
          intro v W hv; simp only [pOf, List.lookup_cons, Nat.reduceBEq, beq_self_eq_true] at hv; subst hv
          simp only [Act.put, List.setIfInBounds_toArray, List.set_cons_succ, List.set_cons_zero]
          refine wpS_nil ?_
          intro w3 hall
          have hb := hall.1
          clear hall
          refine wpAny_ready (rs := [9]) (by kernel_rfl) (by simp) ?_
          refine AllReady.cons rfl (fun K hK => ?_) AllReady.nil
          go_simp
          refine hK _ _ ?_; clear hK K
          refine wpAny_done (by kernel_rfl) ?_ _
          replace hB := bnext (w := w) hB hb
          go_wp2_with fail
          go_roundg (n - (k + 1))
          case measure => have h := HGK.out; omega
          case rel => exact ⟨k + 1, bb, by omega, rfl, rfl, by go_num, hid (fun e => take_sameR k1 HL.out (HT.out (by simp)) (by rw [HX.out, HY.out]; exact of_decide_eq_true (HBB.out.trans e))), hid (fun e e2 => (decide_eq_false_iff_not.1 (HBB.out.trans e)) (by subst e2; exact HX.out.symm.trans HY.out)), hB⟩
        · obtain rfl : k = n := by omega
          obtain rfl : b = true := by rw [← hd, decide_eq_true_eq]; have h := HT.out (by simp); rwa [List.take_of_length_le (by rw [HN.out]; exact Nat.le_refl _), List.take_of_length_le (by rw [← HL.out, HN.out]; exact Nat.le_refl _)] at h
          go_wp2_with fail
          go_ret
          exact ⟨rfl, hB⟩
  · obtain rfl : b = false := by rw [← hd, decide_eq_false_iff_not]; intro e; exact hl (by rw [e])
    have hle : ((n : Int) == (ys.length : Int)) = false := beq_eq_false_iff_ne.mpr (by omega)
    go_enter Try.func61, Try.ntmps61
    go_wp2_with fail
    refine wp_loop_rounds 1 ?_
    rw [rounds_succ]
    by_cases h0 : 0 < zs.length
    · have h0i : (0 : Int) < (zs.length : Int) := by omega
      go_wp2_with fail
      go_ret
      exact ⟨rfl, Below.refl _ _⟩
    · have h0i : ¬ (0 : Int) < (zs.length : Int) := by omega
      go_wp2_with fail
      go_ret
      exact ⟨rfl, Below.refl _ _⟩

end Go.Proofs.Ytnchhleokdkejaa

/- The first course that may break. -/
namespace Go.Proofs.Ytnchhleokdkejaa
open Go.RowKit Go.Pb Go.Pb.Ware Go.Pb.Sag
set_option linter.unusedVariables false
set_option linter.unusedSimpArgs false

open Go.Pb.Bung
/-- Where the first number stands that is not 1. -/
def firstN (zs : List Int) : Int := match zs.findIdx? (fun z => !decide (z = 1)) with | some i => (i : Int) | none => -1
theorem first_hit {zs : List Int} {k : Nat} {z : Int} (hk : zs[k]? = some z) (h : ∀ x ∈ zs.take k, x = 1) (hz : z ≠ 1) : firstN zs = k := by
  unfold firstN
  have hlt : k < zs.length := (List.getElem?_eq_some_iff.1 hk).1
  have e : zs.findIdx? (fun z => !decide (z = 1)) = some k := by
    rw [List.findIdx?_eq_some_iff_getElem]
    refine ⟨hlt, ?_, fun j hj => ?_⟩
    · rw [(List.getElem?_eq_some_iff.1 hk).2]; simp [hz]
    · have h1 := h zs[j] (by rw [List.mem_take_iff_getElem]; exact ⟨j, by omega, rfl⟩)
      simp [h1]
  rw [e]
theorem first_none {zs : List Int} (h : ∀ x ∈ zs, x = 1) : firstN zs = -1 := by
  unfold firstN
  have e : zs.findIdx? (fun z => !decide (z = 1)) = none := by
    rw [List.findIdx?_eq_none_iff]; intro x hx; simp [h x hx]
  rw [e]

theorem may_any {w : World} {z : Int} : Calls Try.prog 97 #[.int .i64 z] w (Ret w (.bool (!decide (z = 1)))) := by
  unfold Ret
  go_enter Try.func97, Try.ntmps97
  go_wp2
  go_ret
  exact ⟨ret_bool (by simp [bne, BEq.beq]), Below.refl _ _⟩

set_option maxRecDepth 100000 in
set_option maxHeartbeats 800000 in
theorem first_any {w : World} {v : Value} {zs : List Int} {r : Int} (hi : NumsAt w v zs) (hr : firstN zs = r) :
    Calls Try.prog 96 #[v, .func (.func 97) #[] #[]] w (Ret w (.int .i64 r)) := by
  unfold Ret
  obtain ⟨a, cap, rfl, hl1, hl2⟩ := hi.shape
  have HR := hid hr; clear hr
  go_enter Try.func96, Try.ntmps96
  go_wp2_with fail
  go_loopg [8] zs.length (fun gk iv wr => ∃ k : Nat, k ≤ zs.length ∧ gk = zs.length - k ∧ iv = .int .i64 k ∧ Hid (∀ x ∈ zs.take k, x = 1) ∧ Below w.heap.size w wr)
  case atStart => exact ⟨0, Nat.zero_le _, rfl, rfl, hid (fun x hx => by simp at hx), Below.refl _ _⟩
  case round =>
    obtain ⟨k, hk, hgk, rfl, HA, hB⟩ := hrel
    have HGK := hid hgk; clear hgk
    by_cases hlt : k < zs.length
    · have hki : (k : Int) < (zs.length : Int) := by omega
      obtain ⟨a', ha, r0⟩ := (hi.below hB).elem hlt
      subst ha
      obtain ⟨z, hz0⟩ : ∃ z, zs[k] = z := ⟨_, rfl⟩
      rw [hz0] at r0
      have HK := hid (show zs[k]? = some z by rw [List.getElem?_eq_getElem hlt, hz0])
      clear hz0
      go_wp2_with fail
      refine may_any.mono ?_
      rintro e w1 ⟨rfl, hb⟩
      replace hB := hB.trans (hb.mono hB.size)
      clear hb
      by_cases h1 : z = 1
      · subst h1
        have HA2 := hid (show ∀ x ∈ zs.take (k + 1), x = 1 from fun x hx => by rw [List.take_add_one, HK.out] at hx; rcases List.mem_append.1 hx with h | h; exact HA.out x h; simpa using h)
        go_wp2_with fail
        go_roundg (zs.length - (k + 1))
        case measure => have h := HGK.out; omega
        case rel => exact ⟨k + 1, by omega, rfl, by go_num, HA2, hB⟩
      · obtain rfl : r = (k : Int) := by rw [← HR.out]; exact first_hit HK.out HA.out h1
        have h1b : decide (z = 1) = false := decide_eq_false h1
        have hz9 : (!decide (z = 1)) = true := by rw [h1b]; rfl
        go_wp2_with fail
        go_ret
        exact ⟨rfl, hB⟩
    · obtain rfl : k = zs.length := by omega
      obtain rfl : r = -1 := by rw [← HR.out]; exact first_none (by have h := HA.out; rwa [List.take_length] at h)
      go_wp2_with fail
      go_ret
      exact ⟨rfl, hB⟩

end Go.Proofs.Ytnchhleokdkejaa

/- How a bung may break. -/
namespace Go.Proofs.Ytnchhleokdkejaa
open Go.RowKit Go.Pb Go.Pb.Ware Go.Pb.Sag
set_option linter.unusedVariables false
set_option linter.unusedSimpArgs false

open Go.Pb.Bung
theorem one_int (w : World) (x : Value) (t : TypeId) (n : Nat) (hn : w.heap.size = n) : ∀ j u, [x][j]? = some u → (w.alloc (.cells #[x] t)).cell? ((⟨n, 0, none⟩ : Addr).add j) = some u := by
  intro j u h
  cases j with
  | zero =>
    injection h with h
    subst h
    subst hn
    rw [Go.WideShapes.add_plain, Nat.zero_add]
    exact (CellsAt.new w [x] t 0 x rfl).1
  | succ j => simp at h
theorem nums_of_own {W : World} {B T n : Nat} {v : Value} {l : List Sg} (hl : l.length = n) (hn : n ≤ 1000) (h : W.ownsRow B T 1 v n (l.map fun s => .int .i64 s.wh)) (hi : ∀ s ∈ l, I64 s.wh) : NumsAt W v (l.map (·.wh)) := by
  subst hl
  obtain ⟨a, cap, rfl, -⟩ := owns_shape h
  by_cases h0 : l.length = 0
  · have : l = [] := List.eq_nil_of_length_eq_zero h0
    subst this
    rcases h.2 with ⟨e, _⟩ | ⟨g, c, cur, e, h2, h3, h4, h5, h6, h7⟩
    · exact .inl ⟨e, rfl⟩
    · exact .inr ⟨⟨g, 0, none⟩, c, e, by simp, by unfold maxLen at h5; omega, fun k z hk => by simp at hk⟩
  · rcases h.2 with ⟨e, e0⟩ | ⟨g, c, cur, e, h2, h3, h4, h5, h6, h7⟩
    · exact absurd e0 h0
    · refine .inr ⟨⟨g, 0, none⟩, c, by rw [List.length_map]; exact e, by rw [List.length_map]; exact h4, by unfold maxLen at h5; omega, fun k z hk => ?_⟩
      rw [List.getElem?_map] at hk
      obtain ⟨s, hs, rfl⟩ := Option.map_eq_some_iff.1 hk
      refine ⟨?_, hi s (List.mem_of_getElem? hs)⟩
      exact World.ownsRow.cells (e ▸ h) (g := g) rfl k _ (by rw [List.getElem?_map, hs]; rfl)

set_option maxRecDepth 100000 in
set_option maxHeartbeats 1000000 in
theorem Breaks_good {w : World} {v : Value} {l : List Sg} {lo hi : Int} {m : Nat} {bl : Int} (h : RowsAt 8 w v (l.map rowG)) (hb : bungOk lo hi l = true) (hm : firstN ((List.range l.length).map (ansL l)) = (m : Int)) (hml : m + 1 < l.length) (hbl : (l.getD m default).bl = bl) :
    Calls Try.prog 42 #[.agg #[.int .i64 lo, .int .i64 hi, v]] w (fun e w' => ∃ u, e = .returned (.tuple #[.agg #[.int .i64 (m : Int), .int .i64 bl, u], .int .i64 0]) ∧ Below w.heap.size w w' ∧ NumsAt w' u ((l.drop (m + 1)).map (·.wh))) := by
  obtain ⟨a, cap, rfl, hll⟩ := h.shape
  have hcap := RowsAt.caps h
  rw [List.length_map] at h hll hcap ⊢
  obtain ⟨i0, hi0, hz0, hz1, hz2⟩ := info_parts Try.infoInt
  have hcb : ckBg lo hi l = 0 := by unfold ckBg; rw [if_pos hb]
  have hlen := bungOk_len hb
  have HCB := hid hcb; have HBD := hid (sg_bounds (bungOk_list hb)); have HM := hid hm; have HBL := hid hbl; clear hcb hb hm hbl
  have hi64 := i64_rows h
  have H64 := hid hi64; clear hi64
  obtain ⟨n, hn⟩ : ∃ n, l.length = n := ⟨_, rfl⟩
  have HN := hid hn
  rw [hn] at h hll hcap hml hlen ⊢
  obtain ⟨hcap1, hcap2⟩ := hcap
  clear hn
  go_enter Try.func42, Try.ntmps42
  go_upto_region 1 with fail
  generalize hW0 : World.alloc (World.alloc w _) _ = v1
  have y0 : CellsAt v1 w.heap.size [.int .i64 lo, .int .i64 hi, .slice a n cap] := by rw [← hW0]; exact (CellsAt.new w _ 26).alloc _
  have y1 : CellsAt v1 (w.heap.size + 1) [.int .i64 0, .int .i64 0, .slice none 0 0] := by rw [← hW0]; have h := CellsAt.new (w.alloc (.cells #[.int .i64 lo, .int .i64 hi, .slice a n cap] 26)) [.int .i64 0, .int .i64 0, .slice none 0 0] 54; rwa [World.size_alloc] at h
  have hB : Below w.heap.size w v1 := by rw [← hW0]; exact ((Below.refl _ w).alloc (Nat.le_refl _) _).alloc (by simp) _
  have hz : w.heap.size + 2 ≤ v1.heap.size := by rw [← hW0]; simp
  clear hW0
  have q0 := (y0 0 _ rfl).1; have q1 := (y0 1 _ rfl).1; have q2 := (y0 2 _ rfl).1
  go_wp2_with fail
  refine (ckBg_any (h.below hB) HCB.out).mono ?_
  rintro e v2 ⟨rfl, hb⟩
  replace hB := hB.trans (hb.mono hB.size)
  replace hz := Nat.le_trans hz hb.size
  replace y0 := y0.below hb; replace y1 := y1.below hb
  clear q0 q1 q2 hb
  have q0 := (y0 0 _ rfl).1; have q1 := (y0 1 _ rfl).1; have q2 := (y0 2 _ rfl).1
  go_wp2_with fail
  refine (courses_any (h.below hB) (by rw [HN.out]; exact hlen) HBD.out).mono ?_
  rintro e v3 ⟨u, rfl, hb, hnu⟩
  replace hB := hB.trans (hb.mono hB.size)
  replace hz := Nat.le_trans hz hb.size
  replace y0 := y0.below hb; replace y1 := y1.below hb
  clear q0 q1 q2 hb
  have q0 := (y0 0 _ rfl).1; have q1 := (y0 1 _ rfl).1; have q2 := (y0 2 _ rfl).1
  go_wp2_with fail
  refine (first_any hnu HM.out).mono ?_
  rintro e v4 ⟨rfl, hb⟩
  replace hB := hB.trans (hb.mono hB.size)
  replace hz := Nat.le_trans hz hb.size
  replace y0 := y0.below hb; replace y1 := y1.below hb
  clear q0 q1 q2 hb hnu
  have hml2 : m < l.length := by rw [HN.out]; omega
  obtain ⟨s, hs⟩ : ∃ s, l[m]? = some s := ⟨_, List.getElem?_eq_getElem hml2⟩
  have hgd : l.getD m default = s := by rw [List.getD, hs]; rfl
  have hbl2 := HBL.out
  rw [hgd] at hbl2
  obtain ⟨a', ha, r0, hc, -⟩ := sg_row (by rw [HN.out]; exact h.below hB) hs
  subst ha
  clear hgd hs hml2
  obtain ⟨sid, swl, swh, sbl, sbh, shl, shh, sti⟩ := s
  dsimp only at hbl2
  subst hbl2
  have r3 := hc 3 _ (by decide) rfl
  dsimp only at r3
  clear hc r0
  have hmi : (m : Int) < (n : Int) := by omega
  have hm0 : ¬ (m : Int) < 0 := by omega
  have q0 := (y0 0 _ rfl).1; have q1 := (y0 1 _ rfl).1; have q2 := (y0 2 _ rfl).1
  go_upto_region 8 with fail
  generalize hW : World.alloc v4 _ = v5
  have yx : CellsAt v5 v4.heap.size [.int .i64 (m : Int), .int .i64 sbl, .slice none 0 0] := by rw [← hW]; exact CellsAt.new v4 [.int .i64 (m : Int), .int .i64 sbl, .slice none 0 0] 54
  have hb : Below v4.heap.size v4 v5 := by rw [← hW]; exact (Below.refl _ _).alloc (Nat.le_refl _) _
  have hz5 : v4.heap.size < v5.heap.size := by rw [← hW]; simp
  clear hW q0 q1 q2 r3
  replace hB := hB.trans (hb.mono hB.size)
  replace y0 := y0.below hb; replace y1 := y1.below hb
  clear hb
  have hm1 : (m : Int) + 1 ≤ (n : Int) := by omega
  have hm2 : (m : Int) + 1 ≤ (cap : Int) := by omega
  have hm3 : (0 : Int) ≤ (m : Int) + 1 := by omega
  have hm4 : ¬ cap = m + 1 := by omega
  have hm5 : ¬ (cap : Int) = (m : Int) + 1 := by omega
  have hm6 : ¬ m + 1 = cap := by omega
  have hm7 : ¬ (m : Int) + 1 = (cap : Int) := by omega
  have q2 := (y0 2 _ rfl).1
  have T0 : ∀ W', Below w.heap.size w W' → m + 1 < n → RowsAt 8 W' (.slice (some (a'.add ((m + 1) * 8))) (n - (m + 1)) (cap - (m + 1))) ((l.drop (m + 1)).map rowG) := fun W' hW' hlt => rows_tail (h.below hW') HN.out hlt
  have HT0 := hid T0; clear T0
  go_wp2_with fail
  clear q2
  obtain ⟨N, hN⟩ : ∃ N, n - (m + 1) = N := ⟨_, rfl⟩
  obtain ⟨C, hC⟩ : ∃ C, cap - (m + 1) = C := ⟨_, rfl⟩
  rw [hN, hC]
  have hld : (l.drop (m + 1)).length = N := by rw [List.length_drop, HN.out, hN]
  have hN30 : N ≤ 30 := by omega
  have HNN := hid hN; have HCC := hid hC; have HLD := hid hld; clear hN hC hld hm1 hm2 hm3 hm4 hm5 hm6 hm7
  go_loopg [37] N (fun gk iv wr => ∃ (k : Nat) (u : Value), k ≤ N ∧ gk = N - k ∧ iv = .int .i64 k ∧ CellsAt wr v4.heap.size [.int .i64 (m : Int), .int .i64 sbl, u] ∧ wr.ownsRow v5.heap.size 3 1 u k (((l.drop (m + 1)).take k).map fun s => .int .i64 s.wh) ∧ CellsAt wr w.heap.size [.int .i64 lo, .int .i64 hi, .slice (some a') n cap] ∧ CellsAt wr (w.heap.size + 1) [.int .i64 0, .int .i64 0, .slice none 0 0] ∧ Below w.heap.size w wr ∧ v5.heap.size ≤ wr.heap.size)
  case atStart => exact ⟨0, _, Nat.zero_le _, rfl, rfl, yx, World.ownsRow_nil _ _ _ _, y0, y1, hB, Nat.le_refl _⟩
  case round =>
    clear yx y0 y1 hB
    obtain ⟨k, u0, hk, hgk, rfl, yx, ho, y0, y1, hB, hzr⟩ := hrel
    have HGK := hid hgk; clear hgk
    obtain ⟨ua, uc, rfl, hul⟩ := owns_shape ho
    by_cases hlt : k < N
    · have hki : (k : Int) < (N : Int) := by omega
      have hkl : k < (l.drop (m + 1)).length := by rw [HLD.out]; exact hlt
      obtain ⟨s, hs⟩ : ∃ s, (l.drop (m + 1))[k]? = some s := ⟨_, List.getElem?_eq_getElem hkl⟩
      have T := HT0.out _ hB (by have := HNN.out; omega)
      rw [HNN.out, HCC.out] at T
      obtain ⟨a2, ha2, r0, hc, -⟩ := sg_row (by rw [HLD.out]; exact T) hs
      injection ha2 with ha2
      rw [← ha2] at r0 hc
      have HS1 := hid hs; clear hs T ha2 hkl
      obtain ⟨tid, twl, swh, tbl, tbh, thl, thh, tti⟩ := s
      dsimp only at r0
      have r1 := hc 1 _ (by decide) rfl
      have r2 := hc 2 _ (by decide) rfl
      have r3 := hc 3 _ (by decide) rfl
      have r4 := hc 4 _ (by decide) rfl
      have r5 := hc 5 _ (by decide) rfl
      have r6 := hc 6 _ (by decide) rfl
      have r7 := hc 7 _ (by decide) rfl
      dsimp only at r1 r2 r3 r4 r5 r6 r7
      clear hc
      obtain ⟨v3, hv3⟩ : ∃ v, v = wr := ⟨_, rfl⟩
      subst hv3
      go_upto_region 11 with fail
      generalize hW : World.alloc v3 _ = v7
      have t2 : v7.cell? ⟨v3.heap.size, 2, none⟩ = some (.int .i64 swh) := by rw [← hW]; simp [go_sem]
      have hb : Below v3.heap.size v3 v7 := by rw [← hW]; exact (Below.refl _ _).alloc (Nat.le_refl _) _
      have hz7 := hb.size
      replace hB := hB.trans (hb.mono hB.size)
      replace y0 := y0.below hb; replace y1 := y1.below hb; replace yx := yx.below hb
      replace ho := owns_below ho hb
      clear hW hb r0 r1 r2 r3 r4 r5 r6 r7
      have e2 := (yx 2 _ rfl).1
      go_wp2_with (at_builtin; go_must (refine wpList_append_own _ rfl _ _ 41 rfl v5.heap.size 3 i0 (.int .i64 0) 1 8 Try.underlying41 hi0 hz0 hz1 hz2 rfl (by decide) _ _ _ rfl (ho.alloc _) ⟨v7.heap.size, 0, none⟩ 1 1 [.int .i64 swh] rfl rfl (one_int _ _ _ _ rfl) (by simp [Value.oneCell']) (by unfold maxLen; omega) (by omega) (by simp; omega) ?_; intro v' w8 ho8 hg8 hnil; obtain ⟨xa, xc, rfl, -⟩ := owns_shape ho8; have hb8 : Below v5.heap.size v7 w8 := Pb.below_grown ((Below.refl _ v7).alloc (by omega) _) hg8 (ho.alloc _) (by simp; omega) (Nat.le_refl _); have hz8 := hb8.size; replace yx := cells_low yx hb8 (by omega); replace y0 := cells_low y0 hb8 (by omega); replace y1 := cells_low y1 hb8 (by omega); replace hB := hB.trans (hb8.mono (by omega)); replace e2 := (yx 2 _ rfl).1; have f2 := (yx 2 _ rfl).2; clear hg8 hnil hb8 ho))
      go_roundg (N - (k + 1))
      case measure => have h := HGK.out; omega
      case rel => exact ⟨k + 1, .slice xa (k + 1) xc, by omega, rfl, by go_num, cells_store (o := 2) yx, by rw [List.take_add_one, HS1.out]; simpa using own_set (o := 2) (u := .slice xa (k + 1) xc) ho8 (by omega), y0.other (by omega) _, y1.other (by omega) _, hB.setCell (p := ⟨v4.heap.size, 2, none⟩) (by show w.heap.size ≤ v4.heap.size; omega) _, by simp; omega⟩
    · obtain rfl : k = N := by omega
      have p0 := (yx 0 _ rfl).1; have p1 := (yx 1 _ rfl).1; have p2 := (yx 2 _ rfl).1
      have f0 := (y1 0 _ rfl).2; have f1 := (y1 1 _ rfl).2; have f2 := (y1 2 _ rfl).2; have g0 := (y1 0 _ rfl).1; have g1 := (y1 1 _ rfl).1; have g2 := (y1 2 _ rfl).1
      rw [List.take_of_length_le (by rw [HLD.out]; exact Nat.le_refl _)] at ho
      go_wp2_with fail
      have z1 := cells_store (o := 2) (u := .slice ua k uc) (cells_store (o := 1) (u := .int .i64 sbl) (cells_store (o := 0) (u := .int .i64 (m : Int)) y1))
      have hB9 : Below w.heap.size w _ := ((hB.setCell (p := ⟨w.heap.size + 1, 0, none⟩) (Nat.le_succ _) (.int .i64 (m : Int))).setCell (p := ⟨w.heap.size + 1, 1, none⟩) (Nat.le_succ _) (.int .i64 sbl)).setCell (p := ⟨w.heap.size + 1, 2, none⟩) (Nat.le_succ _) (.slice ua k uc)
      have o9 := own_set (o := 2) (b := w.heap.size + 1) (u := .slice ua k uc) (own_set (o := 1) (b := w.heap.size + 1) (u := .int .i64 sbl) (own_set (o := 0) (u := .int .i64 (m : Int)) ho (b := w.heap.size + 1) (by omega)) (by omega)) (by omega)
      have hn9 : NumsAt _ (.slice ua k uc) ((l.drop (m + 1)).map (·.wh)) := nums_of_own HLD.out (by omega) o9 (fun s hs => H64.out s (List.mem_of_mem_drop hs) s.wh (by simp [rowG]))
      have d0 := (z1 0 _ rfl).1; have d1 := (z1 1 _ rfl).1; have d2 := (z1 2 _ rfl).1
      exact bodyPost_ret (v := .tuple #[.agg #[.int .i64 (m : Int), .int .i64 sbl, .slice ua k uc], .int .i64 0]) (by simp [results, Try.results42, go_sem, *]) rfl ⟨_, rfl, hB9, hn9⟩

end Go.Proofs.Ytnchhleokdkejaa

/- The chapter's example. -/
namespace Go.Proofs.Ytnchhleokdkejaa
open Go.RowKit Go.Pb Go.Pb.Ware Go.Pb.Sag
set_option linter.unusedVariables false
set_option linter.unusedSimpArgs false

open Go.Proofs Go.Pb.Bung
def exG : List Sg := [⟨1, 100, 120, 300, 350, 200, 210, 5⟩, ⟨2, 80, 90, 150, 200, 200, 210, 10⟩, ⟨3, 60, 60, 50, 60, 100, 100, 0⟩]
def exB : List Sg := chosenG exG [0, 1, 2]
def exC : List Sg := chosenG exG [1, 0, 2]
theorem ex_list : listOk exG = true := by kernel_rfl
theorem ex_b : bungOk 5 10 exB = true := by kernel_rfl
theorem ex_c : bungOk 5 10 exC = true := by kernel_rfl
theorem ex_loads : ((List.range exB.length).map fun i => [loadL exB i, loadH exB i]) = [[140, 150], [60, 60], [0, 0]] := by kernel_rfl
theorem ex_st1 : (if bungOk 5 10 exB = true then (stA exB, (0 : Int)) else (0, 31)) = (1, 0) := by kernel_rfl
theorem ex_st2 : (if bungOk 5 10 exC = true then (stA exC, (0 : Int)) else (0, 31)) = (2, 0) := by kernel_rfl
theorem ex_lean : (if bungOk 5 10 exB = true then (lnA exB 10, (0 : Int)) else (0, 31)) = (4, 0) := by kernel_rfl
theorem ex_first : firstN ((List.range exC.length).map (ansL exC)) = ((0 : Nat) : Int) := by kernel_rfl
theorem ex_bl : (exC.getD 0 default).bl = 150 := by kernel_rfl
theorem ex_wh : (exC.drop (0 + 1)).map (·.wh) = [120, 60] := by kernel_rfl
theorem ex_few : fewA 5 10 exG 400 9 = ([[0, 2], [1]], 0) := by kernel_rfl
/-- The example's saggars. -/
def ExP (v : Value) (W : World) : Prop := RowsAt 8 W v (exG.map rowG)
theorem keeps_ex : Keeps ExP := fun _ _ _ h hb => RowsAt.below h hb
/-- A bung of the example, as Set returns it. -/
def SetP (B : Nat) (l : List Sg) (v : Value) (W : World) : Prop := ∃ u, v = .tuple #[.agg #[.int .i64 5, .int .i64 10, u], .int .i64 0] ∧ W.ownsRow B 33 8 u l.length (l.flatMap cellsG) ∧ RowsAt 8 W u (l.map rowG)
theorem keeps_set {B : Nat} {l : List Sg} : Keeps (SetP B l) := fun _ _ _ ⟨u, h1, h2, h3⟩ hb => ⟨u, h1, owns_below h2 hb, h3.below hb⟩
/-- Lists as a call returns them. -/
def LstP (gs : List (List Int)) (v : Value) (W : World) : Prop := ∃ u, v = .tuple #[u, .int .i64 0] ∧ ListsAt u gs W
theorem keeps_lst {gs : List (List Int)} : Keeps (LstP gs) := fun _ _ _ ⟨u, h1, h2⟩ hb => ⟨u, h1, h2.below hb⟩
def NumP (zs : List Int) (v : Value) (W : World) : Prop := NumsAt W v zs
theorem keeps_num {zs : List Int} : Keeps (NumP zs) := fun _ _ _ h hb => NumsAt.below h hb
/-- New memory of a type. -/
def NewT (B0 T : Nat) (cs : List Value) (v : Value) (W : World) : Prop := ∃ B, B0 ≤ B ∧ v = .pointer (some ⟨B, 0, none⟩) ∧ W.heap[B]? = some (.cells cs.toArray T)
theorem keeps_newT {B0 T : Nat} {cs : List Value} : Keeps (NewT B0 T cs) := fun _ _ _ ⟨B, h1, h2, h3⟩ hb => ⟨B, h1, h2, (hb.block B (Array.getElem?_eq_some_iff.1 h3).1).trans h3⟩
theorem newT_of {w w' : World} {cs : List Value} {t : TypeId} (hb : Below w.heap.size w w') : Below w'.heap.size w' (w'.alloc (.cells cs.toArray t)) ∧ NewT w.heap.size t cs (.pointer (some ⟨w'.heap.size, 0, none⟩)) (w'.alloc (.cells cs.toArray t)) :=
  ⟨(Below.refl _ _).alloc (Nat.le_refl _) _, w'.heap.size, hb.size, rfl, by rw [World.alloc_heap_new]⟩
theorem newT_cells {T B : Nat} {cs : List Value} {W : World} (h : W.heap[B]? = some (.cells cs.toArray T)) : CellsAt W B cs := fun o u hu => by
  refine ⟨?_, ?_⟩
  · simp only [World.cell?, h]; simpa using hu
  · simp [World.frozen?, h]
theorem newT_apart {T T2 B lo s n : Nat} {cs xs : List Value} {v : Value} {W : World} (h : W.heap[B]? = some (.cells cs.toArray T)) (ho : W.ownsRow lo T2 s v n xs) (hne : T ≠ T2) : v.ownBlock ≠ some B := by
  intro e
  rcases ho.2 with ⟨rfl, _⟩ | ⟨g, cap, cur, rfl, _, hgb, _⟩
  · simp [Value.ownBlock] at e
  · obtain rfl : g = B := by simpa [Value.ownBlock] using e
    rw [h] at hgb
    injection hgb with hgb
    injection hgb with _ e2
    exact hne e2
theorem own_store {W : World} {lo T s n B o : Nat} {v u : Value} {xs : List Value} (h : W.ownsRow lo T s v n xs) (hne : v.ownBlock ≠ some B) : (W.setCell ⟨B, o, none⟩ u).ownsRow lo T s v n xs :=
  h.kept (row := some B) ⟨rfl, rfl, rfl, (KeepsWalks.setCell W _ u).size, fun k _ hk => Below.heap_setCell _ _ _ k (fun e => hk (by rw [e]))⟩ (.inr hne)
theorem exB_small {l : List Sg} (h : listOk l = true) : ∀ s ∈ l, ∀ z ∈ rowG s, I64 z := by
  intro s hs z hz
  have h1 := listOk_all h s hs
  unfold sgOk rgOk at h1
  simp only [Bool.and_eq_true, btw_iff, decide_eq_true_eq] at h1
  unfold rowG at hz
  simp only [List.mem_cons, List.not_mem_nil, or_false] at hz
  rcases hz with rfl | rfl | rfl | rfl | rfl | rfl | rfl | rfl <;> exact I64.mk (by omega) (by omega)

/-- A new slice, by its cells. -/
theorem owns_new {w : World} {lo T n size : Nat} {xs : List Value} (hs : xs.length = n * size) (hn : n ≤ maxLen) (hlo : lo ≤ w.heap.size) : (w.alloc (.cells xs.toArray T)).ownsRow lo T size (.slice (some ⟨w.heap.size, 0, none⟩) n n) n xs := by
  refine ⟨by omega, .inr ⟨w.heap.size, n, xs.toArray, rfl, hlo, heap_alloc_new w _, Nat.le_refl _, hn, by rw [List.size_toArray]; omega, ?_⟩⟩
  show xs.take (n * size) = xs
  rw [← hs, List.take_length]
theorem groupsAt_lists {lo : Nat} {v : Value} {gs : List (List Int)} {W : World} (h : GroupsAt lo v gs W) (hi : ∀ g ∈ gs, ∀ z ∈ g, I64 z) : ListsAt v gs W := by
  obtain ⟨us, h1, h2⟩ := h
  obtain ⟨a, c, rfl, hc⟩ := owns_shape h1
  refine ⟨a, c, rfl, fun k g hg => ?_⟩
  have hk := (List.getElem?_eq_some_iff.1 hg).1
  have hl : us.length = gs.length := by have := h1.1; omega
  have hu : us[k]? = some (us[k]'(by omega)) := List.getElem?_eq_getElem _
  rcases h1.2 with ⟨_, hn⟩ | ⟨B, cap, cur, e, hr⟩
  · omega
  · injection e with e1 e2 e3
    subst e1
    exact ⟨_, rfl, us[k]'(by omega), h1.cells (g := B) rfl k _ hu, numsAt_of_owns (hi g (List.mem_of_getElem? hg)) (h2 k _ g hu hg)⟩
theorem i64_small {z : Int} (h1 : -100000 ≤ z) (h2 : z ≤ 100000) : I64 z := I64.mk (by omega) (by omega)

/-- Numbers that are new. -/
theorem nums_new {w : World} {B T : Nat} {zs : List Int} (hB : w.heap.size = B) (hn : zs.length ≤ 1000) (hi : ∀ z ∈ zs, -100000 ≤ z ∧ z ≤ 100000) :
    NumsAt (w.alloc (.cells (zs.map (Value.int .i64)).toArray T)) (.slice (some ⟨B, 0, none⟩) zs.length zs.length) zs := by
  subst hB
  have h := owns_new (w := w) (lo := 0) (T := T) (n := zs.length) (size := 1) (xs := zs.map (Value.int .i64)) (by simp) (by unfold maxLen; omega) (Nat.zero_le _)
  exact numsAt_of_owns (fun z hz => i64_small (hi z hz).1 (hi z hz).2) h


end Go.Proofs.Ytnchhleokdkejaa
