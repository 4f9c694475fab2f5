/- Putting items into groups. -/
import Derived.Test.YtddffengpgiglaaGreatG26T
import Derived.Test.YtddffengpgiglaaGreatKStayT
import Derived.Test.YtddffengpgiglaaGreatKInRoundT
import Derived.WalkMore
import Derived.Deep.LoopGhost
namespace Go.Proofs.YtddffengpgiglaaGreat
open Go.RowKit Go.Pb Go.Pb.Ware Go.Pb.Sag
set_option linter.unusedVariables false
set_option linter.unusedSimpArgs false

theorem Tryz.infoG : (Tryz.prog.info? 79).map (fun i => (i.zero, i.size, i.bytes)) = some (some (.slice none 0 0), 1, 24) := by kernel_rfl
/-- What put answers: the groups, or that there are none, and the groups are as they were. -/
def PutRes (G : Nat) (gc : List Value) (gs : List (List Int)) (r : Option (List (List Int))) (W : World) (e : Ending) (w' : World) : Prop :=
  Below G W w' ∧ GAt G gc w' ∧ ((∃ rs, r = some rs ∧ e = .returned (.bool true) ∧ PutAt G 79 3 rs w') ∨ (r = none ∧ e = .returned (.bool false) ∧ PutAt G 79 3 gs w'))

set_option maxRecDepth 100000 in
set_option maxHeartbeats 1500000 in
theorem put_any {bid bwi bde bce bhi bbe : Int} {fv : Value} {fs : List Ft} {G most : Nat} (hX : boxOk ⟨bid, bwi, bde, bce, bhi, bbe⟩ = true) (hok : ∀ f ∈ fs, FtOk f) (hn5 : fs.length ≤ 5) (hfv : ∀ b, fv.ownBlock = some b → b < G) (hm5 : most ≤ 5) : ∀ (d i : Nat) (gs : List (List Int)) (w : World), i + d = fs.length → Go.Pb.Sag.Good i gs → gs.length ≤ most → PutAt G 79 3 gs w → GAt G [.int .i64 bid, .int .i64 bwi, .int .i64 bde, .int .i64 bce, .int .i64 bhi, .int .i64 bbe, fv, .int .i64 (most : Int)] w → FeetAt w fv fs →
    Calls Tryz.prog 96 #[.pointer (some ⟨G, 0, none⟩), .int .i64 (i : Int)] w (PutRes G [.int .i64 bid, .int .i64 bwi, .int .i64 bde, .int .i64 bce, .int .i64 bhi, .int .i64 bbe, fv, .int .i64 (most : Int)] gs (putF ⟨bid, bwi, bde, bce, bhi, bbe⟩ fs most d i gs) w) := by
  intro d
  induction d with
  | zero =>
    intro i gs w hi hG hgm hP hgc hl
    obtain rfl : i = fs.length := by omega
    obtain ⟨fa, fc, rfl, hfl⟩ := hl.shape
    rw [List.length_map] at *
    have g0 := (hgc 0 _ rfl).1
    have g1 := (hgc 1 _ rfl).1
    have g2 := (hgc 2 _ rfl).1
    have g3 := (hgc 3 _ rfl).1
    have g4 := (hgc 4 _ rfl).1
    have g5 := (hgc 5 _ rfl).1
    have g6 := (hgc 6 _ rfl).1
    have g7 := (hgc 7 _ rfl).1
    unfold PutRes
    go_enter Tryz.func96, Tryz.ntmps96
    go_wp2_with fail
    go_ret
    exact ⟨Below.refl _ _, hgc, .inl ⟨_, rfl, rfl, hP⟩⟩
  | succ d ih =>
    intro i gs w hi hG hgm hP hgc hl
    obtain ⟨fa, fc, rfl, hfl⟩ := hl.shape
    rw [List.length_map] at *
    have hne : ¬ (i : Int) = (fs.length : Int) := by omega
    have hP0 := hP
    obtain ⟨gv, vs, ⟨c1, c2⟩, ho, hr⟩ := hP
    obtain ⟨ga, gcap, rfl, -⟩ := owns_shape ho
    have g0 := (hgc 0 _ rfl).1
    have g1 := (hgc 1 _ rfl).1
    have g2 := (hgc 2 _ rfl).1
    have g3 := (hgc 3 _ rfl).1
    have g4 := (hgc 4 _ rfl).1
    have g5 := (hgc 5 _ rfl).1
    have g6 := (hgc 6 _ rfl).1
    have g7 := (hgc 7 _ rfl).1
    have HIH := hid ih; clear ih
    obtain ⟨n, hnn⟩ : ∃ n, gs.length = n := ⟨_, rfl⟩
    have HN := hid hnn
    rw [hnn] at ho c1 hgm
    have hni := hG.many
    rw [hnn] at hni
    clear hnn
    have hgs5 : n ≤ 5 := by omega
    unfold PutRes
    go_enter Tryz.func96, Tryz.ntmps96
    go_wp2_with fail
    (try rw [show ((i : Int) == (fs.length : Int)) = false from beq_eq_false_iff_ne.mpr hne])
    go_loopg [18] n (fun gk kv wr => ∃ k : Nat, k ≤ n ∧ gk = n - k ∧ kv = .int .i64 k ∧ PutAt G 79 3 gs wr ∧ GAt G [.int .i64 bid, .int .i64 bwi, .int .i64 bde, .int .i64 bce, .int .i64 bhi, .int .i64 bbe, .slice fa fs.length fc, .int .i64 (most : Int)] wr ∧ Below G w wr ∧ (∀ j, j < k → tryF ⟨bid, bwi, bde, bce, bhi, bbe⟩ fs most d i gs j = none))
    case atStart => exact ⟨0, Nat.zero_le _, rfl, rfl, hP0, hgc, Below.refl _ _, fun j h => by omega⟩
    case round =>
      clear hP0 ho hr c1 c2 g0 g1 g2 g3 g4 g5 g6 g7
      obtain ⟨k, hk, hgk, rfl, hP, hgc2, hB, hT⟩ := hrel
      have HGK := hid hgk; clear hgk
      have HT := hid hT; clear hT
      by_cases hlt : k < n
      · have hki : (k : Int) < (n : Int) := by omega
        obtain ⟨gv2, vs2, c8, ho2, hr2⟩ := hP
        rw [HN.out] at ho2
        obtain ⟨gb, gcap2, rfl, hc1, hc2⟩ := own_some ho2 (by omega)
        obtain ⟨g, hg⟩ : ∃ g, gs[k]? = some g := ⟨_, List.getElem?_eq_getElem (by rw [HN.out]; exact hlt)⟩
        obtain ⟨v, hv⟩ : ∃ v, vs2[k]? = some v := ⟨_, List.getElem?_eq_getElem (by have := ho2.1; omega)⟩
        have hrow := hr2 k v g hv hg
        obtain ⟨x0, hx0⟩ := hG.one k g hg
        have hgl : 0 < g.length := (List.getElem?_eq_some_iff.1 hx0).1
        have hgl2 := hG.len g (List.mem_of_getElem? hg)
        obtain ⟨vb, vc, rfl, hv1, hv2⟩ := own_some hrow hgl
        have hgbG : G + 1 ≤ gb := own_ge ho2 gb rfl
        have hvbG : G + 1 ≤ vb := own_ge hrow vb rfl
        have q0 := c8.1
        have q1 : wr.cell? ⟨gb, k, none⟩ = some (.slice (some ⟨vb, 0, none⟩) g.length vc) := by have h := ho2.cells (g := gb) rfl k _ hv; rw [Go.WideShapes.add_plain, Nat.zero_add] at h; exact h
        obtain ⟨i1, hj, hy0, hy1, hy2⟩ := info_parts Tryz.infoI
        have hGl := World.block_lt_of_cell? wr _ c8.1
        dsimp only at hGl
        clear hx0
        go_upto_region 6 with fail
        refine wp_region_G (fun V => V.cell? ⟨G, 8, none⟩ = some (.slice (some ⟨gb, 0, none⟩) n gcap2)) (fun V hV => bkeep hV q0) [0, 1, 2, 3, 4] (by kernel_rfl) [(13, NewList wr.heap.size 1 [.int .i64 (i : Int)])] [5, 6, 7, 8, 9, 10, 11, 12, 13] 3 (by kernel_rfl) rfl (by simp only [List.forall_mem_cons]; exact ⟨keeps_list, fun _ h => by cases h⟩) (by kernel_rfl) ?_
        refine ⟨_, .pointer (some ⟨G, 0, none⟩), rfl, ⟨rfl, fun V hV => by (try dsimp only at hV); go_simp⟩, ?_⟩
        simp only [Act.put, List.getElem_toArray, List.getElem_cons_succ, List.getElem_cons_zero, List.setIfInBounds_toArray, List.set_cons_succ, List.set_cons_zero]
        refine ⟨_, .pointer (some ⟨G, 0, none⟩), rfl, ⟨rfl, fun V hV => by (try dsimp only at hV); go_simp⟩, ?_⟩
        simp only [Act.put, List.getElem_toArray, List.getElem_cons_succ, List.getElem_cons_zero, List.setIfInBounds_toArray, List.set_cons_succ, List.set_cons_zero]
        refine ⟨_, .pointer (some ⟨G, 8, none⟩), rfl, ⟨rfl, fun V hV => by (try dsimp only at hV); go_simp⟩, ?_⟩
        simp only [Act.put, List.getElem_toArray, List.getElem_cons_succ, List.getElem_cons_zero, List.setIfInBounds_toArray, List.set_cons_succ, List.set_cons_zero]
        refine ⟨_, .slice (some ⟨gb, 0, none⟩) n gcap2, rfl, ⟨rfl, fun V hV => by (try dsimp only at hV); go_simp⟩, ?_⟩
        simp only [Act.put, List.getElem_toArray, List.getElem_cons_succ, List.getElem_cons_zero, List.setIfInBounds_toArray, List.set_cons_succ, List.set_cons_zero]
        refine ⟨_, .int .i64 (k : Int), rfl, ⟨rfl, fun V hV => by (try dsimp only at hV); go_simp⟩, ?_⟩
        simp only [Act.put, List.getElem_toArray, List.getElem_cons_succ, List.getElem_cons_zero, List.setIfInBounds_toArray, List.set_cons_succ, List.set_cons_zero]
        simp only [numbered, List.filterMap_cons, List.filterMap_nil, List.getElem?_toArray, List.getElem?_cons_succ, List.getElem?_cons_zero, Option.map_some]
        show wpS _ _ _ _ _ _ _ [(_, _), (_, _), (_, _), (_, _), (_, _), (_, _), (_, _), (_, _), (_, _)] _ _
        (refine wpS_quiet rfl rfl ?_; intro K hK inst hx; go_big_quiet_op; (first | go_big_quiet_on | (refine ⟨_, fun _ => rfl, ?_⟩; go_big_quiet_on)); clear hx inst)
        (refine wpS_quiet rfl rfl ?_; intro K hK inst hx; go_big_quiet_op; (first | go_big_quiet_on | (refine ⟨_, fun _ => rfl, ?_⟩; go_big_quiet_on)); clear hx inst)
        (refine wpS_quiet rfl rfl ?_; intro K hK inst hx; go_big_quiet_op; (first | go_big_quiet_on | (refine ⟨_, fun _ => rfl, ?_⟩; go_big_quiet_on)); clear hx inst)
        (refine wpS_quiet rfl rfl ?_; intro K hK inst hx; have s0 := fun x => (fun _ => bkeep (BQ.below x) q0) (hx x); have s1 := fun x => (fun _ => bkeep (BQ.below x) q1) (hx x); go_big_quiet_op; (first | go_big_quiet_on | (refine ⟨_, fun _ => rfl, ?_⟩; go_big_quiet_on)); clear hx inst)
        (refine wpS_quiet rfl rfl ?_; intro K hK inst hx; go_big_quiet_op; (first | go_big_quiet_on | (refine ⟨_, fun _ => rfl, ?_⟩; go_big_quiet_on)); clear hx inst)
        (refine wpS_quiet rfl rfl ?_; intro K hK inst hx; go_big_quiet_op; (first | go_big_quiet_on | (refine ⟨_, fun _ => rfl, ?_⟩; go_big_quiet_on)); clear hx inst)
        (refine wpS_quiet rfl rfl ?_; intro K hK inst hx; have s0 := fun x => (fun _ => bkeep (BQ.below x) q0) (hx x); have s1 := fun x => (fun _ => bkeep (BQ.below x) q1) (hx x); go_big_quiet_op; (first | go_big_quiet_on | (refine ⟨_, fun _ => rfl, ?_⟩; go_big_quiet_on)); clear hx inst)
        (refine wpS_quiet rfl rfl ?_; intro K hK inst hx; go_big_quiet_op; (first | go_big_quiet_on | (refine ⟨_, fun _ => rfl, ?_⟩; go_big_quiet_on)); clear hx inst)
        refine wpS_fresh rfl rfl (fun w' hb hF => ?_) ?_
        · change freshAt _ _ _ (NewList wr.heap.size 1 [.int .i64 (i : Int)]) _; unfold freshAt; go_simp; exact list_of hb
        intro v W hv; simp only [pOf, List.lookup_cons, Nat.reduceBEq, beq_self_eq_true] at hv; obtain ⟨B13, hB13, rfl, -⟩ := hv
        simp only [Act.put, List.setIfInBounds_toArray, List.set_cons_succ, List.set_cons_zero]
        refine wpS_nil ?_
        intro w2 hall
        have hb := hall.1
        have h51 : NewList wr.heap.size 1 [.int .i64 (i : Int)] _ w2 := hall.2 13 _ rfl
        obtain ⟨B', hB', hv', hn'⟩ := h51
        obtain rfl : B13 = B' := by simpa using hv'
        clear hall
        have hown2 := owns_below hrow hb
        have x2 : (fun V => V.cell? ⟨G, 8, none⟩ = some (.slice (some ⟨gb, 0, none⟩) n gcap2)) w2 := bkeep hb q0
        refine wpAnyC_op (r := 14) x2 (by kernel_rfl) rfl rfl (fun K hK => ?_)
        refine wp_append_own w2 (.tmp 32) (.tmp 34) 79 rfl (G + 1) 3 i1 (.int .i64 0) 1 8 Tryz.underlying79 hj hy0 hy1 hy2 rfl (by decide) (.slice (some ⟨vb, 0, none⟩) g.length vc) g.length _ rfl hown2 ⟨B13, 0, none⟩ 1 1 [.int .i64 (i : Int)] rfl rfl (fun j u h => by rw [Go.WideShapes.add_plain, Nat.zero_add]; exact (hn' j u h).1) (fun u h => by simp only [List.mem_cons, List.not_mem_nil, or_false] at h; rcases h with rfl; rfl) (by unfold maxLen; omega) (by omega) (by have := hb.size; omega) ?_
        intro v35 w3 ho3 hg3 hnil3
        refine hK _ _ ?_
        clear hK K hnil3
        obtain ⟨⟨p0, p1⟩, hP2, hB2⟩ := PutAt.push (TO := 79) (TI := 3) (by decide) hG hg hv ⟨c8.1.trans (by rw [HN.out]), c8.2⟩ (by rw [HN.out]; exact ho2) hr2 hb hg3 ho3
        obtain ⟨xa, xc, rfl, -⟩ := owns_shape ho3
        have x3 : (fun V => V.cell? ⟨G, 8, none⟩ = some (.slice (some ⟨gb, 0, none⟩) n gcap2)) w3 := grown_kept hg3 x2 (fun e => by have := own_ge hrow _ e.symm; omega)
        refine wpAnyC_op (r := 15) x3 (by kernel_rfl) rfl rfl (fun K hK => ?_)
        go_simp
        refine hK _ _ ?_; clear hK K
        refine wpAnyC_op (r := 16) x3 (by kernel_rfl) rfl rfl (fun K hK => ?_)
        go_simp
        refine hK _ _ ?_; clear hK K
        refine wpAnyC_end (setc_block x3 (by omega)) (by kernel_rfl) ?_
        refine ⟨rfl, ?_⟩
        generalize hW4 : w3.setCell ⟨gb, k, none⟩ (.slice xa (g.length + 1) xc) = W4 at *
        have hgc4 := hgc2.below hB2
        have hB4 : Below G w W4 := hB.trans (hB2.mono (by omega))
        have hl4 : FeetAt W4 (.slice fa fs.length fc) fs := rows_belowB hl hfv hB4
        have hG2 := hG.push hg
        have hgk := (List.getElem?_eq_some_iff.1 hg).1
        have hg2 : (gs.set k (g ++ [(i : Int)]))[k]? = some (g ++ [(i : Int)]) := List.getElem?_set_self hgk
        have hl2 : (gs.set k (g ++ [(i : Int)])).length = n := by rw [List.length_set]; exact HN.out
        have htry : tryF ⟨bid, bwi, bde, bce, bhi, bbe⟩ fs most d i gs k = if fitsB ⟨bid, bwi, bde, bce, bhi, bbe⟩ (chosenL fs (g ++ [(i : Int)])) = true then putF ⟨bid, bwi, bde, bce, bhi, bbe⟩ fs most d (i + 1) (gs.set k (g ++ [(i : Int)])) else none := by unfold tryF; rw [List.getD_eq_getElem?_getD, hg]; rfl
        have hP3 := hP2
        obtain ⟨gv3, vs3, d8, ho4, hr4⟩ := hP2
        rw [hl2] at ho4
        obtain ⟨gb3, gcap3, rfl, hd1, hd2⟩ := own_some ho4 (by omega)
        obtain ⟨v3, hv3⟩ : ∃ v, vs3[k]? = some v := ⟨_, List.getElem?_eq_getElem (by have := ho4.1; omega)⟩
        have hrow3 := hr4 k v3 _ hv3 hg2
        have hlg2 : (g ++ [(i : Int)]).length = g.length + 1 := by simp
        obtain ⟨g2, hg2e⟩ : ∃ x, g ++ [(i : Int)] = x := ⟨_, rfl⟩
        obtain ⟨gs2, hgs2e⟩ : ∃ x, gs.set k (g ++ [(i : Int)]) = x := ⟨_, rfl⟩
        rw [hgs2e] at hG2 hg2 hl2 htry hr4 hP3
        rw [hg2e] at hg2 hrow3 hlg2 htry
        obtain ⟨vb3, vc3, rfl, he1, he2⟩ := own_some hrow3 (by omega)
        have hnum := numsAt_of_owns (fun z hz => by have := hG2.lt g2 (List.mem_of_getElem? hg2) z hz; exact I64.mk (by omega) (by omega)) hrow3
        have hz2 : ∀ z ∈ g2, 0 ≤ z ∧ z < (fs.length : Int) := fun z hz => by have := hG2.lt g2 (List.mem_of_getElem? hg2) z hz; omega
        have hok2 := chosen_ok hok hz2
        have hcl : (chosenL fs g2).length ≤ 5 := by unfold chosenL; rw [List.length_map]; have := hG2.len g2 (List.mem_of_getElem? hg2); omega
        obtain ⟨b, hbb⟩ : ∃ b, fitsB ⟨bid, bwi, bde, bce, bhi, bbe⟩ (chosenL fs g2) = b := ⟨_, rfl⟩
        rw [hbb] at htry
        obtain ⟨cs, hcs⟩ : ∃ cs, chosenL fs g2 = cs := ⟨_, rfl⟩
        rw [hcs] at hbb hok2 hcl
        have hch : ∀ W' : World, Below W4.heap.size W4 W' → Calls Tryz.prog 93 #[.slice fa fs.length fc, .slice (some ⟨vb3, 0, none⟩) g2.length vc3] W' (fun e w'' => ∃ u, e = .returned u ∧ Below W'.heap.size W' w'' ∧ w''.ownsRow W4.heap.size 54 4 u cs.length (cs.flatMap cellsF)) := fun W' hb => by
          rw [← hcs]; refine (chosen_any (hl4.below hb) (by omega) (hnum.below hb) (by omega) hz2).mono ?_
          rintro e w'' ⟨u, rfl, h2, h3⟩
          exact ⟨u, rfl, h2, owns_base hb.size h3⟩
        have hfi : ∀ (W' : World) (u : Value), W'.ownsRow W4.heap.size 54 4 u cs.length (cs.flatMap cellsF) → Calls Tryz.prog 89 #[.agg #[.int .i64 bid, .int .i64 bwi, .int .i64 bde, .int .i64 bce, .int .i64 bhi, .int .i64 bbe], u] W' (Ret W' (.bool b)) := fun W' u h => fits_any hbb hX (feetAt_of_owns hok2 h) hok2 hcl
        have HLG := hid hlg2; clear hlg2
        have HCH := hid hch; have HFI := hid hfi; have HTR := hid htry; have HR4 := hid hr4; have HGS := hid hgs2e; have HG2 := hid hg2e; clear hch hfi htry hr4 hcs hbb hok2 hcl hz2 hnum hgs2e hg2e hr2 hrow ho2 hb hg3 ho3 hn' hv' hv hW4
        have y0 := (hgc4 0 _ rfl).1
        have y1 := (hgc4 1 _ rfl).1
        have y2 := (hgc4 2 _ rfl).1
        have y3 := (hgc4 3 _ rfl).1
        have y4 := (hgc4 4 _ rfl).1
        have y5 := (hgc4 5 _ rfl).1
        have y6 := (hgc4 6 _ rfl).1
        have y7 := (hgc4 7 _ rfl).1
        have y8 := d8.1
        have y9 : W4.cell? ⟨gb3, k, none⟩ = some (.slice (some ⟨vb3, 0, none⟩) g2.length vc3) := by have h := ho4.cells (g := gb3) rfl k _ hv3; rw [Go.WideShapes.add_plain, Nat.zero_add] at h; exact h
        clear q0 q1 p0 p1 x2 x3 c8
        cases b
        · go_upto_region 7 with fail
          refine wp_region_Rs [(15, fun v W => W.ownsRow W4.heap.size 54 4 v cs.length (cs.flatMap cellsF)), (16, fun v _ => v = .bool false), (21, fun v _ => v = undef)] [0, 1, 2, 3, 4, 5, 6, 7, 8, 9, 10, 11, 12, 13, 14, 15, 16, 17, 18, 19, 20, 21, 22] 0 (by kernel_rfl) rfl (by simp only [List.forall_mem_cons]; exact ⟨keeps_owns, keeps_eq, keeps_eq, fun _ h => by cases h⟩) (by kernel_rfl) ?_
          simp only [numbered, List.filterMap_cons, List.filterMap_nil, List.getElem?_toArray, List.getElem?_cons_succ, List.getElem?_cons_zero, Option.map_some]
          show wpS _ _ _ _ _ _ _ [(_, _), (_, _), (_, _), (_, _), (_, _), (_, _), (_, _), (_, _), (_, _), (_, _), (_, _), (_, _), (_, _), (_, _), (_, _), (_, _), (_, _), (_, _), (_, _), (_, _), (_, _), (_, _), (_, _)] _ _
          (refine wpS_quiet rfl rfl ?_; intro K hK inst hx; go_big_quiet_op; (first | go_big_quiet_on | (refine ⟨_, fun _ => rfl, ?_⟩; go_big_quiet_on)); clear hx inst)
          (refine wpS_quiet rfl rfl ?_; intro K hK inst hx; go_big_quiet_op; (first | go_big_quiet_on | (refine ⟨_, fun _ => rfl, ?_⟩; go_big_quiet_on)); clear hx inst)
          (refine wpS_quiet rfl rfl ?_; intro K hK inst hx; go_big_quiet_op; (first | go_big_quiet_on | (refine ⟨_, fun _ => rfl, ?_⟩; go_big_quiet_on)); clear hx inst)
          (refine wpS_quiet rfl rfl ?_; intro K hK inst hx; have s0 := fun x => (fun _ => bkeep (BQ.below x) y0) (hx x); have s1 := fun x => (fun _ => bkeep (BQ.below x) y1) (hx x); have s2 := fun x => (fun _ => bkeep (BQ.below x) y2) (hx x); have s3 := fun x => (fun _ => bkeep (BQ.below x) y3) (hx x); have s4 := fun x => (fun _ => bkeep (BQ.below x) y4) (hx x); have s5 := fun x => (fun _ => bkeep (BQ.below x) y5) (hx x); have s6 := fun x => (fun _ => bkeep (BQ.below x) y6) (hx x); have s7 := fun x => (fun _ => bkeep (BQ.below x) y7) (hx x); have s8 := fun x => (fun _ => bkeep (BQ.below x) y8) (hx x); have s9 := fun x => (fun _ => bkeep (BQ.below x) y9) (hx x); go_big_quiet_op; (first | go_big_quiet_on | (refine ⟨_, fun _ => rfl, ?_⟩; go_big_quiet_on)); clear hx inst)
          (refine wpS_quiet rfl rfl ?_; intro K hK inst hx; go_big_quiet_op; (first | go_big_quiet_on | (refine ⟨_, fun _ => rfl, ?_⟩; go_big_quiet_on)); clear hx inst)
          (refine wpS_quiet rfl rfl ?_; intro K hK inst hx; go_big_quiet_op; (first | go_big_quiet_on | (refine ⟨_, fun _ => rfl, ?_⟩; go_big_quiet_on)); clear hx inst)
          (refine wpS_quiet rfl rfl ?_; intro K hK inst hx; go_big_quiet_op; (first | go_big_quiet_on | (refine ⟨_, fun _ => rfl, ?_⟩; go_big_quiet_on)); clear hx inst)
          (refine wpS_quiet rfl rfl ?_; intro K hK inst hx; have s0 := fun x => (fun _ => bkeep (BQ.below x) y0) (hx x); have s1 := fun x => (fun _ => bkeep (BQ.below x) y1) (hx x); have s2 := fun x => (fun _ => bkeep (BQ.below x) y2) (hx x); have s3 := fun x => (fun _ => bkeep (BQ.below x) y3) (hx x); have s4 := fun x => (fun _ => bkeep (BQ.below x) y4) (hx x); have s5 := fun x => (fun _ => bkeep (BQ.below x) y5) (hx x); have s6 := fun x => (fun _ => bkeep (BQ.below x) y6) (hx x); have s7 := fun x => (fun _ => bkeep (BQ.below x) y7) (hx x); have s8 := fun x => (fun _ => bkeep (BQ.below x) y8) (hx x); have s9 := fun x => (fun _ => bkeep (BQ.below x) y9) (hx x); go_big_quiet_op; (first | go_big_quiet_on | (refine ⟨_, fun _ => rfl, ?_⟩; go_big_quiet_on)); clear hx inst)
          (refine wpS_quiet rfl rfl ?_; intro K hK inst hx; go_big_quiet_op; (first | go_big_quiet_on | (refine ⟨_, fun _ => rfl, ?_⟩; go_big_quiet_on)); clear hx inst)
          (refine wpS_quiet rfl rfl ?_; intro K hK inst hx; go_big_quiet_op; (first | go_big_quiet_on | (refine ⟨_, fun _ => rfl, ?_⟩; go_big_quiet_on)); clear hx inst)
          (refine wpS_quiet rfl rfl ?_; intro K hK inst hx; go_big_quiet_op; (first | go_big_quiet_on | (refine ⟨_, fun _ => rfl, ?_⟩; go_big_quiet_on)); clear hx inst)
          (refine wpS_quiet rfl rfl ?_; intro K hK inst hx; have s0 := fun x => (fun _ => bkeep (BQ.below x) y0) (hx x); have s1 := fun x => (fun _ => bkeep (BQ.below x) y1) (hx x); have s2 := fun x => (fun _ => bkeep (BQ.below x) y2) (hx x); have s3 := fun x => (fun _ => bkeep (BQ.below x) y3) (hx x); have s4 := fun x => (fun _ => bkeep (BQ.below x) y4) (hx x); have s5 := fun x => (fun _ => bkeep (BQ.below x) y5) (hx x); have s6 := fun x => (fun _ => bkeep (BQ.below x) y6) (hx x); have s7 := fun x => (fun _ => bkeep (BQ.below x) y7) (hx x); have s8 := fun x => (fun _ => bkeep (BQ.below x) y8) (hx x); have s9 := fun x => (fun _ => bkeep (BQ.below x) y9) (hx x); go_big_quiet_op; (first | go_big_quiet_on | (refine ⟨_, fun _ => rfl, ?_⟩; go_big_quiet_on)); clear hx inst)
          (refine wpS_quiet rfl rfl ?_; intro K hK inst hx; go_big_quiet_op; (first | go_big_quiet_on | (refine ⟨_, fun _ => rfl, ?_⟩; go_big_quiet_on)); clear hx inst)
          (refine wpS_quiet rfl rfl ?_; intro K hK inst hx; go_big_quiet_op; (first | go_big_quiet_on | (refine ⟨_, fun _ => rfl, ?_⟩; go_big_quiet_on)); clear hx inst)
          (refine wpS_quiet rfl rfl ?_; intro K hK inst hx; have s0 := fun x => (fun _ => bkeep (BQ.below x) y0) (hx x); have s1 := fun x => (fun _ => bkeep (BQ.below x) y1) (hx x); have s2 := fun x => (fun _ => bkeep (BQ.below x) y2) (hx x); have s3 := fun x => (fun _ => bkeep (BQ.below x) y3) (hx x); have s4 := fun x => (fun _ => bkeep (BQ.below x) y4) (hx x); have s5 := fun x => (fun _ => bkeep (BQ.below x) y5) (hx x); have s6 := fun x => (fun _ => bkeep (BQ.below x) y6) (hx x); have s7 := fun x => (fun _ => bkeep (BQ.below x) y7) (hx x); have s8 := fun x => (fun _ => bkeep (BQ.below x) y8) (hx x); have s9 := fun x => (fun _ => bkeep (BQ.below x) y9) (hx x); go_big_quiet_op; (first | go_big_quiet_on | (refine ⟨_, fun _ => rfl, ?_⟩; go_big_quiet_on)); clear hx inst)
          refine wpS_fresh rfl rfl (fun w' hb hF => ?_) ?_
          · change freshAt _ _ _ (fun v W => W.ownsRow W4.heap.size 54 4 v cs.length (cs.flatMap cellsF)) _; unfold freshAt; go_simp; exact HCH.out _ hb
          intro v W hv; simp only [pOf, List.lookup_cons, Nat.reduceBEq, beq_self_eq_true] at hv; obtain ⟨ca, cc, rfl, -⟩ := owns_shape hv
          simp only [Act.put, List.setIfInBounds_toArray, List.set_cons_succ, List.set_cons_zero]
          refine wpS_fresh rfl rfl (fun w' hb hF => ?_) ?_
          · change freshAt _ _ _ (fun v _ => v = .bool false) _; have h4 := hF 15 _ rfl (by kernel_rfl); unfold freshAt; go_simp; exact HFI.out _ _ h4
          intro v W hv; simp only [pOf, List.lookup_cons, Nat.reduceBEq, beq_self_eq_true] at hv; subst hv
          simp only [Act.put, List.setIfInBounds_toArray, List.set_cons_succ, List.set_cons_zero]
          (refine wpS_quiet rfl rfl ?_; intro K hK inst hx; go_big_quiet_op; (first | go_big_quiet_on | (refine ⟨_, fun _ => rfl, ?_⟩; go_big_quiet_on)); clear hx inst)
          refine wpS_skip rfl ?_
          refine wpS_skip rfl ?_
          refine wpS_skip rfl ?_
          refine wpS_skip rfl ?_; simp only [Act.put, List.setIfInBounds_toArray, List.set_cons_succ, List.set_cons_zero]
          skip
          skip
          skip
          (refine wpS_quiet rfl rfl ?_; intro K hK inst hx; go_big_quiet_op; (first | go_big_quiet_on | (refine ⟨_, fun _ => rfl, ?_⟩; go_big_quiet_on)); clear hx inst)
          refine wpS_nil ?_
          intro w5 hall
          have hb := hall.1
          clear hall
          refine wpAny_done (by kernel_rfl) ?_ _
          have hsz4 : G + 1 ≤ W4.heap.size := by have := World.block_lt_of_cell? W4 _ d8.1; dsimp only at this; omega
          have hP5 := hP3.next hb
          have hgc5 := hgc4.below (hb.mono hsz4)
          have hB5 : Below G w w5 := hB4.trans (hb.mono (by omega))
          have hTk : tryF ⟨bid, bwi, bde, bce, bhi, bbe⟩ fs most d i gs k = none := by rw [HTR.out]; rfl
          have HTK := hid hTk; clear hTk y0 y1 y2 y3 y4 y5 y6 y7 y8 y9 hP3 hgc4 hl4 hb ho4 d8 hB4
          obtain ⟨gv6, vs6, e8, ho6, hr6⟩ := hP5
          rw [hl2] at ho6
          obtain ⟨gb6, gcap6, rfl, hf1, hf2⟩ := own_some ho6 (by omega)
          obtain ⟨v6, hv6⟩ : ∃ v, vs6[k]? = some v := ⟨_, List.getElem?_eq_getElem (by have := ho6.1; omega)⟩
          have hrow6 := hr6 k v6 _ hv6 hg2
          rw [HLG.out] at hrow6
          obtain ⟨vb6, vc6, rfl, hk1, hk2⟩ := own_some hrow6 (by omega)
          have z8 := e8.1
          have z9 : w5.cell? ⟨gb6, k, none⟩ = some (.slice (some ⟨vb6, 0, none⟩) (g.length + 1) vc6) := by have h := ho6.cells (g := gb6) rfl k _ hv6; rw [Go.WideShapes.add_plain, Nat.zero_add] at h; exact h
          have z10 := owns_frozen ho6 rfl k
          have hgi : (0 : Int) ≤ (g.length : Int) := by omega
          have hgv : (g.length : Int) ≤ (vc6 : Int) := by omega
          rw [← HGS.out] at hr6
          have HR6 := hid hr6; clear hr6 hrow6
          go_upto_region 9 with fail
          refine wp_region_Rs [] [0, 1, 2, 3, 4, 5, 6, 7, 8, 9, 10, 11, 12, 13, 14, 15, 16, 17, 18, 19, 20, 21, 22] 1 (by kernel_rfl) rfl (fun _ h => by cases h) (by kernel_rfl) ?_
          simp only [numbered, List.filterMap_cons, List.filterMap_nil, List.getElem?_toArray, List.getElem?_cons_succ, List.getElem?_cons_zero, Option.map_some]
          show wpS _ _ _ _ _ _ _ [(_, _), (_, _), (_, _), (_, _), (_, _), (_, _), (_, _), (_, _), (_, _), (_, _), (_, _), (_, _), (_, _), (_, _), (_, _), (_, _), (_, _), (_, _), (_, _), (_, _), (_, _), (_, _), (_, _)] _ _
          (refine wpS_quiet rfl rfl ?_; intro K hK inst hx; go_big_quiet_op; (first | go_big_quiet_on | (refine ⟨_, fun _ => rfl, ?_⟩; go_big_quiet_on)); clear hx inst)
          (refine wpS_quiet rfl rfl ?_; intro K hK inst hx; go_big_quiet_op; (first | go_big_quiet_on | (refine ⟨_, fun _ => rfl, ?_⟩; go_big_quiet_on)); clear hx inst)
          (refine wpS_quiet rfl rfl ?_; intro K hK inst hx; go_big_quiet_op; (first | go_big_quiet_on | (refine ⟨_, fun _ => rfl, ?_⟩; go_big_quiet_on)); clear hx inst)
          (refine wpS_quiet rfl rfl ?_; intro K hK inst hx; have s0 := fun x => (fun _ => bkeep (BQ.below x) z8) (hx x); have s1 := fun x => (fun _ => bkeep (BQ.below x) z9) (hx x); go_big_quiet_op; (first | go_big_quiet_on | (refine ⟨_, fun _ => rfl, ?_⟩; go_big_quiet_on)); clear hx inst)
          (refine wpS_quiet rfl rfl ?_; intro K hK inst hx; go_big_quiet_op; (first | go_big_quiet_on | (refine ⟨_, fun _ => rfl, ?_⟩; go_big_quiet_on)); clear hx inst)
          (refine wpS_quiet rfl rfl ?_; intro K hK inst hx; go_big_quiet_op; (first | go_big_quiet_on | (refine ⟨_, fun _ => rfl, ?_⟩; go_big_quiet_on)); clear hx inst)
          (refine wpS_quiet rfl rfl ?_; intro K hK inst hx; go_big_quiet_op; (first | go_big_quiet_on | (refine ⟨_, fun _ => rfl, ?_⟩; go_big_quiet_on)); clear hx inst)
          (refine wpS_quiet rfl rfl ?_; intro K hK inst hx; go_big_quiet_op; (first | go_big_quiet_on | (refine ⟨_, fun _ => rfl, ?_⟩; go_big_quiet_on)); clear hx inst)
          (refine wpS_quiet rfl rfl ?_; intro K hK inst hx; have s0 := fun x => (fun _ => bkeep (BQ.below x) z8) (hx x); have s1 := fun x => (fun _ => bkeep (BQ.below x) z9) (hx x); go_big_quiet_op; (first | go_big_quiet_on | (refine ⟨_, fun _ => rfl, ?_⟩; go_big_quiet_on)); clear hx inst)
          (refine wpS_quiet rfl rfl ?_; intro K hK inst hx; go_big_quiet_op; (first | go_big_quiet_on | (refine ⟨_, fun _ => rfl, ?_⟩; go_big_quiet_on)); clear hx inst)
          (refine wpS_quiet rfl rfl ?_; intro K hK inst hx; go_big_quiet_op; (first | go_big_quiet_on | (refine ⟨_, fun _ => rfl, ?_⟩; go_big_quiet_on)); clear hx inst)
          (refine wpS_quiet rfl rfl ?_; intro K hK inst hx; have s0 := fun x => (fun _ => bkeep (BQ.below x) z8) (hx x); have s1 := fun x => (fun _ => bkeep (BQ.below x) z9) (hx x); go_big_quiet_op; (first | go_big_quiet_on | (refine ⟨_, fun _ => rfl, ?_⟩; go_big_quiet_on)); clear hx inst)
          (refine wpS_quiet rfl rfl ?_; intro K hK inst hx; go_big_quiet_op; (first | go_big_quiet_on | (refine ⟨_, fun _ => rfl, ?_⟩; go_big_quiet_on)); clear hx inst)
          (refine wpS_quiet rfl rfl ?_; intro K hK inst hx; go_big_quiet_op; (first | go_big_quiet_on | (refine ⟨_, fun _ => rfl, ?_⟩; go_big_quiet_on)); clear hx inst)
          (refine wpS_quiet rfl rfl ?_; intro K hK inst hx; go_big_quiet_op; (first | go_big_quiet_on | (refine ⟨_, fun _ => rfl, ?_⟩; go_big_quiet_on)); clear hx inst)
          (refine wpS_quiet rfl rfl ?_; intro K hK inst hx; have s0 := fun x => (fun _ => bkeep (BQ.below x) z8) (hx x); have s1 := fun x => (fun _ => bkeep (BQ.below x) z9) (hx x); go_big_quiet_op; (first | go_big_quiet_on | (refine ⟨_, fun _ => rfl, ?_⟩; go_big_quiet_on)); clear hx inst)
          (refine wpS_quiet rfl rfl ?_; intro K hK inst hx; go_big_quiet_op; (first | go_big_quiet_on | (refine ⟨_, fun _ => rfl, ?_⟩; go_big_quiet_on)); clear hx inst)
          (refine wpS_quiet rfl rfl ?_; intro K hK inst hx; go_big_quiet_op; (first | go_big_quiet_on | (refine ⟨_, fun _ => rfl, ?_⟩; go_big_quiet_on)); clear hx inst)
          (refine wpS_quiet rfl rfl ?_; intro K hK inst hx; have s0 := fun x => (fun _ => bkeep (BQ.below x) z8) (hx x); have s1 := fun x => (fun _ => bkeep (BQ.below x) z9) (hx x); go_big_quiet_op; (first | go_big_quiet_on | (refine ⟨_, fun _ => rfl, ?_⟩; go_big_quiet_on)); clear hx inst)
          (refine wpS_quiet rfl rfl ?_; intro K hK inst hx; go_big_quiet_op; (first | go_big_quiet_on | (refine ⟨_, fun _ => rfl, ?_⟩; go_big_quiet_on)); clear hx inst)
          (refine wpS_quiet rfl rfl ?_; intro K hK inst hx; go_big_quiet_op; (first | go_big_quiet_on | (refine ⟨_, fun _ => rfl, ?_⟩; go_big_quiet_on)); clear hx inst)
          (refine wpS_quiet rfl rfl ?_; intro K hK inst hx; go_big_quiet_op; (first | go_big_quiet_on | (refine ⟨_, fun _ => rfl, ?_⟩; go_big_quiet_on)); clear hx inst)
          (refine wpS_quiet rfl rfl ?_; intro K hK inst hx; go_big_quiet_op; (first | go_big_quiet_on | (refine ⟨_, fun _ => rfl, ?_⟩; go_big_quiet_on)); clear hx inst)
          refine wpS_nil ?_
          intro w7 hall
          have hb := hall.1
          clear hall
          have p8 := bkeep hb z9; have p9 := bfree hb z9 z10
          refine wpAny_ready (rs := [23]) (by kernel_rfl) (by simp) ?_
          refine AllReady.cons rfl (fun K hK => ?_) AllReady.nil
          go_simp
          refine hK _ _ ?_; clear hK K
          refine wpAny_done (by kernel_rfl) ?_ _
          obtain ⟨hP7, hB7⟩ := PutAt.pop (TO := 79) (TI := 3) (i := i) (by decide) hg HN.out ⟨bkeep hb e8.1, bfree hb e8.1 e8.2⟩ (owns_below ho6 hb) (fun j u h h1 h2 => owns_below (HR6.out j u h h1 h2) hb) (by rw [hv6])
          generalize hW8 : w7.setCell ⟨gb6, k, none⟩ (.slice (some ⟨vb6, 0, none⟩) g.length vc6) = W8 at *
          have hsz6 : G + 1 ≤ w5.heap.size := by have := World.block_lt_of_cell? w5 _ e8.1; dsimp only at this; omega
          have hB8 : Below (G + 1) w5 W8 := (hb.mono hsz6).trans hB7
          have hgc8 := hgc5.below hB8
          have hB9 : Below G w W8 := hB5.trans (hB8.mono (by omega))
          clear hW8 hb z8 z9 z10 p8 p9 e8 ho6 hv6
          go_wp2_with fail
          go_roundg (n - (k + 1))
          case measure => have h := HGK.out; omega
          case rel => exact ⟨k + 1, by omega, rfl, by go_num, hP7, hgc8, hB9, fun j hj => by (rcases Nat.lt_or_ge j k with h3 | h3); exact HT.out j h3; rw [show j = k by omega]; exact HTK.out⟩
        · go_upto_region 7 with fail
          refine wp_region_Rs [(15, fun v W => W.ownsRow W4.heap.size 54 4 v cs.length (cs.flatMap cellsF)), (16, fun v _ => v = .bool true)] [0, 1, 2, 3, 4, 5, 6, 7, 8, 9, 10, 11, 12, 13, 14, 15, 16, 17, 18, 19, 20] 2 (by kernel_rfl) rfl (by simp only [List.forall_mem_cons]; exact ⟨keeps_owns, keeps_eq, fun _ h => by cases h⟩) (by kernel_rfl) ?_
          simp only [numbered, List.filterMap_cons, List.filterMap_nil, List.getElem?_toArray, List.getElem?_cons_succ, List.getElem?_cons_zero, Option.map_some]
          show wpS _ _ _ _ _ _ _ [(_, _), (_, _), (_, _), (_, _), (_, _), (_, _), (_, _), (_, _), (_, _), (_, _), (_, _), (_, _), (_, _), (_, _), (_, _), (_, _), (_, _), (_, _), (_, _), (_, _), (_, _)] _ _
          (refine wpS_quiet rfl rfl ?_; intro K hK inst hx; go_big_quiet_op; (first | go_big_quiet_on | (refine ⟨_, fun _ => rfl, ?_⟩; go_big_quiet_on)); clear hx inst)
          (refine wpS_quiet rfl rfl ?_; intro K hK inst hx; go_big_quiet_op; (first | go_big_quiet_on | (refine ⟨_, fun _ => rfl, ?_⟩; go_big_quiet_on)); clear hx inst)
          (refine wpS_quiet rfl rfl ?_; intro K hK inst hx; go_big_quiet_op; (first | go_big_quiet_on | (refine ⟨_, fun _ => rfl, ?_⟩; go_big_quiet_on)); clear hx inst)
          (refine wpS_quiet rfl rfl ?_; intro K hK inst hx; have s0 := fun x => (fun _ => bkeep (BQ.below x) y0) (hx x); have s1 := fun x => (fun _ => bkeep (BQ.below x) y1) (hx x); have s2 := fun x => (fun _ => bkeep (BQ.below x) y2) (hx x); have s3 := fun x => (fun _ => bkeep (BQ.below x) y3) (hx x); have s4 := fun x => (fun _ => bkeep (BQ.below x) y4) (hx x); have s5 := fun x => (fun _ => bkeep (BQ.below x) y5) (hx x); have s6 := fun x => (fun _ => bkeep (BQ.below x) y6) (hx x); have s7 := fun x => (fun _ => bkeep (BQ.below x) y7) (hx x); have s8 := fun x => (fun _ => bkeep (BQ.below x) y8) (hx x); have s9 := fun x => (fun _ => bkeep (BQ.below x) y9) (hx x); go_big_quiet_op; (first | go_big_quiet_on | (refine ⟨_, fun _ => rfl, ?_⟩; go_big_quiet_on)); clear hx inst)
          (refine wpS_quiet rfl rfl ?_; intro K hK inst hx; go_big_quiet_op; (first | go_big_quiet_on | (refine ⟨_, fun _ => rfl, ?_⟩; go_big_quiet_on)); clear hx inst)
          (refine wpS_quiet rfl rfl ?_; intro K hK inst hx; go_big_quiet_op; (first | go_big_quiet_on | (refine ⟨_, fun _ => rfl, ?_⟩; go_big_quiet_on)); clear hx inst)
          (refine wpS_quiet rfl rfl ?_; intro K hK inst hx; go_big_quiet_op; (first | go_big_quiet_on | (refine ⟨_, fun _ => rfl, ?_⟩; go_big_quiet_on)); clear hx inst)
          (refine wpS_quiet rfl rfl ?_; intro K hK inst hx; have s0 := fun x => (fun _ => bkeep (BQ.below x) y0) (hx x); have s1 := fun x => (fun _ => bkeep (BQ.below x) y1) (hx x); have s2 := fun x => (fun _ => bkeep (BQ.below x) y2) (hx x); have s3 := fun x => (fun _ => bkeep (BQ.below x) y3) (hx x); have s4 := fun x => (fun _ => bkeep (BQ.below x) y4) (hx x); have s5 := fun x => (fun _ => bkeep (BQ.below x) y5) (hx x); have s6 := fun x => (fun _ => bkeep (BQ.below x) y6) (hx x); have s7 := fun x => (fun _ => bkeep (BQ.below x) y7) (hx x); have s8 := fun x => (fun _ => bkeep (BQ.below x) y8) (hx x); have s9 := fun x => (fun _ => bkeep (BQ.below x) y9) (hx x); go_big_quiet_op; (first | go_big_quiet_on | (refine ⟨_, fun _ => rfl, ?_⟩; go_big_quiet_on)); clear hx inst)
          (refine wpS_quiet rfl rfl ?_; intro K hK inst hx; go_big_quiet_op; (first | go_big_quiet_on | (refine ⟨_, fun _ => rfl, ?_⟩; go_big_quiet_on)); clear hx inst)
          (refine wpS_quiet rfl rfl ?_; intro K hK inst hx; go_big_quiet_op; (first | go_big_quiet_on | (refine ⟨_, fun _ => rfl, ?_⟩; go_big_quiet_on)); clear hx inst)
          (refine wpS_quiet rfl rfl ?_; intro K hK inst hx; go_big_quiet_op; (first | go_big_quiet_on | (refine ⟨_, fun _ => rfl, ?_⟩; go_big_quiet_on)); clear hx inst)
          (refine wpS_quiet rfl rfl ?_; intro K hK inst hx; have s0 := fun x => (fun _ => bkeep (BQ.below x) y0) (hx x); have s1 := fun x => (fun _ => bkeep (BQ.below x) y1) (hx x); have s2 := fun x => (fun _ => bkeep (BQ.below x) y2) (hx x); have s3 := fun x => (fun _ => bkeep (BQ.below x) y3) (hx x); have s4 := fun x => (fun _ => bkeep (BQ.below x) y4) (hx x); have s5 := fun x => (fun _ => bkeep (BQ.below x) y5) (hx x); have s6 := fun x => (fun _ => bkeep (BQ.below x) y6) (hx x); have s7 := fun x => (fun _ => bkeep (BQ.below x) y7) (hx x); have s8 := fun x => (fun _ => bkeep (BQ.below x) y8) (hx x); have s9 := fun x => (fun _ => bkeep (BQ.below x) y9) (hx x); go_big_quiet_op; (first | go_big_quiet_on | (refine ⟨_, fun _ => rfl, ?_⟩; go_big_quiet_on)); clear hx inst)
          (refine wpS_quiet rfl rfl ?_; intro K hK inst hx; go_big_quiet_op; (first | go_big_quiet_on | (refine ⟨_, fun _ => rfl, ?_⟩; go_big_quiet_on)); clear hx inst)
          (refine wpS_quiet rfl rfl ?_; intro K hK inst hx; go_big_quiet_op; (first | go_big_quiet_on | (refine ⟨_, fun _ => rfl, ?_⟩; go_big_quiet_on)); clear hx inst)
          (refine wpS_quiet rfl rfl ?_; intro K hK inst hx; have s0 := fun x => (fun _ => bkeep (BQ.below x) y0) (hx x); have s1 := fun x => (fun _ => bkeep (BQ.below x) y1) (hx x); have s2 := fun x => (fun _ => bkeep (BQ.below x) y2) (hx x); have s3 := fun x => (fun _ => bkeep (BQ.below x) y3) (hx x); have s4 := fun x => (fun _ => bkeep (BQ.below x) y4) (hx x); have s5 := fun x => (fun _ => bkeep (BQ.below x) y5) (hx x); have s6 := fun x => (fun _ => bkeep (BQ.below x) y6) (hx x); have s7 := fun x => (fun _ => bkeep (BQ.below x) y7) (hx x); have s8 := fun x => (fun _ => bkeep (BQ.below x) y8) (hx x); have s9 := fun x => (fun _ => bkeep (BQ.below x) y9) (hx x); go_big_quiet_op; (first | go_big_quiet_on | (refine ⟨_, fun _ => rfl, ?_⟩; go_big_quiet_on)); clear hx inst)
          refine wpS_fresh rfl rfl (fun w' hb hF => ?_) ?_
          · change freshAt _ _ _ (fun v W => W.ownsRow W4.heap.size 54 4 v cs.length (cs.flatMap cellsF)) _; unfold freshAt; go_simp; exact HCH.out _ hb
          intro v W hv; simp only [pOf, List.lookup_cons, Nat.reduceBEq, beq_self_eq_true] at hv; obtain ⟨ca, cc, rfl, -⟩ := owns_shape hv
          simp only [Act.put, List.setIfInBounds_toArray, List.set_cons_succ, List.set_cons_zero]
          refine wpS_fresh rfl rfl (fun w' hb hF => ?_) ?_
          · change freshAt _ _ _ (fun v _ => v = .bool true) _; have h4 := hF 15 _ rfl (by kernel_rfl); unfold freshAt; go_simp; exact HFI.out _ _ h4
          intro v W hv; simp only [pOf, List.lookup_cons, Nat.reduceBEq, beq_self_eq_true] at hv; subst hv
          simp only [Act.put, List.setIfInBounds_toArray, List.set_cons_succ, List.set_cons_zero]
          (refine wpS_quiet rfl rfl ?_; intro K hK inst hx; go_big_quiet_op; (first | go_big_quiet_on | (refine ⟨_, fun _ => rfl, ?_⟩; go_big_quiet_on)); clear hx inst)
          (refine wpS_quiet rfl rfl ?_; intro K hK inst hx; go_big_quiet_op; (first | go_big_quiet_on | (refine ⟨_, fun _ => rfl, ?_⟩; go_big_quiet_on)); clear hx inst)
          (refine wpS_quiet rfl rfl ?_; intro K hK inst hx; go_big_quiet_op; (first | go_big_quiet_on | (refine ⟨_, fun _ => rfl, ?_⟩; go_big_quiet_on)); clear hx inst)
          (refine wpS_quiet rfl rfl ?_; intro K hK inst hx; go_big_quiet_op; (first | go_big_quiet_on | (refine ⟨_, fun _ => rfl, ?_⟩; go_big_quiet_on)); clear hx inst)
          refine wpS_nil ?_
          intro w5 hall
          have hb := hall.1
          clear hall
          have hsz4 : G + 1 ≤ W4.heap.size := by have := World.block_lt_of_cell? W4 _ d8.1; dsimp only at this; omega
          have hP5 := hP3.next hb
          have hgc5 := hgc4.below (hb.mono hsz4)
          have hl5 := hl4.below hb
          have hB5 : Below G w w5 := hB4.trans (hb.mono (by omega))
          have hih := HIH.out (i + 1) gs2 w5 (by omega) hG2 (by omega) hP5 hgc5 hl5
          rw [show (((i + 1 : Nat)) : Int) = (i : Int) + 1 by omega] at hih
          have HI := hid hih; clear hih y0 y1 y2 y3 y4 y5 y6 y7 y8 y9 hP3 hP5 hgc4 hgc5 hl4 hl5 hb ho4 d8
          refine wpAny_ready (rs := [21]) (by kernel_rfl) (by simp) ?_
          refine AllReady.cons rfl (fun K hK => ?_) AllReady.nil
          refine (if_pos (show Region.wanted _ _ = true from rfl)).mpr ?_
          go_simp
          refine HI.out.mono ?_
          rintro e w6 ⟨hB6, hgc6, ⟨rs, hrs, rfl, hP6⟩ | ⟨hrs, rfl, hP6⟩⟩
          · dsimp only
            refine hK _ _ ?_
            clear hK K
            refine wpAny_ready (rs := [22]) (by kernel_rfl) (by simp) ?_
            refine AllReady.cons rfl (fun K hK => ?_) AllReady.nil
            go_simp
            refine hK _ _ ?_; clear hK K
            refine wpAny_done (by kernel_rfl) ?_ _
            go_wp2_with fail
            go_ret
            exact ⟨hB5.trans hB6, hgc6, .inl ⟨rs, by rw [putF_succ, find_here (by rw [HN.out]; exact hlt) HT.out (by rw [HTR.out]; exact hrs)], rfl, hP6⟩⟩
          · dsimp only
            refine hK _ _ ?_
            clear hK K
            refine wpAny_ready (rs := [22]) (by kernel_rfl) (by simp) ?_
            refine AllReady.cons rfl (fun K hK => ?_) AllReady.nil
            go_simp
            refine hK _ _ ?_; clear hK K
            refine wpAny_done (by kernel_rfl) ?_ _
            have hTk : tryF ⟨bid, bwi, bde, bce, bhi, bbe⟩ fs most d i gs k = none := by rw [HTR.out]; exact hrs
            have HTK := hid hTk; clear hTk hrs
            have hB6' : Below G w w6 := hB5.trans hB6
            clear hB5 hB6
            obtain ⟨gv6, vs6, e8, ho6, hr6⟩ := hP6
            rw [hl2] at ho6
            obtain ⟨gb6, gcap6, rfl, hf1, hf2⟩ := own_some ho6 (by omega)
            obtain ⟨v6, hv6⟩ : ∃ v, vs6[k]? = some v := ⟨_, List.getElem?_eq_getElem (by have := ho6.1; omega)⟩
            have hrow6 := hr6 k v6 _ hv6 hg2
            rw [HLG.out] at hrow6
            obtain ⟨vb6, vc6, rfl, hk1, hk2⟩ := own_some hrow6 (by omega)
            have z8 := e8.1
            have z9 : w6.cell? ⟨gb6, k, none⟩ = some (.slice (some ⟨vb6, 0, none⟩) (g.length + 1) vc6) := by have h := ho6.cells (g := gb6) rfl k _ hv6; rw [Go.WideShapes.add_plain, Nat.zero_add] at h; exact h
            have z10 := owns_frozen ho6 rfl k
            have hgi : (0 : Int) ≤ (g.length : Int) := by omega
            have hgv : (g.length : Int) ≤ (vc6 : Int) := by omega
            rw [← HGS.out] at hr6
            have HR6 := hid hr6; clear hr6 hrow6
            go_upto_region 9 with fail
            refine wp_region_Rs [] [0, 1, 2, 3, 4, 5, 6, 7, 8, 9, 10, 11, 12, 13, 14, 15, 16, 17, 18, 19, 20, 21, 22] 1 (by kernel_rfl) rfl (fun _ h => by cases h) (by kernel_rfl) ?_
            simp only [numbered, List.filterMap_cons, List.filterMap_nil, List.getElem?_toArray, List.getElem?_cons_succ, List.getElem?_cons_zero, Option.map_some]
            show wpS _ _ _ _ _ _ _ [(_, _), (_, _), (_, _), (_, _), (_, _), (_, _), (_, _), (_, _), (_, _), (_, _), (_, _), (_, _), (_, _), (_, _), (_, _), (_, _), (_, _), (_, _), (_, _), (_, _), (_, _), (_, _), (_, _)] _ _
            (refine wpS_quiet rfl rfl ?_; intro K hK inst hx; go_big_quiet_op; (first | go_big_quiet_on | (refine ⟨_, fun _ => rfl, ?_⟩; go_big_quiet_on)); clear hx inst)
            (refine wpS_quiet rfl rfl ?_; intro K hK inst hx; go_big_quiet_op; (first | go_big_quiet_on | (refine ⟨_, fun _ => rfl, ?_⟩; go_big_quiet_on)); clear hx inst)
            (refine wpS_quiet rfl rfl ?_; intro K hK inst hx; go_big_quiet_op; (first | go_big_quiet_on | (refine ⟨_, fun _ => rfl, ?_⟩; go_big_quiet_on)); clear hx inst)
            (refine wpS_quiet rfl rfl ?_; intro K hK inst hx; have s0 := fun x => (fun _ => bkeep (BQ.below x) z8) (hx x); have s1 := fun x => (fun _ => bkeep (BQ.below x) z9) (hx x); go_big_quiet_op; (first | go_big_quiet_on | (refine ⟨_, fun _ => rfl, ?_⟩; go_big_quiet_on)); clear hx inst)
            (refine wpS_quiet rfl rfl ?_; intro K hK inst hx; go_big_quiet_op; (first | go_big_quiet_on | (refine ⟨_, fun _ => rfl, ?_⟩; go_big_quiet_on)); clear hx inst)
            (refine wpS_quiet rfl rfl ?_; intro K hK inst hx; go_big_quiet_op; (first | go_big_quiet_on | (refine ⟨_, fun _ => rfl, ?_⟩; go_big_quiet_on)); clear hx inst)
            (refine wpS_quiet rfl rfl ?_; intro K hK inst hx; go_big_quiet_op; (first | go_big_quiet_on | (refine ⟨_, fun _ => rfl, ?_⟩; go_big_quiet_on)); clear hx inst)
            (refine wpS_quiet rfl rfl ?_; intro K hK inst hx; go_big_quiet_op; (first | go_big_quiet_on | (refine ⟨_, fun _ => rfl, ?_⟩; go_big_quiet_on)); clear hx inst)
            (refine wpS_quiet rfl rfl ?_; intro K hK inst hx; have s0 := fun x => (fun _ => bkeep (BQ.below x) z8) (hx x); have s1 := fun x => (fun _ => bkeep (BQ.below x) z9) (hx x); go_big_quiet_op; (first | go_big_quiet_on | (refine ⟨_, fun _ => rfl, ?_⟩; go_big_quiet_on)); clear hx inst)
            (refine wpS_quiet rfl rfl ?_; intro K hK inst hx; go_big_quiet_op; (first | go_big_quiet_on | (refine ⟨_, fun _ => rfl, ?_⟩; go_big_quiet_on)); clear hx inst)
            (refine wpS_quiet rfl rfl ?_; intro K hK inst hx; go_big_quiet_op; (first | go_big_quiet_on | (refine ⟨_, fun _ => rfl, ?_⟩; go_big_quiet_on)); clear hx inst)
            (refine wpS_quiet rfl rfl ?_; intro K hK inst hx; have s0 := fun x => (fun _ => bkeep (BQ.below x) z8) (hx x); have s1 := fun x => (fun _ => bkeep (BQ.below x) z9) (hx x); go_big_quiet_op; (first | go_big_quiet_on | (refine ⟨_, fun _ => rfl, ?_⟩; go_big_quiet_on)); clear hx inst)
            (refine wpS_quiet rfl rfl ?_; intro K hK inst hx; go_big_quiet_op; (first | go_big_quiet_on | (refine ⟨_, fun _ => rfl, ?_⟩; go_big_quiet_on)); clear hx inst)
            (refine wpS_quiet rfl rfl ?_; intro K hK inst hx; go_big_quiet_op; (first | go_big_quiet_on | (refine ⟨_, fun _ => rfl, ?_⟩; go_big_quiet_on)); clear hx inst)
            (refine wpS_quiet rfl rfl ?_; intro K hK inst hx; go_big_quiet_op; (first | go_big_quiet_on | (refine ⟨_, fun _ => rfl, ?_⟩; go_big_quiet_on)); clear hx inst)
            (refine wpS_quiet rfl rfl ?_; intro K hK inst hx; have s0 := fun x => (fun _ => bkeep (BQ.below x) z8) (hx x); have s1 := fun x => (fun _ => bkeep (BQ.below x) z9) (hx x); go_big_quiet_op; (first | go_big_quiet_on | (refine ⟨_, fun _ => rfl, ?_⟩; go_big_quiet_on)); clear hx inst)
            (refine wpS_quiet rfl rfl ?_; intro K hK inst hx; go_big_quiet_op; (first | go_big_quiet_on | (refine ⟨_, fun _ => rfl, ?_⟩; go_big_quiet_on)); clear hx inst)
            (refine wpS_quiet rfl rfl ?_; intro K hK inst hx; go_big_quiet_op; (first | go_big_quiet_on | (refine ⟨_, fun _ => rfl, ?_⟩; go_big_quiet_on)); clear hx inst)
            (refine wpS_quiet rfl rfl ?_; intro K hK inst hx; have s0 := fun x => (fun _ => bkeep (BQ.below x) z8) (hx x); have s1 := fun x => (fun _ => bkeep (BQ.below x) z9) (hx x); go_big_quiet_op; (first | go_big_quiet_on | (refine ⟨_, fun _ => rfl, ?_⟩; go_big_quiet_on)); clear hx inst)
            (refine wpS_quiet rfl rfl ?_; intro K hK inst hx; go_big_quiet_op; (first | go_big_quiet_on | (refine ⟨_, fun _ => rfl, ?_⟩; go_big_quiet_on)); clear hx inst)
            (refine wpS_quiet rfl rfl ?_; intro K hK inst hx; go_big_quiet_op; (first | go_big_quiet_on | (refine ⟨_, fun _ => rfl, ?_⟩; go_big_quiet_on)); clear hx inst)
            (refine wpS_quiet rfl rfl ?_; intro K hK inst hx; go_big_quiet_op; (first | go_big_quiet_on | (refine ⟨_, fun _ => rfl, ?_⟩; go_big_quiet_on)); clear hx inst)
            (refine wpS_quiet rfl rfl ?_; intro K hK inst hx; go_big_quiet_op; (first | go_big_quiet_on | (refine ⟨_, fun _ => rfl, ?_⟩; go_big_quiet_on)); clear hx inst)
            refine wpS_nil ?_
            intro w7 hall
            have hb := hall.1
            clear hall
            have p8 := bkeep hb z9; have p9 := bfree hb z9 z10
            refine wpAny_ready (rs := [23]) (by kernel_rfl) (by simp) ?_
            refine AllReady.cons rfl (fun K hK => ?_) AllReady.nil
            go_simp
            refine hK _ _ ?_; clear hK K
            refine wpAny_done (by kernel_rfl) ?_ _
            obtain ⟨hP7, hB7⟩ := PutAt.pop (TO := 79) (TI := 3) (i := i) (by decide) hg HN.out ⟨bkeep hb e8.1, bfree hb e8.1 e8.2⟩ (owns_below ho6 hb) (fun j u h h1 h2 => owns_below (HR6.out j u h h1 h2) hb) (by rw [hv6])
            generalize hW8 : w7.setCell ⟨gb6, k, none⟩ (.slice (some ⟨vb6, 0, none⟩) g.length vc6) = W8 at *
            have hsz6 : G + 1 ≤ w6.heap.size := by have := World.block_lt_of_cell? w6 _ e8.1; dsimp only at this; omega
            have hB8 : Below (G + 1) w6 W8 := (hb.mono hsz6).trans hB7
            have hgc8 := hgc6.below hB8
            have hB9 : Below G w W8 := hB6'.trans (hB8.mono (by omega))
            clear hW8 hb z8 z9 z10 p8 p9 e8 ho6 hv6
            go_wp2_with fail
            go_roundg (n - (k + 1))
            case measure => have h := HGK.out; omega
            case rel => exact ⟨k + 1, by omega, rfl, by go_num, hP7, hgc8, hB9, fun j hj => by (rcases Nat.lt_or_ge j k with h3 | h3); exact HT.out j h3; rw [show j = k by omega]; exact HTK.out⟩
      · obtain rfl : k = n := by omega
        have hfn := find_no (n := gs.length) (f := tryF ⟨bid, bwi, bde, bce, bhi, bbe⟩ fs most d i gs) (by rw [HN.out]; exact HT.out)
        have hpf : putF ⟨bid, bwi, bde, bce, bhi, bbe⟩ fs most (d + 1) i gs = if gs.length = most then none else putF ⟨bid, bwi, bde, bce, bhi, bbe⟩ fs most d (i + 1) (gs ++ [[(i : Int)]]) := by rw [putF_succ, hfn]
        rw [HN.out] at hpf
        have HPF := hid hpf; clear hpf hfn HT
        have hP9 := hP
        obtain ⟨gv2, vs2, c8, ho2, hr2⟩ := hP
        rw [HN.out] at ho2
        obtain ⟨ga2, gcap2, rfl, -⟩ := owns_shape ho2
        have q0 := c8.1
        have q1 := (hgc2 7 _ rfl).1
        have HR2 := hid hr2; clear hr2
        go_upto_region 11 with fail
        refine wp_region_Rs [] [0, 1, 2, 3, 4, 5, 6, 7, 8, 9] 0 (by kernel_rfl) rfl (fun _ h => by cases h) (by kernel_rfl) ?_
        simp only [numbered, List.filterMap_cons, List.filterMap_nil, List.getElem?_toArray, List.getElem?_cons_succ, List.getElem?_cons_zero, Option.map_some]
        show wpS _ _ _ _ _ _ _ [(_, _), (_, _), (_, _), (_, _), (_, _), (_, _), (_, _), (_, _), (_, _), (_, _)] _ _
        (refine wpS_quiet rfl rfl ?_; intro K hK inst hx; go_big_quiet_op; (first | go_big_quiet_on | (refine ⟨_, fun _ => rfl, ?_⟩; go_big_quiet_on)); clear hx inst)
        (refine wpS_quiet rfl rfl ?_; intro K hK inst hx; go_big_quiet_op; (first | go_big_quiet_on | (refine ⟨_, fun _ => rfl, ?_⟩; go_big_quiet_on)); clear hx inst)
        (refine wpS_quiet rfl rfl ?_; intro K hK inst hx; go_big_quiet_op; (first | go_big_quiet_on | (refine ⟨_, fun _ => rfl, ?_⟩; go_big_quiet_on)); clear hx inst)
        (refine wpS_quiet rfl rfl ?_; intro K hK inst hx; have s0 := fun x => (fun _ => bkeep (BQ.below x) q0) (hx x); have s1 := fun x => (fun _ => bkeep (BQ.below x) q1) (hx x); go_big_quiet_op; (first | go_big_quiet_on | (refine ⟨_, fun _ => rfl, ?_⟩; go_big_quiet_on)); clear hx inst)
        (refine wpS_quiet rfl rfl ?_; intro K hK inst hx; go_big_quiet_op; (first | go_big_quiet_on | (refine ⟨_, fun _ => rfl, ?_⟩; go_big_quiet_on)); clear hx inst)
        (refine wpS_quiet rfl rfl ?_; intro K hK inst hx; go_big_quiet_op; (first | go_big_quiet_on | (refine ⟨_, fun _ => rfl, ?_⟩; go_big_quiet_on)); clear hx inst)
        (refine wpS_quiet rfl rfl ?_; intro K hK inst hx; go_big_quiet_op; (first | go_big_quiet_on | (refine ⟨_, fun _ => rfl, ?_⟩; go_big_quiet_on)); clear hx inst)
        (refine wpS_quiet rfl rfl ?_; intro K hK inst hx; go_big_quiet_op; (first | go_big_quiet_on | (refine ⟨_, fun _ => rfl, ?_⟩; go_big_quiet_on)); clear hx inst)
        (refine wpS_quiet rfl rfl ?_; intro K hK inst hx; have s0 := fun x => (fun _ => bkeep (BQ.below x) q0) (hx x); have s1 := fun x => (fun _ => bkeep (BQ.below x) q1) (hx x); go_big_quiet_op; (first | go_big_quiet_on | (refine ⟨_, fun _ => rfl, ?_⟩; go_big_quiet_on)); clear hx inst)
        (refine wpS_quiet rfl rfl ?_; intro K hK inst hx; go_big_quiet_op; (first | go_big_quiet_on | (refine ⟨_, fun _ => rfl, ?_⟩; go_big_quiet_on)); clear hx inst)
        refine wpS_nil ?_
        intro w2 hall
        have hb := hall.1
        clear hall
        refine wpAny_done (by kernel_rfl) ?_ _
        have hsz2 : G + 1 ≤ wr.heap.size := by have := World.block_lt_of_cell? wr _ c8.1; dsimp only at this; omega
        have hgc3 := hgc2.below (hb.mono hsz2)
        have hP3 := hP9.next hb
        have hB3 : Below G w w2 := hB.trans (hb.mono (by omega))
        have c9 : w2.cell? ⟨G, 8, none⟩ = some _ ∧ _ := ⟨bkeep hb c8.1, bfree hb c8.1 c8.2⟩
        have ho3 := owns_below ho2 hb
        have hr3 : Go.Pb.Sag.RowsIn (G + 1) 3 w2 vs2 gs := fun j u h h1 h2 => owns_below (HR2.out j u h h1 h2) hb
        have HR3 := hid hr3; clear q0 q1 c8 ho2 hr3 HR2 hP9 hgc2 hB
        by_cases hmo : k = most
        · subst hmo
          go_wp2_with fail
          go_ret
          exact ⟨hB3, hgc3, .inr ⟨by rw [HPF.out]; simp, rfl, hP3⟩⟩
        · have hmo2 : ¬ (k : Int) = (most : Int) := by omega
          clear hP3
          obtain ⟨i2, hq, ha0, ha1, ha2⟩ := info_parts Tryz.infoG
          have hGs : G + 1 ≤ w2.heap.size := by have := World.block_lt_of_cell? w2 _ c9.1; dsimp only at this; omega
          have hcg : ∀ j u, ([.slice (some ⟨w2.heap.size, 0, none⟩) 1 1] : List Value)[j]? = some u → ((w2.alloc (.cells #[.int .i64 (i : Int)] 3)).alloc (.cells #[.slice (some ⟨w2.heap.size, 0, none⟩) 1 1] 79)).cell? ((⟨w2.heap.size + 1, 0, none⟩ : Addr).add j) = some u := fun j u h => by
            rw [Go.WideShapes.add_plain, Nat.zero_add]
            have h2 := (CellsAt.new (w2.alloc (.cells #[.int .i64 (i : Int)] 3)) [.slice (some ⟨w2.heap.size, 0, none⟩) 1 1] 79 j u h).1
            rwa [World.size_alloc] at h2
          have HCG := hid hcg; clear hcg
          go_wp2_with (at_builtin; go_must (refine wpList_append_own _ rfl _ _ 72 rfl (G + 1) 79 i2 (.slice none 0 0) 1 24 Tryz.underlying72 hq ha0 ha1 ha2 rfl (by decide) _ _ _ rfl ((ho3.alloc _).alloc _) ⟨w2.heap.size + 1, 0, none⟩ 1 1 [.slice (some ⟨w2.heap.size, 0, none⟩) 1 1] rfl rfl HCG.out (fun u h => by simp only [List.mem_cons, List.not_mem_nil, or_false] at h; rcases h with rfl; rfl) (by unfold maxLen; omega) (by omega) (by simp; omega) ?_; intro v' w4 ho4 hg4 hnil; obtain ⟨⟨p0, p1⟩, hPg, hBg⟩ := PutAt.grow (TO := 79) (TI := 3) (by decide) hG HN.out c9 ho3 HR3.out hg4 ho4; obtain ⟨xb, xd, rfl, -⟩ := owns_shape ho4; clear ho4 hg4 hnil))
          generalize hW5 : w4.setCell ⟨G, 8, none⟩ (.slice xb (k + 1) xd) = W5 at *
          have hgc5 : GAt G [.int .i64 bid, .int .i64 bwi, .int .i64 bde, .int .i64 bce, .int .i64 bhi, .int .i64 bbe, .slice fa fs.length fc, .int .i64 (most : Int)] W5 := by rw [← hW5]; exact (hgc3.below hBg).set (by simp)
          have hB5 : Below G w W5 := by rw [← hW5]; exact (hB3.trans (hBg.mono (by omega))).setCell (p := ⟨G, 8, none⟩) (Nat.le_refl _) _
          have hl5 : FeetAt W5 (.slice fa fs.length fc) fs := rows_belowB hl hfv hB5
          have hih := HIH.out (i + 1) (gs ++ [[(i : Int)]]) W5 (by omega) hG.snoc (by rw [List.length_append, List.length_singleton, HN.out]; omega) hPg hgc5 hl5
          rw [show (((i + 1 : Nat)) : Int) = (i : Int) + 1 by omega] at hih
          clear hW5 hBg p0 p1 c9 ho3 hgc3 hB3
          refine hih.mono ?_
          clear hih
          rintro e w6 ⟨hB6, hgc6, ⟨rs, hrs, rfl, hP6⟩ | ⟨hrs, rfl, hP6⟩⟩
          · go_wp2_with fail
            go_ret
            exact ⟨hB5.trans hB6, hgc6, .inl ⟨rs, by rw [HPF.out, if_neg hmo]; exact hrs, rfl, hP6⟩⟩
          · have hB7 := hB5.trans hB6
            obtain ⟨gv6, vs6, e8, ho6, hr6⟩ := hP6
            have hls : (gs ++ [[(i : Int)]]).length = k + 1 := by rw [List.length_append, List.length_singleton, HN.out]
            rw [hls] at ho6
            obtain ⟨gb6, gcap6, rfl, hf1, hf2⟩ := own_some ho6 (by omega)
            have z8 := e8.1
            have hki : (0 : Int) ≤ (k : Int) := by omega
            have hkv : (k : Int) ≤ (gcap6 : Int) := by omega
            have HR6 := hid hr6; have HRS := hid hrs; clear hr6 hrs hls hB5 hB6 hgc5 hl5
            go_upto_region 16 with fail
            refine wp_region_Rs [] [0, 1, 2, 3, 4, 5, 6, 7, 8, 9, 10, 11, 12, 13] 1 (by kernel_rfl) rfl (fun _ h => by cases h) (by kernel_rfl) ?_
            simp only [numbered, List.filterMap_cons, List.filterMap_nil, List.getElem?_toArray, List.getElem?_cons_succ, List.getElem?_cons_zero, Option.map_some]
            show wpS _ _ _ _ _ _ _ [(_, _), (_, _), (_, _), (_, _), (_, _), (_, _), (_, _), (_, _), (_, _), (_, _), (_, _), (_, _), (_, _), (_, _)] _ _
            (refine wpS_quiet rfl rfl ?_; intro K hK inst hx; go_big_quiet_op; (first | go_big_quiet_on | (refine ⟨_, fun _ => rfl, ?_⟩; go_big_quiet_on)); clear hx inst)
            (refine wpS_quiet rfl rfl ?_; intro K hK inst hx; go_big_quiet_op; (first | go_big_quiet_on | (refine ⟨_, fun _ => rfl, ?_⟩; go_big_quiet_on)); clear hx inst)
            (refine wpS_quiet rfl rfl ?_; intro K hK inst hx; go_big_quiet_op; (first | go_big_quiet_on | (refine ⟨_, fun _ => rfl, ?_⟩; go_big_quiet_on)); clear hx inst)
            (refine wpS_quiet rfl rfl ?_; intro K hK inst hx; go_big_quiet_op; (first | go_big_quiet_on | (refine ⟨_, fun _ => rfl, ?_⟩; go_big_quiet_on)); clear hx inst)
            (refine wpS_quiet rfl rfl ?_; intro K hK inst hx; have s0 := fun x => (fun _ => bkeep (BQ.below x) z8) (hx x); go_big_quiet_op; (first | go_big_quiet_on | (refine ⟨_, fun _ => rfl, ?_⟩; go_big_quiet_on)); clear hx inst)
            (refine wpS_quiet rfl rfl ?_; intro K hK inst hx; go_big_quiet_op; (first | go_big_quiet_on | (refine ⟨_, fun _ => rfl, ?_⟩; go_big_quiet_on)); clear hx inst)
            (refine wpS_quiet rfl rfl ?_; intro K hK inst hx; go_big_quiet_op; (first | go_big_quiet_on | (refine ⟨_, fun _ => rfl, ?_⟩; go_big_quiet_on)); clear hx inst)
            (refine wpS_quiet rfl rfl ?_; intro K hK inst hx; go_big_quiet_op; (first | go_big_quiet_on | (refine ⟨_, fun _ => rfl, ?_⟩; go_big_quiet_on)); clear hx inst)
            (refine wpS_quiet rfl rfl ?_; intro K hK inst hx; have s0 := fun x => (fun _ => bkeep (BQ.below x) z8) (hx x); go_big_quiet_op; (first | go_big_quiet_on | (refine ⟨_, fun _ => rfl, ?_⟩; go_big_quiet_on)); clear hx inst)
            (refine wpS_quiet rfl rfl ?_; intro K hK inst hx; go_big_quiet_op; (first | go_big_quiet_on | (refine ⟨_, fun _ => rfl, ?_⟩; go_big_quiet_on)); clear hx inst)
            (refine wpS_quiet rfl rfl ?_; intro K hK inst hx; go_big_quiet_op; (first | go_big_quiet_on | (refine ⟨_, fun _ => rfl, ?_⟩; go_big_quiet_on)); clear hx inst)
            (refine wpS_quiet rfl rfl ?_; intro K hK inst hx; go_big_quiet_op; (first | go_big_quiet_on | (refine ⟨_, fun _ => rfl, ?_⟩; go_big_quiet_on)); clear hx inst)
            (refine wpS_quiet rfl rfl ?_; intro K hK inst hx; go_big_quiet_op; (first | go_big_quiet_on | (refine ⟨_, fun _ => rfl, ?_⟩; go_big_quiet_on)); clear hx inst)
            (refine wpS_quiet rfl rfl ?_; intro K hK inst hx; go_big_quiet_op; (first | go_big_quiet_on | (refine ⟨_, fun _ => rfl, ?_⟩; go_big_quiet_on)); clear hx inst)
            refine wpS_nil ?_
            intro w7 hall
            have hb := hall.1
            clear hall
            have p8 := bkeep hb e8.1; have p9 := bfree hb e8.1 e8.2
            refine wpAny_ready (rs := [14]) (by kernel_rfl) (by simp) ?_
            refine AllReady.cons rfl (fun K hK => ?_) AllReady.nil
            go_simp
            refine hK _ _ ?_; clear hK K
            refine wpAny_done (by kernel_rfl) ?_ _
            have hP8 := PutAt.shrink (TO := 79) (TI := 3) HN.out ⟨p8, p9⟩ (owns_below ho6 hb) (fun j u h h1 h2 => owns_below (HR6.out j u h h1 h2) hb)
            have hs6 : G + 1 ≤ w6.heap.size := by have := World.block_lt_of_cell? w6 _ e8.1; dsimp only at this; omega
            have hgc8 := (hgc6.below (hb.mono hs6)).set (v := .slice (some ⟨gb6, 0, none⟩) k gcap6) (by simp)
            have hB8 : Below G w _ := (hB7.trans (hb.mono (by omega))).setCell (p := ⟨G, 8, none⟩) (Nat.le_refl _) (.slice (some ⟨gb6, 0, none⟩) k gcap6)
            generalize hW8 : w7.setCell ⟨G, 8, none⟩ (.slice (some ⟨gb6, 0, none⟩) k gcap6) = W8 at *
            clear hW8 hb p8 p9 z8 e8 ho6
            go_wp2_with fail
            go_ret
            exact ⟨hB8, hgc8, .inr ⟨by rw [HPF.out, if_neg hmo]; exact HRS.out, rfl, hP8⟩⟩
end Go.Proofs.YtddffengpgiglaaGreat
