/- Part of a claim. -/
import Derived.Test.YtodmidchpbcnpaaGreatG55V
import Derived.Test.YtodmidchpbcnpaaGreatKG53V
import Derived.Test.YtodmidchpbcnpaaGreatKSmV
import Derived.Deep.LoopGhost
set_option linter.unusedVariables false
set_option linter.unusedSimpArgs false
namespace Go.Proofs.YtodmidchpbcnpaaGreat
open Go.RowKit Go.Pb Go.Pb.Ware Go.Pb.Sag


theorem lenF' (f : Ft) : (cellsF f).length = 4 := rfl
theorem ft_len (fs : List Ft) : (fs.flatMap cellsF).length = fs.length * 4 := by
 induction fs with
 | nil => rfl
 | cons x xs ih => rw [List.flatMap_cons, List.length_append, ih, List.length_cons, lenF']; omega
theorem ft_lat {w : World} {v : Value} {fs : List Ft} (h : FeetAt w v fs) : LAt 4 w v fs.length (fs.flatMap cellsF) := by
 refine ⟨ft_len fs, fun u hu => (by obtain ⟨f, _, h⟩ := List.mem_flatMap.1 hu; exact one_cellsF u h), ?_⟩
 rcases h with ⟨h1, h2⟩ | ⟨a, cap, h1, h2, h3, h4⟩
 ·rw [List.map_eq_nil_iff] at h2; subst h2; exact .inl ⟨h1, rfl⟩
 ·rw [List.length_map] at h1 h2
  refine .inr ⟨a, cap, h1, h2, h3, fun j u hu => ?_⟩
  have hj := (List.getElem?_eq_some_iff.1 hu).1
  rw [ft_len] at hj
  have hx : fs[j / 4]? = some fs[j / 4] := List.getElem?_eq_getElem (by omega)
  have e := flat_get cellsF lenF' hx (show j % 4 < 4 by omega)
  rw [show j / 4 * 4 + j % 4 = j by omega] at e
  have hu2 : (cellsF fs[j / 4])[j % 4]? = some u := by rw [← e]; exact hu
  have h5 := (h4 (j / 4) (rowF fs[j / 4]) (by rw [List.getElem?_map, hx]; rfl)).2
  have key : ∀ i, i < 4 → (cellsF fs[j / 4])[i]? = some u → w.cell? (a.add (j / 4 * 4 + i)) = some u := by
   intro i hi hu3
   match i, hi with
   | 0, _ => injection hu3 with e; rw [← e]; exact (h5 0 _ rfl).1
   | 1, _ => injection hu3 with e; rw [← e]; exact (h5 1 _ rfl).1
   | 2, _ => injection hu3 with e; rw [← e]; exact (h5 2 _ rfl).1
   | 3, _ => injection hu3 with e; rw [← e]; exact (h5 3 _ rfl).1
  have := key (j % 4) (by omega) hu2
  rwa [show j / 4 * 4 + j % 4 = j by omega] at this
theorem rCells_eq {w : World} {bid bwi bde bce bhi bbe fw fd fh fg : Int} {y x : Nat} {t : Bool} {m : Nat} (hX : boxOk ⟨bid, bwi, bde, bce, bhi, bbe⟩ = true) (hF : FtOk ⟨fw, fd, fh, fg⟩) (hp : (⟨y, x, t⟩ : St) ∈ standsL ⟨bid, bwi, bde, bce, bhi, bbe⟩ ⟨fw, fd, fh, fg⟩) (hm : maskW ⟨bid, bwi, bde, bce, bhi, bbe⟩ ⟨fw, fd, fh, fg⟩ ⟨y, x, t⟩ = m) :
  Calls Tryz.prog 80 #[.agg #[.int .i64 bid, .int .i64 bwi, .int .i64 bde, .int .i64 bce, .int .i64 bhi, .int .i64 bbe], .agg #[.int .i64 fw, .int .i64 fd, .int .i64 fh, .int .i64 fg], .agg #[.int .i64 (y : Nat), .int .i64 (x : Nat), .bool t]] w (Ret w (.int .i64 (m : Int))) := by
 have h2 := boxOk_iff.1 hX
 dsimp only at h2
 obtain ⟨W, rfl⟩ : ∃ W : Nat, bwi = (W : Int) := ⟨bwi.toNat, by omega⟩
 have hF2 := hF
 unfold FtOk at hF2
 dsimp only at hF2
 obtain ⟨m1, m2, m3, m4⟩ := mem_stands.1 hp
 unfold okAt at m4
 rw [Bool.and_eq_true, decide_eq_true_eq, decide_eq_true_eq] at m4
 dsimp only at m4
 have h3 : (1 ≤ (sideV ⟨fw, fd, fh, fg⟩ t).1) ∧ 1 ≤ (sideV ⟨fw, fd, fh, fg⟩ t).2 := by unfold sideV; split <;> dsimp only <;> omega
 subst hm
 exact rCells (by omega) ⟨by omega, m4.1⟩ ⟨by omega, by omega⟩
set_option maxRecDepth 100000 in
set_option maxHeartbeats 2000000 in
theorem rRoom {bid bwi bde bce bhi bbe : Int} (hX : boxOk ⟨bid, bwi, bde, bce, bhi, bbe⟩ = true) : ∀ (n : Nat) {w : World} {lv : Value} {fs : List Ft} {u t : Nat} {b : Bool}, fs.length = n → n ≤ 5 → FeetAt w lv fs → (∀ f ∈ fs, FtOk f) → u < 2 ^ 36 → RelW bwi.toNat u t → roomB ⟨bid, bwi, bde, bce, bhi, bbe⟩ fs t = b → Calls Tryz.prog 148 #[.agg #[.int .i64 bid, .int .i64 bwi, .int .i64 bde, .int .i64 bce, .int .i64 bhi, .int .i64 bbe], lv, .int .i64 (u : Nat)] w (Ret w (.bool b))
 | 0, w, lv, fs, u, t, b, hn, h5, hl, hok, hu, hr, hb => by
  obtain rfl : fs = [] := List.length_eq_zero_iff.1 hn
  have hd : b = true := by rw [← hb]; rfl
  subst hd
  unfold Ret
  obtain ⟨la, lc, rfl, hll⟩ := hl.shape
  clear hl hb
  simp only [List.map_nil, List.length_nil]
  go_enter Tryz.func148, Tryz.ntmps148
  go_wp2_with fail
  go_ret
  exact ⟨rfl, by go_grown⟩
 | n + 1, w, lv, fs, u, t, b, hn, h5, hl, hok, hu, hr, hb => by
  unfold Ret
  obtain ⟨i0, hi, hz0, hz1, hz2⟩ := info_parts Tryz.infoF
  obtain ⟨la, lc, rfl, hll⟩ := hl.shape
  rw [List.length_map] at hl hll ⊢
  obtain ⟨m, hm⟩ : ∃ m, fs.length = m := ⟨_, rfl⟩
  have hmn : m = n + 1 := by omega
  have hmp : 0 < m := by omega
  have hm5 : m ≤ 5 := by omega
  have HM := hid hm
  have HMN := hid hmn
  rw [hm] at hl hll ⊢
  obtain ⟨a', ha'⟩ : ∃ a', la = some a' := by (rcases hl with ⟨h1, h2⟩ | ⟨a0, c0, h1, _⟩); (rw [List.map_eq_nil_iff] at h2; subst h2; simp at hm; omega); (injection h1 with h1 _ _; exact ⟨a0, h1⟩)
  subst ha'
  clear hm hmn hn h5
  have hm0 : ¬ (m : Int) = 0 := by omega
  have hm1 : ((m : Int) == 0) = false := beq_eq_false_iff_ne.mpr hm0
  have HX := hid hX; have HR := hid hr; have HBV := hid hb; clear hX hr hb
  go_enter Tryz.func148, Tryz.ntmps148
  go_upto_region 1 with fail
  generalize hW : World.alloc w _ = v1
  have q0 : v1.cell? ⟨w.heap.size, 0, none⟩ = some (.int .i64 bid) := by rw [← hW]; simp [go_sem]
  have q1 : v1.cell? ⟨w.heap.size, 1, none⟩ = some (.int .i64 bwi) := by rw [← hW]; simp [go_sem]
  have q2 : v1.cell? ⟨w.heap.size, 2, none⟩ = some (.int .i64 bde) := by rw [← hW]; simp [go_sem]
  have q3 : v1.cell? ⟨w.heap.size, 3, none⟩ = some (.int .i64 bce) := by rw [← hW]; simp [go_sem]
  have q4 : v1.cell? ⟨w.heap.size, 4, none⟩ = some (.int .i64 bhi) := by rw [← hW]; simp [go_sem]
  have q5 : v1.cell? ⟨w.heap.size, 5, none⟩ = some (.int .i64 bbe) := by rw [← hW]; simp [go_sem]
  have hbv : Below w.heap.size w v1 := by rw [← hW]; exact (Below.refl _ _).alloc (Nat.le_refl _) _
  clear hW
  have hl1 : FeetAt v1 (.slice (some a') m lc) fs := hl.below hbv
  go_wp2_with fail
  go_loopg [7, 8, 9, 19] m (fun gk av _ _ kv wr => ∃ k a : Nat, k ≤ m ∧ gk = m - k ∧ kv = .int .i64 k ∧ av = .int .i64 a ∧ a < m ∧ Below v1.heap.size v1 wr)
  case atStart => exact ⟨0, 0, Nat.zero_le _, rfl, rfl, rfl, by omega, Below.refl _ _⟩
  case round =>
   obtain ⟨k, a, hk, hgk, rfl, rfl, ham, hB⟩ := hrel
   have HGK := hid hgk; clear hgk
   have hlw : FeetAt wr (.slice (some a') m lc) fs := hl1.below hB
   by_cases hlt : k < m
   ·have hkl : (k : Int) < (m : Int) := by omega
    have hal : (a : Int) < (m : Int) := by omega
    obtain ⟨ra, hra, hrl, hc0, hcc⟩ := (show RowsAt 4 wr (.slice (some a') (fs.map rowF).length lc) (fs.map rowF) by rw [List.length_map, HM.out]; exact hlw).row (k := k) (by rw [List.length_map, HM.out]; omega)
    injection hra with hra; subst hra
    obtain ⟨⟨pw, pd, ph, pg⟩, hrf⟩ : ∃ f, fs[k]'(by rw [HM.out]; omega) = f := ⟨_, rfl⟩
    have hat : (fs.map rowF)[k]'(by rw [List.length_map, HM.out]; omega) = [pw, pd, ph, pg] := by rw [List.getElem_map, hrf]; rfl
    rw [hat] at hc0 hcc
    have r0 := hc0 _ rfl
    have r1 := hcc 1 _ (by decide) rfl
    have r2 := hcc 2 _ (by decide) rfl
    have r3 := hcc 3 _ (by decide) rfl
    have hro := hok _ (List.getElem_mem (l := fs) (n := k) (by rw [HM.out]; omega))
    rw [hrf] at hro
    clear hc0 hcc hat hrl
    obtain ⟨sa, hsa, hrl, hc0, hcc⟩ := (show RowsAt 4 wr (.slice (some a') (fs.map rowF).length lc) (fs.map rowF) by rw [List.length_map, HM.out]; exact hlw).row (k := a) (by rw [List.length_map, HM.out]; omega)
    injection hsa with hsa; subst hsa
    obtain ⟨⟨sw, sd, sh, sg⟩, hsf⟩ : ∃ f, fs[a]'(by rw [HM.out]; omega) = f := ⟨_, rfl⟩
    have hat : (fs.map rowF)[a]'(by rw [List.length_map, HM.out]; omega) = [sw, sd, sh, sg] := by rw [List.getElem_map, hsf]; rfl
    rw [hat] at hc0 hcc
    have s0 := hc0 _ rfl
    have s1 := hcc 1 _ (by decide) rfl
    have s2 := hcc 2 _ (by decide) rfl
    have s3 := hcc 3 _ (by decide) rfl
    have hso := hok _ (List.getElem_mem (l := fs) (n := a) (by rw [HM.out]; omega))
    rw [hsf] at hso
    clear hc0 hcc hat hrl
    unfold FtOk at hro hso
    dsimp only at hro hso
    have hmr := mul_bd pw pd 2100 2100 (by omega) (by omega) (by omega) (by omega)
    have hms := mul_bd sw sd 2100 2100 (by omega) (by omega) (by omega) (by omega)
    clear hrf hsf
    go_upto_region 7 with fail
    generalize hW : World.alloc wr _ = v5
    have c0 : v5.cell? ⟨wr.heap.size, 0, none⟩ = some (.int .i64 pw) := by rw [← hW]; simp [go_sem]
    have c1 : v5.cell? ⟨wr.heap.size, 1, none⟩ = some (.int .i64 pd) := by rw [← hW]; simp [go_sem]
    have c2 : v5.cell? ⟨wr.heap.size, 2, none⟩ = some (.int .i64 ph) := by rw [← hW]; simp [go_sem]
    have c3 : v5.cell? ⟨wr.heap.size, 3, none⟩ = some (.int .i64 pg) := by rw [← hW]; simp [go_sem]
    have hb : Below wr.heap.size wr v5 := by rw [← hW]; exact (Below.refl _ _).alloc (Nat.le_refl _) _
    replace hB := bnext (w := v1) hB hb
    replace s0 := bkeep hb s0
    replace s1 := bkeep hb s1
    replace s2 := bkeep hb s2
    replace s3 := bkeep hb s3
    clear hb hW r0 r1 r2 r3 hlw
    have xc0 := fun x : BW v5 => bkeep x.below c0
    have xc1 := fun x : BW v5 => bkeep x.below c1
    have xs0 := fun x : BW v5 => bkeep x.below s0
    have xs1 := fun x : BW v5 => bkeep x.below s1
    refine wp_region_qb (by kernel_rfl) (by kernel_rfl) fun hc => ?_
    repeat (go_big_quiet_step (fail))
    refine wpQuiet_nil ?_
    intro w9 hb
    replace hB := bnext (w := v1) hB hb
    clear hb hc xc0 xc1 xs0 xs1
    by_cases hgt : sw * sd < pw * pd
    ·go_wp2_with fail
     go_roundg (m - (k + 1))
     case measure => have h := HGK.out; omega
     case rel => exact ⟨k + 1, k, by omega, rfl, by go_num, rfl, by omega, hB⟩
    ·go_wp2_with fail
     go_roundg (m - (k + 1))
     case measure => have h := HGK.out; omega
     case rel => exact ⟨k + 1, a, by omega, rfl, by go_num, rfl, by omega, hB⟩
   ·obtain rfl : k = m := by omega
    obtain ⟨v2, hv2⟩ : ∃ v, v = wr := ⟨_, rfl⟩
    subst hv2
    have hbw : Below w.heap.size w v2 := bnext (w := w) hbv hB
    have hi1 : a < k := ham
    go_upto_region 10 with fail
    obtain ⟨ad, had⟩ : ∃ ad, (if lc = a + 1 then some a' else some (a'.add ((a + 1) * 4))) = some ad := by split <;> exact ⟨_, rfl⟩
    have hlt0 : LAt 4 v2 (.slice (some a') k lc) k (fs.flatMap cellsF) := (by have h := ft_lat hlw; rwa [HM.out] at h)
    have hcap : k ≤ lc ∧ lc ≤ 9223372036854775807 := by obtain ⟨_, _, e, x, y, _⟩ := hlt0.shape; injection e with _ _ e3; subst e3; exact ⟨x, y⟩
    have hc3 : (a : Int) ≤ (lc : Int) := by omega
    have hc4 : ((a : Int) + 1) ≤ (lc : Int) := by omega
    have hs1 := hlt0.head (k := a) (by omega)
    have hs2 := hlt0.tail (k := a + 1) (q := ad) (by omega) (fun hlt => by rw [if_neg (by omega)] at had; injection had with had; exact had.symm)
    have HS1 := hid hs1; have HS2 := hid hs2; clear hs1 hs2 hlt0
    refine wp_region_F [5, 6, 7, 8] (by kernel_rfl) [(0, NewEmpty v2.heap.size 34), (4, fun v W9 => W9.ownsRow v2.heap.size 34 4 v a ((fs.flatMap cellsF).take (a * 4)))] [0, 1, 2, 3, 4] 2 (by kernel_rfl) rfl (by simp only [List.forall_mem_cons]; exact ⟨keeps_empty, keeps_owns, fun _ h => by cases h⟩) (by kernel_rfl) ?_
    refine ⟨_, _, rfl, .inl ⟨rfl, fun w => rfl⟩, ?_⟩
    refine ⟨_, _, rfl, .inl ⟨rfl, fun w => rfl⟩, ?_⟩
    refine ⟨_, .int .i64 ((a : Int) + 1), rfl, .inl ⟨rfl, fun w => by go_simp; exact IntWalk.i64_in _ (by omega)⟩, ?_⟩
    refine ⟨_, .slice (some ad) (k - (a + 1)) (lc - (a + 1)), rfl, .inl ⟨rfl, fun w => by go_simp; intro h; exfalso; have := h (by omega); omega⟩, ?_⟩
    show wpS _ _ _ _ _ _ _ (numbered _ _) _ _
    (try simp only [Act.put, List.getElem_toArray, List.getElem_cons_succ, List.getElem_cons_zero, List.setIfInBounds_toArray, List.set_cons_succ, List.set_cons_zero])
    simp only [numbered, List.filterMap_cons, List.filterMap_nil, List.getElem?_toArray, List.getElem?_cons_succ, List.getElem?_cons_zero, Option.map_some]
    show wpS _ _ _ _ _ _ _ [(_, _), (_, _), (_, _), (_, _), (_, _)] _ _
    refine wpS_fresh rfl rfl (fun w' hb hF => ?_) ?_
    ·change freshAt _ _ _ (NewEmpty v2.heap.size 34) _; unfold freshAt; go_simp; exact empty_of hb
    intro v W hv; simp only [pOf, List.lookup_cons, Nat.reduceBEq, beq_self_eq_true] at hv; have hv0 := hv; obtain ⟨B0, hB0, rfl, -⟩ := hv
    simp only [Act.put, List.setIfInBounds_toArray, List.set_cons_succ, List.set_cons_zero]
    (refine wpS_quiet rfl rfl ?_; intro K hK inst hx; go_big_quiet_op; (first | go_big_quiet_on | (refine ⟨_, fun _ => rfl, ?_⟩; go_big_quiet_on)); clear hx inst)
    (refine wpS_quiet rfl rfl ?_; intro K hK inst hx; go_big_quiet_op; (first | go_big_quiet_on | (refine ⟨_, fun _ => rfl, ?_⟩; go_big_quiet_on)); clear hx inst)
    (refine wpS_quiet rfl rfl ?_; intro K hK inst hx; go_big_quiet_op; (first | go_big_quiet_on | (refine ⟨_, fun _ => rfl, ?_⟩; go_big_quiet_on)); clear hx inst)
    refine wpS_fresh rfl rfl (fun w' hb hF => ?_) ?_
    ·change freshAt _ _ _ (fun v W9 => W9.ownsRow v2.heap.size 34 4 v a ((fs.flatMap cellsF).take (a * 4))) _; have h0 : NewEmpty v2.heap.size 34 _ w' := hF 0 _ rfl (by kernel_rfl); exact fresh_append (.tmp 43) (.tmp 46) 38 rfl v2.heap.size 34 i0 (.agg #[.int .i64 0, .int .i64 0, .int .i64 0, .int .i64 0]) 4 32 Tryz.underlying38 hi hz0 hz1 hz2 rfl (by decide) (.slice (some ⟨B0, 0, none⟩) 0 0) rfl h0 a' a lc _ rfl HS1.out.len (fun j u h => bkeep hb (HS1.out.cells j u h)) HS1.out.one (by unfold maxLen; omega) (by omega) hb.size
    intro v W hv; simp only [pOf, List.lookup_cons, Nat.reduceBEq, beq_self_eq_true] at hv; obtain ⟨ga, gc, rfl, -⟩ := owns_shape hv
    simp only [Act.put, List.setIfInBounds_toArray, List.set_cons_succ, List.set_cons_zero]
    refine wpS_nil ?_
    intro w2 hall
    have hb := hall.1
    have h4 : w2.ownsRow v2.heap.size 34 4 _ a ((fs.flatMap cellsF).take (a * 4)) := hall.2 4 _ rfl
    clear hall
    refine wpAny_ready (rs := [9]) (by kernel_rfl) (by simp) ?_
    refine AllReady.cons rfl (fun K hK => ?_) AllReady.nil
    refine (if_pos (show Region.wanted _ _ = true from rfl)).mpr ?_
    refine wp_append_own w2 (.tmp 47) (.tmp 51) 38 rfl v2.heap.size 34 i0 (.agg #[.int .i64 0, .int .i64 0, .int .i64 0, .int .i64 0]) 4 32 Tryz.underlying38 hi hz0 hz1 hz2 rfl (by decide) (.slice ga a gc) a _ rfl h4 ad (k - (a + 1)) (lc - (a + 1)) ((fs.flatMap cellsF).drop ((a + 1) * 4)) rfl HS2.out.len (fun j u h => bkeep hb (HS2.out.cells j u h)) HS2.out.one (by unfold maxLen; omega) (by omega) hb.size ?_
    intro v52 w3 ho3 hg3 hnil3
    refine hK _ _ ?_
    clear hK K hnil3
    obtain ⟨xa, xc, rfl, -⟩ := owns_shape ho3
    have hb3 : Below v2.heap.size v2 w3 := below_grown hb hg3 h4 hb.size (Nat.le_refl _)
    clear hb hg3 h4 HS1 HS2
    refine wpAny_ready (rs := [10]) (by kernel_rfl) (by simp) ?_
    refine AllReady.cons rfl (fun K hK => ?_) AllReady.nil
    go_simp
    refine hK _ _ ?_; clear hK K
    refine wpAny_done (by kernel_rfl) ?_ _
    refine ⟨rfl, ?_⟩
    replace hbw := bnext (w := w) hbw hb3
    have p0 := bkeep hb3 (bkeep hB q0)
    have p1 := bkeep hb3 (bkeep hB q1)
    have p2 := bkeep hb3 (bkeep hB q2)
    have p3 := bkeep hb3 (bkeep hB q3)
    have p4 := bkeep hb3 (bkeep hB q4)
    have p5 := bkeep hb3 (bkeep hB q5)
    have hlw3 := hlw.below hb3
    have hle : (fs.eraseIdx a).length = n := by rw [List.length_eraseIdx_of_lt (by rw [HM.out]; exact ham), HM.out, HMN.out]; rfl
    have hae : a + (k - (a + 1)) = n := by have h := HMN.out; omega
    rw [flat_erase lenF', hae] at ho3
    rw [hae]
    have hoke : ∀ f ∈ fs.eraseIdx a, FtOk f := fun f h => hok f (List.mem_of_mem_eraseIdx h)
    have hre : FeetAt w3 (.slice xa n xc) (fs.eraseIdx a) := feetAt_of_owns hoke (by rw [hle]; exact ho3)
    clear ho3 hae
    obtain ⟨sa, hsa, hrl, hc0, hcc⟩ := (show RowsAt 4 w3 (.slice (some a') (fs.map rowF).length lc) (fs.map rowF) by rw [List.length_map, HM.out]; exact hlw3).row (k := a) (by rw [List.length_map, HM.out]; omega)
    injection hsa with hsa; subst hsa
    obtain ⟨⟨sw, sd, sh, sg⟩, hsf⟩ : ∃ f, fs[a]'(by rw [HM.out]; omega) = f := ⟨_, rfl⟩
    have hat : (fs.map rowF)[a]'(by rw [List.length_map, HM.out]; omega) = [sw, sd, sh, sg] := by rw [List.getElem_map, hsf]; rfl
    rw [hat] at hc0 hcc
    have s0 := hc0 _ rfl
    have s1 := hcc 1 _ (by decide) rfl
    have s2 := hcc 2 _ (by decide) rfl
    have s3 := hcc 3 _ (by decide) rfl
    have hso := hok _ (List.getElem_mem (l := fs) (n := a) (by rw [HM.out]; omega))
    rw [hsf] at hso
    clear hc0 hcc hat hrl
    have hal : (a : Int) < (k : Int) := by omega
    have hfa : fs[a]? = some ⟨sw, sd, sh, sg⟩ := by rw [List.getElem?_eq_getElem (by rw [HM.out]; exact ham), hsf]
    have hrm := room_at (s := ⟨bid, bwi, bde, bce, bhi, bbe⟩) (t := t) hfa
    obtain ⟨SL, hSL⟩ : ∃ l, standsL ⟨bid, bwi, bde, bce, bhi, bbe⟩ ⟨sw, sd, sh, sg⟩ = l := ⟨_, rfl⟩
    rw [hSL] at hrm
    have hsml : SL.length ≤ 72 := hSL ▸ stands_small HX.out
    have hrb := hrm.symm.trans HBV.out
    have HRB := hid hrb; have HSL := hid hSL; clear hrm hrb hSL hfa hsf HBV
    have hst : ∀ W' : World, Below w3.heap.size w3 W' → Calls Tryz.prog 65 #[.agg #[.int .i64 bid, .int .i64 bwi, .int .i64 bde, .int .i64 bce, .int .i64 bhi, .int .i64 bbe], .agg #[.int .i64 sw, .int .i64 sd, .int .i64 sh, .int .i64 sg]] W' (fun e w'' => ∃ v, e = .returned v ∧ Below W'.heap.size W' w'' ∧ w''.ownsRow w3.heap.size 62 3 v SL.length (SL.flatMap cellsP)) := fun W' hb => by
     refine (rstands_any2 HX.out hso).mono ?_
     rintro e w'' ⟨v, rfl, h2, h3⟩
     rw [HSL.out] at h3
     exact ⟨v, rfl, h2, owns_base hb.size h3⟩
    have HST := hid hst; clear hst
    go_upto_region 11 with fail
    refine wp_region_Rs [(5, fun v W => W.ownsRow w3.heap.size 62 3 v SL.length (SL.flatMap cellsP))] [0, 1, 2, 3, 4, 5, 6, 7] 0 (by kernel_rfl) rfl (by simp only [List.forall_mem_cons]; exact ⟨keeps_owns, fun _ h => by cases h⟩) (by kernel_rfl) ?_
    simp only [numbered, List.filterMap_cons, List.filterMap_nil, List.getElem?_toArray, List.getElem?_cons_succ, List.getElem?_cons_zero, Option.map_some]
    show wpS _ _ _ _ _ _ _ [(_, _), (_, _), (_, _), (_, _), (_, _), (_, _), (_, _), (_, _)] _ _
    (refine wpS_quiet rfl rfl ?_; intro K hK inst hx; have zp0 := fun x => (fun _ => bkeep (BQ.below x) p0) (hx x); have zp1 := fun x => (fun _ => bkeep (BQ.below x) p1) (hx x); have zp2 := fun x => (fun _ => bkeep (BQ.below x) p2) (hx x); have zp3 := fun x => (fun _ => bkeep (BQ.below x) p3) (hx x); have zp4 := fun x => (fun _ => bkeep (BQ.below x) p4) (hx x); have zp5 := fun x => (fun _ => bkeep (BQ.below x) p5) (hx x); go_big_quiet_op; (first | go_big_quiet_on | (refine ⟨_, fun _ => rfl, ?_⟩; go_big_quiet_on)); clear hx inst)
    (refine wpS_quiet rfl rfl ?_; intro K hK inst hx; go_big_quiet_op; (first | go_big_quiet_on | (refine ⟨_, fun _ => rfl, ?_⟩; go_big_quiet_on)); clear hx inst)
    (refine wpS_quiet rfl rfl ?_; intro K hK inst hx; go_big_quiet_op; (first | go_big_quiet_on | (refine ⟨_, fun _ => rfl, ?_⟩; go_big_quiet_on)); clear hx inst)
    (refine wpS_quiet rfl rfl ?_; intro K hK inst hx; go_big_quiet_op; (first | go_big_quiet_on | (refine ⟨_, fun _ => rfl, ?_⟩; go_big_quiet_on)); clear hx inst)
    (refine wpS_quiet rfl rfl ?_; intro K hK inst hx; have zs0 := fun x => (fun _ => bkeep (BQ.below x) s0) (hx x); have zs1 := fun x => (fun _ => bkeep (BQ.below x) s1) (hx x); have zs2 := fun x => (fun _ => bkeep (BQ.below x) s2) (hx x); have zs3 := fun x => (fun _ => bkeep (BQ.below x) s3) (hx x); go_big_quiet_op; (first | go_big_quiet_on | (refine ⟨_, fun _ => rfl, ?_⟩; go_big_quiet_on)); clear hx inst)
    refine wpS_fresh rfl rfl (fun w' hb hF => ?_) ?_
    ·change freshAt _ _ _ (fun v W => W.ownsRow w3.heap.size 62 3 v SL.length (SL.flatMap cellsP)) _; unfold freshAt; go_simp; exact HST.out _ hb
    intro v W hv; simp only [pOf, List.lookup_cons, Nat.reduceBEq, beq_self_eq_true] at hv; obtain ⟨sa, sc, rfl, -⟩ := owns_shape hv
    simp only [Act.put, List.setIfInBounds_toArray, List.set_cons_succ, List.set_cons_zero]
    (refine wpS_quiet rfl rfl ?_; intro K hK inst hx; go_big_quiet_op; (first | go_big_quiet_on | (refine ⟨_, fun _ => rfl, ?_⟩; go_big_quiet_on)); clear hx inst)
    (refine wpS_quiet rfl rfl ?_; intro K hK inst hx; go_big_quiet_op; (first | go_big_quiet_on | (refine ⟨_, fun _ => rfl, ?_⟩; go_big_quiet_on)); clear hx inst)
    refine wpS_nil ?_
    intro w4 hall
    have hb := hall.1
    have hso4 : w4.ownsRow w3.heap.size 62 3 _ SL.length (SL.flatMap cellsP) := hall.2 5 _ rfl
    clear hall
    refine wpAny_done (by kernel_rfl) ?_ _
    replace hbw := bnext (w := w) hbw hb
    replace p0 := bkeep hb p0
    replace p1 := bkeep hb p1
    replace p2 := bkeep hb p2
    replace p3 := bkeep hb p3
    replace p4 := bkeep hb p4
    replace p5 := bkeep hb p5
    replace s0 := bkeep hb s0
    replace s1 := bkeep hb s1
    replace s2 := bkeep hb s2
    replace s3 := bkeep hb s3
    replace hre := hre.below hb
    have hlt4 := stAt_cellsP hso4
    clear hb HST hlw3 hso4
    obtain ⟨v4, hv4⟩ : ∃ v, v = w4 := ⟨_, rfl⟩
    subst hv4
    go_wp2_with fail
    go_loopg [12, 13, 60] SL.length (fun gk _ _ kv wr => ∃ j : Nat, j ≤ SL.length ∧ gk = SL.length - j ∧ kv = .int .i64 j ∧ Hid ((SL.take j).any (fun p => decide (t &&& maskOf ⟨sw, sd, sh, sg⟩ p = 0) && roomB ⟨bid, bwi, bde, bce, bhi, bbe⟩ (fs.eraseIdx a) (t ||| maskOf ⟨sw, sd, sh, sg⟩ p)) = false) ∧ Below v4.heap.size v4 wr)
    case atStart => exact ⟨0, Nat.zero_le _, rfl, rfl, by simp [Hid], Below.refl _ _⟩
    case round =>
     obtain ⟨j, hj, hgk, rfl, HA, hB4⟩ := hrel
     have HGK2 := hid hgk; clear hgk
     have hb1 : Below w.heap.size w wr := bnext (w := w) hbw hB4
     by_cases hlj : j < SL.length
     ·have hjl : (j : Int) < (SL.length : Int) := by omega
      replace p0 := bkeep hB4 p0
      replace p1 := bkeep hB4 p1
      replace p2 := bkeep hB4 p2
      replace p3 := bkeep hB4 p3
      replace p4 := bkeep hB4 p4
      replace p5 := bkeep hB4 p5
      replace s0 := bkeep hB4 s0
      replace s1 := bkeep hB4 s1
      replace s2 := bkeep hB4 s2
      replace s3 := bkeep hB4 s3
      obtain ⟨⟨py, px, pt⟩, hpj⟩ : ∃ p, SL[j] = p := ⟨_, rfl⟩
      have hstr := (show StAt wr (.slice sa (SL.map toSq).length sc) (SL.map toSq) by rw [List.length_map]; exact hlt4.below hB4).row (k := j) (by rw [List.length_map]; exact hlj)
      obtain ⟨b', hb', e0, e1, e2⟩ := hstr
      simp only [List.getElem_map, hpj, toSq] at e0 e1 e2
      subst hb'
      have hmem : (⟨py, px, pt⟩ : St) ∈ standsL ⟨bid, bwi, bde, bce, bhi, bbe⟩ ⟨sw, sd, sh, sg⟩ := by rw [HSL.out, ← hpj]; exact List.getElem_mem hlj
      obtain ⟨mk, hmk⟩ : ∃ mk, maskW ⟨bid, bwi, bde, bce, bhi, bbe⟩ ⟨sw, sd, sh, sg⟩ ⟨py, px, pt⟩ = mk := ⟨_, rfl⟩
      obtain ⟨hrl1, hml⟩ := maskW_rel HX.out hso hmem
      rw [hmk] at hrl1 hml
      obtain ⟨mo, hmo⟩ : ∃ mo, maskOf ⟨sw, sd, sh, sg⟩ ⟨py, px, pt⟩ = mo := ⟨_, rfl⟩
      rw [hmo] at hrl1
      have HMO := hid hmo; have HMK := hid hmk; have HPJ := hid hpj; have HMEM := hid hmem; have HRL := hid hrl1; clear hmo hmk hpj hmem hrl1
      go_upto_region 14 with fail
      generalize hW : World.alloc wr _ = v5
      have c0 : v5.cell? ⟨wr.heap.size, 0, none⟩ = some (.int .i64 py) := by rw [← hW]; simp [go_sem]
      have c1 : v5.cell? ⟨wr.heap.size, 1, none⟩ = some (.int .i64 px) := by rw [← hW]; simp [go_sem]
      have c2 : v5.cell? ⟨wr.heap.size, 2, none⟩ = some (.bool pt) := by rw [← hW]; simp [go_sem]
      have hb : Below wr.heap.size wr v5 := by rw [← hW]; exact (Below.refl _ _).alloc (Nat.le_refl _) _
      replace hB4 := bnext (w := v4) hB4 hb
      replace hb1 := bnext (w := w) hb1 hb
      replace p0 := bkeep hb p0
      replace p1 := bkeep hb p1
      replace p2 := bkeep hb p2
      replace p3 := bkeep hb p3
      replace p4 := bkeep hb p4
      replace p5 := bkeep hb p5
      replace s0 := bkeep hb s0
      replace s1 := bkeep hb s1
      replace s2 := bkeep hb s2
      replace s3 := bkeep hb s3
      clear hb hW e0 e1 e2
      have xc0 := fun x : BW v5 => bkeep x.below c0
      have xc1 := fun x : BW v5 => bkeep x.below c1
      have xc2 := fun x : BW v5 => bkeep x.below c2
      have xp0 := fun x : BW v5 => bkeep x.below p0
      have xp1 := fun x : BW v5 => bkeep x.below p1
      have xp2 := fun x : BW v5 => bkeep x.below p2
      have xp3 := fun x : BW v5 => bkeep x.below p3
      have xp4 := fun x : BW v5 => bkeep x.below p4
      have xp5 := fun x : BW v5 => bkeep x.below p5
      have xs0 := fun x : BW v5 => bkeep x.below s0
      have xs1 := fun x : BW v5 => bkeep x.below s1
      have xs2 := fun x : BW v5 => bkeep x.below s2
      have xs3 := fun x : BW v5 => bkeep x.below s3
      refine wp_region_qb (by kernel_rfl) (by kernel_rfl) fun hc => ?_
      repeat (go_big_quiet_step ((go_at_call 80; exact BW.call _ (rCells_eq HX.out hso HMEM.out HMK.out))))
      refine wpQuiet_nil ?_
      intro w9 hb
      replace hB4 := bnext (w := v4) hB4 hb
      replace hb1 := bnext (w := w) hb1 hb
      replace p0 := bkeep hb p0
      replace p1 := bkeep hb p1
      replace p2 := bkeep hb p2
      replace p3 := bkeep hb p3
      replace p4 := bkeep hb p4
      replace p5 := bkeep hb p5
      clear hb hc c0 c1 c2 s0 s1 s2 s3 xc0 xc1 xc2 xp0 xp1 xp2 xp3 xp4 xp5 xs0 xs1 xs2 xs3
      have hand := i64_and_nat u mk (by omega) (by omega)
      have hor := i64_or_nat u mk (by omega) (by omega)
      have hrel0 := rel_and (box_w HX.out).1 (box_w HX.out).2 HR.out HRL.out
      have hstep : (SL.take (j + 1)).any (fun p => decide (t &&& maskOf ⟨sw, sd, sh, sg⟩ p = 0) && roomB ⟨bid, bwi, bde, bce, bhi, bbe⟩ (fs.eraseIdx a) (t ||| maskOf ⟨sw, sd, sh, sg⟩ p)) = (decide (t &&& mo = 0) && roomB ⟨bid, bwi, bde, bce, bhi, bbe⟩ (fs.eraseIdx a) (t ||| mo)) := by rw [List.take_succ_eq_append_getElem hlj, List.any_append, HA.out, Bool.false_or, HPJ.out]; simp [HMO.out]
      have HSTEP := hid hstep; have HAND := hid hand; have HOR := hid hor; clear hstep hand hor
      by_cases h0 : u &&& mk = 0
      ·have ht0 := hrel0.1 h0
       clear hrel0
       obtain ⟨rb, hrb⟩ : ∃ rb, roomB ⟨bid, bwi, bde, bce, bhi, bbe⟩ (fs.eraseIdx a) (t ||| mo) = rb := ⟨_, rfl⟩
       have hcall : ∀ W' : World, Below w9.heap.size w9 W' → Calls Tryz.prog 148 #[.agg #[.int .i64 bid, .int .i64 bwi, .int .i64 bde, .int .i64 bce, .int .i64 bhi, .int .i64 bbe], .slice xa n xc, .int .i64 ((u ||| mk : Nat) : Int)] W' (Ret W' (.bool rb)) := fun W' hb => rRoom HX.out n hle (by have h := HMN.out; omega) ((hre.below hB4).below hb) hoke (Nat.or_lt_two_pow hu hml) (rel_or HR.out HRL.out) hrb
       have HC := hid (hcall w9 (Below.refl _ _)); have HRBB := hid hrb; clear hcall hrb
       have hz : ((u &&& mk : Nat) : Int) = 0 := by rw [h0]; rfl
       have ha2 : bits .and .i64 (u : Int) (mk : Int) = 0 := HAND.out.trans hz
       have ho2 := HOR.out
       clear hz h0 HAND HOR
       go_wp2_with fail
       refine HC.out.mono ?_
       rintro e w8 ⟨rfl, hb⟩
       replace hB4 := bnext (w := v4) hB4 hb
       replace hb1 := bnext (w := w) hb1 hb
       clear ha2 ho2 hb
       cases rb
       ·have HA2 := hid (HSTEP.out.trans (Bool.and_eq_false_iff.2 (.inr HRBB.out)))
        clear HSTEP HA
        go_wp2_with fail
        go_roundg (SL.length - (j + 1))
        case measure => have h := HGK2.out; omega
        case rel => exact ⟨j + 1, by omega, rfl, by go_num, HA2, hB4⟩
       ·have hd : b = true := by
         rw [← HRB.out, List.any_eq_true]
         refine ⟨⟨py, px, pt⟩, HPJ.out ▸ List.getElem_mem hlj, ?_⟩
         rw [HMO.out, HRBB.out, decide_eq_true ht0]; rfl
        subst hd
        clear HSTEP HA HRB
        go_wp2_with fail
        go_ret
        exact ⟨rfl, hb1⟩
      ·have ht0 : ¬ t &&& mo = 0 := fun e => h0 (hrel0.2 e)
       clear hrel0
       have hz : ¬ ((u &&& mk : Nat) : Int) = 0 := by omega
       have hand2 := HAND.out
       obtain ⟨ga2, hga2⟩ : ∃ z : Int, bits .and .i64 (u : Int) (mk : Int) = z := ⟨_, rfl⟩
       have hz2 : ¬ ga2 = 0 := by rw [← hga2, hand2]; exact hz
       have hz3 : (ga2 == 0) = false := beq_eq_false_iff_ne.mpr hz2
       clear hand2 HAND HOR hz h0
       have HA2 := hid (HSTEP.out.trans (Bool.and_eq_false_iff.2 (.inl (decide_eq_false ht0))))
       clear HSTEP HA
       go_wp2_with fail
       go_roundg (SL.length - (j + 1))
       case measure => have h := HGK2.out; omega
       case rel => exact ⟨j + 1, by omega, rfl, by go_num, HA2, hB4⟩
     ·obtain rfl : j = SL.length := by omega
      have hd : b = false := by rw [← HRB.out]; have h := HA.out; rwa [List.take_of_length_le (Nat.le_refl _)] at h
      subst hd
      clear HRB HA
      go_wp2_with fail
      go_ret
      exact ⟨rfl, hb1⟩
end Go.Proofs.YtodmidchpbcnpaaGreat