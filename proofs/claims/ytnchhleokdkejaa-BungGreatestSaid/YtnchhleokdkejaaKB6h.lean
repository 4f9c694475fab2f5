/- Whether saggars stand. -/
import Derived.Test.YtnchhleokdkejaaKCbh
import Derived.Test.YtnchhleokdkejaaKInRoundh
import Derived.Test.YtnchhleokdkejaaKSch
import Derived.Test.YtnchhleokdkejaaKLibh
import Derived.Maps.OwnSet
import Derived.Maps.OwnOps
import Derived.DeepKeys4
namespace Go.Proofs.Ytnchhleokdkejaa
open Go.RowKit Go.Pb Go.Pb.Ware Go.Pb.Sag
set_option linter.unusedVariables false
set_option linter.unusedSimpArgs false

open Go.Shelf Go.Pb.Bung
attribute [local go_sem] Oper.semAt_some
set_option maxRecDepth 100000 in
set_option maxHeartbeats 2000000 in
theorem stands_any {w : World} {v : Value} {l : List Sg} (h : RowsAt 8 w v (l.map rowG)) (hl : l.length ≤ 30) (hs : ∀ s ∈ l, 0 ≤ s.wl ∧ s.wl ≤ 10000000 ∧ 0 ≤ s.wh ∧ s.wh ≤ 10000000) :
    Calls Try.prog 88 #[v] w (Ret w (.int .i64 (stA l))) := by
  unfold Ret
  obtain ⟨a, cap, rfl, hll⟩ := h.shape
  rw [List.length_map] at h hll ⊢
  obtain ⟨n, hn⟩ : ∃ n, l.length = n := ⟨_, rfl⟩
  have HPV0 := hid (fun hne => inP_rows h hne : l ≠ [] → InP (fun k => k < w.heap.size) (.slice a l.length cap))
  rw [hn] at h hll HPV0 ⊢
  have HN := hid hn; have HS := hid hs; clear hn hs
  refine (callsIn_wide (n := 8)).1 ?_
  refine callsIn_of_wp_marks Try.func88 rfl trivial ?_ rfl
  simp only [Try.ntmps88, List.size_toArray, List.length_cons, List.length_nil, Nat.reduceAdd, Nat.reduceSub, Array.replicate_succ, Array.replicate_zero, List.push_toArray, List.append_toArray, List.nil_append, List.cons_append]
  refine (wpIn_wide (n := 8)).2 ?_
  go_upto_region 2 with fail
  generalize hW : World.alloc (World.alloc (World.alloc w _) _) _ = v1
  have y0 : CellsAt v1 w.heap.size [.slice a n cap] := by rw [← hW]; exact ((CellsAt.new w [.slice a n cap] 24).alloc _).alloc _
  have y1 : CellsAt v1 (w.heap.size + 1) [.int .i64 0] := by rw [← hW]; have h := (CellsAt.new (w.alloc (.cells #[.slice a n cap] 24)) [.int .i64 0] 3).alloc (.cells #[.int .i64 1] 3); rwa [World.size_alloc] at h
  have y2 : CellsAt v1 (w.heap.size + 2) [.int .i64 1] := by rw [← hW]; have h := CellsAt.new ((w.alloc (.cells #[.slice a n cap] 24)).alloc (.cells #[.int .i64 0] 3)) [.int .i64 1] 3; rwa [World.size_alloc, World.size_alloc] at h
  have hB1 : Below w.heap.size w v1 := by rw [← hW]; exact (((Below.refl _ w).alloc (Nat.le_refl _) _).alloc (by simp) _).alloc (by simp; omega) _
  have HZ1 := hid (show v1.heap.size = w.heap.size + 3 by rw [← hW]; simp)
  clear hW
  have q0 := (y0 0 _ rfl).1
  have h1 := h.below hB1
  go_wp2_with fail
  refine loads_any.mono ?_
  rintro e w4 ⟨rfl, c4, hb, hz4⟩
  have hB4 := hB1.trans (hb.mono (by have := HZ1.out; omega))
  replace y0 := y0.below hb; replace y1 := y1.below hb; replace y2 := y2.below hb
  have h4 := h1.below hb
  have HZ4 := hid hz4
  clear q0 hb h1 hz4
  go_wp2_with fail
  refine (wpIn_wide (n := 8)).1 ?_
  refine wpIn_rangeFunc_n (F := Fence.wide) (n := 8) rfl (by omega) (gf := 124) (lb := #[.pointer (some ⟨v1.heap.size, 0, none⟩)]) rfl trivial (enters_of Try.func124 (by kernel_rfl) rfl) (loads_n (m := 7) (by omega) (p := (fun k => k ≠ w.heap.size + 1 ∧ k ≠ w.heap.size + 2 ∧ k < w4.heap.size)) c4 h4 hl HS.out (by have := HZ4.out; have := HZ1.out; exact ⟨by omega, by omega, by omega⟩) (fun hne a n c e => by have h1 := HPV0.out hne a n c e; have := HZ4.out; have := HZ1.out; dsimp only at h1; exact ⟨by omega, by omega, by omega⟩) (fun k hk => hk.2.2)) (fun h k => h.trans k) (fun V q o o' hq _ _ _ => KeepP.put (fun hp => by have := hp.2.2; omega)) (Below.refl _ _) (fun _ => rfl)
    (fun (pre : List Nat) V => Below w.heap.size w V ∧ CellsAt V (w.heap.size + 1) [.int .i64 0] ∧ CellsAt V (w.heap.size + 2) [.int .i64 (allUp l pre.length)] ∧ CellsAt V w.heap.size [.slice a n cap] ∧ noneUp l pre.length ∧ w4.heap.size ≤ V.heap.size) (fun c (pre : List Nat) V => c = .ret ∧ Below w.heap.size w V ∧ CellsAt V (w.heap.size + 1) [.int .i64 0] ∧ stA l = 0 ∧ w4.heap.size ≤ V.heap.size) ?own ?ownx ?low ?lowx (fun _ _ _ _ hs _ _ => hs) ?start
    (fun x a' V => ∃ Bx, w4.heap.size ≤ Bx ∧ CellsAt V Bx [.int .i64 (loadL l x), .int .i64 (loadH l x)] ∧ a' = { tmps := #[.slice a n cap, .pointer (some ⟨w.heap.size, 0, none⟩), .pointer (some ⟨w.heap.size + 1, 0, none⟩), .pointer (some ⟨w.heap.size + 1 + 1, 0, none⟩), .int .i64 (x : Int), .pointer (some ⟨Bx, 0, none⟩), .slice a n cap, .func (.func 124) #[] #[.pointer (some ⟨v1.heap.size, 0, none⟩)], .int .i64 (x : Int), .agg #[.int .i64 (loadL l x), .int .i64 (loadH l x)], undef, undef, undef, undef, undef, undef, undef, undef, undef, undef, undef], defers := [] })
    (fun x a' _ X Y row hs hg hr => by obtain ⟨Bx, h1, h2, h3⟩ := hs; exact ⟨Bx, h1, h2.kept hg (fun r e => (hr r e).2), h3⟩)
    ?assign ?body ?done ?stop
  case own => rintro s X Y row ⟨h1, h2, h3, h4, h5, h6⟩ hg hr; exact ⟨h1.grown hg (Nat.le_trans (Nat.le_refl _) h1.size) (fun k e => by have := (hr k e).1; have := HZ4.out; have := HZ1.out; omega), h2.kept hg (fun r e => (hr r e).2), h3.kept hg (fun r e => (hr r e).2), h4.kept hg (fun r e => (hr r e).2), h5, by have := hg.size; omega⟩
  case ownx => rintro c s X Y row ⟨h0, h1, h2, h3, h4⟩ hg hr; exact ⟨h0, h1.grown hg (Nat.le_trans (Nat.le_refl _) h1.size) (fun k e => by have := (hr k e).1; have := HZ4.out; have := HZ1.out; omega), h2.kept hg (fun r e => (hr r e).2), h3, by have := hg.size; omega⟩
  case low => rintro s X Y ⟨h1, h2, h3, h4, h5, h6⟩ hb; exact ⟨h1.trans (hb.mono (by have := HZ4.out; have := HZ1.out; omega)), cells_low h2 hb (by have := HZ4.out; have := HZ1.out; omega), cells_low h3 hb (by have := HZ4.out; have := HZ1.out; omega), cells_low h4 hb (by have := HZ4.out; have := HZ1.out; omega), h5, by have := hb.size; omega⟩
  case lowx => rintro c s X Y ⟨h0, h1, h2, h3, h4⟩ hb; exact ⟨h0, h1.trans (hb.mono (by have := HZ4.out; have := HZ1.out; omega)), cells_low h2 hb (by have := HZ4.out; have := HZ1.out; omega), h3, by have := hb.size; omega⟩
  case start => exact ⟨hB4, y1, by rw [List.length_nil, allUp_zero]; exact y2, y0, noneUp_zero, Nat.le_refl _⟩
  case assign =>
    rintro q pre x V K2 ⟨h1, h2, h3, h4, h5, h6⟩ - hK2
    unfold encL
    gi_wp2
    exact hK2 _ _ (KeepsAll.of_below ((Below.refl _ _).alloc (Nat.le_refl _) _)) (KeepP.of_below ((Below.refl _ _).alloc (Nat.le_refl _) _)) ⟨h1.alloc h1.size _, h2.alloc _, h3.alloc _, h4.alloc _, h5, by simp; omega⟩ trivial ⟨V.heap.size, h6, CellsAt.new V [.int .i64 (loadL l x), .int .i64 (loadH l x)] 23, rfl⟩
  case body =>
    rintro q pre i a' V hq1 hq2 ⟨h1, y1, y2, y0, hnu, hzv⟩ - ⟨Bx, hBx, bX, rfl⟩ hNx
    unfold NxB at hNx
    have hil : i < l.length := by omega
    obtain ⟨s, hs⟩ : ∃ s, l[i]? = some s := ⟨_, List.getElem?_eq_getElem hil⟩
    have hgd : l.getD i default = s := by rw [List.getD, hs]; rfl
    have hil2 : (i : Int) < (n : Int) := by have := HN.out; omega
    obtain ⟨a', ha, r0, hc, -⟩ := sg_row (by rw [HN.out]; exact h.below h1) hs
    subst ha
    obtain ⟨lo, hlo⟩ : ∃ x, loadL l i = x := ⟨_, rfl⟩
    obtain ⟨hi, hhi⟩ : ∃ x, loadH l i = x := ⟨_, rfl⟩
    obtain ⟨r, hr⟩ : ∃ r, ansL l i = r := ⟨_, rfl⟩
    have hr2 : ansS s lo hi = r := by rw [← hr, ← hlo, ← hhi]; unfold ansL; rw [hgd]
    have h3 := ansS_three s lo hi
    rw [hr2] at h3
    rw [hlo, hhi] at bX ⊢
    obtain ⟨sid, swl, swh, sbl, sbh, shl, shh, sti⟩ := s
    dsimp only at r0
    have r1 := hc 1 _ (by decide) rfl
    have r2 := hc 2 _ (by decide) rfl
    have r3 := hc 3 _ (by decide) rfl
    have r4 := hc 4 _ (by decide) rfl
    have r5 := hc 5 _ (by decide) rfl
    have r6 := hc 6 _ (by decide) rfl
    have r7 := hc 7 _ (by decide) rfl
    dsimp only at r1 r2 r3 r4 r5 r6 r7
    have q0 := (y0 0 _ rfl).1; have p0 := (bX 0 _ rfl).1; have p1 := (bX 1 _ rfl).1
    have HR := hid hr2; have HA := hid hr; have HNX := hid hNx; have HNU := hid hnu; clear hc hr2 hr hNx hnu hs hgd hlo hhi hil
    gi_upto_region 5 with (fail)
    refine wpIn_region_F (by kernel_rfl) [] (by kernel_rfl) [(5, fun v _ => v = .int .i64 r)] [0, 1, 2, 3, 4, 5] 0 (by kernel_rfl) rfl (by simp only [List.forall_mem_cons]; exact ⟨keeps_eq, fun _ h => by cases h⟩) (by kernel_rfl) ?_
    simp only [numbered, List.filterMap_cons, List.filterMap_nil, List.getElem?_toArray, List.getElem?_cons_succ, List.getElem?_cons_zero, Option.map_some]
    show wpS _ _ _ _ _ _ _ [(_, _), (_, _), (_, _), (_, _), (_, _), (_, _)] _ _
    (refine wpS_quiet rfl rfl ?_; intro K hK inst hx; have s0 := fun x => (fun _ => bkeep (BQ.below x) r0) (hx x); have s1 := fun x => (fun _ => bkeep (BQ.below x) r1) (hx x); have s2 := fun x => (fun _ => bkeep (BQ.below x) r2) (hx x); have s3 := fun x => (fun _ => bkeep (BQ.below x) r3) (hx x); have s4 := fun x => (fun _ => bkeep (BQ.below x) r4) (hx x); have s5 := fun x => (fun _ => bkeep (BQ.below x) r5) (hx x); have s6 := fun x => (fun _ => bkeep (BQ.below x) r6) (hx x); have s7 := fun x => (fun _ => bkeep (BQ.below x) r7) (hx x); have u0 := fun x => (fun _ => bkeep (BQ.below x) q0) (hx x); have u1 := fun x => (fun _ => bkeep (BQ.below x) p0) (hx x); have u2 := fun x => (fun _ => bkeep (BQ.below x) p1) (hx x); go_big_quiet_op; (first | go_big_quiet_on | (refine ⟨_, fun _ => rfl, ?_⟩; go_big_quiet_on)); clear hx inst)
    (refine wpS_quiet rfl rfl ?_; intro K hK inst hx; have s0 := fun x => (fun _ => bkeep (BQ.below x) r0) (hx x); have s1 := fun x => (fun _ => bkeep (BQ.below x) r1) (hx x); have s2 := fun x => (fun _ => bkeep (BQ.below x) r2) (hx x); have s3 := fun x => (fun _ => bkeep (BQ.below x) r3) (hx x); have s4 := fun x => (fun _ => bkeep (BQ.below x) r4) (hx x); have s5 := fun x => (fun _ => bkeep (BQ.below x) r5) (hx x); have s6 := fun x => (fun _ => bkeep (BQ.below x) r6) (hx x); have s7 := fun x => (fun _ => bkeep (BQ.below x) r7) (hx x); have u0 := fun x => (fun _ => bkeep (BQ.below x) q0) (hx x); have u1 := fun x => (fun _ => bkeep (BQ.below x) p0) (hx x); have u2 := fun x => (fun _ => bkeep (BQ.below x) p1) (hx x); go_big_quiet_op; (first | go_big_quiet_on | (refine ⟨_, fun _ => rfl, ?_⟩; go_big_quiet_on)); clear hx inst)
    (refine wpS_quiet rfl rfl ?_; intro K hK inst hx; have s0 := fun x => (fun _ => bkeep (BQ.below x) r0) (hx x); have s1 := fun x => (fun _ => bkeep (BQ.below x) r1) (hx x); have s2 := fun x => (fun _ => bkeep (BQ.below x) r2) (hx x); have s3 := fun x => (fun _ => bkeep (BQ.below x) r3) (hx x); have s4 := fun x => (fun _ => bkeep (BQ.below x) r4) (hx x); have s5 := fun x => (fun _ => bkeep (BQ.below x) r5) (hx x); have s6 := fun x => (fun _ => bkeep (BQ.below x) r6) (hx x); have s7 := fun x => (fun _ => bkeep (BQ.below x) r7) (hx x); have u0 := fun x => (fun _ => bkeep (BQ.below x) q0) (hx x); have u1 := fun x => (fun _ => bkeep (BQ.below x) p0) (hx x); have u2 := fun x => (fun _ => bkeep (BQ.below x) p1) (hx x); go_big_quiet_op; (first | go_big_quiet_on | (refine ⟨_, fun _ => rfl, ?_⟩; go_big_quiet_on)); clear hx inst)
    (refine wpS_quiet rfl rfl ?_; intro K hK inst hx; have s0 := fun x => (fun _ => bkeep (BQ.below x) r0) (hx x); have s1 := fun x => (fun _ => bkeep (BQ.below x) r1) (hx x); have s2 := fun x => (fun _ => bkeep (BQ.below x) r2) (hx x); have s3 := fun x => (fun _ => bkeep (BQ.below x) r3) (hx x); have s4 := fun x => (fun _ => bkeep (BQ.below x) r4) (hx x); have s5 := fun x => (fun _ => bkeep (BQ.below x) r5) (hx x); have s6 := fun x => (fun _ => bkeep (BQ.below x) r6) (hx x); have s7 := fun x => (fun _ => bkeep (BQ.below x) r7) (hx x); have u0 := fun x => (fun _ => bkeep (BQ.below x) q0) (hx x); have u1 := fun x => (fun _ => bkeep (BQ.below x) p0) (hx x); have u2 := fun x => (fun _ => bkeep (BQ.below x) p1) (hx x); go_big_quiet_op; (first | go_big_quiet_on | (refine ⟨_, fun _ => rfl, ?_⟩; go_big_quiet_on)); clear hx inst)
    (refine wpS_quiet rfl rfl ?_; intro K hK inst hx; have s0 := fun x => (fun _ => bkeep (BQ.below x) r0) (hx x); have s1 := fun x => (fun _ => bkeep (BQ.below x) r1) (hx x); have s2 := fun x => (fun _ => bkeep (BQ.below x) r2) (hx x); have s3 := fun x => (fun _ => bkeep (BQ.below x) r3) (hx x); have s4 := fun x => (fun _ => bkeep (BQ.below x) r4) (hx x); have s5 := fun x => (fun _ => bkeep (BQ.below x) r5) (hx x); have s6 := fun x => (fun _ => bkeep (BQ.below x) r6) (hx x); have s7 := fun x => (fun _ => bkeep (BQ.below x) r7) (hx x); have u0 := fun x => (fun _ => bkeep (BQ.below x) q0) (hx x); have u1 := fun x => (fun _ => bkeep (BQ.below x) p0) (hx x); have u2 := fun x => (fun _ => bkeep (BQ.below x) p1) (hx x); go_big_quiet_op; (first | go_big_quiet_on | (refine ⟨_, fun _ => rfl, ?_⟩; go_big_quiet_on)); clear hx inst)
    refine wpS_fresh rfl rfl (fun w' hb hF => ?_) ?_
    · change freshAt _ _ _ (fun v _ => v = .int .i64 r) _; unfold freshAt; go_simp; exact ans_any HR.out
    intro v W hv; simp only [pOf, List.lookup_cons, Nat.reduceBEq, beq_self_eq_true] at hv; subst hv
    simp only [Act.put, List.setIfInBounds_toArray, List.set_cons_succ, List.set_cons_zero]
    refine wpS_nil ?_
    intro V2 hall
    have hb := hall.1
    clear hall
    replace y0 := y0.below hb; replace y1 := y1.below hb; replace y2 := y2.below hb
    have hb2 := h1.trans (hb.mono h1.size)
    have hz2 := hb.size
    clear r0 r1 r2 r3 r4 r5 r6 r7 q0 p0 p1 bX
    refine wpAny_done (by kernel_rfl) ?_ _
    refine ⟨rfl, ?_⟩
    have e1 := (y1 0 _ rfl).1; have f1 := (y1 0 _ rfl).2; have e2 := (y2 0 _ rfl).1; have f2 := (y2 0 _ rfl).2
    rcases h3 with rfl | rfl | rfl
    · gi_wp2
      exact ⟨(KeepsAll.of_below hb).trans (KeepsAll.set (by have := HZ4.out; have := HZ1.out; show w.heap.size + 1 < _; omega)), rfl, hb2.setCell (p := ⟨w.heap.size + 1, 0, none⟩) (Nat.le_succ _) _, cells_store (o := 0) y1, stA_no (by have := HNX.out; omega) HA.out, by simp; omega⟩
    · gi_wp2
      exact ⟨(KeepsAll.of_below hb), (KeepP.of_below hb), hb2, y1, by rw [List.length_append, List.length_singleton, allUp_same HNX.out (by rw [HA.out]; decide)]; exact y2, y0, by rw [List.length_append, List.length_singleton]; exact noneUp_next HNU.out HNX.out (by rw [HA.out]; decide), by omega⟩
    · gi_wp2
      exact ⟨(KeepsAll.of_below hb).trans (KeepsAll.set (by have := HZ4.out; have := HZ1.out; show w.heap.size + 2 < _; omega)), (KeepP.of_below hb).trans (KeepP.set (fun hp => hp.2.1 rfl)), hb2.setCell (p := ⟨w.heap.size + 2, 0, none⟩) (by show w.heap.size ≤ w.heap.size + 2; omega) _, y1.other (by omega) _, by rw [List.length_append, List.length_singleton, allUp_two HNX.out HA.out]; exact cells_store (o := 0) y2, y0.other (by omega) _, by rw [List.length_append, List.length_singleton]; exact noneUp_next HNU.out HNX.out (by rw [HA.out]; decide), by simp; omega⟩
  case done =>
    rintro D xs V hD hS ⟨h1, y1, y2, y0, hnu, hzv⟩ hK2
    rw [hS] at y2 hnu
    have hres := stA_end hnu
    obtain ⟨u, hu⟩ : ∃ u, allUp l l.length = u := ⟨_, rfl⟩
    rw [hu] at y2 hres
    have HU := hid hres; clear hres hu hS hnu
    have e1 := (y1 0 _ rfl).1; have f1 := (y1 0 _ rfl).2; have e2 := (y2 0 _ rfl).1
    go_wp2_with fail
    have y3 := cells_store (o := 0) (u := .int .i64 u) y1
    have hB3 := h1.setCell (p := ⟨w.heap.size + 1, 0, none⟩) (Nat.le_succ _) (.int .i64 u)
    have hK3 := (KeepsOthers.setCell V ⟨w.heap.size + 1, 0, none⟩ (.int .i64 u)).same D _ hK2 rfl
    refine ⟨by simp, .inl ⟨_, _, rfl, run_takeDeferred hK3, ?_⟩⟩
    have d1 := (CellsAt.kept y3 (grownBy_putObj' _ D (.deferred none)) (fun r e => by cases e; exact ⟨_, hK3, rfl⟩) 0 _ rfl).1
    exact ⟨.int .i64 u, by simp [results, Try.results88, d1, go_sem], ⟨by rw [HU.out], Below.trans hB3 (belowK_b (w := w) (Nat.le_refl _) _ D _ (.deferred none) (by have := hB4.size; omega) hK3 rfl rfl)⟩⟩
  case stop =>
    rintro D c pre V hD hpre ⟨rfl, h1, y1, h3, hzv⟩ hK2
    gi_wp2
    refine ⟨by simp, .inl ⟨_, _, rfl, run_takeDeferred hK2, ?_⟩⟩
    have d1 := (CellsAt.kept y1 (grownBy_putObj' _ D (.deferred none)) (fun r e => by cases e; exact ⟨_, hK2, rfl⟩) 0 _ rfl).1
    exact ⟨.int .i64 0, by simp [results, Try.results88, d1, go_sem], ⟨by rw [h3], Below.trans h1 (belowK_b (w := w) (Nat.le_refl _) _ D _ (.deferred none) (by have := hB4.size; omega) hK2 rfl rfl)⟩⟩

end Go.Proofs.Ytnchhleokdkejaa

/- What each course answers. -/
namespace Go.Proofs.Ytnchhleokdkejaa
open Go.RowKit Go.Pb Go.Pb.Ware Go.Pb.Sag
set_option linter.unusedVariables false
set_option linter.unusedSimpArgs false

open Go.Shelf Go.Pb.Bung
attribute [local go_sem] Oper.semAt_some
theorem Try.infoInt : (Try.prog.info? 3).map (fun i => (i.zero, i.size, i.bytes)) = some (some (.int .i64 0), 1, 8) := by kernel_rfl
theorem ans_i64 (s : Sg) (lo hi : Int) : I64 (ansS s lo hi) := by rcases ansS_three s lo hi with h | h | h <;> rw [h] <;> unfold I64 <;> decide
set_option maxRecDepth 100000 in
set_option maxHeartbeats 2000000 in
theorem courses_any {w : World} {v : Value} {l : List Sg} (h : RowsAt 8 w v (l.map rowG)) (hl : l.length ≤ 30) (hs : ∀ s ∈ l, 0 ≤ s.wl ∧ s.wl ≤ 10000000 ∧ 0 ≤ s.wh ∧ s.wh ≤ 10000000) :
    Calls Try.prog 86 #[v] w (fun e w' => ∃ u, e = .returned u ∧ Below w.heap.size w w' ∧ NumsAt w' u ((List.range l.length).map (ansL l))) := by
  obtain ⟨i0, hi0, hz0, hz1, hz2⟩ := info_parts Try.infoInt
  obtain ⟨a, cap, rfl, hll⟩ := h.shape
  rw [List.length_map] at h hll ⊢
  obtain ⟨n, hn⟩ : ∃ n, l.length = n := ⟨_, rfl⟩
  have HPV0 := hid (fun hne => inP_rows h hne : l ≠ [] → InP (fun k => k < w.heap.size) (.slice a l.length cap))
  rw [hn] at h hll hl HPV0 ⊢
  have HN := hid hn; have HS := hid hs; clear hn hs
  refine (callsIn_wide (n := 8)).1 ?_
  refine callsIn_of_wp_marks Try.func86 rfl trivial ?_ rfl
  simp only [Try.ntmps86, List.size_toArray, List.length_cons, List.length_nil, Nat.reduceAdd, Nat.reduceSub, Array.replicate_succ, Array.replicate_zero, List.push_toArray, List.append_toArray, List.nil_append, List.cons_append]
  refine (wpIn_wide (n := 8)).2 ?_
  go_upto_region 2 with (at_make; refine wpList_make_full _ rfl _ _ 41 rfl (w.heap.size + 1) 3 i0 (.int .i64 0) 1 Try.underlying41 hi0 hz0 hz1 .i64 .i64 _ _ n rfl rfl rfl rfl (by rw [hz2]; omega) (by unfold maxLen; omega) (by simp) ?_; intro w5 ho5 hg5)
  simp only [World.size_alloc] at ho5
  have hm5 := made_at (B := w.heap.size + 1) rfl ho5
  have hb5 : Below (w.alloc (.cells #[.slice a n cap] 24)).heap.size (w.alloc (.cells #[.slice a n cap] 24)) w5 := (Below.refl _ _).grown hg5 (Nat.le_refl _) (fun k h => by cases h)
  have hz5 : w.heap.size + 1 < w5.heap.size := by have := (World.ownsRow.lt ho5 (w.heap.size + 1) (by simp [Value.ownBlock])).2; exact this
  have hB5 : Below w.heap.size w w5 := ((Below.refl w.heap.size w).alloc (Nat.le_refl _) _).trans (hb5.mono (by simp))
  have y05 : CellsAt w5 w.heap.size [.slice a n cap] := (CellsAt.new w [.slice a n cap] 24).below hb5
  have m5 : MadeN (w.heap.size + 1) n (ansL l) 0 w5 := MadeN.start hm5
  generalize hW : World.alloc w5 _ = v1
  have hb6 : Below w5.heap.size w5 v1 := by rw [← hW]; exact (Below.refl _ _).alloc (Nat.le_refl _) _
  have y2 : CellsAt v1 w5.heap.size [.slice (some ⟨w.heap.size + 1, 0, none⟩) n n] := by rw [← hW]; exact CellsAt.new w5 _ 41
  have HZ1 := hid (show v1.heap.size = w5.heap.size + 1 by rw [← hW]; simp)
  have y0 := y05.below hb6; have m1 := m5.below hb6
  have hB1 := hB5.trans (hb6.mono hB5.size)
  have HZ5 := hid hz5
  clear hW hb5 hb6 hB5 y05 m5 hm5 ho5 hg5 hz5 hi0 hz0 hz1 hz2
  have q0 := (y0 0 _ rfl).1
  have h1 := h.below hB1
  go_wp2_with fail
  refine loads_any.mono ?_
  rintro e w4 ⟨rfl, c4, hb, hz4⟩
  have hB4 := hB1.trans (hb.mono (by have := HZ1.out; have := HZ5.out; omega))
  replace y0 := y0.below hb; replace y2 := y2.below hb; replace m1 := m1.below hb
  have h4 := h1.below hb
  have HZ4 := hid hz4
  clear q0 hb h1 hz4
  go_wp2_with fail
  refine (wpIn_wide (n := 8)).1 ?_
  refine wpIn_rangeFunc_n (F := Fence.wide) (n := 8) rfl (by omega) (gf := 124) (lb := #[.pointer (some ⟨v1.heap.size, 0, none⟩)]) rfl trivial (enters_of Try.func124 (by kernel_rfl) rfl) (loads_n (m := 7) (by omega) (p := (fun k => k ≠ w.heap.size + 1 ∧ k < w4.heap.size)) c4 h4 (by rw [HN.out]; exact hl) HS.out (by have := HZ4.out; have := HZ1.out; have := HZ5.out; exact ⟨by omega, by omega⟩) (fun hne a n c e => by have h1 := HPV0.out hne a n c e; have := HZ4.out; have := HZ1.out; have := HZ5.out; dsimp only at h1; exact ⟨by omega, by omega⟩) (fun k hk => hk.2)) (fun h k => h.trans k) (fun V q o o' hq _ _ _ => KeepP.put (fun hp => by have := hp.2; omega)) (Below.refl _ _) (fun _ => rfl)
    (fun (pre : List Nat) V => Below w.heap.size w V ∧ CellsAt V w.heap.size [.slice a n cap] ∧ CellsAt V w5.heap.size [.slice (some ⟨w.heap.size + 1, 0, none⟩) n n] ∧ MadeN (w.heap.size + 1) n (ansL l) pre.length V ∧ w4.heap.size ≤ V.heap.size) (fun c (pre : List Nat) V => False) ?own ?ownx ?low ?lowx (fun _ _ _ _ hs _ _ => hs) ?start
    (fun x a' V => ∃ Bx, w4.heap.size ≤ Bx ∧ CellsAt V Bx [.int .i64 (loadL l x), .int .i64 (loadH l x)] ∧ a' = { tmps := #[.slice a n cap, .pointer (some ⟨w.heap.size, 0, none⟩), .slice none 0 0, .pointer (some ⟨w5.heap.size, 0, none⟩), .int .i64 (x : Int), .pointer (some ⟨Bx, 0, none⟩), .slice a n cap, .int .i64 (n : Int), .slice (some ⟨w.heap.size + 1, 0, none⟩) n n, .slice a n cap, .func (.func 124) #[] #[.pointer (some ⟨v1.heap.size, 0, none⟩)], .int .i64 (x : Int), .agg #[.int .i64 (loadL l x), .int .i64 (loadH l x)], undef, undef, undef, undef, undef, undef, undef, undef, undef, undef], defers := [] })
    (fun x a' _ X Y row hs hg hr => by obtain ⟨Bx, h1, h2, h3⟩ := hs; exact ⟨Bx, h1, h2.kept hg (fun r e => (hr r e).2), h3⟩)
    ?assign ?body ?done ?stop
  case own => rintro s X Y row ⟨h1, h2, h3, h4, h5⟩ hg hr; exact ⟨h1.grown hg (Nat.le_trans (Nat.le_refl _) h1.size) (fun k e => by have := (hr k e).1; have := HZ4.out; have := HZ1.out; have := HZ5.out; omega), h2.kept hg (fun r e => (hr r e).2), h3.kept hg (fun r e => (hr r e).2), h4.kept hg (fun r e => (hr r e).2), by have := hg.size; omega⟩
  case ownx => exact fun c s X Y row hs _ _ => hs
  case low => rintro s X Y ⟨h1, h2, h3, h4, h5⟩ hb; exact ⟨h1.trans (hb.mono (by have := HZ4.out; have := HZ1.out; have := HZ5.out; omega)), cells_low h2 hb (by have := HZ4.out; have := HZ1.out; have := HZ5.out; omega), cells_low h3 hb (by have := HZ4.out; have := HZ1.out; have := HZ5.out; omega), h4.low hb (by have := HZ4.out; have := HZ1.out; have := HZ5.out; omega), by have := hb.size; omega⟩
  case lowx => exact fun c s X Y hs _ => hs
  case start => exact ⟨hB4, y0, y2, m1, Nat.le_refl _⟩
  case assign =>
    rintro q pre x V K2 ⟨h1, h2, h3, h4, h5⟩ - hK2
    unfold encL
    gi_wp2
    exact hK2 _ _ (KeepsAll.of_below ((Below.refl _ _).alloc (Nat.le_refl _) _)) (KeepP.of_below ((Below.refl _ _).alloc (Nat.le_refl _) _)) ⟨h1.alloc h1.size _, h2.alloc _, h3.alloc _, h4.below ((Below.refl _ _).alloc (Nat.le_refl _) _), by simp; omega⟩ trivial ⟨V.heap.size, h5, CellsAt.new V [.int .i64 (loadL l x), .int .i64 (loadH l x)] 23, rfl⟩
  case body =>
    rintro q pre i a' V hq1 hq2 ⟨h1, y0, y2, hm, hzv⟩ - ⟨Bx, hBx, bX, rfl⟩ hNx
    unfold NxB at hNx
    have hil : i < l.length := by omega
    obtain ⟨s, hs⟩ : ∃ s, l[i]? = some s := ⟨_, List.getElem?_eq_getElem hil⟩
    have hgd : l.getD i default = s := by rw [List.getD, hs]; rfl
    have hin : i < n := by have := HN.out; omega
    have hil2 : (i : Int) < (n : Int) := by omega
    obtain ⟨a', ha, r0, hc, -⟩ := sg_row (by rw [HN.out]; exact h.below h1) hs
    subst ha
    obtain ⟨lo, hlo⟩ : ∃ x, loadL l i = x := ⟨_, rfl⟩
    obtain ⟨hi, hhi⟩ : ∃ x, loadH l i = x := ⟨_, rfl⟩
    obtain ⟨r, hr⟩ : ∃ r, ansL l i = r := ⟨_, rfl⟩
    have hr2 : ansS s lo hi = r := by rw [← hr, ← hlo, ← hhi]; unfold ansL; rw [hgd]
    rw [hlo, hhi] at bX ⊢
    obtain ⟨sid, swl, swh, sbl, sbh, shl, shh, sti⟩ := s
    dsimp only at r0
    have r1 := hc 1 _ (by decide) rfl
    have r2 := hc 2 _ (by decide) rfl
    have r3 := hc 3 _ (by decide) rfl
    have r4 := hc 4 _ (by decide) rfl
    have r5 := hc 5 _ (by decide) rfl
    have r6 := hc 6 _ (by decide) rfl
    have r7 := hc 7 _ (by decide) rfl
    dsimp only at r1 r2 r3 r4 r5 r6 r7
    have q0 := (y0 0 _ rfl).1; have p0 := (bX 0 _ rfl).1; have p1 := (bX 1 _ rfl).1; have q1 := (y2 0 _ rfl).1
    have HR := hid hr2; have HA := hid hr; have HNX := hid hNx; clear hc hr2 hr hNx hs hgd hlo hhi hil
    gi_upto_region 5 with (fail)
    refine wpIn_region_F (by kernel_rfl) [] (by kernel_rfl) [(7, fun v _ => v = .int .i64 r)] [0, 1, 2, 3, 4, 5, 6, 7, 8] 1 (by kernel_rfl) rfl (by simp only [List.forall_mem_cons]; exact ⟨keeps_eq, fun _ h => by cases h⟩) (by kernel_rfl) ?_
    simp only [numbered, List.filterMap_cons, List.filterMap_nil, List.getElem?_toArray, List.getElem?_cons_succ, List.getElem?_cons_zero, Option.map_some]
    show wpS _ _ _ _ _ _ _ [(_, _), (_, _), (_, _), (_, _), (_, _), (_, _), (_, _), (_, _), (_, _)] _ _
    (refine wpS_quiet rfl rfl ?_; intro K hK inst hx; have s0 := fun x => (fun _ => bkeep (BQ.below x) r0) (hx x); have s1 := fun x => (fun _ => bkeep (BQ.below x) r1) (hx x); have s2 := fun x => (fun _ => bkeep (BQ.below x) r2) (hx x); have s3 := fun x => (fun _ => bkeep (BQ.below x) r3) (hx x); have s4 := fun x => (fun _ => bkeep (BQ.below x) r4) (hx x); have s5 := fun x => (fun _ => bkeep (BQ.below x) r5) (hx x); have s6 := fun x => (fun _ => bkeep (BQ.below x) r6) (hx x); have s7 := fun x => (fun _ => bkeep (BQ.below x) r7) (hx x); have u0 := fun x => (fun _ => bkeep (BQ.below x) q0) (hx x); have u1 := fun x => (fun _ => bkeep (BQ.below x) p0) (hx x); have u2 := fun x => (fun _ => bkeep (BQ.below x) p1) (hx x); have u3 := fun x => (fun _ => bkeep (BQ.below x) q1) (hx x); go_big_quiet_op; (first | go_big_quiet_on | (refine ⟨_, fun _ => rfl, ?_⟩; go_big_quiet_on)); clear hx inst)
    (refine wpS_quiet rfl rfl ?_; intro K hK inst hx; have s0 := fun x => (fun _ => bkeep (BQ.below x) r0) (hx x); have s1 := fun x => (fun _ => bkeep (BQ.below x) r1) (hx x); have s2 := fun x => (fun _ => bkeep (BQ.below x) r2) (hx x); have s3 := fun x => (fun _ => bkeep (BQ.below x) r3) (hx x); have s4 := fun x => (fun _ => bkeep (BQ.below x) r4) (hx x); have s5 := fun x => (fun _ => bkeep (BQ.below x) r5) (hx x); have s6 := fun x => (fun _ => bkeep (BQ.below x) r6) (hx x); have s7 := fun x => (fun _ => bkeep (BQ.below x) r7) (hx x); have u0 := fun x => (fun _ => bkeep (BQ.below x) q0) (hx x); have u1 := fun x => (fun _ => bkeep (BQ.below x) p0) (hx x); have u2 := fun x => (fun _ => bkeep (BQ.below x) p1) (hx x); have u3 := fun x => (fun _ => bkeep (BQ.below x) q1) (hx x); go_big_quiet_op; (first | go_big_quiet_on | (refine ⟨_, fun _ => rfl, ?_⟩; go_big_quiet_on)); clear hx inst)
    (refine wpS_quiet rfl rfl ?_; intro K hK inst hx; have s0 := fun x => (fun _ => bkeep (BQ.below x) r0) (hx x); have s1 := fun x => (fun _ => bkeep (BQ.below x) r1) (hx x); have s2 := fun x => (fun _ => bkeep (BQ.below x) r2) (hx x); have s3 := fun x => (fun _ => bkeep (BQ.below x) r3) (hx x); have s4 := fun x => (fun _ => bkeep (BQ.below x) r4) (hx x); have s5 := fun x => (fun _ => bkeep (BQ.below x) r5) (hx x); have s6 := fun x => (fun _ => bkeep (BQ.below x) r6) (hx x); have s7 := fun x => (fun _ => bkeep (BQ.below x) r7) (hx x); have u0 := fun x => (fun _ => bkeep (BQ.below x) q0) (hx x); have u1 := fun x => (fun _ => bkeep (BQ.below x) p0) (hx x); have u2 := fun x => (fun _ => bkeep (BQ.below x) p1) (hx x); have u3 := fun x => (fun _ => bkeep (BQ.below x) q1) (hx x); go_big_quiet_op; (first | go_big_quiet_on | (refine ⟨_, fun _ => rfl, ?_⟩; go_big_quiet_on)); clear hx inst)
    (refine wpS_quiet rfl rfl ?_; intro K hK inst hx; have s0 := fun x => (fun _ => bkeep (BQ.below x) r0) (hx x); have s1 := fun x => (fun _ => bkeep (BQ.below x) r1) (hx x); have s2 := fun x => (fun _ => bkeep (BQ.below x) r2) (hx x); have s3 := fun x => (fun _ => bkeep (BQ.below x) r3) (hx x); have s4 := fun x => (fun _ => bkeep (BQ.below x) r4) (hx x); have s5 := fun x => (fun _ => bkeep (BQ.below x) r5) (hx x); have s6 := fun x => (fun _ => bkeep (BQ.below x) r6) (hx x); have s7 := fun x => (fun _ => bkeep (BQ.below x) r7) (hx x); have u0 := fun x => (fun _ => bkeep (BQ.below x) q0) (hx x); have u1 := fun x => (fun _ => bkeep (BQ.below x) p0) (hx x); have u2 := fun x => (fun _ => bkeep (BQ.below x) p1) (hx x); have u3 := fun x => (fun _ => bkeep (BQ.below x) q1) (hx x); go_big_quiet_op; (first | go_big_quiet_on | (refine ⟨_, fun _ => rfl, ?_⟩; go_big_quiet_on)); clear hx inst)
    (refine wpS_quiet rfl rfl ?_; intro K hK inst hx; have s0 := fun x => (fun _ => bkeep (BQ.below x) r0) (hx x); have s1 := fun x => (fun _ => bkeep (BQ.below x) r1) (hx x); have s2 := fun x => (fun _ => bkeep (BQ.below x) r2) (hx x); have s3 := fun x => (fun _ => bkeep (BQ.below x) r3) (hx x); have s4 := fun x => (fun _ => bkeep (BQ.below x) r4) (hx x); have s5 := fun x => (fun _ => bkeep (BQ.below x) r5) (hx x); have s6 := fun x => (fun _ => bkeep (BQ.below x) r6) (hx x); have s7 := fun x => (fun _ => bkeep (BQ.below x) r7) (hx x); have u0 := fun x => (fun _ => bkeep (BQ.below x) q0) (hx x); have u1 := fun x => (fun _ => bkeep (BQ.below x) p0) (hx x); have u2 := fun x => (fun _ => bkeep (BQ.below x) p1) (hx x); have u3 := fun x => (fun _ => bkeep (BQ.below x) q1) (hx x); go_big_quiet_op; (first | go_big_quiet_on | (refine ⟨_, fun _ => rfl, ?_⟩; go_big_quiet_on)); clear hx inst)
    (refine wpS_quiet rfl rfl ?_; intro K hK inst hx; have s0 := fun x => (fun _ => bkeep (BQ.below x) r0) (hx x); have s1 := fun x => (fun _ => bkeep (BQ.below x) r1) (hx x); have s2 := fun x => (fun _ => bkeep (BQ.below x) r2) (hx x); have s3 := fun x => (fun _ => bkeep (BQ.below x) r3) (hx x); have s4 := fun x => (fun _ => bkeep (BQ.below x) r4) (hx x); have s5 := fun x => (fun _ => bkeep (BQ.below x) r5) (hx x); have s6 := fun x => (fun _ => bkeep (BQ.below x) r6) (hx x); have s7 := fun x => (fun _ => bkeep (BQ.below x) r7) (hx x); have u0 := fun x => (fun _ => bkeep (BQ.below x) q0) (hx x); have u1 := fun x => (fun _ => bkeep (BQ.below x) p0) (hx x); have u2 := fun x => (fun _ => bkeep (BQ.below x) p1) (hx x); have u3 := fun x => (fun _ => bkeep (BQ.below x) q1) (hx x); go_big_quiet_op; (first | go_big_quiet_on | (refine ⟨_, fun _ => rfl, ?_⟩; go_big_quiet_on)); clear hx inst)
    (refine wpS_quiet rfl rfl ?_; intro K hK inst hx; have s0 := fun x => (fun _ => bkeep (BQ.below x) r0) (hx x); have s1 := fun x => (fun _ => bkeep (BQ.below x) r1) (hx x); have s2 := fun x => (fun _ => bkeep (BQ.below x) r2) (hx x); have s3 := fun x => (fun _ => bkeep (BQ.below x) r3) (hx x); have s4 := fun x => (fun _ => bkeep (BQ.below x) r4) (hx x); have s5 := fun x => (fun _ => bkeep (BQ.below x) r5) (hx x); have s6 := fun x => (fun _ => bkeep (BQ.below x) r6) (hx x); have s7 := fun x => (fun _ => bkeep (BQ.below x) r7) (hx x); have u0 := fun x => (fun _ => bkeep (BQ.below x) q0) (hx x); have u1 := fun x => (fun _ => bkeep (BQ.below x) p0) (hx x); have u2 := fun x => (fun _ => bkeep (BQ.below x) p1) (hx x); have u3 := fun x => (fun _ => bkeep (BQ.below x) q1) (hx x); go_big_quiet_op; (first | go_big_quiet_on | (refine ⟨_, fun _ => rfl, ?_⟩; go_big_quiet_on)); clear hx inst)
    refine wpS_fresh rfl rfl (fun w' hb hF => ?_) ?_
    · change freshAt _ _ _ (fun v _ => v = .int .i64 r) _; unfold freshAt; go_simp; exact ans_any HR.out
    intro v W hv; simp only [pOf, List.lookup_cons, Nat.reduceBEq, beq_self_eq_true] at hv; subst hv
    simp only [Act.put, List.setIfInBounds_toArray, List.set_cons_succ, List.set_cons_zero]
    (refine wpS_quiet rfl rfl ?_; intro K hK inst hx; have s0 := fun x => (fun _ => bkeep (BQ.below x) r0) (hx x); have s1 := fun x => (fun _ => bkeep (BQ.below x) r1) (hx x); have s2 := fun x => (fun _ => bkeep (BQ.below x) r2) (hx x); have s3 := fun x => (fun _ => bkeep (BQ.below x) r3) (hx x); have s4 := fun x => (fun _ => bkeep (BQ.below x) r4) (hx x); have s5 := fun x => (fun _ => bkeep (BQ.below x) r5) (hx x); have s6 := fun x => (fun _ => bkeep (BQ.below x) r6) (hx x); have s7 := fun x => (fun _ => bkeep (BQ.below x) r7) (hx x); have u0 := fun x => (fun _ => bkeep (BQ.below x) q0) (hx x); have u1 := fun x => (fun _ => bkeep (BQ.below x) p0) (hx x); have u2 := fun x => (fun _ => bkeep (BQ.below x) p1) (hx x); have u3 := fun x => (fun _ => bkeep (BQ.below x) q1) (hx x); go_big_quiet_op; (first | go_big_quiet_on | (refine ⟨_, fun _ => rfl, ?_⟩; go_big_quiet_on)); clear hx inst)
    refine wpS_nil ?_
    intro V2 hall
    have hb := hall.1
    clear hall
    replace y0 := y0.below hb; replace y2 := y2.below hb; replace hm := hm.below hb
    have hb2 := h1.trans (hb.mono h1.size)
    have hz2 := hb.size
    clear r0 r1 r2 r3 r4 r5 r6 r7 q0 q1 p0 p1 bX
    obtain ⟨e1, f1⟩ := hm i hin
    refine wpAny_ready (rs := [9]) (by kernel_rfl) (by simp) ?_
    refine AllReady.cons rfl (fun K hK => ?_) AllReady.nil
    go_simp
    refine hK _ _ ?_; clear hK K
    refine wpAny_done (by kernel_rfl) ?_ _
    refine ⟨rfl, ?_⟩
    exact ⟨(KeepsAll.of_below hb).trans (KeepsAll.set (by have := HZ4.out; have := HZ1.out; have := HZ5.out; show w.heap.size + 1 < _; omega)), (KeepP.of_below hb).trans (KeepP.set (fun hp => hp.1 rfl)), hb2.setCell (p := ⟨w.heap.size + 1, i, none⟩) (Nat.le_succ _) _, y0.other (by omega) _, y2.other (by have := HZ4.out; have := HZ1.out; have := HZ5.out; omega) _, by rw [List.length_append, List.length_singleton, ← HA.out]; exact hm.put (by have := HNX.out; have := HN.out; omega), by simp; omega⟩
  case done =>
    rintro D xs V hD hS ⟨h1, y0, y2, hm, hzv⟩ hK2
    rw [hS, HN.out] at hm
    have e2 := (y2 0 _ rfl).1
    go_wp2_with fail
    refine ⟨by simp, .inl ⟨_, _, rfl, run_takeDeferred hK2, ?_⟩⟩
    have m2 := hm.kept (grownBy_putObj' V D (.deferred none)) (fun r e => by cases e; exact ⟨_, hK2, rfl⟩)
    exact ⟨.slice (some ⟨w.heap.size + 1, 0, none⟩) n n, by simp [results, Try.results86, go_sem], ⟨_, rfl, Below.trans h1 (belowK_b (w := w) (Nat.le_refl _) _ D _ (.deferred none) (by have := hB4.size; omega) hK2 rfl rfl), m2.nums (by omega) (fun i _ => ans_i64 _ _ _)⟩⟩
  case stop => exact fun D c pre V hD hpre hs hK2 => hs.elim

end Go.Proofs.Ytnchhleokdkejaa

/- What each course bears. -/
namespace Go.Proofs.Ytnchhleokdkejaa
open Go.RowKit Go.Pb Go.Pb.Ware Go.Pb.Sag
set_option linter.unusedVariables false
set_option linter.unusedSimpArgs false

open Go.Shelf Go.Pb.Bung
attribute [local go_sem] Oper.semAt_some
theorem Try.infoRng : (Try.prog.info? 23).map (fun i => (i.zero, i.size, i.bytes)) = some (some (.agg #[.int .i64 0, .int .i64 0]), 2, 16) := by kernel_rfl
theorem bungOk_list {lo hi : Int} {l : List Sg} (h : bungOk lo hi l = true) : listOk l = true := by unfold bungOk at h; simp only [Bool.and_eq_true] at h; exact h.2
theorem bungOk_len {lo hi : Int} {l : List Sg} (h : bungOk lo hi l = true) : l.length ≤ 30 := by
  have h1 := bungOk_list h
  unfold listOk at h1
  rw [Bool.and_eq_true, decide_eq_true_eq] at h1
  exact h1.1
theorem okUp_all {l : List Sg} : ∀ k, okUp l k = true → ∀ s ∈ l.take k, sgOk s = true
  | 0, _, s, hs => by simp at hs
  | k + 1, h, s, hs => by
    rw [okUp, Bool.and_eq_true] at h
    rw [List.take_add_one] at hs
    rcases List.mem_append.1 hs with hs | hs
    · exact okUp_all k h.1 s hs
    · cases hk : l[k]? with
      | none => rw [hk] at hs; simp at hs
      | some y =>
        rw [hk] at hs h
        simp at hs
        subst hs
        have h2 := h.2
        simp only [Bool.and_eq_true] at h2
        exact h2.1
theorem listOk_all {l : List Sg} (h : listOk l = true) : ∀ s ∈ l, sgOk s = true := by
  unfold listOk at h
  rw [Bool.and_eq_true] at h
  have := okUp_all l.length h.2
  rwa [List.take_length] at this
theorem sg_bounds {l : List Sg} (h : listOk l = true) : ∀ s ∈ l, 0 ≤ s.wl ∧ s.wl ≤ 10000000 ∧ 0 ≤ s.wh ∧ s.wh ≤ 10000000 := fun s hs => by
  have h1 := listOk_all h s hs
  unfold sgOk rgOk at h1
  simp only [Bool.and_eq_true, decide_eq_true_eq] at h1
  omega
theorem load_i64 {l : List Sg} (h : ∀ s ∈ l, 0 ≤ s.wl ∧ s.wl ≤ 10000000 ∧ 0 ≤ s.wh ∧ s.wh ≤ 10000000) (hl : l.length ≤ 30) (i : Nat) : I64 (loadL l i) ∧ I64 (loadH l i) := by
  obtain ⟨h1, h2, h3, h4⟩ := load_small h i
  exact ⟨I64.mk (by omega) (by omega), I64.mk (by omega) (by omega)⟩

set_option maxRecDepth 100000 in
set_option maxHeartbeats 2000000 in
theorem Loads_good {w : World} {v : Value} {l : List Sg} {wl wh : Int} (h : RowsAt 8 w v (l.map rowG)) (hb : bungOk wl wh l = true) :
    Calls Try.prog 28 #[.agg #[.int .i64 wl, .int .i64 wh, v]] w (fun e w' => ∃ u, e = .returned (.tuple #[u, .int .i64 0]) ∧ Below w.heap.size w w' ∧ RowsAt 2 w' u ((List.range l.length).map fun i => [loadL l i, loadH l i])) := by
  obtain ⟨i0, hi0, hz0, hz1, hz2⟩ := info_parts Try.infoRng
  obtain ⟨a, cap, rfl, hll⟩ := h.shape
  rw [List.length_map] at h hll ⊢
  obtain ⟨n, hn⟩ : ∃ n, l.length = n := ⟨_, rfl⟩
  have HPV0 := hid (fun hne => inP_rows h hne : l ≠ [] → InP (fun k => k < w.heap.size) (.slice a l.length cap))
  rw [hn] at h hll HPV0 ⊢
  have HN := hid hn; clear hn
  have hcb : ckBg wl wh l = 0 := by unfold ckBg; rw [if_pos hb]
  have HCB := hid hcb; have HS := hid (sg_bounds (bungOk_list hb)); have hl : n ≤ 30 := by rw [← HN.out]; exact (bungOk_len hb)
  clear hcb
  refine (callsIn_wide (n := 8)).1 ?_
  refine callsIn_of_wp_marks Try.func28 rfl trivial ?_ rfl
  simp only [Try.ntmps28, List.size_toArray, List.length_cons, List.length_nil, Nat.reduceAdd, Nat.reduceSub, Array.replicate_succ, Array.replicate_zero, List.push_toArray, List.append_toArray, List.nil_append, List.cons_append]
  refine (wpIn_wide (n := 8)).2 ?_
  go_upto_region 1 with fail
  generalize hW0 : World.alloc w _ = wa
  have ya : CellsAt wa w.heap.size [.int .i64 wl, .int .i64 wh, .slice a n cap] := by rw [← hW0]; exact CellsAt.new w _ 26
  have hBa : Below w.heap.size w wa := by rw [← hW0]; exact (Below.refl _ _).alloc (Nat.le_refl _) _
  have HZa := hid (show wa.heap.size = w.heap.size + 1 by rw [← hW0]; simp)
  have ha1 := h.below hBa
  clear hW0
  have q0 := (ya 0 _ rfl).1; have q1 := (ya 1 _ rfl).1; have q2 := (ya 2 _ rfl).1
  go_wp2_with fail
  refine (ckBg_any ha1 HCB.out).mono ?_
  rintro e wc ⟨rfl, hbc⟩
  replace ya := ya.below hbc
  have hBc := hBa.trans (hbc.mono (by have := HZa.out; omega))
  have hzc : w.heap.size + 1 ≤ wc.heap.size := by have := HZa.out; have := hbc.size; omega
  clear ha1 hbc q0 q1 q2
  have q0 := (ya 0 _ rfl).1; have q1 := (ya 1 _ rfl).1; have q2 := (ya 2 _ rfl).1
  go_upto_region 5 with (at_make; refine wpList_make_full _ rfl _ _ 38 rfl wc.heap.size 23 i0 (.agg #[.int .i64 0, .int .i64 0]) 2 Try.underlying38 hi0 hz0 hz1 .i64 .i64 _ _ n rfl rfl rfl rfl (by rw [hz2]; omega) (by unfold maxLen; omega) (Nat.le_refl _) ?_; intro w5 ho5 hg5)
  have hm5 := made_two (B := wc.heap.size) rfl ho5
  have hb5 : Below wc.heap.size wc w5 := (Below.refl _ _).grown hg5 (Nat.le_refl _) (fun k h => by cases h)
  have hz5 : wc.heap.size < w5.heap.size := by have := (World.ownsRow.lt ho5 wc.heap.size (by simp [Value.ownBlock])).2; exact this
  have hB5 : Below w.heap.size w w5 := hBc.trans (hb5.mono hBc.size)
  have y05 := ya.below hb5
  have m5 : MadeR wc.heap.size n (loadL l) (loadH l) 0 w5 := MadeR.start hm5
  clear ya q0 q1 q2
  generalize hW : World.alloc w5 _ = v1
  have hb6 : Below w5.heap.size w5 v1 := by rw [← hW]; exact (Below.refl _ _).alloc (Nat.le_refl _) _
  have y2 : CellsAt v1 w5.heap.size [.slice (some ⟨wc.heap.size, 0, none⟩) n n] := by rw [← hW]; exact CellsAt.new w5 _ 38
  have HZ1 := hid (show v1.heap.size = w5.heap.size + 1 by rw [← hW]; simp)
  have y0 := y05.below hb6; have m1 := m5.below hb6
  have hB1 := hB5.trans (hb6.mono hB5.size)
  have HZ5 := hid hz5
  have HZC := hid hzc; clear hW hb5 hb6 hB5 y05 m5 hm5 ho5 hg5 hz5 hi0 hz0 hz1 hz2 hzc
  have q0 := (y0 0 _ rfl).1; have q1 := (y0 1 _ rfl).1; have q2 := (y0 2 _ rfl).1
  have h1 := h.below hB1
  go_wp2_with fail
  refine loads_any.mono ?_
  rintro e w4 ⟨rfl, c4, hb, hz4⟩
  have hB4 := hB1.trans (hb.mono hB1.size)
  replace y0 := y0.below hb; replace y2 := y2.below hb; replace m1 := m1.below hb
  have h4 := h1.below hb
  have HZ4 := hid hz4
  clear q0 q1 q2 hb h1 hz4
  go_wp2_with fail
  refine (wpIn_wide (n := 8)).1 ?_
  refine wpIn_rangeFunc_n (F := Fence.wide) (n := 8) rfl (by omega) (gf := 124) (lb := #[.pointer (some ⟨v1.heap.size, 0, none⟩)]) rfl trivial (enters_of Try.func124 (by kernel_rfl) rfl) (loads_n (m := 7) (by omega) (p := (fun k => k ≠ wc.heap.size ∧ k < w4.heap.size)) c4 h4 (by rw [HN.out]; exact hl) HS.out (by have := HZ4.out; have := HZ1.out; have := HZ5.out; have := HZC.out; exact ⟨by omega, by omega⟩) (fun hne a n c e => by have h1 := HPV0.out hne a n c e; have := HZ4.out; have := HZ1.out; have := HZ5.out; have := HZC.out; dsimp only at h1; exact ⟨by omega, by omega⟩) (fun k hk => hk.2)) (fun h k => h.trans k) (fun V q o o' hq _ _ _ => KeepP.put (fun hp => by have := hp.2; omega)) (Below.refl _ _) (fun _ => rfl)
    (fun (pre : List Nat) V => Below w.heap.size w V ∧ CellsAt V w.heap.size [.int .i64 wl, .int .i64 wh, .slice a n cap] ∧ CellsAt V w5.heap.size [.slice (some ⟨wc.heap.size, 0, none⟩) n n] ∧ MadeR wc.heap.size n (loadL l) (loadH l) pre.length V ∧ w4.heap.size ≤ V.heap.size) (fun c (pre : List Nat) V => False) ?own ?ownx ?low ?lowx (fun _ _ _ _ hs _ _ => hs) ?start
    (fun x a' V => ∃ Bx, w4.heap.size ≤ Bx ∧ CellsAt V Bx [.int .i64 (loadL l x), .int .i64 (loadH l x)] ∧ a' = { tmps := #[.agg #[.int .i64 wl, .int .i64 wh, .slice a n cap], .pointer (some ⟨w.heap.size, 0, none⟩), .slice none 0 0, .int .i64 0, .int .i64 0, .pointer (some ⟨w5.heap.size, 0, none⟩), .int .i64 (x : Int), .pointer (some ⟨Bx, 0, none⟩), .agg #[.int .i64 wl, .int .i64 wh, .slice a n cap], .int .i64 0, .int .i64 0, .bool false, undef, .pointer (some ⟨w.heap.size, 2, none⟩), .slice a n cap, .int .i64 (n : Int), .slice (some ⟨wc.heap.size, 0, none⟩) n n, .pointer (some ⟨w.heap.size, 2, none⟩), .slice a n cap, .func (.func 124) #[] #[.pointer (some ⟨v1.heap.size, 0, none⟩)], .int .i64 (x : Int), .agg #[.int .i64 (loadL l x), .int .i64 (loadH l x)], undef, undef, undef, undef, undef], defers := [] })
    (fun x a' _ X Y row hs hg hr => by obtain ⟨Bx, h1, h2, h3⟩ := hs; exact ⟨Bx, h1, h2.kept hg (fun r e => (hr r e).2), h3⟩)
    ?assign ?body ?done ?stop
  case own => rintro s X Y row ⟨h1, h2, h3, h4, h5⟩ hg hr; exact ⟨h1.grown hg (Nat.le_trans (Nat.le_refl _) h1.size) (fun k e => by have := (hr k e).1; have := HZ4.out; have := HZ1.out; have := HZ5.out; have := HZC.out; omega), h2.kept hg (fun r e => (hr r e).2), h3.kept hg (fun r e => (hr r e).2), h4.kept hg (fun r e => (hr r e).2), by have := hg.size; omega⟩
  case ownx => exact fun c s X Y row hs _ _ => hs
  case low => rintro s X Y ⟨h1, h2, h3, h4, h5⟩ hb; exact ⟨h1.trans (hb.mono (by have := HZ4.out; have := HZ1.out; have := HZ5.out; have := HZC.out; omega)), cells_low h2 hb (by have := HZ4.out; have := HZ1.out; have := HZ5.out; have := HZC.out; omega), cells_low h3 hb (by have := HZ4.out; have := HZ1.out; have := HZ5.out; have := HZC.out; omega), h4.low hb (by have := HZ4.out; have := HZ1.out; have := HZ5.out; have := HZC.out; omega), by have := hb.size; omega⟩
  case lowx => exact fun c s X Y hs _ => hs
  case start => exact ⟨hB4, y0, y2, m1, Nat.le_refl _⟩
  case assign =>
    rintro q pre x V K2 ⟨h1, h2, h3, h4, h5⟩ - hK2
    unfold encL
    gi_wp2
    exact hK2 _ _ (KeepsAll.of_below ((Below.refl _ _).alloc (Nat.le_refl _) _)) (KeepP.of_below ((Below.refl _ _).alloc (Nat.le_refl _) _)) ⟨h1.alloc h1.size _, h2.alloc _, h3.alloc _, h4.below ((Below.refl _ _).alloc (Nat.le_refl _) _), by simp; omega⟩ trivial ⟨V.heap.size, h5, CellsAt.new V [.int .i64 (loadL l x), .int .i64 (loadH l x)] 23, rfl⟩
  case body =>
    rintro q pre i a' V hq1 hq2 ⟨h1, y0, y2, hm, hzv⟩ - ⟨Bx, hBx, bX, rfl⟩ hNx
    unfold NxB at hNx
    have hin : i < n := by have := HN.out; omega
    have hil2 : (i : Int) < (n : Int) := by omega
    have p0 := (bX 0 _ rfl).1; have p1 := (bX 1 _ rfl).1; have q1 := (y2 0 _ rfl).1
    obtain ⟨⟨e1, f1⟩, e2, f2⟩ := hm i hin
    have hm2 := hm.put (i := i) (by have := HN.out; omega)
    have HM := hid hm2; clear hm hm2 hNx
    gi_wp2
    exact ⟨(KeepsAll.set (by have := HZ4.out; have := HZ1.out; have := HZ5.out; have := HZC.out; show wc.heap.size < _; omega)).trans (KeepsAll.set (by have := HZ4.out; have := HZ1.out; have := HZ5.out; have := HZC.out; show wc.heap.size < _; omega)), (KeepP.set (fun hp => hp.1 rfl)).trans (KeepP.set (fun hp => hp.1 rfl)), (h1.setCell (p := ⟨wc.heap.size, i * 2, none⟩) (by have := HZ4.out; have := HZ1.out; have := HZ5.out; have := HZC.out; show w.heap.size ≤ wc.heap.size; omega) _).setCell (p := ⟨wc.heap.size, i * 2 + 1, none⟩) (by have := HZ4.out; have := HZ1.out; have := HZ5.out; have := HZC.out; show w.heap.size ≤ wc.heap.size; omega) _, (y0.other (by have := HZ4.out; have := HZ1.out; have := HZ5.out; have := HZC.out; omega) _).other (by have := HZ4.out; have := HZ1.out; have := HZ5.out; have := HZC.out; omega) _, (y2.other (by have := HZ4.out; have := HZ1.out; have := HZ5.out; have := HZC.out; omega) _).other (by have := HZ4.out; have := HZ1.out; have := HZ5.out; have := HZC.out; omega) _, by rw [List.length_append, List.length_singleton]; exact HM.out, by simp; omega⟩
  case done =>
    rintro D xs V hD hS ⟨h1, y0, y2, hm, hzv⟩ hK2
    rw [hS, HN.out] at hm
    have e2 := (y2 0 _ rfl).1
    go_wp2_with fail
    refine ⟨by simp, .inl ⟨_, _, rfl, run_takeDeferred hK2, ?_⟩⟩
    have m2 := hm.kept (grownBy_putObj' V D (.deferred none)) (fun r e => by cases e; exact ⟨_, hK2, rfl⟩)
    exact ⟨.tuple #[.slice (some ⟨wc.heap.size, 0, none⟩) n n, .int .i64 0], by simp [results, Try.results28, go_sem], ⟨_, rfl, Below.trans h1 (belowK_b (w := w) (Nat.le_refl _) _ D _ (.deferred none) (by have := hB4.size; omega) hK2 rfl rfl), m2.rows (by omega) (fun i _ => load_i64 HS.out (by rw [HN.out]; exact hl) i)⟩⟩
  case stop => exact fun D c pre V hD hpre hs hK2 => hs.elim

end Go.Proofs.Ytnchhleokdkejaa

/- How high saggars are. -/
namespace Go.Proofs.Ytnchhleokdkejaa
open Go.RowKit Go.Pb Go.Pb.Ware Go.Pb.Sag
set_option linter.unusedVariables false
set_option linter.unusedSimpArgs false

open Go.Pb.Bung
theorem ne_blk {a b : Nat} (h : a ≠ b) (o p : Nat) : (⟨a, o, none⟩ : Addr) ≠ ⟨b, p, none⟩ := by intro e; injection e with e _; exact h e
set_option maxRecDepth 100000 in
set_option maxHeartbeats 2000000 in
theorem height_any {w : World} {v : Value} {l : List Sg} {lo hi : Int} (h : RowsAt 8 w v (l.map rowG)) (hl : l.length ≤ 30) (hs : ∀ s ∈ l, 0 ≤ s.hl ∧ s.hl ≤ 10000 ∧ 0 ≤ s.hh ∧ s.hh ≤ 10000) (h1 : 0 ≤ lo ∧ lo ≤ 200) (h2 : 0 ≤ hi ∧ hi ≤ 200) :
    Calls Try.prog 90 #[.agg #[.int .i64 lo, .int .i64 hi], v] w (Ret w (.agg #[.int .i64 (hgtL l lo l.length), .int .i64 (hgtH l hi l.length)])) := by
  unfold Ret
  obtain ⟨a, cap, rfl, hll⟩ := h.shape
  rw [List.length_map] at h hll ⊢
  obtain ⟨n, hn⟩ : ∃ n, l.length = n := ⟨_, rfl⟩
  have HN := hid hn
  rw [hn] at h hll hl ⊢
  have HS := hid hs; have HL1 := hid h1; have HL2 := hid h2; clear hn hs h1 h2
  go_enter Try.func90, Try.ntmps90
  go_upto_region 2 with fail
  generalize hW : World.alloc (World.alloc (World.alloc w _) _) _ = v1
  have y0 : CellsAt v1 w.heap.size [.int .i64 lo, .int .i64 hi] := by rw [← hW]; exact ((CellsAt.new w [.int .i64 lo, .int .i64 hi] 23).alloc _).alloc _
  have y1 : CellsAt v1 (w.heap.size + 1) [.int .i64 0, .int .i64 0] := by rw [← hW]; have h := (CellsAt.new (w.alloc (.cells #[.int .i64 lo, .int .i64 hi] 23)) [.int .i64 0, .int .i64 0] 23).alloc (.cells #[.int .i64 0, .int .i64 0] 23); rwa [World.size_alloc] at h
  have y2 : CellsAt v1 (w.heap.size + 2) [.int .i64 0, .int .i64 0] := by rw [← hW]; have h := CellsAt.new ((w.alloc (.cells #[.int .i64 lo, .int .i64 hi] 23)).alloc (.cells #[.int .i64 0, .int .i64 0] 23)) [.int .i64 0, .int .i64 0] 23; rwa [World.size_alloc, World.size_alloc] at h
  have hB1 : Below w.heap.size w v1 := by rw [← hW]; exact (((Below.refl _ w).alloc (Nat.le_refl _) _).alloc (by simp) _).alloc (by simp; omega) _
  have hz1 : w.heap.size + 3 ≤ v1.heap.size := by rw [← hW]; simp
  have HZ := hid hz1
  clear hW hz1
  go_wp2_with fail
  go_loopg [10] n (fun gk iv wr => ∃ k : Nat, k ≤ n ∧ gk = n - k ∧ iv = .int .i64 k ∧ CellsAt wr w.heap.size [.int .i64 lo, .int .i64 hi] ∧ CellsAt wr (w.heap.size + 1) [.int .i64 0, .int .i64 0] ∧ CellsAt wr (w.heap.size + 2) [.int .i64 (hgtL l lo k), .int .i64 (hgtH l hi k)] ∧ Below w.heap.size w wr ∧ w.heap.size + 3 ≤ wr.heap.size)
  case atStart => exact ⟨0, Nat.zero_le _, rfl, rfl, y0, y1, by rw [(hgt_zero (l := l) (lo := lo) (hi := hi)).1, (hgt_zero (l := l) (lo := lo) (hi := hi)).2]; exact y2, hB1, HZ.out⟩
  case round =>
    clear y0 y1 y2 hB1
    obtain ⟨k, hk, hgk, rfl, y0, y1, y2, hB, hz⟩ := hrel
    have HGK := hid hgk; clear hgk
    by_cases hlt : k < n
    · have hki : (k : Int) < (n : Int) := by omega
      have hkl : k < l.length := by rw [HN.out]; exact hlt
      obtain ⟨s, hs⟩ : ∃ s, l[k]? = some s := ⟨_, List.getElem?_eq_getElem hkl⟩
      have hsm := HS.out s (List.mem_of_getElem? hs)
      obtain ⟨a', ha, r0, hc, hi8⟩ := sg_row (by rw [HN.out]; exact h.below hB) hs
      subst ha
      have hsmall := hgt_small HS.out HL1.out HL2.out k
      obtain ⟨x, hx⟩ : ∃ x, hgtL l lo k = x := ⟨_, rfl⟩
      obtain ⟨y, hy⟩ : ∃ y, hgtH l hi k = y := ⟨_, rfl⟩
      rw [hx] at y2 hsmall; rw [hy] at y2 hsmall
      have hL1 := HL1.out; have hL2 := HL2.out
      have HS1 := hid hs; have HX := hid hx; have HY := hid hy; clear hs hx hy hkl
      obtain ⟨sid, swl, swh, sbl, sbh, shl, shh, sti⟩ := s
      dsimp only at r0 hsm
      have r1 := hc 1 _ (by decide) rfl
      have r2 := hc 2 _ (by decide) rfl
      have r3 := hc 3 _ (by decide) rfl
      have r4 := hc 4 _ (by decide) rfl
      have r5 := hc 5 _ (by decide) rfl
      have r6 := hc 6 _ (by decide) rfl
      have r7 := hc 7 _ (by decide) rfl
      dsimp only at r1 r2 r3 r4 r5 r6 r7
      clear hc hi8
      obtain ⟨v3, hv3⟩ : ∃ v, v = wr := ⟨_, rfl⟩
      subst hv3
      go_upto_region 5 with fail
      generalize hW : World.alloc v3 _ = v5
      have t5 : v5.cell? ⟨v3.heap.size, 5, none⟩ = some (.int .i64 shl) := by rw [← hW]; simp [go_sem]
      have t6 : v5.cell? ⟨v3.heap.size, 6, none⟩ = some (.int .i64 shh) := by rw [← hW]; simp [go_sem]
      have hb5 : Below v3.heap.size v3 v5 := by rw [← hW]; exact (Below.refl _ _).alloc (Nat.le_refl _) _
      replace hB := hB.trans (hb5.mono hB.size)
      replace y0 := y0.below hb5; replace y1 := y1.below hb5; replace y2 := y2.below hb5
      have hz5 := hb5.size
      have hlt3 : v3.heap.size < v5.heap.size := by rw [← hW]; simp
      clear hW hb5 r0 r1 r2 r3 r4 r5 r6 r7
      by_cases hk0 : k = 0
      · subst hk0
        have q0 := (y2 0 _ rfl).1; have q1 := (y2 1 _ rfl).1; have f0 := (y2 0 _ rfl).2; have f1 := (y2 1 _ rfl).2; have p0 := (y0 0 _ rfl).1; have p1 := (y0 1 _ rfl).1
        go_wp2_with (go_at_call 126; refine (sum2_any (a := x) (b := y) (c := shl) (d := shh) (by simp [go_sem]) (by simp [go_sem]) (by simp [go_sem]) (by simp [go_sem]) (by omega)).mono ?_; rintro e w6 ⟨rfl, hb6⟩; have hb7 : Below v5.heap.size v5 w6 := ((Below.refl _ _).alloc (Nat.le_refl _) _).trans (hb6.mono (by simp)); have hz7 := hb7.size; replace y0 := y0.below hb7; replace y1 := y1.below hb7; replace y2 := y2.below hb7; replace t5 := bkeep hb7 t5; replace t6 := bkeep hb7 t6; replace hB := hB.trans (hb7.mono hB.size); clear hb6 hb7; replace q0 := (y2 0 _ rfl).1; replace q1 := (y2 1 _ rfl).1; replace f0 := (y2 0 _ rfl).2; replace f1 := (y2 1 _ rfl).2)
        obtain ⟨e1, e2⟩ := hgt_first (lo := lo) (hi := hi) HS1.out
        go_roundg (n - (0 + 1))
        case measure => have h := HGK.out; omega
        case rel => exact ⟨0 + 1, by omega, rfl, by go_num, two_other y0 (by omega) _ _, two_other y1 (by omega) _ _, by rw [e1, e2, HX.out, HY.out]; exact cells_store (o := 1) (cells_store (o := 0) y2), (hB.setCell (p := ⟨w.heap.size + 2, 0, none⟩) (by show w.heap.size ≤ w.heap.size + 2; omega) _).setCell (p := ⟨w.heap.size + 2, 1, none⟩) (by show w.heap.size ≤ w.heap.size + 2; omega) _, by simp; omega⟩
      · obtain ⟨j, rfl⟩ : ∃ j, k = j + 1 := ⟨k - 1, by omega⟩
        obtain ⟨kk, hkk⟩ : ∃ kk, kk = j + 1 := ⟨_, rfl⟩
        have HKK := hid hkk
        rw [← hkk] at hk hlt hki HGK HS1 HX HY hsmall ⊢
        clear hkk hk0
        have hkp : (0 : Int) < (kk : Int) := by have := HKK.out; omega
        have q0 := (y2 0 _ rfl).1; have q1 := (y2 1 _ rfl).1; have f0 := (y2 0 _ rfl).2; have f1 := (y2 1 _ rfl).2; have p0 := (y0 0 _ rfl).1; have p1 := (y0 1 _ rfl).1
        go_upto_region 7 with (go_at_call 126; refine (sum2_any (a := x) (b := y) (c := lo) (d := hi) (by simp [go_sem]) (by simp [go_sem]) (by simp [go_sem]) (by simp [go_sem]) (by omega)).mono ?_; rintro e w6 ⟨rfl, hb6⟩; have hb7 : Below v5.heap.size v5 w6 := ((Below.refl _ _).alloc (Nat.le_refl _) _).trans (hb6.mono (by simp)); have hz7 := hb7.size; replace y0 := y0.below hb7; replace y1 := y1.below hb7; replace y2 := y2.below hb7; replace t5 := bkeep hb7 t5; replace t6 := bkeep hb7 t6; replace hB := hB.trans (hb7.mono hB.size); clear hb6 hb7; replace q0 := (y2 0 _ rfl).1; replace q1 := (y2 1 _ rfl).1; replace f0 := (y2 0 _ rfl).2; replace f1 := (y2 1 _ rfl).2)
        generalize hW8 : World.setCell _ _ _ = v8
        have hz8 : v8.heap.size = w6.heap.size := by rw [← hW8]; simp
        have z0 : CellsAt v8 w.heap.size [.int .i64 lo, .int .i64 hi] := by rw [← hW8]; exact two_other y0 (by omega) _ _
        have z1 : CellsAt v8 (w.heap.size + 1) [.int .i64 0, .int .i64 0] := by rw [← hW8]; exact two_other y1 (by omega) _ _
        have z2 : CellsAt v8 (w.heap.size + 2) [.int .i64 (x + lo), .int .i64 (y + hi)] := by rw [← hW8]; exact cells_store (o := 1) (cells_store (o := 0) y2)
        have hB8 : Below w.heap.size w v8 := by rw [← hW8]; exact (hB.setCell (p := ⟨w.heap.size + 2, 0, none⟩) (by show w.heap.size ≤ w.heap.size + 2; omega) _).setCell (p := ⟨w.heap.size + 2, 1, none⟩) (by show w.heap.size ≤ w.heap.size + 2; omega) _
        have t58 : v8.cell? ⟨v3.heap.size, 5, none⟩ = some (.int .i64 shl) := by rw [← hW8]; simp only [World.cell?_setCell_other _ _ _ _ (ne_blk (show w.heap.size + 2 ≠ v3.heap.size by omega) _ _)]; exact t5
        have t68 : v8.cell? ⟨v3.heap.size, 6, none⟩ = some (.int .i64 shh) := by rw [← hW8]; simp only [World.cell?_setCell_other _ _ _ _ (ne_blk (show w.heap.size + 2 ≠ v3.heap.size by omega) _ _)]; exact t6
        have hg8 : w.heap.size + 3 ≤ v8.heap.size := by omega
        clear hz8 hW8 y0 y1 y2 t5 t6 q0 q1 f0 f1 p0 p1 hB
        have y0 := z0; have y1 := z1; have y2 := z2; have hB := hB8; have t5 := t58; have t6 := t68; clear z0 z1 z2 hB8 t58 t68
        have q0 := (y2 0 _ rfl).1; have q1 := (y2 1 _ rfl).1; have f0 := (y2 0 _ rfl).2; have f1 := (y2 1 _ rfl).2; have p0 := (y0 0 _ rfl).1; have p1 := (y0 1 _ rfl).1
        go_wp2_with (go_at_call 126; refine (sum2_any (a := (x + lo)) (b := (y + hi)) (c := shl) (d := shh) (by simp [go_sem]) (by simp [go_sem]) (by simp [go_sem]) (by simp [go_sem]) (by omega)).mono ?_; rintro e w6 ⟨rfl, hb6⟩; have hb7 : Below v8.heap.size v8 w6 := ((Below.refl _ _).alloc (Nat.le_refl _) _).trans (hb6.mono (by simp)); have hz7 := hb7.size; replace y0 := y0.below hb7; replace y1 := y1.below hb7; replace y2 := y2.below hb7; replace t5 := bkeep hb7 t5; replace t6 := bkeep hb7 t6; replace hB := hB.trans (hb7.mono hB.size); clear hb6 hb7; replace q0 := (y2 0 _ rfl).1; replace q1 := (y2 1 _ rfl).1; replace f0 := (y2 0 _ rfl).2; replace f1 := (y2 1 _ rfl).2)
        obtain ⟨e1, e2⟩ := hgt_next (lo := lo) (hi := hi) (k := j) (by rw [← HKK.out]; exact HS1.out)
        go_roundg (n - (kk + 1))
        case measure => have h := HGK.out; omega
        case rel => exact ⟨kk + 1, by omega, rfl, by go_num, two_other y0 (by omega) _ _, two_other y1 (by omega) _ _, by rw [show kk + 1 = j + 2 by have := HKK.out; omega, e1, e2, ← HKK.out, HX.out, HY.out]; exact cells_store (o := 1) (cells_store (o := 0) y2), (hB.setCell (p := ⟨w.heap.size + 2, 0, none⟩) (by show w.heap.size ≤ w.heap.size + 2; omega) _).setCell (p := ⟨w.heap.size + 2, 1, none⟩) (by show w.heap.size ≤ w.heap.size + 2; omega) _, by simp; omega⟩
    · obtain rfl : k = n := by omega
      have HE := hid HN.out
      have q0 := (y2 0 _ rfl).1; have q1 := (y2 1 _ rfl).1
      have g0 := (y1 0 _ rfl).1; have g1 := (y1 1 _ rfl).1; have f0 := (y1 0 _ rfl).2; have f1 := (y1 1 _ rfl).2
      go_wp2_with fail
      have z1 := cells_store (o := 1) (u := .int .i64 (hgtH l hi k)) (cells_store (o := 0) (u := .int .i64 (hgtL l lo k)) y1)
      have d0 := (z1 0 _ rfl).1; have d1 := (z1 1 _ rfl).1
      exact bodyPost_ret (v := .agg #[.int .i64 (hgtL l lo k), .int .i64 (hgtH l hi k)]) (by simp [results, Try.results90, go_sem, *]) rfl ⟨by first | rfl | rw [HE.out], (hB.setCell (p := ⟨w.heap.size + 1, 0, none⟩) (Nat.le_succ _) _).setCell (p := ⟨w.heap.size + 1, 1, none⟩) (Nat.le_succ _) _⟩

end Go.Proofs.Ytnchhleokdkejaa

/- Whether bungs stand, and how high they are. -/
namespace Go.Proofs.Ytnchhleokdkejaa
open Go.RowKit Go.Pb Go.Pb.Ware Go.Pb.Sag
set_option linter.unusedVariables false
set_option linter.unusedSimpArgs false

open Go.Pb.Bung
theorem sg_highs {l : List Sg} (h : listOk l = true) : ∀ s ∈ l, 0 ≤ s.hl ∧ s.hl ≤ 10000 ∧ 0 ≤ s.hh ∧ s.hh ≤ 10000 := fun s hs => by
  have h1 := listOk_all h s hs
  unfold sgOk rgOk at h1
  simp only [Bool.and_eq_true, decide_eq_true_eq] at h1
  omega
theorem wad_bounds {lo hi : Int} {l : List Sg} (h : bungOk lo hi l = true) : (0 ≤ lo ∧ lo ≤ 200) ∧ 0 ≤ hi ∧ hi ≤ 200 := by
  unfold bungOk wadOk rgOk at h
  simp only [Bool.and_eq_true, decide_eq_true_eq] at h
  omega

set_option maxRecDepth 100000 in
set_option maxHeartbeats 800000 in
theorem Stands_any {w : World} {v : Value} {l : List Sg} {wl wh : Int} (h : RowsAt 8 w v (l.map rowG)) {r : Int × Int} (hr : (if bungOk wl wh l = true then (stA l, 0) else (0, 31)) = r) :
    Calls Try.prog 32 #[.agg #[.int .i64 wl, .int .i64 wh, v]] w (Ret w (.tuple #[.int .i64 r.1, .int .i64 r.2])) := by
  unfold Ret
  obtain ⟨a, cap, rfl, hll⟩ := h.shape
  rw [List.length_map] at hll ⊢
  obtain ⟨n, hn⟩ : ∃ n, l.length = n := ⟨_, rfl⟩
  have HN := hid hn
  rw [List.length_map] at h
  rw [hn] at h hll ⊢
  clear hn
  obtain ⟨b, hb⟩ : ∃ b, bungOk wl wh l = b := ⟨_, rfl⟩
  have hcb : ckBg wl wh l = if b = true then 0 else 31 := by unfold ckBg; rw [hb]
  have hr2 : r = if b = true then (stA l, 0) else (0, 31) := by rw [← hr, hb]
  clear hr
  cases b
  · rw [if_neg (by simp)] at hcb hr2
    subst hr2
    have HC := hid hcb; clear hcb
    go_enter Try.func32, Try.ntmps32
    go_wp2_with fail
    refine (ckBg_any (h.below (by go_grown)) HC.out).mono ?_
    rintro e w1 ⟨rfl, hb⟩
    replace hb0 := bnext (w := w) (by go_grown) hb; have hz := hb.size; (try simp only [World.size_alloc, World.size_setCell] at hz); replace q0 : w1.cell? ⟨w.heap.size, 0, none⟩ = some (.int .i64 wl) := bkeep hb (by first | (with_reducible exact q0) | (with_reducible exact akeep q0) | simp [*, go_sem]); replace q1 : w1.cell? ⟨w.heap.size, 1, none⟩ = some (.int .i64 wh) := bkeep hb (by first | (with_reducible exact q1) | (with_reducible exact akeep q1) | simp [*, go_sem]); replace q2 : w1.cell? ⟨w.heap.size, 2, none⟩ = some (.slice a n cap) := bkeep hb (by first | (with_reducible exact q2) | (with_reducible exact akeep q2) | simp [*, go_sem]); skip
    clear hb
    go_wp2_with fail
    go_ret2
    exact ⟨rfl, by first | exact hb0 | go_grown⟩
  · rw [if_pos rfl] at hcb hr2
    subst hr2
    have HC := hid hcb; have HL := hid (bungOk_len hb); have HK := hid (bungOk_list hb); have HW := hid (wad_bounds hb); clear hcb hb
    go_enter Try.func32, Try.ntmps32
    go_wp2_with fail
    refine (ckBg_any (h.below (by go_grown)) HC.out).mono ?_
    rintro e w1 ⟨rfl, hb⟩
    replace hb0 := bnext (w := w) (by go_grown) hb; have hz := hb.size; (try simp only [World.size_alloc, World.size_setCell] at hz); replace q0 : w1.cell? ⟨w.heap.size, 0, none⟩ = some (.int .i64 wl) := bkeep hb (by first | (with_reducible exact q0) | (with_reducible exact akeep q0) | simp [*, go_sem]); replace q1 : w1.cell? ⟨w.heap.size, 1, none⟩ = some (.int .i64 wh) := bkeep hb (by first | (with_reducible exact q1) | (with_reducible exact akeep q1) | simp [*, go_sem]); replace q2 : w1.cell? ⟨w.heap.size, 2, none⟩ = some (.slice a n cap) := bkeep hb (by first | (with_reducible exact q2) | (with_reducible exact akeep q2) | simp [*, go_sem]); skip
    clear hb
    go_wp2_with fail
    refine (stands_any (h.below (by go_grown)) HL.out (sg_bounds HK.out)).mono ?_
    rintro e w1 ⟨rfl, hb⟩
    replace hb0 := bnext (w := w) (by go_grown) hb; have hz := hb.size; (try simp only [World.size_alloc, World.size_setCell] at hz); replace q0 : w1.cell? ⟨w.heap.size, 0, none⟩ = some (.int .i64 wl) := bkeep hb (by first | (with_reducible exact q0) | (with_reducible exact akeep q0) | simp [*, go_sem]); replace q1 : w1.cell? ⟨w.heap.size, 1, none⟩ = some (.int .i64 wh) := bkeep hb (by first | (with_reducible exact q1) | (with_reducible exact akeep q1) | simp [*, go_sem]); replace q2 : w1.cell? ⟨w.heap.size, 2, none⟩ = some (.slice a n cap) := bkeep hb (by first | (with_reducible exact q2) | (with_reducible exact akeep q2) | simp [*, go_sem]); skip
    clear hb
    go_wp2_with fail
    go_ret2
    exact ⟨rfl, by first | exact hb0 | go_grown⟩

end Go.Proofs.Ytnchhleokdkejaa

/- By how much bungs lean. -/
namespace Go.Proofs.Ytnchhleokdkejaa
open Go.RowKit Go.Pb Go.Pb.Ware Go.Pb.Sag
set_option linter.unusedVariables false
set_option linter.unusedSimpArgs false

open Go.Pb.Bung
theorem height_eq {w : World} {v : Value} {l : List Sg} {lo hi x y : Int} (h : RowsAt 8 w v (l.map rowG)) (hl : l.length ≤ 30) (hs : ∀ s ∈ l, 0 ≤ s.hl ∧ s.hl ≤ 10000 ∧ 0 ≤ s.hh ∧ s.hh ≤ 10000) (h1 : 0 ≤ lo ∧ lo ≤ 200) (h2 : 0 ≤ hi ∧ hi ≤ 200) (hx : hgtL l lo l.length = x) (hy : hgtH l hi l.length = y) : Calls Try.prog 90 #[.agg #[.int .i64 lo, .int .i64 hi], v] w (Ret w (.agg #[.int .i64 x, .int .i64 y])) := by
  subst hx; subst hy; exact height_any h hl hs h1 h2
set_option maxRecDepth 100000 in
set_option maxHeartbeats 1000000 in
theorem lean_any {w : World} {v : Value} {l : List Sg} {lo hi : Int} (h : RowsAt 8 w v (l.map rowG)) (hl : l.length ≤ 30) (hs : ∀ s ∈ l, 0 ≤ s.hl ∧ s.hl ≤ 10000 ∧ 0 ≤ s.hh ∧ s.hh ≤ 10000) (ht : ∀ s ∈ l, 0 ≤ s.ti ∧ s.ti ≤ 200) (h1 : 0 ≤ lo ∧ lo ≤ 200) (h2 : 0 ≤ hi ∧ hi ≤ 200) :
    Calls Try.prog 92 #[.agg #[.int .i64 lo, .int .i64 hi, v]] w (Ret w (.int .i64 (lnA l hi))) := by
  unfold Ret
  obtain ⟨a, cap, rfl, hll⟩ := h.shape
  rw [List.length_map] at h hll ⊢
  obtain ⟨n, hn⟩ : ∃ n, l.length = n := ⟨_, rfl⟩
  have hcap := RowsAt.caps h
  rw [List.length_map] at hcap
  have HN := hid hn
  rw [hn] at h hll hl hcap ⊢
  obtain ⟨hcap1, hcap2⟩ := hcap
  have HS := hid hs; have HT := hid ht; have HL1 := hid h1; have HL2 := hid h2; clear hn hs ht h1 h2
  obtain ⟨z, hz⟩ : ∃ z, lnA l hi = z := ⟨_, rfl⟩
  rw [hz]
  have HZ := hid hz; clear hz
  go_enter Try.func92, Try.ntmps92
  go_upto_region 2 with fail
  generalize hW : World.alloc w _ = v1
  have y0 : CellsAt v1 w.heap.size [.int .i64 lo, .int .i64 hi, .slice a n cap] := by rw [← hW]; exact CellsAt.new w _ 26
  have hB1 : Below w.heap.size w v1 := by rw [← hW]; exact (Below.refl _ w).alloc (Nat.le_refl _) _
  clear hW
  have q2 := (y0 2 _ rfl).1
  go_wp2_with fail
  go_loopg [3, 9] n (fun gk ov iv wr => ∃ k : Nat, k ≤ n ∧ gk = n - k ∧ ov = .int .i64 (offL l hi k) ∧ iv = .int .i64 k ∧ (0 ≤ offL l hi k ∧ offL l hi k ≤ 80000000 * k) ∧ CellsAt wr w.heap.size [.int .i64 lo, .int .i64 hi, .slice a n cap] ∧ Below w.heap.size w wr)
  case atStart => exact ⟨0, Nat.zero_le _, rfl, rfl, rfl, by simp [offL], y0, hB1⟩
  case round =>
    clear y0 hB1 q2
    obtain ⟨k, hk, hgk, rfl, rfl, hof, y0, hB⟩ := hrel
    have HGK := hid hgk; clear hgk
    by_cases hlt : k < n
    · have hki : (k : Int) < (n : Int) := by omega
      have hkl : k < l.length := by rw [HN.out]; exact hlt
      obtain ⟨s, hs⟩ : ∃ s, l[k]? = some s := ⟨_, List.getElem?_eq_getElem hkl⟩
      have hti := HT.out s (List.mem_of_getElem? hs)
      obtain ⟨a', ha, r0, hc, hi8⟩ := sg_row (by rw [HN.out]; exact h.below hB) hs
      subst ha
      obtain ⟨x, hx⟩ : ∃ x, offL l hi k = x := ⟨_, rfl⟩
      rw [hx] at hof ⊢
      have HS1 := hid hs; have HX := hid hx; clear hs hx hkl
      obtain ⟨sid, swl, swh, sbl, sbh, shl, shh, sti⟩ := s
      dsimp only at r0 hti
      have r1 := hc 1 _ (by decide) rfl
      have r2 := hc 2 _ (by decide) rfl
      have r3 := hc 3 _ (by decide) rfl
      have r4 := hc 4 _ (by decide) rfl
      have r5 := hc 5 _ (by decide) rfl
      have r6 := hc 6 _ (by decide) rfl
      have r7 := hc 7 _ (by decide) rfl
      dsimp only at r1 r2 r3 r4 r5 r6 r7
      clear hc hi8
      obtain ⟨v3, hv3⟩ : ∃ v, v = wr := ⟨_, rfl⟩
      subst hv3
      go_upto_region 5 with fail
      generalize hW : World.alloc v3 _ = v5
      have t7 : v5.cell? ⟨v3.heap.size, 7, none⟩ = some (.int .i64 sti) := by rw [← hW]; simp [go_sem]
      have hb5 : Below v3.heap.size v3 v5 := by rw [← hW]; exact (Below.refl _ _).alloc (Nat.le_refl _) _
      replace hB := hB.trans (hb5.mono hB.size)
      replace y0 := y0.below hb5
      clear hW hb5 r0 r1 r2 r3 r4 r5 r6 r7
      by_cases hk0 : k = 0
      · subst hk0
        go_wp2_with fail
        go_roundg (n - (0 + 1))
        case measure => have h := HGK.out; omega
        case rel => exact ⟨0 + 1, by omega, rfl, by rw [off_first, HX.out], by go_num, by rw [off_first, HX.out]; omega, y0, hB⟩
      · have hkp : (0 : Int) < (k : Int) := by omega
        have hkc : (k : Int) ≤ (cap : Int) := by omega
        have hkn : (k : Int) ≤ (n : Int) := by omega
        have T := rows_tail (k := k) (h.below hB) HN.out hlt
        have hld : (l.drop k).length = n - k := by rw [List.length_drop, HN.out]
        have hsd : ∀ s ∈ l.drop k, 0 ≤ s.hl ∧ s.hl ≤ 10000 ∧ 0 ≤ s.hh ∧ s.hh ≤ 10000 := fun s hm => HS.out s (List.mem_of_mem_drop hm)
        have hsm := (hgt_small hsd HL1.out HL2.out (l.drop k).length).2.2
        obtain ⟨H, hH⟩ : ∃ H, hgtH (l.drop k) hi (l.drop k).length = H := ⟨_, rfl⟩
        obtain ⟨H2, hH2⟩ : ∃ H2, hgtL (l.drop k) lo (l.drop k).length = H2 := ⟨_, rfl⟩
        rw [hH] at hsm
        have hHb : 0 ≤ H ∧ H ≤ 400000 := by rw [hld] at hsm; omega
        have hmul := mul_small hti hHb
        have hnx := off_next (hi := hi) HS1.out hk0
        dsimp only at hnx
        rw [hH, HX.out] at hnx
        obtain ⟨pr, hpr⟩ : ∃ pr, sti * H = pr := ⟨_, rfl⟩
        rw [hpr] at hmul hnx
        have HNX := hid hnx; have HSD := hid hsd; have HHH := hid hH; have HH2 := hid hH2; have HLD := hid hld; have T1 := hid T
        have hw1 : IntKind.i64.wrap pr = pr := IntWalk.i64_in _ (by omega)
        have hw2 : IntKind.i64.wrap (x + pr) = x + pr := IntWalk.i64_in _ (by omega)
        clear hnx hsd hH hH2 hld T hsm
        have q0 := (y0 0 _ rfl).1; have q1 := (y0 1 _ rfl).1; have q2 := (y0 2 _ rfl).1
        go_upto_region 6 with fail
        refine wp_region_Rs [(9, fun v _ => v = .agg #[.int .i64 H2, .int .i64 H]), (10, fun v _ => v = .int .i64 H), (11, fun v _ => v = .int .i64 pr), (12, fun v _ => v = .int .i64 (x + pr))] [0, 1, 2, 3, 4, 5, 6, 7, 8, 9, 10, 11, 12, 13] 0 (by kernel_rfl) rfl (by simp only [List.forall_mem_cons]; exact ⟨keeps_eq, keeps_eq, keeps_eq, keeps_eq, fun _ h => by cases h⟩) (by kernel_rfl) ?_
        simp only [numbered, List.filterMap_cons, List.filterMap_nil, List.getElem?_toArray, List.getElem?_cons_succ, List.getElem?_cons_zero, Option.map_some]
        show wpS _ _ _ _ _ _ _ [(_, _), (_, _), (_, _), (_, _), (_, _), (_, _), (_, _), (_, _), (_, _), (_, _), (_, _), (_, _), (_, _), (_, _)] _ _
        (refine wpS_quiet rfl rfl ?_; intro K hK inst hx; have s0 := fun x => (fun _ => bkeep (BQ.below x) q0) (hx x); have s1 := fun x => (fun _ => bkeep (BQ.below x) q1) (hx x); have s2 := fun x => (fun _ => bkeep (BQ.below x) q2) (hx x); have s3 := fun x => (fun _ => bkeep (BQ.below x) t7) (hx x); go_big_quiet_op; (first | go_big_quiet_on | (refine ⟨_, fun _ => rfl, ?_⟩; go_big_quiet_on)); clear hx inst)
        (refine wpS_quiet rfl rfl ?_; intro K hK inst hx; have s0 := fun x => (fun _ => bkeep (BQ.below x) q0) (hx x); have s1 := fun x => (fun _ => bkeep (BQ.below x) q1) (hx x); have s2 := fun x => (fun _ => bkeep (BQ.below x) q2) (hx x); have s3 := fun x => (fun _ => bkeep (BQ.below x) t7) (hx x); go_big_quiet_op; (first | go_big_quiet_on | (refine ⟨_, fun _ => rfl, ?_⟩; go_big_quiet_on)); clear hx inst)
        (refine wpS_quiet rfl rfl ?_; intro K hK inst hx; have s0 := fun x => (fun _ => bkeep (BQ.below x) q0) (hx x); have s1 := fun x => (fun _ => bkeep (BQ.below x) q1) (hx x); have s2 := fun x => (fun _ => bkeep (BQ.below x) q2) (hx x); have s3 := fun x => (fun _ => bkeep (BQ.below x) t7) (hx x); go_big_quiet_op; (first | go_big_quiet_on | (refine ⟨_, fun _ => rfl, ?_⟩; go_big_quiet_on)); clear hx inst)
        (refine wpS_quiet rfl rfl ?_; intro K hK inst hx; have s0 := fun x => (fun _ => bkeep (BQ.below x) q0) (hx x); have s1 := fun x => (fun _ => bkeep (BQ.below x) q1) (hx x); have s2 := fun x => (fun _ => bkeep (BQ.below x) q2) (hx x); have s3 := fun x => (fun _ => bkeep (BQ.below x) t7) (hx x); go_big_quiet_op; (first | go_big_quiet_on | (refine ⟨_, fun _ => rfl, ?_⟩; go_big_quiet_on)); clear hx inst)
        (refine wpS_quiet rfl rfl ?_; intro K hK inst hx; have s0 := fun x => (fun _ => bkeep (BQ.below x) q0) (hx x); have s1 := fun x => (fun _ => bkeep (BQ.below x) q1) (hx x); have s2 := fun x => (fun _ => bkeep (BQ.below x) q2) (hx x); have s3 := fun x => (fun _ => bkeep (BQ.below x) t7) (hx x); go_big_quiet_op; (first | go_big_quiet_on | (refine ⟨_, fun _ => rfl, ?_⟩; go_big_quiet_on)); clear hx inst)
        (refine wpS_quiet rfl rfl ?_; intro K hK inst hx; have s0 := fun x => (fun _ => bkeep (BQ.below x) q0) (hx x); have s1 := fun x => (fun _ => bkeep (BQ.below x) q1) (hx x); have s2 := fun x => (fun _ => bkeep (BQ.below x) q2) (hx x); have s3 := fun x => (fun _ => bkeep (BQ.below x) t7) (hx x); go_big_quiet_op; (first | go_big_quiet_on | (refine ⟨_, fun _ => rfl, ?_⟩; go_big_quiet_on)); clear hx inst)
        (refine wpS_quiet rfl rfl ?_; intro K hK inst hx; have s0 := fun x => (fun _ => bkeep (BQ.below x) q0) (hx x); have s1 := fun x => (fun _ => bkeep (BQ.below x) q1) (hx x); have s2 := fun x => (fun _ => bkeep (BQ.below x) q2) (hx x); have s3 := fun x => (fun _ => bkeep (BQ.below x) t7) (hx x); go_big_quiet_op; (first | go_big_quiet_on | (refine ⟨_, fun _ => rfl, ?_⟩; go_big_quiet_on)); clear hx inst)
        (refine wpS_quiet rfl rfl ?_; intro K hK inst hx; have s0 := fun x => (fun _ => bkeep (BQ.below x) q0) (hx x); have s1 := fun x => (fun _ => bkeep (BQ.below x) q1) (hx x); have s2 := fun x => (fun _ => bkeep (BQ.below x) q2) (hx x); have s3 := fun x => (fun _ => bkeep (BQ.below x) t7) (hx x); go_big_quiet_op; (first | go_big_quiet_on | (refine ⟨_, fun _ => rfl, ?_⟩; go_big_quiet_on)); clear hx inst)
        (refine wpS_quiet rfl rfl ?_; intro K hK inst hx; have s0 := fun x => (fun _ => bkeep (BQ.below x) q0) (hx x); have s1 := fun x => (fun _ => bkeep (BQ.below x) q1) (hx x); have s2 := fun x => (fun _ => bkeep (BQ.below x) q2) (hx x); have s3 := fun x => (fun _ => bkeep (BQ.below x) t7) (hx x); go_big_quiet_op; (first | go_big_quiet_on | (refine ⟨_, fun _ => rfl, ?_⟩; go_big_quiet_on)); clear hx inst)
        refine wpS_fresh rfl rfl (fun w' hb hF => ?_) ?_
        · change freshAt _ _ _ (fun v _ => v = .agg #[.int .i64 H2, .int .i64 H]) _; unfold freshAt; go_simp; exact height_eq (T1.out.below hb) (by rw [HLD.out]; omega) HSD.out HL1.out HL2.out HH2.out HHH.out
        intro v W hv; simp only [pOf, List.lookup_cons, Nat.reduceBEq, beq_self_eq_true] at hv; subst hv
        simp only [Act.put, List.setIfInBounds_toArray, List.set_cons_succ, List.set_cons_zero]
        refine wpS_fresh rfl rfl (fun w' hb hF => ?_) ?_
        · change freshAt _ _ _ (fun v _ => v = .int .i64 H) _; unfold freshAt; go_simp; (first | exact Below.refl _ _ | exact ⟨Below.refl _ _, rfl⟩ | simp [*, Below.refl])
        intro v W hv; simp only [pOf, List.lookup_cons, Nat.reduceBEq, beq_self_eq_true] at hv; subst hv
        simp only [Act.put, List.setIfInBounds_toArray, List.set_cons_succ, List.set_cons_zero]
        refine wpS_fresh rfl rfl (fun w' hb hF => ?_) ?_
        · change freshAt _ _ _ (fun v _ => v = .int .i64 pr) _; unfold freshAt; go_simp; (first | exact Below.refl _ _ | exact ⟨Below.refl _ _, rfl⟩ | simp [*, Below.refl])
        intro v W hv; simp only [pOf, List.lookup_cons, Nat.reduceBEq, beq_self_eq_true] at hv; subst hv
        simp only [Act.put, List.setIfInBounds_toArray, List.set_cons_succ, List.set_cons_zero]
        refine wpS_fresh rfl rfl (fun w' hb hF => ?_) ?_
        · change freshAt _ _ _ (fun v _ => v = .int .i64 (x + pr)) _; unfold freshAt; go_simp; (first | exact Below.refl _ _ | exact ⟨Below.refl _ _, rfl⟩ | simp [*, Below.refl])
        intro v W hv; simp only [pOf, List.lookup_cons, Nat.reduceBEq, beq_self_eq_true] at hv; subst hv
        simp only [Act.put, List.setIfInBounds_toArray, List.set_cons_succ, List.set_cons_zero]
        (refine wpS_quiet rfl rfl ?_; intro K hK inst hx; have s0 := fun x => (fun _ => bkeep (BQ.below x) q0) (hx x); have s1 := fun x => (fun _ => bkeep (BQ.below x) q1) (hx x); have s2 := fun x => (fun _ => bkeep (BQ.below x) q2) (hx x); have s3 := fun x => (fun _ => bkeep (BQ.below x) t7) (hx x); go_big_quiet_op; (first | go_big_quiet_on | (refine ⟨_, fun _ => rfl, ?_⟩; go_big_quiet_on)); clear hx inst)
        refine wpS_nil ?_
        intro w9 hall
        have hb := hall.1
        clear hall
        refine wpAny_done (by kernel_rfl) ?_ _
        replace y0 := y0.below hb
        replace hB := hB.trans (hb.mono hB.size)
        clear q0 q1 q2 t7 hb
        go_wp2_with fail
        go_roundg (n - (k + 1))
        case measure => have h := HGK.out; omega
        case rel => exact ⟨k + 1, by omega, rfl, by rw [HNX.out], by go_num, by rw [HNX.out]; omega, y0, hB⟩
    · obtain rfl : k = n := by omega
      obtain ⟨x, hx⟩ : ∃ x, offL l hi k = x := ⟨_, rfl⟩
      have hzz : z = (x + 999) / 1000 := by rw [← HZ.out]; unfold lnA; rw [HN.out, hx]
      rw [hx] at hof ⊢
      have HZZ := hid hzz; clear hx hzz
      have hd : (x + 999).tdiv 1000 = (x + 999) / 1000 := Int.tdiv_eq_ediv_of_nonneg (by omega)
      have hge : 0 ≤ (x + 999) / 1000 := Int.ediv_nonneg (by omega) (by decide)
      go_wp2_with fail
      go_ret
      refine ⟨?_, hB⟩
      rw [HZZ.out]
      simp [hd]

end Go.Proofs.Ytnchhleokdkejaa

/- By how much bungs lean; the bung of an order. -/
namespace Go.Proofs.Ytnchhleokdkejaa
open Go.RowKit Go.Pb Go.Pb.Ware Go.Pb.Sag
set_option linter.unusedVariables false
set_option linter.unusedSimpArgs false

open Go.Pb.Bung
theorem sg_tilts {l : List Sg} (h : listOk l = true) : ∀ s ∈ l, 0 ≤ s.ti ∧ s.ti ≤ 200 := fun s hs => by
  have h1 := listOk_all h s hs
  unfold sgOk at h1
  simp only [Bool.and_eq_true, btw_iff] at h1
  omega

set_option maxRecDepth 100000 in
set_option maxHeartbeats 800000 in
theorem Lean_any {w : World} {v : Value} {l : List Sg} {wl wh : Int} (h : RowsAt 8 w v (l.map rowG)) {r : Int × Int} (hr : (if bungOk wl wh l = true then (lnA l wh, 0) else (0, 31)) = r) :
    Calls Try.prog 36 #[.agg #[.int .i64 wl, .int .i64 wh, v]] w (Ret w (.tuple #[.int .i64 r.1, .int .i64 r.2])) := by
  unfold Ret
  obtain ⟨a, cap, rfl, hll⟩ := h.shape
  rw [List.length_map] at hll ⊢
  obtain ⟨n, hn⟩ : ∃ n, l.length = n := ⟨_, rfl⟩
  have HN := hid hn
  rw [List.length_map] at h
  rw [hn] at h hll ⊢
  clear hn
  obtain ⟨b, hb⟩ : ∃ b, bungOk wl wh l = b := ⟨_, rfl⟩
  have hcb : ckBg wl wh l = if b = true then 0 else 31 := by unfold ckBg; rw [hb]
  have hr2 : r = if b = true then (lnA l wh, 0) else (0, 31) := by rw [← hr, hb]
  clear hr
  cases b
  · rw [if_neg (by simp)] at hcb hr2
    subst hr2
    have HC := hid hcb; clear hcb
    go_enter Try.func36, Try.ntmps36
    go_wp2_with fail
    refine (ckBg_any (h.below (by go_grown)) HC.out).mono ?_
    rintro e w1 ⟨rfl, hb⟩
    replace hb0 := bnext (w := w) (by go_grown) hb; have hz := hb.size; (try simp only [World.size_alloc, World.size_setCell] at hz); replace q0 : w1.cell? ⟨w.heap.size, 0, none⟩ = some (.int .i64 wl) := bkeep hb (by first | (with_reducible exact q0) | (with_reducible exact akeep q0) | simp [*, go_sem]); replace q1 : w1.cell? ⟨w.heap.size, 1, none⟩ = some (.int .i64 wh) := bkeep hb (by first | (with_reducible exact q1) | (with_reducible exact akeep q1) | simp [*, go_sem]); replace q2 : w1.cell? ⟨w.heap.size, 2, none⟩ = some (.slice a n cap) := bkeep hb (by first | (with_reducible exact q2) | (with_reducible exact akeep q2) | simp [*, go_sem]); skip
    clear hb
    go_wp2_with fail
    go_ret2
    exact ⟨rfl, by first | exact hb0 | go_grown⟩
  · rw [if_pos rfl] at hcb hr2
    subst hr2
    have HC := hid hcb; have HL := hid (bungOk_len hb); have HK := hid (bungOk_list hb); have HW := hid (wad_bounds hb); clear hcb hb
    go_enter Try.func36, Try.ntmps36
    go_wp2_with fail
    refine (ckBg_any (h.below (by go_grown)) HC.out).mono ?_
    rintro e w1 ⟨rfl, hb⟩
    replace hb0 := bnext (w := w) (by go_grown) hb; have hz := hb.size; (try simp only [World.size_alloc, World.size_setCell] at hz); replace q0 : w1.cell? ⟨w.heap.size, 0, none⟩ = some (.int .i64 wl) := bkeep hb (by first | (with_reducible exact q0) | (with_reducible exact akeep q0) | simp [*, go_sem]); replace q1 : w1.cell? ⟨w.heap.size, 1, none⟩ = some (.int .i64 wh) := bkeep hb (by first | (with_reducible exact q1) | (with_reducible exact akeep q1) | simp [*, go_sem]); replace q2 : w1.cell? ⟨w.heap.size, 2, none⟩ = some (.slice a n cap) := bkeep hb (by first | (with_reducible exact q2) | (with_reducible exact akeep q2) | simp [*, go_sem]); skip
    clear hb
    go_wp2_with fail
    refine (lean_any (h.below (by go_grown)) HL.out (sg_highs HK.out) (sg_tilts HK.out) HW.out.1 HW.out.2).mono ?_
    rintro e w1 ⟨rfl, hb⟩
    replace hb0 := bnext (w := w) (by go_grown) hb; have hz := hb.size; (try simp only [World.size_alloc, World.size_setCell] at hz); replace q0 : w1.cell? ⟨w.heap.size, 0, none⟩ = some (.int .i64 wl) := bkeep hb (by first | (with_reducible exact q0) | (with_reducible exact akeep q0) | simp [*, go_sem]); replace q1 : w1.cell? ⟨w.heap.size, 1, none⟩ = some (.int .i64 wh) := bkeep hb (by first | (with_reducible exact q1) | (with_reducible exact akeep q1) | simp [*, go_sem]); replace q2 : w1.cell? ⟨w.heap.size, 2, none⟩ = some (.slice a n cap) := bkeep hb (by first | (with_reducible exact q2) | (with_reducible exact akeep q2) | simp [*, go_sem]); skip
    clear hb
    go_wp2_with fail
    go_ret2
    exact ⟨rfl, by first | exact hb0 | go_grown⟩

theorem wad_of {lo hi : Int} {b : Bool} (h : wadOk lo hi = b) : ckWd lo hi = if b = true then 0 else 32 := by unfold ckWd; rw [h]
theorem ckLs_of {l : List Sg} {b : Bool} (h : listOk l = b) : ckLs l = if b = true then 0 else 30 := by unfold ckLs; rw [h]
theorem listOk_len {l : List Sg} (h : listOk l = true) : l.length ≤ 30 := by
  unfold listOk at h
  rw [Bool.and_eq_true, decide_eq_true_eq] at h
  exact h.1
theorem own_set {W : World} {B T s n b o : Nat} {v u : Value} {xs : List Value} (h : W.ownsRow B T s v n xs) (hb : b < B) : (W.setCell ⟨b, o, none⟩ u).ownsRow B T s v n xs :=
  h.kept (row := some b) ⟨rfl, rfl, rfl, (KeepsWalks.setCell W _ u).size, fun k _ hk => Below.heap_setCell _ _ _ k (fun e => hk (by rw [e]))⟩ (.inr fun e => by have := (World.ownsRow.lt h b e).1; omega)
/-- A bung of these saggars, or none. -/
def SetRes (T : TypeId) (r : List Sg × Int) (lo hi : Int) (W : World) (e : Ending) (w' : World) : Prop := ∃ v, e = .returned (.tuple #[.agg #[.int .i64 lo, .int .i64 hi, v], .int .i64 r.2]) ∧ Below W.heap.size W w' ∧ w'.ownsRow W.heap.size T 8 v r.1.length (r.1.flatMap cellsG) ∧ RowsAt 8 w' v (r.1.map rowG)

set_option maxRecDepth 100000 in
set_option maxHeartbeats 1000000 in
theorem Set_good {w : World} {v u : Value} {l : List Sg} {zs : List Int} {lo hi : Int} (h : RowsAt 8 w v (l.map rowG)) (hz : NumsAt w u zs) (hw : wadOk lo hi = true) (hl : listOk l = true) (hzn : zs.length ≤ 1000) (hi0 : idxOk zs l.length = true) (hne : zs ≠ []) :
    Calls Try.prog 50 #[.agg #[.int .i64 lo, .int .i64 hi], v, u] w (SetRes 33 (chosenG l zs, 0) lo hi w) := by
  unfold SetRes
  obtain ⟨a, cap, rfl, hll⟩ := h.shape
  rw [List.length_map] at h hll ⊢
  obtain ⟨b, cb, rfl, hb1, hb2⟩ := hz.shape
  obtain ⟨n, hn⟩ : ∃ n, l.length = n := ⟨_, rfl⟩
  have hn30 := listOk_len hl
  have hin := idxOk_in hi0
  have hi64 := i64_rows h
  have HN := hid hn
  rw [hn] at h hll hi0 hn30 ⊢
  have HW := hid ((wad_of hw).trans (if_pos rfl)); have HL := hid ((ckLs_of hl).trans (if_pos rfl)); have HI := hid hi0; have HIN := hid hin; have H64 := hid hi64; clear hw hl hi0 hn hin hi64
  have hz0 : (0 : Int) < (zs.length : Int) := by cases zs with | nil => exact absurd rfl hne | cons x y => simp
  have hz1 : ((zs.length : Int) == 0) = false := beq_eq_false_iff_ne.mpr (by omega)
  go_enter Try.func50, Try.ntmps50
  go_upto_region 1 with fail
  generalize hW0 : World.alloc (World.alloc w _) _ = v1
  have y0 : CellsAt v1 w.heap.size [.int .i64 lo, .int .i64 hi] := by rw [← hW0]; exact (CellsAt.new w [.int .i64 lo, .int .i64 hi] 23).alloc _
  have y1 : CellsAt v1 (w.heap.size + 1) [.int .i64 0, .int .i64 0, .slice none 0 0] := by rw [← hW0]; have h := CellsAt.new (w.alloc (.cells #[.int .i64 lo, .int .i64 hi] 23)) [.int .i64 0, .int .i64 0, .slice none 0 0] 26; rwa [World.size_alloc] at h
  have hB : Below w.heap.size w v1 := by rw [← hW0]; exact ((Below.refl _ w).alloc (Nat.le_refl _) _).alloc (by simp) _
  clear hW0
  have q0 := (y0 0 _ rfl).1; have q1 := (y0 1 _ rfl).1
  go_wp2_with fail
  refine (ckWd_any HW.out).mono ?_
  rintro e v2 ⟨rfl, hb⟩
  replace hB := hB.trans (hb.mono hB.size)
  replace y0 := y0.below hb; replace y1 := y1.below hb
  clear q0 q1 hb
  have q0 := (y0 0 _ rfl).1; have q1 := (y0 1 _ rfl).1
  go_wp2_with fail
  refine (ckLs_any (h.below hB) HL.out).mono ?_
  rintro e v3 ⟨rfl, hb⟩
  replace hB := hB.trans (hb.mono hB.size)
  replace y0 := y0.below hb; replace y1 := y1.below hb
  clear q0 q1 hb
  have q0 := (y0 0 _ rfl).1; have q1 := (y0 1 _ rfl).1
  go_wp2_with fail
  refine (idx_any (hz.below hB) (by omega) HI.out).mono ?_
  rintro e v4 ⟨rfl, hb⟩
  replace hB := hB.trans (hb.mono hB.size)
  replace y0 := y0.below hb; replace y1 := y1.below hb
  clear q0 q1 hb
  have q0 := (y0 0 _ rfl).1; have q1 := (y0 1 _ rfl).1
  have hlt4 : w.heap.size + 1 < v4.heap.size := World.block_lt_of_cell? v4 ⟨w.heap.size + 1, 0, none⟩ (y1 0 _ rfl).1
  have f0 := (y1 0 _ rfl).2; have f1 := (y1 1 _ rfl).2; have f2 := (y1 2 _ rfl).2; have p0 := (y1 0 _ rfl).1; have p1 := (y1 1 _ rfl).1; have p2 := (y1 2 _ rfl).1
  go_upto_region 9 with fail
  refine wp_region_Rs [(3, fun v W => W.ownsRow v4.heap.size 33 8 v (chosenG l zs).length ((chosenG l zs).flatMap cellsG))] [0, 1, 2, 3, 4] 2 (by kernel_rfl) rfl (by simp only [List.forall_mem_cons]; exact ⟨keeps_owns, fun _ h => by cases h⟩) (by kernel_rfl) ?_
  simp only [numbered, List.filterMap_cons, List.filterMap_nil, List.getElem?_toArray, List.getElem?_cons_succ, List.getElem?_cons_zero, Option.map_some]
  show wpS _ _ _ _ _ _ _ [(_, _), (_, _), (_, _), (_, _), (_, _)] _ _
  (refine wpS_quiet rfl rfl ?_; intro K hK inst hx; have s0 := fun x => (fun _ => bkeep (BQ.below x) q0) (hx x); have s1 := fun x => (fun _ => bkeep (BQ.below x) q1) (hx x); go_big_quiet_op; (first | go_big_quiet_on | (refine ⟨_, fun _ => rfl, ?_⟩; go_big_quiet_on)); clear hx inst)
  (refine wpS_quiet rfl rfl ?_; intro K hK inst hx; have s0 := fun x => (fun _ => bkeep (BQ.below x) q0) (hx x); have s1 := fun x => (fun _ => bkeep (BQ.below x) q1) (hx x); go_big_quiet_op; (first | go_big_quiet_on | (refine ⟨_, fun _ => rfl, ?_⟩; go_big_quiet_on)); clear hx inst)
  (refine wpS_quiet rfl rfl ?_; intro K hK inst hx; have s0 := fun x => (fun _ => bkeep (BQ.below x) q0) (hx x); have s1 := fun x => (fun _ => bkeep (BQ.below x) q1) (hx x); go_big_quiet_op; (first | go_big_quiet_on | (refine ⟨_, fun _ => rfl, ?_⟩; go_big_quiet_on)); clear hx inst)
  refine wpS_fresh rfl rfl (fun w' hb hF => ?_) ?_
  · change freshAt _ _ _ (fun v W => W.ownsRow v4.heap.size 33 8 v (chosenG l zs).length ((chosenG l zs).flatMap cellsG)) _; unfold freshAt; go_simp; exact (chosenG_any (h.below (hB.trans (hb.mono hB.size))) (by rw [HN.out]; omega) (hz.below (hB.trans (hb.mono hB.size))) hzn (fun z hz => by have h1 := HIN.out z hz; rw [HN.out] at h1 ⊢; exact h1)).mono (fun e W' ⟨v, he, hb', ho⟩ => ⟨v, he, hb', owns_base hb.size ho⟩)
  intro v W hv; simp only [pOf, List.lookup_cons, Nat.reduceBEq, beq_self_eq_true] at hv; obtain ⟨ga, gc, rfl, -⟩ := owns_shape hv
  simp only [Act.put, List.setIfInBounds_toArray, List.set_cons_succ, List.set_cons_zero]
  (refine wpS_quiet rfl rfl ?_; intro K hK inst hx; have s0 := fun x => (fun _ => bkeep (BQ.below x) q0) (hx x); have s1 := fun x => (fun _ => bkeep (BQ.below x) q1) (hx x); go_big_quiet_op; (first | go_big_quiet_on | (refine ⟨_, fun _ => rfl, ?_⟩; go_big_quiet_on)); clear hx inst)
  refine wpS_nil ?_
  intro v5 hall
  have hb := hall.1
  have ho : v5.ownsRow v4.heap.size 33 8 _ (chosenG l zs).length ((chosenG l zs).flatMap cellsG) := hall.2 3 _ rfl
  clear hall
  replace hB := hB.trans (hb.mono hB.size)
  replace y1 := y1.below hb
  replace f0 := (y1 0 _ rfl).2; replace f1 := (y1 1 _ rfl).2; replace f2 := (y1 2 _ rfl).2; replace p0 := (y1 0 _ rfl).1; replace p1 := (y1 1 _ rfl).1; replace p2 := (y1 2 _ rfl).1
  refine wpAny_ready (rs := [5]) (by kernel_rfl) (by simp) ?_
  refine AllReady.cons rfl (fun K hK => ?_) AllReady.nil
  go_simp
  refine hK _ _ ?_; clear hK K
  refine wpAny_ready (rs := [6]) (by kernel_rfl) (by simp) ?_
  refine AllReady.cons rfl (fun K hK => ?_) AllReady.nil
  go_simp
  refine hK _ _ ?_; clear hK K
  refine wpAny_done (by kernel_rfl) ?_ _
  have z1 := cells_store (o := 2) (u := .slice ga (chosenG l zs).length gc) (cells_store (o := 1) (u := .int .i64 hi) (cells_store (o := 0) (u := .int .i64 lo) y1))
  have hB9 : Below w.heap.size w _ := ((hB.setCell (p := ⟨w.heap.size + 1, 0, none⟩) (Nat.le_succ _) (.int .i64 lo)).setCell (p := ⟨w.heap.size + 1, 1, none⟩) (Nat.le_succ _) (.int .i64 hi)).setCell (p := ⟨w.heap.size + 1, 2, none⟩) (Nat.le_succ _) (.slice ga (chosenG l zs).length gc)
  have o9 := own_set (o := 2) (u := .slice ga (chosenG l zs).length gc) (own_set (o := 1) (u := .int .i64 hi) (own_set (o := 0) (u := .int .i64 lo) ho hlt4) hlt4) hlt4
  have r9 := rows_of_owns o9 (i64_chosen H64.out)
  clear y1 f0 f1 f2 p0 p1 p2 ho
  generalize World.setCell _ _ _ = v9 at *
  have d0 := (z1 0 _ rfl).1; have d1 := (z1 1 _ rfl).1; have d2 := (z1 2 _ rfl).1
  go_wp2_with fail
  exact bodyPost_ret (v := .tuple #[.agg #[.int .i64 lo, .int .i64 hi, .slice ga (chosenG l zs).length gc], .int .i64 0]) (by simp [results, Try.results50, go_sem, *]) rfl ⟨_, rfl, hB9, owns_base (by omega) o9, r9⟩

end Go.Proofs.Ytnchhleokdkejaa

/- Whether bungs do for a spot. -/
namespace Go.Proofs.Ytnchhleokdkejaa
open Go.RowKit Go.Pb Go.Pb.Ware Go.Pb.Sag
set_option linter.unusedVariables false
set_option linter.unusedSimpArgs false

open Go.Pb.Bung
/-- The answer for a spot. -/
def fitA (lo hi : Int) (l : List Sg) (cr le : Int) : Int := if hgtL l lo l.length > cr ∨ stA l = 0 then 0 else if hgtH l hi l.length ≤ cr ∧ lnA l hi ≤ le ∧ stA l = 1 then 1 else 2
theorem stA_three (l : List Sg) : stA l = 0 ∨ stA l = 1 ∨ stA l = 2 := by
  unfold stA
  split
  · exact .inl rfl
  · split
    · exact .inr (.inr rfl)
    · exact .inr (.inl rfl)

theorem height_at {w : World} {v : Value} {l : List Sg} {lo hi : Int} (h : RowsAt 8 w v (l.map rowG)) (hl : l.length ≤ 30) (hk : listOk l = true) (h1 : 0 ≤ lo ∧ lo ≤ 200) (h2 : 0 ≤ hi ∧ hi ≤ 200) {x y : Int} (hx : hgtL l lo l.length = x) (hy : hgtH l hi l.length = y) : Calls Try.prog 90 #[.agg #[.int .i64 lo, .int .i64 hi], v] w (Ret w (.agg #[.int .i64 x, .int .i64 y])) := by
  subst hx; subst hy; exact height_any h hl (sg_highs hk) h1 h2
theorem stands_at {w : World} {v : Value} {l : List Sg} {lo hi : Int} (h : RowsAt 8 w v (l.map rowG)) (hl : l.length ≤ 30) (hk : listOk l = true) (h1 : 0 ≤ lo ∧ lo ≤ 200) (h2 : 0 ≤ hi ∧ hi ≤ 200) {x : Int} (hx : stA l = x) : Calls Try.prog 88 #[v] w (Ret w (.int .i64 x)) := by
  subst hx; exact stands_any h hl (sg_bounds hk)
theorem lean_at {w : World} {v : Value} {l : List Sg} {lo hi : Int} (h : RowsAt 8 w v (l.map rowG)) (hl : l.length ≤ 30) (hk : listOk l = true) (h1 : 0 ≤ lo ∧ lo ≤ 200) (h2 : 0 ≤ hi ∧ hi ≤ 200) {x : Int} (hx : lnA l hi = x) : Calls Try.prog 92 #[.agg #[.int .i64 lo, .int .i64 hi, v]] w (Ret w (.int .i64 x)) := by
  subst hx; exact lean_any h hl (sg_highs hk) (sg_tilts hk) h1 h2
set_option maxRecDepth 100000 in
set_option maxHeartbeats 1000000 in
theorem fits_any {w : World} {v : Value} {l : List Sg} {lo hi : Int} (h : RowsAt 8 w v (l.map rowG)) (hl : l.length ≤ 30) (hk : listOk l = true) (h1 : 0 ≤ lo ∧ lo ≤ 200) (h2 : 0 ≤ hi ∧ hi ≤ 200) {cr le r : Int} (hr : fitA lo hi l cr le = r) :
    Calls Try.prog 94 #[.agg #[.int .i64 lo, .int .i64 hi, v], .agg #[.int .i64 cr, .int .i64 le]] w (Ret w (.int .i64 r)) := by
  unfold Ret
  obtain ⟨a, cap, rfl, hll⟩ := h.shape
  rw [List.length_map] at h hll ⊢
  obtain ⟨n, hn⟩ : ∃ n, l.length = n := ⟨_, rfl⟩
  obtain ⟨x, hx⟩ : ∃ x, hgtL l lo l.length = x := ⟨_, rfl⟩
  obtain ⟨y, hy⟩ : ∃ y, hgtH l hi l.length = y := ⟨_, rfl⟩
  obtain ⟨st, hst⟩ : ∃ y, stA l = y := ⟨_, rfl⟩
  obtain ⟨ln, hln⟩ : ∃ y, lnA l hi = y := ⟨_, rfl⟩
  have h3 := stA_three l
  rw [hst] at h3
  have hr2 : (if x > cr ∨ st = 0 then 0 else if y ≤ cr ∧ ln ≤ le ∧ st = 1 then 1 else 2) = r := by rw [← hr]; unfold fitA; rw [hx, hy, hst, hln]
  have HX := hid hx; have HY := hid hy; have HST := hid hst; have HLN := hid hln; have HLE := hid hl; have HK := hid hk; have HL1 := hid h1; have HL2 := hid h2; have HR := hid hr2; clear hx hy hst hln hl hk h1 h2 hr hr2
  rw [hn] at h hll ⊢
  clear hn
  go_enter Try.func94, Try.ntmps94
  go_upto_region 1 with fail
  generalize hW : World.alloc (World.alloc w _) _ = v1
  have y0 : CellsAt v1 w.heap.size [.int .i64 lo, .int .i64 hi, .slice a n cap] := by rw [← hW]; exact (CellsAt.new w [.int .i64 lo, .int .i64 hi, .slice a n cap] 26).alloc _
  have y1 : CellsAt v1 (w.heap.size + 1) [.int .i64 cr, .int .i64 le] := by rw [← hW]; have h := CellsAt.new (w.alloc (.cells #[.int .i64 lo, .int .i64 hi, .slice a n cap] 26)) [.int .i64 cr, .int .i64 le] 28; rwa [World.size_alloc] at h
  have hB : Below w.heap.size w v1 := by rw [← hW]; exact ((Below.refl _ w).alloc (Nat.le_refl _) _).alloc (by simp) _
  have hzv : w.heap.size + 2 ≤ v1.heap.size := by rw [← hW]; simp
  clear hW
  have q0 := (y0 0 _ rfl).1; have q1 := (y0 1 _ rfl).1; have q2 := (y0 2 _ rfl).1
  refine wp_region_Rs [(4, fun v _ => v = .agg #[.int .i64 x, .int .i64 y]), (7, fun v _ => v = .int .i64 st), (8, NewCells v1.heap.size [.int .i64 0, .int .i64 0])] [0, 1, 2, 3, 4, 5, 6, 7, 8] 2 (by kernel_rfl) rfl (by simp only [List.forall_mem_cons]; exact ⟨keeps_eq, keeps_eq, keeps_new, fun _ h => by cases h⟩) (by kernel_rfl) ?_
  simp only [numbered, List.filterMap_cons, List.filterMap_nil, List.getElem?_toArray, List.getElem?_cons_succ, List.getElem?_cons_zero, Option.map_some]
  show wpS _ _ _ _ _ _ _ [(_, _), (_, _), (_, _), (_, _), (_, _), (_, _), (_, _), (_, _), (_, _)] _ _
  (refine wpS_quiet rfl rfl ?_; intro K hK inst hx; have s0 := fun x => (fun _ => bkeep (BQ.below x) q0) (hx x); have s1 := fun x => (fun _ => bkeep (BQ.below x) q1) (hx x); have s2 := fun x => (fun _ => bkeep (BQ.below x) q2) (hx x); go_big_quiet_op; (first | go_big_quiet_on | (refine ⟨_, fun _ => rfl, ?_⟩; go_big_quiet_on)); clear hx inst)
  (refine wpS_quiet rfl rfl ?_; intro K hK inst hx; have s0 := fun x => (fun _ => bkeep (BQ.below x) q0) (hx x); have s1 := fun x => (fun _ => bkeep (BQ.below x) q1) (hx x); have s2 := fun x => (fun _ => bkeep (BQ.below x) q2) (hx x); go_big_quiet_op; (first | go_big_quiet_on | (refine ⟨_, fun _ => rfl, ?_⟩; go_big_quiet_on)); clear hx inst)
  (refine wpS_quiet rfl rfl ?_; intro K hK inst hx; have s0 := fun x => (fun _ => bkeep (BQ.below x) q0) (hx x); have s1 := fun x => (fun _ => bkeep (BQ.below x) q1) (hx x); have s2 := fun x => (fun _ => bkeep (BQ.below x) q2) (hx x); go_big_quiet_op; (first | go_big_quiet_on | (refine ⟨_, fun _ => rfl, ?_⟩; go_big_quiet_on)); clear hx inst)
  (refine wpS_quiet rfl rfl ?_; intro K hK inst hx; have s0 := fun x => (fun _ => bkeep (BQ.below x) q0) (hx x); have s1 := fun x => (fun _ => bkeep (BQ.below x) q1) (hx x); have s2 := fun x => (fun _ => bkeep (BQ.below x) q2) (hx x); go_big_quiet_op; (first | go_big_quiet_on | (refine ⟨_, fun _ => rfl, ?_⟩; go_big_quiet_on)); clear hx inst)
  refine wpS_fresh rfl rfl (fun w' hb hF => ?_) ?_
  · change freshAt _ _ _ (fun v _ => v = .agg #[.int .i64 x, .int .i64 y]) _; unfold freshAt; go_simp; exact height_at (h.below (hB.trans (hb.mono hB.size))) HLE.out HK.out HL1.out HL2.out HX.out HY.out
  intro v W hv; simp only [pOf, List.lookup_cons, Nat.reduceBEq, beq_self_eq_true] at hv; subst hv
  simp only [Act.put, List.setIfInBounds_toArray, List.set_cons_succ, List.set_cons_zero]
  (refine wpS_quiet rfl rfl ?_; intro K hK inst hx; have s0 := fun x => (fun _ => bkeep (BQ.below x) q0) (hx x); have s1 := fun x => (fun _ => bkeep (BQ.below x) q1) (hx x); have s2 := fun x => (fun _ => bkeep (BQ.below x) q2) (hx x); go_big_quiet_op; (first | go_big_quiet_on | (refine ⟨_, fun _ => rfl, ?_⟩; go_big_quiet_on)); clear hx inst)
  (refine wpS_quiet rfl rfl ?_; intro K hK inst hx; have s0 := fun x => (fun _ => bkeep (BQ.below x) q0) (hx x); have s1 := fun x => (fun _ => bkeep (BQ.below x) q1) (hx x); have s2 := fun x => (fun _ => bkeep (BQ.below x) q2) (hx x); go_big_quiet_op; (first | go_big_quiet_on | (refine ⟨_, fun _ => rfl, ?_⟩; go_big_quiet_on)); clear hx inst)
  refine wpS_fresh rfl rfl (fun w' hb hF => ?_) ?_
  · change freshAt _ _ _ (fun v _ => v = .int .i64 st) _; unfold freshAt; go_simp; exact stands_at (h.below (hB.trans (hb.mono hB.size))) HLE.out HK.out HL1.out HL2.out HST.out
  intro v W hv; simp only [pOf, List.lookup_cons, Nat.reduceBEq, beq_self_eq_true] at hv; subst hv
  simp only [Act.put, List.setIfInBounds_toArray, List.set_cons_succ, List.set_cons_zero]
  refine wpS_fresh rfl rfl (fun w' hb hF => ?_) ?_
  · change freshAt _ _ _ (NewCells v1.heap.size [.int .i64 0, .int .i64 0]) _; unfold freshAt; go_simp; exact new_of hb
  intro v W hv; simp only [pOf, List.lookup_cons, Nat.reduceBEq, beq_self_eq_true] at hv; obtain ⟨B8, hB8, rfl, _⟩ := hv
  simp only [Act.put, List.setIfInBounds_toArray, List.set_cons_succ, List.set_cons_zero]
  refine wpS_nil ?_
  intro v2 hall
  have hb := hall.1
  have hN : NewCells v1.heap.size [.int .i64 0, .int .i64 0] (.pointer (some ⟨B8, 0, none⟩)) v2 := hall.2 8 _ rfl
  obtain ⟨B', hB', hv', hn⟩ := hN
  obtain rfl : B8 = B' := by simpa using hv'
  have nB80 := (hn 0 _ rfl).1
  have mB80 := (hn 0 _ rfl).2
  have nB81 := (hn 1 _ rfl).1
  have mB81 := (hn 1 _ rfl).2
  clear hn hv'
  clear hall
  have yb : CellsAt v2 B8 [.int .i64 0, .int .i64 0] := (fun o u hu => by match o, hu with | 0, hu => (injection hu with hu; subst hu; exact ⟨nB80, mB80⟩) | 1, hu => (injection hu with hu; subst hu; exact ⟨nB81, mB81⟩) | o + 2, hu => simp at hu)
  replace y0 := y0.below hb; replace y1 := y1.below hb
  replace hB := hB.trans (hb.mono hB.size)
  clear q0 q1 q2 hb
  refine wpAny_ready (rs := [9]) (by kernel_rfl) (by simp) ?_
  refine AllReady.cons rfl (fun K hK => ?_) AllReady.nil
  go_simp
  refine hK _ _ ?_; clear hK K
  refine wpAny_ready (rs := [10]) (by kernel_rfl) (by simp) ?_
  refine AllReady.cons rfl (fun K hK => ?_) AllReady.nil
  go_simp
  refine hK _ _ ?_; clear hK K
  refine wpAny_done (by kernel_rfl) ?_ _
  have zb := cells_store (o := 1) (u := .int .i64 y) (cells_store (o := 0) (u := .int .i64 x) yb)
  replace y0 := two_other y0 (show w.heap.size ≠ B8 by omega) (.int .i64 x) (.int .i64 y)
  replace y1 := two_other y1 (show w.heap.size + 1 ≠ B8 by omega) (.int .i64 x) (.int .i64 y)
  replace hB := (hB.setCell (p := ⟨B8, 0, none⟩) (by show w.heap.size ≤ B8; omega) (.int .i64 x)).setCell (p := ⟨B8, 1, none⟩) (by show w.heap.size ≤ B8; omega) (.int .i64 y)
  clear yb nB80 nB81 mB80 mB81
  generalize World.setCell _ _ _ = v3 at *
  have q0 := (y0 0 _ rfl).1; have q1 := (y0 1 _ rfl).1; have q2 := (y0 2 _ rfl).1; have p0 := (y1 0 _ rfl).1; have p1 := (y1 1 _ rfl).1; have t0 := (zb 0 _ rfl).1; have t1 := (zb 1 _ rfl).1
  by_cases hxc : x > cr
  · have HV := hid (show r = 0 by rw [← HR.out]; rw [if_pos (.inl hxc)])
    have hxd : x > cr := hxc
    have hxl : cr < x := hxc
    go_wp2_with fail
    have hv := HV.out
    subst hv
    go_ret
    exact ⟨rfl, hB⟩
  · have hxl : ¬ cr < x := hxc
    rcases h3 with hs0 | hs12
    · subst hs0
      have HV := hid (show r = 0 by rw [← HR.out]; rw [if_pos (.inr rfl)])
      go_wp2_with fail
      have hv := HV.out
      subst hv
      go_ret
      exact ⟨rfl, hB⟩
    · have hsn : ¬ st = 0 := by omega
      have hsb : (st == 0) = false := beq_eq_false_iff_ne.mpr hsn
      have HIF := hid (HR.out.symm.trans (if_neg (show ¬ (x > cr ∨ st = 0) from fun e => e.elim hxc hsn)))
      have h0 := h.below hB
      by_cases hyc : y ≤ cr
      · have hyd : decide (y ≤ cr) = true := decide_eq_true hyc
        by_cases hle : ln ≤ le
        · have hld : decide (ln ≤ le) = true := decide_eq_true hle
          by_cases hs1 : st = 1
          · subst hs1
            have HV := hid (show r = 1 by rw [HIF.out]; rw [if_pos ⟨hyc, hle, rfl⟩])
            go_upto_region 4 with fail
            have x0 := fun z : BW v3 => bkeep z.below q0
            have x1 := fun z : BW v3 => bkeep z.below q1
            have x2 := fun z : BW v3 => bkeep z.below q2
            have x3 := fun z : BW v3 => bkeep z.below p0
            have x4 := fun z : BW v3 => bkeep z.below p1
            have x5 := fun z : BW v3 => bkeep z.below t0
            have x6 := fun z : BW v3 => bkeep z.below t1
            refine wp_region_qb (by kernel_rfl) (by kernel_rfl) fun hc => ?_
            repeat (go_big_quiet_step ((go_at_call 92; exact BW.call _ (lean_at (h0.below (BW.below _)) HLE.out HK.out HL1.out HL2.out HLN.out))))
            refine wpQuiet_nil ?_
            intro v4 hb
            replace hB := hB.trans (hb.mono hB.size)
            go_wp2_with fail
            have hv := HV.out
            subst hv
            go_ret
            exact ⟨rfl, hB⟩
          · have hs1b : (st == 1) = false := beq_eq_false_iff_ne.mpr hs1
            have HV := hid (show r = 2 by rw [HIF.out]; rw [if_neg (fun e => hs1 e.2.2)])
            go_upto_region 4 with fail
            have x0 := fun z : BW v3 => bkeep z.below q0
            have x1 := fun z : BW v3 => bkeep z.below q1
            have x2 := fun z : BW v3 => bkeep z.below q2
            have x3 := fun z : BW v3 => bkeep z.below p0
            have x4 := fun z : BW v3 => bkeep z.below p1
            have x5 := fun z : BW v3 => bkeep z.below t0
            have x6 := fun z : BW v3 => bkeep z.below t1
            refine wp_region_qb (by kernel_rfl) (by kernel_rfl) fun hc => ?_
            repeat (go_big_quiet_step ((go_at_call 92; exact BW.call _ (lean_at (h0.below (BW.below _)) HLE.out HK.out HL1.out HL2.out HLN.out))))
            refine wpQuiet_nil ?_
            intro v4 hb
            replace hB := hB.trans (hb.mono hB.size)
            go_wp2_with fail
            have hv := HV.out
            subst hv
            go_ret
            exact ⟨rfl, hB⟩
        · have hld : decide (ln ≤ le) = false := decide_eq_false hle
          have HV := hid (show r = 2 by rw [HIF.out]; rw [if_neg (fun e => hle e.2.1)])
          go_upto_region 4 with fail
          have x0 := fun z : BW v3 => bkeep z.below q0
          have x1 := fun z : BW v3 => bkeep z.below q1
          have x2 := fun z : BW v3 => bkeep z.below q2
          have x3 := fun z : BW v3 => bkeep z.below p0
          have x4 := fun z : BW v3 => bkeep z.below p1
          have x5 := fun z : BW v3 => bkeep z.below t0
          have x6 := fun z : BW v3 => bkeep z.below t1
          refine wp_region_qb (by kernel_rfl) (by kernel_rfl) fun hc => ?_
          repeat (go_big_quiet_step ((go_at_call 92; exact BW.call _ (lean_at (h0.below (BW.below _)) HLE.out HK.out HL1.out HL2.out HLN.out))))
          refine wpQuiet_nil ?_
          intro v4 hb
          replace hB := hB.trans (hb.mono hB.size)
          go_wp2_with fail
          have hv := HV.out
          subst hv
          go_ret
          exact ⟨rfl, hB⟩
      · have hyd : decide (y ≤ cr) = false := decide_eq_false hyc
        have HV := hid (show r = 2 by rw [HIF.out]; rw [if_neg (fun e => hyc e.1)])
        go_upto_region 4 with fail
        have x0 := fun z : BW v3 => bkeep z.below q0
        have x1 := fun z : BW v3 => bkeep z.below q1
        have x2 := fun z : BW v3 => bkeep z.below q2
        have x3 := fun z : BW v3 => bkeep z.below p0
        have x4 := fun z : BW v3 => bkeep z.below p1
        have x5 := fun z : BW v3 => bkeep z.below t0
        have x6 := fun z : BW v3 => bkeep z.below t1
        refine wp_region_qb (by kernel_rfl) (by kernel_rfl) fun hc => ?_
        repeat (go_big_quiet_step ((go_at_call 92; exact BW.call _ (lean_at (h0.below (BW.below _)) HLE.out HK.out HL1.out HL2.out HLN.out))))
        refine wpQuiet_nil ?_
        intro v4 hb
        replace hB := hB.trans (hb.mono hB.size)
        go_wp2_with fail
        have hv := HV.out
        subst hv
        go_ret
        exact ⟨rfl, hB⟩

end Go.Proofs.Ytnchhleokdkejaa

/- A map that remembers what lists answer, by plain maths. -/
namespace Go.Pb.Bung
open Go Go.Pb Go.Pb.Ware Go.RowKit Go.Maps
set_option linter.unusedVariables false
set_option linter.unusedSimpArgs false
def bitsOf (g : List Int) : List Bool := (List.range 9).map fun i : Nat => decide ((i : Int) ∈ g)
def listOf (bs : List Bool) : List Int := ((List.range 9).filter fun i => bs.getD i false).map fun i : Nat => (i : Int)
def keyV (bs : List Bool) : Value := .agg (bs.map Value.bool).toArray
theorem bitsOf_length (g : List Int) : (bitsOf g).length = 9 := by unfold bitsOf; simp
theorem rise_ext : ∀ {l m : List Int}, l.Pairwise (· < ·) → m.Pairwise (· < ·) → (∀ z, z ∈ l ↔ z ∈ m) → l = m := by
  intro l m hl hm h
  refine List.Perm.eq_of_pairwise (le := (· < ·)) (fun a b _ _ h1 h2 => by omega) hl hm ?_
  rw [List.perm_ext_iff_of_nodup (hl.imp fun {a b} h e => by omega) (hm.imp fun {a b} h e => by omega)]
  exact h
theorem list_bits {g : List Int} (h : g.Pairwise (· < ·)) (hz : ∀ z ∈ g, 0 ≤ z ∧ z < 9) : listOf (bitsOf g) = g := by
  refine rise_ext ?_ h fun z => ?_
  · unfold listOf
    rw [List.pairwise_map]
    have h1 : (List.range 9).Pairwise (· < ·) := List.pairwise_lt_range
    exact (h1.filter _).imp fun {a b} hab => by omega
  · unfold listOf
    rw [List.mem_map]
    constructor
    · rintro ⟨i, hi, rfl⟩
      obtain ⟨h1, h2⟩ := List.mem_filter.1 hi
      have h3 := List.mem_range.1 h1
      unfold bitsOf at h2
      rw [List.getD_eq_getElem?_getD, List.getElem?_map, List.getElem?_range h3] at h2
      simpa using h2
    · intro hg
      have h1 := hz z hg
      refine ⟨z.toNat, List.mem_filter.2 ⟨List.mem_range.2 (by omega), ?_⟩, by omega⟩
      unfold bitsOf
      rw [List.getD_eq_getElem?_getD, List.getElem?_map, List.getElem?_range (by omega)]
      have h2 : ((z.toNat : Nat) : Int) = z := by omega
      simp [h2, hg]
def allB : Nat → List (List Bool)
  | 0 => [[]]
  | k + 1 => (allB k).map (false :: ·) ++ (allB k).map (true :: ·)
theorem mem_allB : ∀ {k : Nat} {b : List Bool}, b.length = k → b ∈ allB k
  | 0, b, h => by rw [List.length_eq_zero_iff] at h; subst h; simp [allB]
  | k + 1, [], h => by simp at h
  | k + 1, x :: b, h => by
    have h1 := mem_allB (k := k) (b := b) (by simpa using h)
    rw [allB, List.mem_append, List.mem_map, List.mem_map]
    cases x
    · exact .inl ⟨b, h1, rfl⟩
    · exact .inr ⟨b, h1, rfl⟩
theorem length_allB : ∀ k, (allB k).length = 2 ^ k
  | 0 => rfl
  | k + 1 => by rw [allB, List.length_append, List.length_map, List.length_map, length_allB k]; omega
theorem few_bits {ks : List (List Bool)} (hn : ks.Nodup) (h : ∀ b ∈ ks, b.length = 9) : ks.length ≤ 512 := by
  have h1 := hn.length_le_of_subset (l₂ := allB 9) (fun b hb => mem_allB (h b hb))
  rwa [length_allB] at h1
/-- What the map in block M remembers. -/
def MapQ (P : Program) (K E : TypeId) (M : Nat) (does : List Int → Bool) (W : World) : Prop := ∃ (ks : List (List Bool)) (D : DataW Unit), W.ownsMap P K (plainElem P E) M ks.length D ∧ ks.Nodup ∧ (∀ b ∈ ks, b.length = 9) ∧
  ∀ bs kl, bs.length = 9 → keyOf P K (keyV bs) = some kl → has D kl = decide (bs ∈ ks) ∧ (bs ∈ ks → D.atKey kl (.lit (.bool false)) = .lit (.bool (does (listOf bs))))
theorem MapQ.start (P : Program) (K E : TypeId) (does : List Int → Bool) (W : World) : MapQ P K E W.heap.size does (W.alloc (.map #[] 0)) :=
  ⟨[], .map [], World.ownsMap_made _ _ _ _, List.nodup_nil, fun b hb => by simp at hb, fun bs kl _ _ => ⟨rfl, fun h => by simp at h⟩⟩
theorem keyV_inj {a b : List Bool} (h : keyV a = keyV b) : a = b := by
  unfold keyV at h
  injection h with h
  have h1 : a.map Value.bool = b.map Value.bool := by simpa using congrArg Array.toList h
  exact List.map_inj_right (f := Value.bool) (fun x y e => by injection e) |>.1 h1
theorem MapQ.put {P : Program} {K E : TypeId} {M : Nat} {does : List Int → Bool} {W W' : World} {ks : List (List Bool)} {D : DataW Unit} (KL : Keyed P K) (ho : W.ownsMap P K (plainElem P E) M ks.length D) (hn : ks.Nodup) (h9 : ∀ b ∈ ks, b.length = 9)
    (hk : ∀ bs kl, bs.length = 9 → keyOf P K (keyV bs) = some kl → has D kl = decide (bs ∈ ks) ∧ (bs ∈ ks → D.atKey kl (.lit (.bool false)) = .lit (.bool (does (listOf bs)))))
    {bs : List Bool} {kl : Lit} {b : Bool} (hb : bs.length = 9) (hkey : keyOf P K (keyV bs) = some kl) (hno : ¬ bs ∈ ks) (hd : does (listOf bs) = b) (ho' : W'.ownsMap P K (plainElem P E) M (ks.length + 1) (D.put kl (.lit (.bool b)))) : MapQ P K E M does W' := by
  have hm := (ho.tidy KL).isMap
  have hik := KL.key hkey
  refine ⟨bs :: ks, _, ho', List.nodup_cons.2 ⟨hno, hn⟩, fun c hc => ?_, fun cs cl hc hcl => ?_⟩
  · rcases List.mem_cons.1 hc with rfl | hc
    · exact hb
    · exact h9 c hc
  · obtain ⟨h1, h2⟩ := hk cs cl hc hcl
    by_cases e : cs = bs
    · subst e
      have : cl = kl := by rw [hkey] at hcl; injection hcl with hcl; exact hcl.symm
      subst this
      refine ⟨?_, fun _ => ?_⟩
      · rw [has_put_same hm hik]; simp
      · rw [atKey_put_same hm hik, hd]
    · have hne : cl ≠ kl := fun e2 => e (keyV_inj (KL.inj (e2 ▸ hcl) hkey))
      refine ⟨?_, fun hin => ?_⟩
      · rw [has_put_other hne, h1]; simp [e]
      · rw [atKey_put_other hne]
        rcases List.mem_cons.1 hin with h3 | h3
        · exact absurd h3 e
        · exact h2 h3
theorem ownsMap_block {P : Program} {K : TypeId} {R : Value → Option (DataW Unit × List MemPlace)} {W W' : World} {M n : Nat} {D : DataW Unit} (h : W.ownsMap P K R M n D) (hb : W'.heap[M]? = W.heap[M]?) : W'.ownsMap P K R M n D := by
  obtain ⟨es, clock, h1, h2, h3, h4⟩ := h
  exact ⟨es, clock, hb.trans h1, h2, h3, h4⟩
theorem MapQ.low {P : Program} {K E : TypeId} {M n0 : Nat} {does : List Int → Bool} {W W' : World} (h : MapQ P K E M does W) (hb : Below n0 W W') (hM : M < n0) : MapQ P K E M does W' := by
  obtain ⟨ks, D, h1, h2⟩ := h
  exact ⟨ks, D, ownsMap_block h1 (hb.block M hM), h2⟩
theorem MapQ.lt {P : Program} {K E : TypeId} {M : Nat} {does : List Int → Bool} {W : World} (h : MapQ P K E M does W) : M < W.heap.size := by
  obtain ⟨ks, D, h1, _⟩ := h
  exact h1.lt
theorem MapQ.below {P : Program} {K E : TypeId} {M : Nat} {does : List Int → Bool} {W W' : World} (h : MapQ P K E M does W) (hb : Below W.heap.size W W') : MapQ P K E M does W' := h.low hb h.lt
theorem plainElem_bool_inv {P : Program} {e : TypeId} (he : P.underlying e = some .bool) {v : Value} {z : DataW Unit × List MemPlace} (h : plainElem P e v = some z) : ∃ x, v = .bool x ∧ z = (.lit (.bool x), []) := by
  unfold plainElem at h
  rw [he] at h
  cases v <;> simp at h
  exact ⟨_, rfl, h.symm⟩
end Go.Pb.Bung

/- Whether saggars do at a spot, and what remembers it. -/
namespace Go.Proofs.Ytnchhleokdkejaa
open Go.RowKit Go.Pb Go.Pb.Ware Go.Pb.Sag
set_option linter.unusedVariables false
set_option linter.unusedSimpArgs false

open Go.Proofs Go.Pb.Bung
def doesB (lo hi : Int) (l : List Sg) (cr le : Int) (g : List Int) : Bool := decide (fitA lo hi (ruledL (chosenG l g)) cr le = 1)

set_option maxRecDepth 100000 in
set_option maxHeartbeats 1000000 in
theorem does_any {w : World} {v u : Value} {l : List Sg} {g : List Int} {lo hi cr le : Int} (h : RowsAt 8 w v (l.map rowG)) (hk : listOk l = true) (h1 : 0 ≤ lo ∧ lo ≤ 200) (h2 : 0 ≤ hi ∧ hi ≤ 200) (hu : NumsAt w u g) (hz : ∀ z ∈ g, 0 ≤ z ∧ z < (l.length : Int)) (hd : g.Pairwise (· ≠ ·)) (hgn : g.length ≤ 30) :
    Calls Try.prog 118 #[.agg #[.int .i64 lo, .int .i64 hi, v, .int .i64 cr, .int .i64 le], u] w (Ret w (.bool (doesB lo hi l cr le g))) := by
  unfold Ret
  obtain ⟨ua, uc, rfl, hul, huc⟩ := hu.shape
  obtain ⟨a, cap, rfl, hll⟩ := h.shape
  rw [List.length_map] at h hll ⊢
  have hl := (listOk_iff.1 hk).1
  have hkc := listOk_chosen hk hz hd hgn
  have hi1 := i64_chosen (zs := g) (i64_rows h)
  obtain ⟨b, hb9⟩ : ∃ b, doesB lo hi l cr le g = b := ⟨_, rfl⟩
  obtain ⟨r, hr⟩ : ∃ r, fitA lo hi (ruledL (chosenG l g)) cr le = r := ⟨_, rfl⟩
  have hbr : b = decide (r = 1) := by rw [← hb9, ← hr]; rfl
  rw [hb9]
  obtain ⟨n, hn⟩ : ∃ n, l.length = n := ⟨_, rfl⟩
  have HN : Hid (l.length = n) := hn
  have HR : Hid (fitA lo hi (ruledL (chosenG l g)) cr le = r) := hr
  rw [hn] at h hll hl hz ⊢
  clear hn hr hb9
  go_enter Try.func118, Try.ntmps118
  go_wp2_with fail
  refine (chosenG_any (h.below (by go_grown)) (by rw [HN.out]; omega) (hu.below (by go_grown)) (by omega) (by rw [HN.out]; exact hz)).mono ?_
  unfold NewSgs
  rintro e w1 ⟨x, rfl, hb, ho⟩
  replace hb0 := bnext (w := w) (by go_grown) hb; have hz := hb.size; (try simp only [World.size_alloc, World.size_setCell] at hz); replace q0 : w1.cell? ⟨w.heap.size, 0, none⟩ = some (.int .i64 lo) := bkeep hb (by first | (with_reducible exact q0) | (with_reducible exact akeep q0) | simp [*, go_sem]); replace q1 : w1.cell? ⟨w.heap.size, 1, none⟩ = some (.int .i64 hi) := bkeep hb (by first | (with_reducible exact q1) | (with_reducible exact akeep q1) | simp [*, go_sem]); replace q2 : w1.cell? ⟨w.heap.size, 2, none⟩ = some (.slice a n cap) := bkeep hb (by first | (with_reducible exact q2) | (with_reducible exact akeep q2) | simp [*, go_sem]); replace q3 : w1.cell? ⟨w.heap.size, 3, none⟩ = some (.int .i64 cr) := bkeep hb (by first | (with_reducible exact q3) | (with_reducible exact akeep q3) | simp [*, go_sem]); replace q4 : w1.cell? ⟨w.heap.size, 4, none⟩ = some (.int .i64 le) := bkeep hb (by first | (with_reducible exact q4) | (with_reducible exact akeep q4) | simp [*, go_sem]); clear hb
  have hr1 := rows_of_owns ho hi1
  clear ho
  go_wp2_with fail
  refine (ruled_any hr1 hkc).mono ?_
  unfold NewSgs
  rintro e w1 ⟨y, rfl, hb, ho⟩
  obtain ⟨ya, yc, rfl, -⟩ := owns_shape ho
  replace hb0 := bnext (w := w) (by go_grown) hb; have hz := hb.size; (try simp only [World.size_alloc, World.size_setCell] at hz); replace q0 : w1.cell? ⟨w.heap.size, 0, none⟩ = some (.int .i64 lo) := bkeep hb (by first | (with_reducible exact q0) | (with_reducible exact akeep q0) | simp [*, go_sem]); replace q1 : w1.cell? ⟨w.heap.size, 1, none⟩ = some (.int .i64 hi) := bkeep hb (by first | (with_reducible exact q1) | (with_reducible exact akeep q1) | simp [*, go_sem]); replace q2 : w1.cell? ⟨w.heap.size, 2, none⟩ = some (.slice a n cap) := bkeep hb (by first | (with_reducible exact q2) | (with_reducible exact akeep q2) | simp [*, go_sem]); replace q3 : w1.cell? ⟨w.heap.size, 3, none⟩ = some (.int .i64 cr) := bkeep hb (by first | (with_reducible exact q3) | (with_reducible exact akeep q3) | simp [*, go_sem]); replace q4 : w1.cell? ⟨w.heap.size, 4, none⟩ = some (.int .i64 le) := bkeep hb (by first | (with_reducible exact q4) | (with_reducible exact akeep q4) | simp [*, go_sem]); clear hb
  have hr2 := rows_of_owns ho (i64_chosen (zs := ruleL (chosenG l g)) (i64_rows hr1))
  clear ho hr1
  have hkr := listOk_ruled hkc
  go_wp2_with fail
  refine (fits_any hr2 (listOk_iff.1 hkr).1 hkr h1 h2 HR.out).mono ?_
  rintro e w1 ⟨rfl, hb⟩
  replace hb0 := bnext (w := w) (by go_grown) hb; have hz := hb.size; (try simp only [World.size_alloc, World.size_setCell] at hz); replace q0 : w1.cell? ⟨w.heap.size, 0, none⟩ = some (.int .i64 lo) := bkeep hb (by first | (with_reducible exact q0) | (with_reducible exact akeep q0) | simp [*, go_sem]); replace q1 : w1.cell? ⟨w.heap.size, 1, none⟩ = some (.int .i64 hi) := bkeep hb (by first | (with_reducible exact q1) | (with_reducible exact akeep q1) | simp [*, go_sem]); replace q2 : w1.cell? ⟨w.heap.size, 2, none⟩ = some (.slice a n cap) := bkeep hb (by first | (with_reducible exact q2) | (with_reducible exact akeep q2) | simp [*, go_sem]); replace q3 : w1.cell? ⟨w.heap.size, 3, none⟩ = some (.int .i64 cr) := bkeep hb (by first | (with_reducible exact q3) | (with_reducible exact akeep q3) | simp [*, go_sem]); replace q4 : w1.cell? ⟨w.heap.size, 4, none⟩ = some (.int .i64 le) := bkeep hb (by first | (with_reducible exact q4) | (with_reducible exact akeep q4) | simp [*, go_sem]); clear hb
  clear hr2
  go_wp2_with fail
  go_ret
  exact ⟨ret_bool (by rw [hbr]; simp [BEq.beq]), hb0⟩

end Go.Proofs.Ytnchhleokdkejaa

/- What remembers whether saggars do. -/
namespace Go.Proofs.Ytnchhleokdkejaa
open Go.RowKit Go.Pb Go.Pb.Ware Go.Pb.Sag
set_option linter.unusedVariables false
set_option linter.unusedSimpArgs false

open Go.Proofs Go.Maps Go.Pb.Bung
set_option maxRecDepth 100000 in
theorem Try.laidOutB_ : laidOutB Try.prog = true := by kernel_rfl
theorem Try.wideK : (match Try.prog.underlying 152 with | some (.array _ _) | some (.struct _) => true | _ => false) = true := by rw [Try.underlying152]
set_option maxRecDepth 100000 in
theorem Try.lawK : Keyed Try.prog 152 := Keyed.of_law (deep_law_laid Try.laidOutB_ (m := 2) (by omega) (of_decide_eq_true (by kernel_rfl)) (by kernel_rfl) Try.wideK)
theorem Try.zeroB (w : World) : (zeroValue 4).run Try.prog w = .ok (.bool false) w := by kernel_rfl
set_option maxRecDepth 100000 in
theorem key9 {bs : List Bool} (h : bs.length = 9) : ∃ kl, keyOf Try.prog 152 (keyV bs) = some kl := by
  match bs, h with
  | [b0, b1, b2, b3, b4, b5, b6, b7, b8], _ =>
    have h1 : (keyOf Try.prog 152 (.agg #[.bool b0, .bool b1, .bool b2, .bool b3, .bool b4, .bool b5, .bool b6, .bool b7, .bool b8])).isSome = true := by kernel_rfl
    exact Option.isSome_iff_exists.1 h1
theorem bits9 (g : List Int) : ∃ b0 b1 b2 b3 b4 b5 b6 b7 b8, bitsOf g = [b0, b1, b2, b3, b4, b5, b6, b7, b8] ∧ decide (((0 : Nat) : Int) ∈ g) = b0 ∧ decide (((1 : Nat) : Int) ∈ g) = b1 ∧ decide (((2 : Nat) : Int) ∈ g) = b2 ∧ decide (((3 : Nat) : Int) ∈ g) = b3 ∧ decide (((4 : Nat) : Int) ∈ g) = b4 ∧ decide (((5 : Nat) : Int) ∈ g) = b5 ∧ decide (((6 : Nat) : Int) ∈ g) = b6 ∧ decide (((7 : Nat) : Int) ∈ g) = b7 ∧ decide (((8 : Nat) : Int) ∈ g) = b8 := by
  exact ⟨decide (((0 : Nat) : Int) ∈ g), decide (((1 : Nat) : Int) ∈ g), decide (((2 : Nat) : Int) ∈ g), decide (((3 : Nat) : Int) ∈ g), decide (((4 : Nat) : Int) ∈ g), decide (((5 : Nat) : Int) ∈ g), decide (((6 : Nat) : Int) ∈ g), decide (((7 : Nat) : Int) ∈ g), decide (((8 : Nat) : Int) ∈ g), rfl, rfl, rfl, rfl, rfl, rfl, rfl, rfl, rfl, rfl⟩
theorem grown_below {w w' : World} {row : Option Nat} (h : Below w.heap.size w w') : w.grownBy w' row := ⟨h.os, h.tape, h.output, h.size, fun k hk _ => h.block k hk⟩
theorem grown_cell {w w' : World} {M b o : Nat} {v : Value} (h : w.grownBy w' (some M)) (hc : w.cell? ⟨b, o, none⟩ = some v) (hne : b ≠ M) : w'.cell? ⟨b, o, none⟩ = some v := h.cell (a := ⟨b, o, none⟩) hc (fun e => hne (by injection e))

set_option maxRecDepth 100000 in
set_option maxHeartbeats 1000000 in
theorem recall_any {w : World} {v u : Value} {l : List Sg} {g : List Int} {lo hi cr le : Int} {XM XY M : Nat} {does : List Int → Bool} (hdo : does = doesB lo hi l cr le) (h : RowsAt 8 w v (l.map rowG)) (hk : listOk l = true) (hl9 : l.length ≤ 9) (h1 : 0 ≤ lo ∧ lo ≤ 200) (h2 : 0 ≤ hi ∧ hi ≤ 200) (hu : NumsAt w u g) (hz : ∀ z ∈ g, 0 ≤ z ∧ z < (l.length : Int)) (hd : g.Pairwise (· < ·)) (hgn : g.length ≤ 9) (hcM : w.cell? ⟨XM, 0, none⟩ = some (.map (some M))) (hcY : w.cell? ⟨XY, 0, none⟩ = some (.int .i64 lo) ∧ w.cell? ⟨XY, 1, none⟩ = some (.int .i64 hi) ∧ w.cell? ⟨XY, 2, none⟩ = some (v) ∧ w.cell? ⟨XY, 3, none⟩ = some (.int .i64 cr) ∧ w.cell? ⟨XY, 4, none⟩ = some (.int .i64 le)) (hQ : MapQ Try.prog 152 4 M does w) :
    Calls Try.prog 137 #[u, .pointer (some ⟨XM, 0, none⟩), .pointer (some ⟨XY, 0, none⟩)] w (fun e w' => e = .returned (.bool (does g)) ∧ w.grownBy w' (some M) ∧ MapQ Try.prog 152 4 M does w') := by
  obtain ⟨y0, y1, y2, y3, y4⟩ := hcY
  obtain ⟨ua, uc, rfl, hul, huc⟩ := hu.shape
  obtain ⟨a, cap, rfl, hll⟩ := h.shape
  rw [List.length_map] at h hll y2
  have hMlt := hQ.lt
  have hz9 : ∀ z ∈ g, 0 ≤ z ∧ z < 9 := fun z hz' => by have := hz z hz'; omega
  have hlist := list_bits hd hz9
  have hb9l := bitsOf_length g
  obtain ⟨kl, hkl⟩ := key9 hb9l
  obtain ⟨b0, b1, b2, b3, b4, b5, b6, b7, b8, hbits, e0, e1, e2, e3, e4, e5, e6, e7, e8⟩ := bits9 g
  have hkey : keyOf Try.prog 152 (.agg #[.bool b0, .bool b1, .bool b2, .bool b3, .bool b4, .bool b5, .bool b6, .bool b7, .bool b8]) = some kl := by rw [hbits] at hkl; exact hkl
  obtain ⟨n, hn⟩ : ∃ n, l.length = n := ⟨_, rfl⟩
  have HN : Hid (l.length = n) := hn
  rw [hn] at h hll hl9 y2
  have HZ : Hid (∀ z ∈ g, 0 ≤ z ∧ z < (l.length : Int)) := hz
  clear hn hz
  go_enter Try.func137, Try.ntmps137
  go_upto_region 2 with fail
  generalize hW : World.alloc w _ = w5
  have hb5 : Below w.heap.size w w5 := by rw [← hW]; exact (Below.refl _ _).alloc (Nat.le_refl _) _
  have S5 : SeenAt w.heap.size 9 [] w5 := SeenAt.start (fun i hi => by rw [← hW]; have h := CellsAt.new w [.bool false, .bool false, .bool false, .bool false, .bool false, .bool false, .bool false, .bool false, .bool false] 152; exact h i _ (by match i, hi with | 0, _ => rfl | 1, _ => rfl | 2, _ => rfl | 3, _ => rfl | 4, _ => rfl | 5, _ => rfl | 6, _ => rfl | 7, _ => rfl | 8, _ => rfl))
  have hz5 : w.heap.size < w5.heap.size := by rw [← hW]; simp
  clear hW
  go_wp2_with fail
  go_loopg [12] g.length (fun gk iv wr => ∃ k : Nat, k ≤ g.length ∧ gk = g.length - k ∧ iv = .int .i64 k ∧ SeenAt w.heap.size 9 (g.take k) wr ∧ Below w.heap.size w wr ∧ w.heap.size < wr.heap.size)
  case atStart => exact ⟨0, Nat.zero_le _, rfl, rfl, by simpa using S5, hb5, hz5⟩
  case round =>
    clear S5 hb5 hz5
    obtain ⟨k, hk1, hgk, rfl, hS, hB, hzz⟩ := hrel
    have HGK : Hid (gk = g.length - k) := hgk; clear hgk
    by_cases hlt : k < g.length
    · have hki : (k : Int) < (g.length : Int) := by omega
      obtain ⟨a', ha, r0⟩ := (hu.below hB).elem hlt
      subst ha
      have hzk := hz9 g[k] (List.getElem_mem hlt)
      obtain ⟨m, hm⟩ : ∃ m : Nat, g[k] = (m : Int) := ⟨g[k].toNat, by omega⟩
      have hm9 : m < 9 := by omega
      have hmi : (m : Int) < 9 := by omega
      have hm0 : (0 : Int) ≤ (m : Int) := by omega
      rw [hm] at r0
      obtain ⟨q0, f0⟩ := hS m hm9
      go_wp2_with fail
      go_roundg (g.length - (k + 1))
      case measure => have h := HGK.out; omega
      case rel => exact ⟨k + 1, by omega, rfl, by go_num, by rw [List.take_succ_eq_append_getElem hlt, hm]; exact hS.put hm9, hB.setCell (p := ⟨w.heap.size, m, none⟩) (Nat.le_refl _) _, by simpa using hzz⟩
    · obtain rfl : k = g.length := by omega
      rw [List.take_length] at hS
      have q0 := (hS 0 (by omega)).1; rw [e0] at q0
      have q1 := (hS 1 (by omega)).1; rw [e1] at q1
      have q2 := (hS 2 (by omega)).1; rw [e2] at q2
      have q3 := (hS 3 (by omega)).1; rw [e3] at q3
      have q4 := (hS 4 (by omega)).1; rw [e4] at q4
      have q5 := (hS 5 (by omega)).1; rw [e5] at q5
      have q6 := (hS 6 (by omega)).1; rw [e6] at q6
      have q7 := (hS 7 (by omega)).1; rw [e7] at q7
      have q8 := (hS 8 (by omega)).1; rw [e8] at q8
      have c0 := bkeep hB hcM
      have x0 := bkeep hB y0; have x1 := bkeep hB y1; have x2 := bkeep hB y2; have x3 := bkeep hB y3; have x4 := bkeep hB y4
      obtain ⟨ks, D, hown, hnd, h9, hall⟩ := hQ.below hB
      obtain ⟨hhas, hat⟩ := hall (bitsOf g) kl hb9l hkl
      rw [hlist] at hat
      clear hS e0 e1 e2 e3 e4 e5 e6 e7 e8
      by_cases hin : bitsOf g ∈ ks
      · rw [decide_eq_true hin] at hhas
        have hat2 := hat hin
        go_wp2_with (at_lookup; refine wpList_lookup_own_ok _ rfl _ _ 148 rfl 152 4 Try.lawK Try.underlying148 _ (Try.zeroB _) (.lit (.bool false)) [] (plainElem_bool Try.underlying4 false) M ks.length D rfl hown _ _ rfl hkey ?_; intro v9 ps9 hv9; obtain ⟨x9, rfl, hx9⟩ := plainElem_bool_inv Try.underlying4 hv9; rw [hhas])
        have hxd : does g = x9 := by rw [hat2] at hx9; injection hx9 with hx9 _; injection hx9 with hx9; injection hx9
        go_ret
        exact ⟨ret_bool hxd.symm, grown_below hB, ks, D, hown, hnd, h9, hall⟩
      · rw [decide_eq_false hin] at hhas
        go_wp2_with (first | (at_lookup; refine wpList_lookup_own_ok _ rfl _ _ 148 rfl 152 4 Try.lawK Try.underlying148 _ (Try.zeroB _) (.lit (.bool false)) [] (plainElem_bool Try.underlying4 false) M ks.length D rfl hown _ _ rfl hkey ?_; intro v9 ps9 hv9; obtain ⟨x9, rfl, hx9⟩ := plainElem_bool_inv Try.underlying4 hv9; rw [hhas]))
        have hr0 := h.below hB
        obtain ⟨bb, hbb⟩ : ∃ b, does g = b := ⟨_, rfl⟩
        have hz3 := hB.size
        have hl30 : g.length ≤ 30 := by omega
        have hcall := does_any (w := wr) (v := .slice a n cap) (u := .slice ua g.length uc) (l := l) (lo := lo) (hi := hi) (cr := cr) (le := le) (h.below hB) hk h1 h2 (hu.below hB) HZ.out (hd.imp fun {a b} hab e => by omega) hl30
        rw [show doesB lo hi l cr le g = bb by rw [← hbb, hdo]] at hcall
        refine hcall.mono ?_
        rintro e w8 ⟨rfl, hb⟩
        have d0 := bkeep hb q0
        have d1 := bkeep hb q1
        have d2 := bkeep hb q2
        have d3 := bkeep hb q3
        have d4 := bkeep hb q4
        have d5 := bkeep hb q5
        have d6 := bkeep hb q6
        have d7 := bkeep hb q7
        have d8 := bkeep hb q8
        have c8 := bkeep hb c0
        have hown8 := ownsMap_block hown (hb.block M (by omega))
        have hB8 := hB.trans (hb.mono hz3)
        have hk512 := few_bits hnd h9
        go_wp2_with (at_mapUpdate; refine wpList_mapUpdate_own _ rfl _ _ _ 148 rfl 152 4 Try.lawK Try.underlying148 _ M ks.length D rfl hown8 (by unfold maxLen; omega) _ _ kl rfl rfl hkey (.lit (.bool bb)) [] (plainElem_bool Try.underlying4 bb) ?_; intro w9 hown9 hg9)
        go_ret
        exact ⟨ret_bool hbb.symm, (grown_below (row := some M) hB8).andThen hg9 (fun j e => .inr e), MapQ.put Try.lawK hown8 hnd h9 hall hb9l hkl hin (by rw [hlist]; exact hbb) hown9⟩

set_option maxRecDepth 100000 in
set_option maxHeartbeats 1000000 in
theorem remembered_any {w : World} {v : Value} {l : List Sg} {lo hi cr le : Int} {does : List Int → Bool} (h : RowsAt 8 w v (l.map rowG)) :
    Calls Try.prog 114 #[.agg #[.int .i64 lo, .int .i64 hi, v, .int .i64 cr, .int .i64 le]] w (fun e w' => ∃ XM M, e = .returned (.func (.func 137) #[] #[.pointer (some ⟨XM, 0, none⟩), .pointer (some ⟨w.heap.size, 0, none⟩)]) ∧ Below w.heap.size w w' ∧ w.heap.size ≤ M ∧ w'.cell? ⟨XM, 0, none⟩ = some (.map (some M)) ∧ XM ≠ M ∧ w.heap.size ≠ M ∧ (w'.cell? ⟨w.heap.size, 0, none⟩ = some (.int .i64 lo) ∧ w'.cell? ⟨w.heap.size, 1, none⟩ = some (.int .i64 hi) ∧ w'.cell? ⟨w.heap.size, 2, none⟩ = some (v) ∧ w'.cell? ⟨w.heap.size, 3, none⟩ = some (.int .i64 cr) ∧ w'.cell? ⟨w.heap.size, 4, none⟩ = some (.int .i64 le)) ∧ MapQ Try.prog 152 4 M does w') := by
  obtain ⟨a, cap, rfl, hll⟩ := h.shape
  rw [List.length_map] at h hll ⊢
  obtain ⟨n, hn⟩ : ∃ n, l.length = n := ⟨_, rfl⟩
  rw [hn] at h hll ⊢
  have hmm := @run_makeMap Try.prog
  have hmf : ∀ (fn : Fn) (first cap : Array Value) (w : World), (Instr.makeFunc fn first cap).run Try.prog w = .ok (.func fn first cap) w := fun _ _ _ _ => rfl
  go_enter Try.func114, Try.ntmps114
  have hM := (MapQ.start Try.prog 152 4 does (w.alloc (.cells #[.int .i64 lo, .int .i64 hi, .slice a n cap, .int .i64 cr, .int .i64 le] 143))).below ((Below.refl _ _).alloc (Nat.le_refl _) (.cells #[.map (some (w.heap.size + 1))] 148))
  rw [World.size_alloc] at hM
  go_wp2_with fail
  go_ret
  exact ⟨w.heap.size + 1 + 1, w.heap.size + 1, rfl, by go_grown, by omega, by simp [go_sem], by omega, by omega, ⟨by simp [go_sem], by simp [go_sem], by simp [go_sem], by simp [go_sem], by simp [go_sem]⟩, hM⟩

end Go.Proofs.Ytnchhleokdkejaa

/- Numbers modulo others; a wad that numbers make; numbers that choose. -/
namespace Go.Proofs.Ytnchhleokdkejaa
open Go.RowKit Go.Pb Go.Pb.Ware Go.Pb.Sag
set_option linter.unusedVariables false
set_option linter.unusedSimpArgs false

open Go.Pb.Bung
theorem modB {n m p : Int} {w : World} (hp : n % m = p) (h1 : 1 ≤ m) (h2 : m ≤ 140737488355328) :
    Calls Try.prog 69 #[.int .i64 n, .int .i64 m] w fun e w' => e = .returned (.int .i64 p) ∧ w = w' := by
  obtain ⟨e1, e2, e3⟩ := mod_eq n m (by omega)
  have E : Hid ((n.tmod m + m) % m = p) := hid (by rw [← hp, ← Int.tmod_eq_emod_of_nonneg (by omega)]; exact e1)
  clear e1 hp
  go_enter Try.func69, Try.ntmps69
  go_wp2
  all_goals go_ret
  all_goals exact ⟨ret_int E, rfl⟩
theorem modBR {n m p : Int} {w : World} (hp : n % m = p) (h1 : 1 ≤ m) (h2 : m ≤ 140737488355328) : Calls Try.prog 69 #[.int .i64 n, .int .i64 m] w (Ret w (.int .i64 p)) :=
  (modB hp h1 h2).mono fun e w' ⟨h3, h4⟩ => ⟨h3, h4 ▸ Below.refl _ _⟩
theorem mod_in {n m p : Int} (hp : n % m = p) (h1 : 1 ≤ m) : 0 ≤ p ∧ p < m := by subst hp; exact ⟨Int.emod_nonneg _ (by omega), Int.emod_lt_of_pos _ (by omega)⟩

end Go.Proofs.Ytnchhleokdkejaa

/- The plain mathematics of layer 2 (saggar): no reason is accepted where there is a packing; what is returned is accepted. -/
namespace Go.Pb.Sag
open Go Go.Pb Go.Pb.Ware Go.RowKit
set_option linter.unusedVariables false
theorem chosen_all (fs : List Ft) : chosenL fs (idxs fs.length) = fs := by
  refine List.ext_getElem? fun k => ?_
  unfold chosenL idxs
  rw [List.map_map, List.getElem?_map]
  rcases Nat.lt_or_ge k fs.length with h | h
  · rw [List.getElem?_range h]
    simp [List.getElem?_eq_getElem h]
  · rw [List.getElem?_eq_none (by simpa using h), List.getElem?_eq_none h]; rfl
end Go.Pb.Sag
