/- Part of a claim. -/
import Derived.Test.YtodmidchpbcnpaaGreatG26R
import Derived.Test.YtodmidchpbcnpaaGreatG4R
import Derived.Test.YtodmidchpbcnpaaGreatKSmR
import Derived.Deep.LoopGhost
set_option linter.unusedVariables false
set_option linter.unusedSimpArgs false
namespace Go.Proofs.YtodmidchpbcnpaaGreat
open Go.RowKit Go.Pb Go.Pb.Ware Go.Pb.Sag


def allNeed (s : Bx) (fs : List Ft) (kind : Int) (zs : List Int) : Nat → Bool
 | 0 => true
 | k + 1 => allNeed s fs kind zs k && !troubleA s (chosenL fs (zs.eraseIdx k)) kind
def reasonB (s : Bx) (fs : List Ft) (kind : Int) (zs : List Int) : Bool := idxB (fs.length : Int) (-1) zs && (troubleA s (chosenL fs zs) kind && allNeed s fs kind zs zs.length)
def ckQ (ss bs : List (List Int)) (s : Bx) (xs : List It) (kind : Int) (zs : List Int) : Int := if ckL ss bs s xs = 0 then (if reasonB s (feetV ss bs s xs) kind zs = true then 0 else 25) else ckL ss bs s xs
theorem allNeed_down {s : Bx} {fs : List Ft} {kind : Int} {zs : List Int} : ∀ {m k : Nat}, k < m → troubleA s (chosenL fs (zs.eraseIdx k)) kind = true → allNeed s fs kind zs m = false
 | 0, k, h, _ => by omega
 | m + 1, k, h, ht => by
  rw [allNeed]
  rcases Nat.lt_or_ge k m with h1 | h1
  ·rw [allNeed_down h1 ht]; rfl
  ·rw [show m = k by omega, ht]; simp
theorem allNeed_all {s : Bx} {fs : List Ft} {kind : Int} {zs : List Int} : ∀ {m : Nat}, (∀ k, k < m → troubleA s (chosenL fs (zs.eraseIdx k)) kind = false) → allNeed s fs kind zs m = true
 | 0, _ => rfl
 | m + 1, h => by rw [allNeed, allNeed_all fun k hk => h k (by omega), h m (by omega)]; rfl
theorem idx_len {many : Int} : ∀ {last : Int} {zs : List Int}, -1 ≤ last → idxB many last zs = true → (zs.length : Int) + last + 1 ≤ max many (last + 1)
 | last, [], h0, _ => by simp; omega
 | last, z :: zs, h0, h => by
  rw [idxB, Bool.and_eq_true, btw_iff] at h
  have ih := idx_len (by omega) h.2
  rw [List.length_cons]; omega
set_option maxRecDepth 100000 in
set_option maxHeartbeats 1000000 in
theorem CheckRefusal_any {w : World} {vs vb : Value} {ss bs : List (List Int)} (h1 : RowsAt 11 w vs ss) (h2 : RowsAt 7 w vb bs) {lv rv : Value} {xs : List It} {zs : List Int} {bid bwi bde bce bhi bbe kind d : Int} (hl : RowsAt 3 w lv (xs.map rowX)) (hzn : NumsAt w rv zs) (hd : ckQ ss bs ⟨bid, bwi, bde, bce, bhi, bbe⟩ xs kind zs = d) :
  Calls Tryz.prog 48 #[.agg #[vs, vb], .agg #[.int .i64 bid, .int .i64 bwi, .int .i64 bde, .int .i64 bce, .int .i64 bhi, .int .i64 bbe], lv, .agg #[.int .i64 kind, rv]] w (Ret w (.int .i64 d)) := by
 unfold Ret
 obtain ⟨la, lc, rfl, hll⟩ := hl.shape
 rw [List.length_map] at hl hll ⊢
 obtain ⟨ra, rc, rfl, hrl, hrc⟩ := hzn.shape
 obtain ⟨c, hc⟩ : ∃ c, ckL ss bs ⟨bid, bwi, bde, bce, bhi, bbe⟩ xs = c := ⟨_, rfl⟩
 by_cases hc0 : c = 0
 ·subst hc0
  obtain ⟨hw, hX, hxl, -⟩ := ckL_0 hc
  obtain ⟨fs, hfs⟩ : ∃ fs, (feetV ss bs ⟨bid, bwi, bde, bce, bhi, bbe⟩ xs) = fs := ⟨_, rfl⟩
  have hok : ∀ f ∈ fs, FtOk f := hfs ▸ feet_ok
  have hn : fs.length ≤ 5 := hfs ▸ feet_len
  have hxf : xs.length = fs.length := by rw [← hfs, feetV_0 hc, List.length_map]
  rw [hxf] at hl hll ⊢
  obtain ⟨n, hnn⟩ : ∃ n, fs.length = n := ⟨_, rfl⟩
  rw [hnn] at hl hll hn ⊢
  have hd2 : d = if reasonB ⟨bid, bwi, bde, bce, bhi, bbe⟩ fs kind zs = true then 0 else 25 := by rw [← hd]; unfold ckQ; rw [if_pos hc, hfs]
  have HD := hid hd2; have HFS := hid hfs; have HC := hid hc; have HX := hid hX; have HN := hid hnn; clear hc hd hw hX hfs hd2 hxf hnn
  obtain ⟨bi, hbi⟩ : ∃ bi, idxB (n : Int) (-1) zs = bi := ⟨_, rfl⟩
  have HBI := hid hbi; clear hbi
  go_enter Tryz.func48, Tryz.ntmps48
  go_wp2_with fail
  refine (Feet_any (h1.below (by go_grown)) (h2.below (by go_grown)) (hl.below (by go_grown))).mono ?_
  rintro e w1 ⟨fv, rfl, hb, ho⟩
  replace hb0 := bnext (w := w) (by go_grown) hb; have hz := hb.size; (try simp only [World.size_alloc, World.size_setCell] at hz); replace q0 : w1.cell? ⟨w.heap.size, 0, none⟩ = some (vs) := bkeep hb (by first | (with_reducible exact q0) | (with_reducible exact akeep q0) | simp [*, go_sem]); replace q1 : w1.cell? ⟨w.heap.size, 1, none⟩ = some (vb) := bkeep hb (by first | (with_reducible exact q1) | (with_reducible exact akeep q1) | simp [*, go_sem]); replace q2 : w1.cell? ⟨w.heap.size + 1, 0, none⟩ = some (.int .i64 bid) := bkeep hb (by first | (with_reducible exact q2) | (with_reducible exact akeep q2) | simp [*, go_sem]); replace q3 : w1.cell? ⟨w.heap.size + 1, 1, none⟩ = some (.int .i64 bwi) := bkeep hb (by first | (with_reducible exact q3) | (with_reducible exact akeep q3) | simp [*, go_sem]); replace q4 : w1.cell? ⟨w.heap.size + 1, 2, none⟩ = some (.int .i64 bde) := bkeep hb (by first | (with_reducible exact q4) | (with_reducible exact akeep q4) | simp [*, go_sem]); replace q5 : w1.cell? ⟨w.heap.size + 1, 3, none⟩ = some (.int .i64 bce) := bkeep hb (by first | (with_reducible exact q5) | (with_reducible exact akeep q5) | simp [*, go_sem]); replace q6 : w1.cell? ⟨w.heap.size + 1, 4, none⟩ = some (.int .i64 bhi) := bkeep hb (by first | (with_reducible exact q6) | (with_reducible exact akeep q6) | simp [*, go_sem]); replace q7 : w1.cell? ⟨w.heap.size + 1, 5, none⟩ = some (.int .i64 bbe) := bkeep hb (by first | (with_reducible exact q7) | (with_reducible exact akeep q7) | simp [*, go_sem]); replace q8 : w1.cell? ⟨w.heap.size + 1 + 1, 0, none⟩ = some (.int .i64 kind) := bkeep hb (by first | (with_reducible exact q8) | (with_reducible exact akeep q8) | simp [*, go_sem]); replace q9 : w1.cell? ⟨w.heap.size + 1 + 1, 1, none⟩ = some (.slice ra zs.length rc) := bkeep hb (by first | (with_reducible exact q9) | (with_reducible exact akeep q9) | simp [*, go_sem]); skip
  clear hb
  rw [HC.out]
  rw [HFS.out] at ho
  have hfa := feetAt_of_owns hok ho
  obtain ⟨fa, fc, rfl, hfl⟩ := owns_shape ho
  rw [HN.out] at hfa ho ⊢
  clear ho HC
  go_upto_region 4 with fail
  cases bi
  ·have hd3 : d = 25 := by rw [HD.out]; unfold reasonB; rw [HN.out, HBI.out]; rfl
   subst hd3
   clear HD
   have s2 := fun x : BW w1 => bkeep x.below q2
   have s3 := fun x : BW w1 => bkeep x.below q3
   have s4 := fun x : BW w1 => bkeep x.below q4
   have s5 := fun x : BW w1 => bkeep x.below q5
   have s6 := fun x : BW w1 => bkeep x.below q6
   have s7 := fun x : BW w1 => bkeep x.below q7
   have s8 := fun x : BW w1 => bkeep x.below q8
   have s9 := fun x : BW w1 => bkeep x.below q9
   refine wp_region_qb (by kernel_rfl) (by kernel_rfl) fun hc => ?_
   repeat (go_big_quiet_step ((go_at_call 96; exact BW.call _ (areIndices_any ((hzn.below (by go_grown)).below (BW.below _)) (by omega) (by omega) HBI.out))))
   refine wpQuiet_nil ?_
   intro w3 hb
   replace hb0 := bnext (w := w) hb0 hb
   go_wp2_with fail
   go_ret
   exact ⟨rfl, hb0⟩
  ·have har : ∀ W' : World, Below w1.heap.size w1 W' → Calls Tryz.prog 96 #[.slice ra zs.length rc, .int .i64 (n : Int)] W' (Ret W' (.bool true)) := fun W' hb => areIndices_any ((hzn.below (by go_grown)).below hb) (by omega) (by omega) HBI.out
   have HAR := hid har; clear har
   have hzr := fun z hz => idx_all (show (-1 : Int) ≤ -1 by omega) HBI.out z hz
   have hzl := idx_len (show (-1 : Int) ≤ -1 by omega) HBI.out
   have hzl2 : zs.length ≤ n := by omega
   obtain ⟨cs, hcs⟩ : ∃ cs, chosenL fs zs = cs := ⟨_, rfl⟩
   obtain ⟨tb, htb⟩ : ∃ tb, troubleA ⟨bid, bwi, bde, bce, bhi, bbe⟩ cs kind = tb := ⟨_, rfl⟩
   have hok1 := chosen_ok hok (zs := zs) (fun z h => by rw [HN.out]; have := hzr z h; omega)
   have hn1 : (chosenL fs zs).length ≤ 5 := by unfold chosenL; rw [List.length_map]; omega
   rw [hcs] at hok1 hn1
   have hch : ∀ W' : World, Below w1.heap.size w1 W' → Calls Tryz.prog 97 #[.slice fa n fc, .slice ra zs.length rc] W' (fun e w'' => ∃ u, e = .returned u ∧ Below W'.heap.size W' w'' ∧ w''.ownsRow w1.heap.size 34 4 u cs.length (cs.flatMap cellsF)) := fun W' hb => by
    rw [← hcs]; refine (chosen_any (hfa.below hb) (by rw [HN.out]; omega) ((hzn.below (by go_grown)).below hb) (by omega) (fun z h => by rw [HN.out]; have := hzr z h; omega)).mono ?_
    rintro e w'' ⟨u, rfl, h2, h3⟩
    exact ⟨u, rfl, h2, owns_base hb.size h3⟩
   have htr : ∀ (W' : World) (u : Value), W'.ownsRow w1.heap.size 34 4 u cs.length (cs.flatMap cellsF) → Calls Tryz.prog 88 #[.int .i64 kind, .agg #[.int .i64 bid, .int .i64 bwi, .int .i64 bde, .int .i64 bce, .int .i64 bhi, .int .i64 bbe], u] W' (Ret W' (.bool tb)) := fun W' u h => trouble_any HX.out (feetAt_of_owns hok1 h) hok1 hn1 htb
   have hrs : reasonB ⟨bid, bwi, bde, bce, bhi, bbe⟩ fs kind zs = (tb && allNeed ⟨bid, bwi, bde, bce, bhi, bbe⟩ fs kind zs zs.length) := by unfold reasonB; rw [HN.out, HBI.out, hcs, htb]; rfl
   have HRS := hid hrs; have HCH := hid hch; have HTR := hid htr; have HZR := hid hzr; clear hrs hch htr hzr hok1 hn1 htb hcs
   refine wp_region_Rs [(4, fun v _ => v = .bool true), (13, fun v W => W.ownsRow w1.heap.size 34 4 v cs.length (cs.flatMap cellsF)), (14, fun v _ => v = .bool tb)] [0, 1, 2, 3, 4, 5, 6, 7, 8, 9, 10, 11, 12, 13, 14, 15, 16] 0 (by kernel_rfl) rfl (by simp only [List.forall_mem_cons]; exact ⟨keeps_eq, keeps_owns, keeps_eq, fun _ h => by cases h⟩) (by kernel_rfl) ?_
   simp only [numbered, List.filterMap_cons, List.filterMap_nil, List.getElem?_toArray, List.getElem?_cons_succ, List.getElem?_cons_zero, Option.map_some]
   show wpS _ _ _ _ _ _ _ [(_, _), (_, _), (_, _), (_, _), (_, _), (_, _), (_, _), (_, _), (_, _), (_, _), (_, _), (_, _), (_, _), (_, _), (_, _), (_, _), (_, _)] _ _
   (refine wpS_quiet rfl rfl ?_; intro K hK inst hx; go_big_quiet_op; go_big_quiet_on; clear hx inst)
   (refine wpS_quiet rfl rfl ?_; intro K hK inst hx; have sq9 := fun x => (fun _ => bkeep (BQ.below x) q9) (hx x); go_big_quiet_op; go_big_quiet_on; clear hx inst)
   (refine wpS_quiet rfl rfl ?_; intro K hK inst hx; go_big_quiet_op; go_big_quiet_on; clear hx inst)
   (refine wpS_quiet rfl rfl ?_; intro K hK inst hx; go_big_quiet_op; go_big_quiet_on; clear hx inst)
   refine wpS_fresh rfl rfl (fun w' hb hF => ?_) ?_
   ·change freshAt _ _ _ (fun v _ => v = .bool true) _; unfold freshAt; go_simp; exact HAR.out _ hb
   intro v W hv; simp only [pOf, List.lookup_cons, Nat.reduceBEq, beq_self_eq_true] at hv; subst hv
   simp only [Act.put, List.setIfInBounds_toArray, List.set_cons_succ, List.set_cons_zero]
   (refine wpS_quiet rfl rfl ?_; intro K hK inst hx; go_big_quiet_op; go_big_quiet_on; clear hx inst)
   (refine wpS_quiet rfl rfl ?_; intro K hK inst hx; go_big_quiet_op; go_big_quiet_on; clear hx inst)
   (refine wpS_quiet rfl rfl ?_; intro K hK inst hx; go_big_quiet_op; go_big_quiet_on; clear hx inst)
   (refine wpS_quiet rfl rfl ?_; intro K hK inst hx; have sq8 := fun x => (fun _ => bkeep (BQ.below x) q8) (hx x); go_big_quiet_op; go_big_quiet_on; clear hx inst)
   (refine wpS_quiet rfl rfl ?_; intro K hK inst hx; have sq2 := fun x => (fun _ => bkeep (BQ.below x) q2) (hx x); have sq3 := fun x => (fun _ => bkeep (BQ.below x) q3) (hx x); have sq4 := fun x => (fun _ => bkeep (BQ.below x) q4) (hx x); have sq5 := fun x => (fun _ => bkeep (BQ.below x) q5) (hx x); have sq6 := fun x => (fun _ => bkeep (BQ.below x) q6) (hx x); have sq7 := fun x => (fun _ => bkeep (BQ.below x) q7) (hx x); go_big_quiet_op; go_big_quiet_on; clear hx inst)
   (refine wpS_quiet rfl rfl ?_; intro K hK inst hx; go_big_quiet_op; go_big_quiet_on; clear hx inst)
   (refine wpS_quiet rfl rfl ?_; intro K hK inst hx; go_big_quiet_op; go_big_quiet_on; clear hx inst)
   (refine wpS_quiet rfl rfl ?_; intro K hK inst hx; have sq9 := fun x => (fun _ => bkeep (BQ.below x) q9) (hx x); go_big_quiet_op; go_big_quiet_on; clear hx inst)
   refine wpS_fresh rfl rfl (fun w' hb hF => ?_) ?_
   ·change freshAt _ _ _ (fun v W => W.ownsRow w1.heap.size 34 4 v cs.length (cs.flatMap cellsF)) _; unfold freshAt; go_simp; exact HCH.out _ hb
   intro v W hv; simp only [pOf, List.lookup_cons, Nat.reduceBEq, beq_self_eq_true] at hv; obtain ⟨ca, cc, rfl, -⟩ := owns_shape hv
   simp only [Act.put, List.setIfInBounds_toArray, List.set_cons_succ, List.set_cons_zero]
   refine wpS_fresh rfl rfl (fun w' hb hF => ?_) ?_
   ·change freshAt _ _ _ (fun v _ => v = .bool tb) _; have h4 := hF 13 _ rfl (by kernel_rfl); unfold freshAt; go_simp; exact HTR.out _ _ h4
   intro v W hv; simp only [pOf, List.lookup_cons, Nat.reduceBEq, beq_self_eq_true] at hv; subst hv
   simp only [Act.put, List.setIfInBounds_toArray, List.set_cons_succ, List.set_cons_zero]
   (refine wpS_quiet rfl rfl ?_; intro K hK inst hx; go_big_quiet_op; go_big_quiet_on; clear hx inst)
   (refine wpS_quiet rfl rfl ?_; intro K hK inst hx; go_big_quiet_op; go_big_quiet_on; clear hx inst)
   refine wpS_nil ?_
   intro w2 hall
   have hb := hall.1
   clear hall
   refine wpAny_done (by kernel_rfl) ?_ _
   replace hb0 := bnext (w := w) hb0 hb
   replace hfa := hfa.below hb
   replace q2 := bkeep hb q2
   replace q3 := bkeep hb q3
   replace q4 := bkeep hb q4
   replace q5 := bkeep hb q5
   replace q6 := bkeep hb q6
   replace q7 := bkeep hb q7
   replace q8 := bkeep hb q8
   replace q9 := bkeep hb q9
   clear hb HCH HTR HAR q0 q1
   cases tb
   ·have hd3 : d = 25 := by rw [HD.out, HRS.out]; rfl
    subst hd3
    clear HD
    go_wp2_with fail
    go_ret
    exact ⟨rfl, hb0⟩
   ·go_wp2_with fail
    obtain ⟨m, hmm⟩ : ∃ m, zs.length = m := ⟨_, rfl⟩
    have HM := hid hmm
    go_loopg [11, 42] m (fun gk _ kv wr => ∃ k : Nat, k ≤ m ∧ gk = m - k ∧ kv = .int .i64 k ∧ (∀ j, j < k → troubleA ⟨bid, bwi, bde, bce, bhi, bbe⟩ (chosenL fs (zs.eraseIdx j)) kind = false) ∧ FeetAt wr (.slice fa n fc) fs ∧ Below w.heap.size w wr ∧ (wr.cell? ⟨w.heap.size + 1, 0, none⟩ = some (.int .i64 bid) ∧ wr.cell? ⟨w.heap.size + 1, 1, none⟩ = some (.int .i64 bwi) ∧ wr.cell? ⟨w.heap.size + 1, 2, none⟩ = some (.int .i64 bde) ∧ wr.cell? ⟨w.heap.size + 1, 3, none⟩ = some (.int .i64 bce) ∧ wr.cell? ⟨w.heap.size + 1, 4, none⟩ = some (.int .i64 bhi) ∧ wr.cell? ⟨w.heap.size + 1, 5, none⟩ = some (.int .i64 bbe)) ∧ wr.cell? ⟨w.heap.size + 1 + 1, 0, none⟩ = some (.int .i64 kind) ∧ wr.cell? ⟨w.heap.size + 1 + 1, 1, none⟩ = some (.slice ra zs.length rc))
    case atStart => exact ⟨0, Nat.zero_le _, rfl, rfl, fun j h => by omega, hfa, hb0, ⟨q2, q3, q4, q5, q6, q7⟩, q8, q9⟩
    case round =>
     clear hfa hb0 q2 q3 q4 q5 q6 q7 q8 q9
     obtain ⟨k, hk, hgk, rfl, ht, hfa, hb0, ⟨q2, q3, q4, q5, q6, q7⟩, q8, q9⟩ := hrel
     have HGK := hid hgk; have HT := hid ht; clear hgk ht
     by_cases hlt : k < m
     ·have hki : (k : Int) < (m : Int) := by omega
      have hkz : k < zs.length := by rw [HM.out]; exact hlt
      have hzw : NumsAt wr (.slice ra zs.length rc) zs := hzn.below (by go_grown)
      rw [hmm] at q9
      have hel : (zs.eraseIdx k).length = zs.length - 1 := by rw [List.length_eraseIdx_of_lt hkz]
      obtain ⟨l1, hl1⟩ : ∃ l1, zs.eraseIdx k = l1 := ⟨_, rfl⟩
      obtain ⟨cs2, hcs⟩ : ∃ cs, chosenL fs l1 = cs := ⟨_, rfl⟩
      obtain ⟨tb2, htb⟩ : ∃ tb, troubleA ⟨bid, bwi, bde, bce, bhi, bbe⟩ cs2 kind = tb := ⟨_, rfl⟩
      have hz1 : ∀ z ∈ l1, 0 ≤ z ∧ z < (n : Int) := fun z h => by have := HZR.out z (List.mem_of_mem_eraseIdx (hl1 ▸ h)); omega
      have hi1 : ∀ z ∈ l1, I64 z := fun z h => hzn.i64 z (List.mem_of_mem_eraseIdx (hl1 ▸ h))
      have hok1 := chosen_ok hok (zs := l1) (fun z h => by rw [HN.out]; exact hz1 z h)
      have hn1 : (chosenL fs l1).length ≤ 5 := by unfold chosenL; rw [List.length_map, ← hl1, hel]; omega
      rw [hcs] at hok1 hn1
      have hwo : ∀ W' : World, Below wr.heap.size wr W' → Calls Tryz.prog 98 #[.slice ra m rc, .int .i64 (k : Int)] W' (fun e w'' => ∃ u, e = .returned u ∧ Below W'.heap.size W' w'' ∧ w''.ownsRow wr.heap.size 3 1 u l1.length (l1.map (Value.int .i64))) := fun W' hb => by
       rw [← hl1, ← hmm]; refine (withoutO (hzw.below hb) hkz (by omega)).mono ?_
       rintro e w'' ⟨u, rfl, h2, h3⟩
       exact ⟨u, rfl, h2, owns_base hb.size h3⟩
      have hch : ∀ (W' : World) (v : Value), Below wr.heap.size wr W' → W'.ownsRow wr.heap.size 3 1 v l1.length (l1.map (Value.int .i64)) → Calls Tryz.prog 97 #[.slice fa n fc, v] W' (fun e w'' => ∃ u, e = .returned u ∧ Below W'.heap.size W' w'' ∧ w''.ownsRow wr.heap.size 34 4 u cs2.length (cs2.flatMap cellsF)) := fun W' v hb hv => by
       rw [← hcs]; refine (chosen_any (hfa.below hb) (by rw [HN.out]; omega) (numsAt_of_owns hi1 hv) (by rw [← hl1, hel]; omega) (fun z h => by rw [HN.out]; exact hz1 z h)).mono ?_
       rintro e w'' ⟨u, rfl, h2, h3⟩
       exact ⟨u, rfl, h2, owns_base hb.size h3⟩
      have htr : ∀ (W' : World) (u : Value), W'.ownsRow wr.heap.size 34 4 u cs2.length (cs2.flatMap cellsF) → Calls Tryz.prog 88 #[.int .i64 kind, .agg #[.int .i64 bid, .int .i64 bwi, .int .i64 bde, .int .i64 bce, .int .i64 bhi, .int .i64 bbe], u] W' (Ret W' (.bool tb2)) := fun W' u h => trouble_any HX.out (feetAt_of_owns hok1 h) hok1 hn1 htb
      have htk : troubleA ⟨bid, bwi, bde, bce, bhi, bbe⟩ (chosenL fs (zs.eraseIdx k)) kind = tb2 := by rw [hl1, hcs, htb]
      have HTK := hid htk; have HWO := hid hwo; have HCH := hid hch; have HTR := hid htr; clear htk hwo hch htr hok1 hn1 htb hcs hz1 hi1 hel hl1
      go_upto_region 9 with fail
      refine wp_region_Rs [(7, fun v W => W.ownsRow wr.heap.size 3 1 v l1.length (l1.map (Value.int .i64))), (8, fun v W => W.ownsRow wr.heap.size 34 4 v cs2.length (cs2.flatMap cellsF)), (9, fun v _ => v = .bool tb2)] [0, 1, 2, 3, 4, 5, 6, 7, 8, 9] 0 (by kernel_rfl) rfl (by simp only [List.forall_mem_cons]; exact ⟨keeps_owns, keeps_owns, keeps_eq, fun _ h => by cases h⟩) (by kernel_rfl) ?_
      simp only [numbered, List.filterMap_cons, List.filterMap_nil, List.getElem?_toArray, List.getElem?_cons_succ, List.getElem?_cons_zero, Option.map_some]
      show wpS _ _ _ _ _ _ _ [(_, _), (_, _), (_, _), (_, _), (_, _), (_, _), (_, _), (_, _), (_, _), (_, _)] _ _
      (refine wpS_quiet rfl rfl ?_; intro K hK inst hx; go_big_quiet_op; go_big_quiet_on; clear hx inst)
      (refine wpS_quiet rfl rfl ?_; intro K hK inst hx; have sq8 := fun x => (fun _ => bkeep (BQ.below x) q8) (hx x); go_big_quiet_op; go_big_quiet_on; clear hx inst)
      (refine wpS_quiet rfl rfl ?_; intro K hK inst hx; have sq2 := fun x => (fun _ => bkeep (BQ.below x) q2) (hx x); have sq3 := fun x => (fun _ => bkeep (BQ.below x) q3) (hx x); have sq4 := fun x => (fun _ => bkeep (BQ.below x) q4) (hx x); have sq5 := fun x => (fun _ => bkeep (BQ.below x) q5) (hx x); have sq6 := fun x => (fun _ => bkeep (BQ.below x) q6) (hx x); have sq7 := fun x => (fun _ => bkeep (BQ.below x) q7) (hx x); go_big_quiet_op; go_big_quiet_on; clear hx inst)
      (refine wpS_quiet rfl rfl ?_; intro K hK inst hx; go_big_quiet_op; go_big_quiet_on; clear hx inst)
      (refine wpS_quiet rfl rfl ?_; intro K hK inst hx; go_big_quiet_op; go_big_quiet_on; clear hx inst)
      (refine wpS_quiet rfl rfl ?_; intro K hK inst hx; have sq9 := fun x => (fun _ => bkeep (BQ.below x) q9) (hx x); go_big_quiet_op; go_big_quiet_on; clear hx inst)
      (refine wpS_quiet rfl rfl ?_; intro K hK inst hx; go_big_quiet_op; go_big_quiet_on; clear hx inst)
      refine wpS_fresh rfl rfl (fun w' hb hF => ?_) ?_
      ·change freshAt _ _ _ (fun v W => W.ownsRow wr.heap.size 3 1 v l1.length (l1.map (Value.int .i64))) _; unfold freshAt; go_simp; exact HWO.out _ hb
      intro v W hv; simp only [pOf, List.lookup_cons, Nat.reduceBEq, beq_self_eq_true] at hv; obtain ⟨ua, uc, rfl, -⟩ := owns_shape hv
      simp only [Act.put, List.setIfInBounds_toArray, List.set_cons_succ, List.set_cons_zero]
      refine wpS_fresh rfl rfl (fun w' hb hF => ?_) ?_
      ·change freshAt _ _ _ (fun v W => W.ownsRow wr.heap.size 34 4 v cs2.length (cs2.flatMap cellsF)) _; have h4 := hF 7 _ rfl (by kernel_rfl); unfold freshAt; go_simp; exact HCH.out _ _ hb h4
      intro v W hv; simp only [pOf, List.lookup_cons, Nat.reduceBEq, beq_self_eq_true] at hv; obtain ⟨ca, cc, rfl, -⟩ := owns_shape hv
      simp only [Act.put, List.setIfInBounds_toArray, List.set_cons_succ, List.set_cons_zero]
      refine wpS_fresh rfl rfl (fun w' hb hF => ?_) ?_
      ·change freshAt _ _ _ (fun v _ => v = .bool tb2) _; have h4 := hF 8 _ rfl (by kernel_rfl); unfold freshAt; go_simp; exact HTR.out _ _ h4
      intro v W hv; simp only [pOf, List.lookup_cons, Nat.reduceBEq, beq_self_eq_true] at hv; subst hv
      simp only [Act.put, List.setIfInBounds_toArray, List.set_cons_succ, List.set_cons_zero]
      refine wpS_nil ?_
      intro w2 hall
      have hb := hall.1
      clear hall
      refine wpAny_done (by kernel_rfl) ?_ _
      replace hb0 := bnext (w := w) hb0 hb
      replace hfa := hfa.below hb
      replace q2 := bkeep hb q2
      replace q3 := bkeep hb q3
      replace q4 := bkeep hb q4
      replace q5 := bkeep hb q5
      replace q6 := bkeep hb q6
      replace q7 := bkeep hb q7
      replace q8 := bkeep hb q8
      replace q9 := bkeep hb q9
      clear hb HCH HTR HWO hzw
      rw [← hmm] at q9
      cases tb2
      ·go_wp2_with fail
       go_roundg (m - (k + 1))
       case measure => have h := HGK.out; omega
       case rel => exact ⟨k + 1, by omega, rfl, by go_num, fun j hj => by (rcases Nat.lt_or_ge j k with h3 | h3); exact HT.out j h3; rw [show j = k by omega]; exact HTK.out, hfa, hb0, ⟨q2, q3, q4, q5, q6, q7⟩, q8, q9⟩
      ·have hd3 : d = 25 := by rw [HD.out, HRS.out, allNeed_down hkz HTK.out]; rfl
       subst hd3
       clear HD
       go_wp2_with fail
       go_ret
       exact ⟨rfl, hb0⟩
     ·obtain rfl : k = m := by omega
      have hd3 : d = 0 := by rw [HD.out, HRS.out, HM.out, allNeed_all HT.out]; rfl
      subst hd3
      clear HD
      go_wp2_with fail
      go_ret
      exact ⟨rfl, hb0⟩
 ·have hR : d = c := by rw [← hd]; unfold ckQ; rw [if_neg (by rw [hc]; exact hc0), hc]
  subst hR
  have hcn : (d != 0) = true := by simpa using hc0
  have HC := hid hc; clear hc hd
  go_enter Tryz.func48, Tryz.ntmps48
  go_wp2_with fail
  refine (Feet_any (h1.below (by go_grown)) (h2.below (by go_grown)) (hl.below (by go_grown))).mono ?_
  rintro e w1 ⟨fv, rfl, hb, ho⟩
  replace hb0 := bnext (w := w) (by go_grown) hb; have hz := hb.size; (try simp only [World.size_alloc, World.size_setCell] at hz); replace q0 : w1.cell? ⟨w.heap.size, 0, none⟩ = some (vs) := bkeep hb (by first | (with_reducible exact q0) | (with_reducible exact akeep q0) | simp [*, go_sem]); replace q1 : w1.cell? ⟨w.heap.size, 1, none⟩ = some (vb) := bkeep hb (by first | (with_reducible exact q1) | (with_reducible exact akeep q1) | simp [*, go_sem]); replace q2 : w1.cell? ⟨w.heap.size + 1, 0, none⟩ = some (.int .i64 bid) := bkeep hb (by first | (with_reducible exact q2) | (with_reducible exact akeep q2) | simp [*, go_sem]); replace q3 : w1.cell? ⟨w.heap.size + 1, 1, none⟩ = some (.int .i64 bwi) := bkeep hb (by first | (with_reducible exact q3) | (with_reducible exact akeep q3) | simp [*, go_sem]); replace q4 : w1.cell? ⟨w.heap.size + 1, 2, none⟩ = some (.int .i64 bde) := bkeep hb (by first | (with_reducible exact q4) | (with_reducible exact akeep q4) | simp [*, go_sem]); replace q5 : w1.cell? ⟨w.heap.size + 1, 3, none⟩ = some (.int .i64 bce) := bkeep hb (by first | (with_reducible exact q5) | (with_reducible exact akeep q5) | simp [*, go_sem]); replace q6 : w1.cell? ⟨w.heap.size + 1, 4, none⟩ = some (.int .i64 bhi) := bkeep hb (by first | (with_reducible exact q6) | (with_reducible exact akeep q6) | simp [*, go_sem]); replace q7 : w1.cell? ⟨w.heap.size + 1, 5, none⟩ = some (.int .i64 bbe) := bkeep hb (by first | (with_reducible exact q7) | (with_reducible exact akeep q7) | simp [*, go_sem]); replace q8 : w1.cell? ⟨w.heap.size + 1 + 1, 0, none⟩ = some (.int .i64 kind) := bkeep hb (by first | (with_reducible exact q8) | (with_reducible exact akeep q8) | simp [*, go_sem]); replace q9 : w1.cell? ⟨w.heap.size + 1 + 1, 1, none⟩ = some (.slice ra zs.length rc) := bkeep hb (by first | (with_reducible exact q9) | (with_reducible exact akeep q9) | simp [*, go_sem]); skip
  clear hb
  rw [HC.out]
  go_wp2_with fail
  go_ret
  exact ⟨rfl, by go_grown⟩
end Go.Proofs.YtodmidchpbcnpaaGreat