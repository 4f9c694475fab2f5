/- Contracts of what makes a law's inputs: Mod, At, Span, MadeBody and MadeShape of the reference. -/
import Derived.Test.YtcadbcmldlammaaW1
import Derived.Test.YtcadbcmldlammaaSl
namespace Go.Proofs.Ytcadbcmldlammaa
open Go.RowKit Go.Pb Go.Pb.Ware
set_option linter.unusedVariables false
set_option linter.unusedSimpArgs false

theorem mod_any {n m : Int} {w : World} (h1 : 1 ≤ m) (h2 : m ≤ 140737488355328) :
    Calls Try.prog 71 #[.int .i64 n, .int .i64 m] w fun e w' => e = .returned (.int .i64 (n % m)) ∧ w = w' := by
  obtain ⟨e1, e2, e3⟩ := mod_eq n m (by omega)
  have E : Hid ((n.tmod m + m) % m = n % m) := hid (by rw [← Int.tmod_eq_emod_of_nonneg (by omega)]; exact e1)
  clear e1
  go_enter Try.func71, Try.ntmps71
  go_wp2
  all_goals go_ret
  all_goals exact ⟨ret_int E, rfl⟩

/-- The number of a list with an index modulo its length; 0 if there is none. -/
def atV (zs : List Int) (i : Int) : Int := (zs[(i % (zs.length : Int)).toNat]?).getD 0
theorem atV_nil {i : Int} : atV [] i = 0 := by simp [atV]
theorem atV_i64 {w : World} {v : Value} {zs : List Int} (h : IntsAt w v zs) (i : Int) : I64 (atV zs i) := by
  unfold atV
  cases e : zs[(i % (zs.length : Int)).toNat]? with
  | none => exact I64.mk (by simp) (by simp)
  | some z => exact h.i64 z (List.mem_of_getElem? e)
theorem at_any {v : Value} {zs : List Int} {i : Int} {w : World} (hs : IntsAt w v zs) :
    Calls Try.prog 33 #[v, .int .i64 i] w fun e w' => e = .returned (.int .i64 (atV zs i)) ∧ w = w' := by
  rcases hs with ⟨rfl, rfl⟩ | ⟨a, cap, rfl, h2, h3, h4⟩
  · rw [atV_nil]
    go_enter Try.func33, Try.ntmps33
    go_wp2
    go_ret
    exact ⟨rfl, rfl⟩
  · by_cases hz : zs.length = 0
    · have hz2 : zs = [] := List.length_eq_zero_iff.1 hz
      subst hz2
      clear h4
      rw [atV_nil]
      go_enter Try.func33, Try.ntmps33
      go_wp2
      go_ret
      exact ⟨rfl, rfl⟩
    · have hl : 1 ≤ zs.length := by omega
      have m0 : 0 ≤ i % (zs.length : Int) := Int.emod_nonneg _ (by omega)
      have m1 : i % (zs.length : Int) < (zs.length : Int) := Int.emod_lt_of_pos _ (by omega)
      obtain ⟨k, hk⟩ := Int.eq_ofNat_of_zero_le m0
      have hkl : k < zs.length := by omega
      have hkc : (k : Int) < (zs.length : Int) := by omega
      obtain ⟨c1, c2⟩ := h4 k zs[k] (List.getElem?_eq_getElem hkl)
      have hv : atV zs i = zs[k] := by unfold atV; rw [hk]; simp [List.getElem?_eq_getElem hkl]
      rw [hv]
      clear hv
      have t1 : (((zs.length : Nat) : Int) == 0) = false := by rw [beq_eq_false_iff_ne]; omega
      have HK := hid hk
      clear h4 m0 m1 hk hz c2
      have hml : (zs.length : Int) ≤ 140737488355328 := by omega
      generalize zs[k] = z at *
      generalize hn : zs.length = n at *
      clear hn
      go_enter Try.func33, Try.ntmps33
      go_wp2_with (go_at_call 71; refine (mod_any (by omega) (by omega)).mono ?_; rintro e w1 ⟨rfl, rfl⟩; rw [HK])
      go_ret
      exact ⟨rfl, rfl⟩

def spanLo (a l0 l2 : Int) : Int := l0 + a % (l2 - l0 + 1)
def spanHi (a b l0 l1 l2 : Int) : Int := min (l0 + a % (l2 - l0 + 1) + b % (l1 + 1)) l2
theorem span_bd {a b l0 l1 l2 : Int} (h0 : 0 ≤ l0) (h1 : 0 ≤ l1) (h2 : l0 ≤ l2) : l0 ≤ spanLo a l0 l2 ∧ spanLo a l0 l2 ≤ spanHi a b l0 l1 l2 ∧ spanHi a b l0 l1 l2 ≤ l2 := by
  have := Int.emod_nonneg a (b := l2 - l0 + 1) (by omega)
  have := Int.emod_lt_of_pos a (b := l2 - l0 + 1) (by omega)
  have := Int.emod_nonneg b (b := l1 + 1) (by omega)
  unfold spanLo spanHi; omega

set_option maxHeartbeats 1000000 in
theorem span_any {a b l0 l1 l2 : Int} {w : World} (h0 : 0 ≤ l0) (h1 : 0 ≤ l1) (h2 : l0 ≤ l2) (h3 : l1 ≤ 1000000) (h4 : l2 ≤ 1000000) :
    Calls Try.prog 32 #[.int .i64 a, .int .i64 b, .agg #[.int .i64 l0, .int .i64 l1, .int .i64 l2]] w (Ret w (.agg #[.int .i64 (spanLo a l0 l2), .int .i64 (spanHi a b l0 l1 l2)])) := by
  have m0 := Int.emod_nonneg a (b := l2 - l0 + 1) (by omega)
  have m1 := Int.emod_lt_of_pos a (b := l2 - l0 + 1) (by omega)
  have m2 := Int.emod_nonneg b (b := l1 + 1) (by omega)
  have m3 := Int.emod_lt_of_pos b (b := l1 + 1) (by omega)
  unfold spanLo spanHi Ret
  rcases Int.lt_or_le l2 (l0 + a % (l2 - l0 + 1) + b % (l1 + 1)) with hm | hm
  · rw [show min (l0 + a % (l2 - l0 + 1) + b % (l1 + 1)) l2 = l2 by omega]
    go_enter Try.func32, Try.ntmps32
    go_upto_region 1 with (fail)
    refine wp_region_qb (by kernel_rfl) (by kernel_rfl) fun hc => ?_
    repeat (go_big_quiet_step ((go_at_call 71; exact BW.call _ (Ret.of_same (mod_any (by omega) (by omega))))))
    (refine wpQuiet_nil ?_; intro w1 hb; replace hb0 := bnext (w := w) (by go_grown) hb; have hz := hb.size; (try simp only [World.size_alloc, World.size_setCell] at hz); replace q0 : w1.cell? ⟨w.heap.size, 0, none⟩ = some (.int .i64 l0) := bkeep hb (by first | (with_reducible exact q0) | (with_reducible exact akeep q0) | simp [*, go_sem]); replace q1 : w1.cell? ⟨w.heap.size, 1, none⟩ = some (.int .i64 l1) := bkeep hb (by first | (with_reducible exact q1) | (with_reducible exact akeep q1) | simp [*, go_sem]); replace q2 : w1.cell? ⟨w.heap.size, 2, none⟩ = some (.int .i64 l2) := bkeep hb (by first | (with_reducible exact q2) | (with_reducible exact akeep q2) | simp [*, go_sem]); replace f3 : w1.frozen? ⟨w.heap.size + 1, 0, none⟩ = false := bfree (v := .int .i64 0) hb (by first | (with_reducible exact q3) | (with_reducible exact akeep q3) | simp [*, go_sem]) (by first | (with_reducible exact f3) | (with_reducible exact afree q3 f3) | simp [*, go_sem]); replace q3 : w1.cell? ⟨w.heap.size + 1, 0, none⟩ = some (.int .i64 0) := bkeep hb (by first | (with_reducible exact q3) | (with_reducible exact akeep q3) | simp [*, go_sem]); replace f4 : w1.frozen? ⟨w.heap.size + 1, 1, none⟩ = false := bfree (v := .int .i64 0) hb (by first | (with_reducible exact q4) | (with_reducible exact akeep q4) | simp [*, go_sem]) (by first | (with_reducible exact f4) | (with_reducible exact afree q4 f4) | simp [*, go_sem]); replace q4 : w1.cell? ⟨w.heap.size + 1, 1, none⟩ = some (.int .i64 0) := bkeep hb (by first | (with_reducible exact q4) | (with_reducible exact akeep q4) | simp [*, go_sem]); clear hb)
    go_upto_region 2 with (fail)
    refine wp_region_gb [0, 1, 2, 3, 4, 5, 6, 7, 8, 9, 10, 11] 1 (by kernel_rfl) rfl (by kernel_rfl) fun hc => ?_
    simp only [named, List.filterMap_cons, List.filterMap_nil, List.getElem?_toArray, List.getElem?_cons_succ, List.getElem?_cons_zero]
    show wpQuiet _ _ _ _ [_, _, _, _, _, _, _, _, _, _, _, _] _
    have x0 := fun x => (hc x (w.heap.size) 0 (by simp (maxDischargeDepth := 9) [*, go_sem])).trans (show _ = some (.int .i64 l0) by simp (maxDischargeDepth := 9) [*, go_sem])
    have x1 := fun x => (hc x (w.heap.size) 1 (by simp (maxDischargeDepth := 9) [*, go_sem])).trans (show _ = some (.int .i64 l1) by simp (maxDischargeDepth := 9) [*, go_sem])
    have x2 := fun x => (hc x (w.heap.size) 2 (by simp (maxDischargeDepth := 9) [*, go_sem])).trans (show _ = some (.int .i64 l2) by simp (maxDischargeDepth := 9) [*, go_sem])
    have x3 := fun x => (hc x (w.heap.size + 1) 0 (by simp (maxDischargeDepth := 9) [*, go_sem])).trans (show _ = some (.int .i64 0) by simp (maxDischargeDepth := 9) [*, go_sem])
    have x4 := fun x => (hc x (w.heap.size + 1) 1 (by simp (maxDischargeDepth := 9) [*, go_sem])).trans (show _ = some (.int .i64 0) by simp (maxDischargeDepth := 9) [*, go_sem])
    repeat (go_big_quiet_step ((go_at_call 71; exact BW.call _ (Ret.of_same (mod_any (by omega) (by omega))))))
    (refine wpQuiet_nil ?_; intro w1 hb; replace hb0 := bnext (w := w) (by go_grown) hb; have hz := hb.size; (try simp only [World.size_alloc, World.size_setCell] at hz); replace q0 : w1.cell? ⟨w.heap.size, 0, none⟩ = some (.int .i64 l0) := bkeep hb (by first | (with_reducible exact q0) | (with_reducible exact akeep q0) | simp [*, go_sem]); replace q1 : w1.cell? ⟨w.heap.size, 1, none⟩ = some (.int .i64 l1) := bkeep hb (by first | (with_reducible exact q1) | (with_reducible exact akeep q1) | simp [*, go_sem]); replace q2 : w1.cell? ⟨w.heap.size, 2, none⟩ = some (.int .i64 l2) := bkeep hb (by first | (with_reducible exact q2) | (with_reducible exact akeep q2) | simp [*, go_sem]); replace f3 : w1.frozen? ⟨w.heap.size + 1, 0, none⟩ = false := bfree (v := .int .i64 0) hb (by first | (with_reducible exact q3) | (with_reducible exact akeep q3) | simp [*, go_sem]) (by first | (with_reducible exact f3) | (with_reducible exact afree q3 f3) | simp [*, go_sem]); replace q3 : w1.cell? ⟨w.heap.size + 1, 0, none⟩ = some (.int .i64 0) := bkeep hb (by first | (with_reducible exact q3) | (with_reducible exact akeep q3) | simp [*, go_sem]); replace f4 : w1.frozen? ⟨w.heap.size + 1, 1, none⟩ = false := bfree (v := .int .i64 0) hb (by first | (with_reducible exact q4) | (with_reducible exact akeep q4) | simp [*, go_sem]) (by first | (with_reducible exact f4) | (with_reducible exact afree q4 f4) | simp [*, go_sem]); replace q4 : w1.cell? ⟨w.heap.size + 1, 1, none⟩ = some (.int .i64 0) := bkeep hb (by first | (with_reducible exact q4) | (with_reducible exact akeep q4) | simp [*, go_sem]); clear hb)
    refine wpAny_ready (rs := [12]) (by kernel_rfl) (by simp) ?_
    refine AllReady.cons rfl (fun K hK => ?_) AllReady.nil
    go_simp
    refine hK _ _ ?_; clear hK K
    refine wpAny_done (by kernel_rfl) ?_ _
    go_wp2
    exact bodyPost_ret (v := .agg #[.int .i64 (l0 + a % (l2 - l0 + 1)), .int .i64 l2]) (by simp [*, results, Try.results32, go_sem]) rfl ⟨by first | rfl | simp [*], by go_grown⟩
  · rw [show min (l0 + a % (l2 - l0 + 1) + b % (l1 + 1)) l2 = l0 + a % (l2 - l0 + 1) + b % (l1 + 1) by omega]
    go_enter Try.func32, Try.ntmps32
    go_upto_region 1 with (fail)
    refine wp_region_qb (by kernel_rfl) (by kernel_rfl) fun hc => ?_
    repeat (go_big_quiet_step ((go_at_call 71; exact BW.call _ (Ret.of_same (mod_any (by omega) (by omega))))))
    (refine wpQuiet_nil ?_; intro w1 hb; replace hb0 := bnext (w := w) (by go_grown) hb; have hz := hb.size; (try simp only [World.size_alloc, World.size_setCell] at hz); replace q0 : w1.cell? ⟨w.heap.size, 0, none⟩ = some (.int .i64 l0) := bkeep hb (by first | (with_reducible exact q0) | (with_reducible exact akeep q0) | simp [*, go_sem]); replace q1 : w1.cell? ⟨w.heap.size, 1, none⟩ = some (.int .i64 l1) := bkeep hb (by first | (with_reducible exact q1) | (with_reducible exact akeep q1) | simp [*, go_sem]); replace q2 : w1.cell? ⟨w.heap.size, 2, none⟩ = some (.int .i64 l2) := bkeep hb (by first | (with_reducible exact q2) | (with_reducible exact akeep q2) | simp [*, go_sem]); replace f3 : w1.frozen? ⟨w.heap.size + 1, 0, none⟩ = false := bfree (v := .int .i64 0) hb (by first | (with_reducible exact q3) | (with_reducible exact akeep q3) | simp [*, go_sem]) (by first | (with_reducible exact f3) | (with_reducible exact afree q3 f3) | simp [*, go_sem]); replace q3 : w1.cell? ⟨w.heap.size + 1, 0, none⟩ = some (.int .i64 0) := bkeep hb (by first | (with_reducible exact q3) | (with_reducible exact akeep q3) | simp [*, go_sem]); replace f4 : w1.frozen? ⟨w.heap.size + 1, 1, none⟩ = false := bfree (v := .int .i64 0) hb (by first | (with_reducible exact q4) | (with_reducible exact akeep q4) | simp [*, go_sem]) (by first | (with_reducible exact f4) | (with_reducible exact afree q4 f4) | simp [*, go_sem]); replace q4 : w1.cell? ⟨w.heap.size + 1, 1, none⟩ = some (.int .i64 0) := bkeep hb (by first | (with_reducible exact q4) | (with_reducible exact akeep q4) | simp [*, go_sem]); clear hb)
    go_upto_region 2 with (fail)
    refine wp_region_gb [0, 1, 2, 3, 4, 5, 6, 7, 8, 9, 10, 11] 1 (by kernel_rfl) rfl (by kernel_rfl) fun hc => ?_
    simp only [named, List.filterMap_cons, List.filterMap_nil, List.getElem?_toArray, List.getElem?_cons_succ, List.getElem?_cons_zero]
    show wpQuiet _ _ _ _ [_, _, _, _, _, _, _, _, _, _, _, _] _
    have x0 := fun x => (hc x (w.heap.size) 0 (by simp (maxDischargeDepth := 9) [*, go_sem])).trans (show _ = some (.int .i64 l0) by simp (maxDischargeDepth := 9) [*, go_sem])
    have x1 := fun x => (hc x (w.heap.size) 1 (by simp (maxDischargeDepth := 9) [*, go_sem])).trans (show _ = some (.int .i64 l1) by simp (maxDischargeDepth := 9) [*, go_sem])
    have x2 := fun x => (hc x (w.heap.size) 2 (by simp (maxDischargeDepth := 9) [*, go_sem])).trans (show _ = some (.int .i64 l2) by simp (maxDischargeDepth := 9) [*, go_sem])
    have x3 := fun x => (hc x (w.heap.size + 1) 0 (by simp (maxDischargeDepth := 9) [*, go_sem])).trans (show _ = some (.int .i64 0) by simp (maxDischargeDepth := 9) [*, go_sem])
    have x4 := fun x => (hc x (w.heap.size + 1) 1 (by simp (maxDischargeDepth := 9) [*, go_sem])).trans (show _ = some (.int .i64 0) by simp (maxDischargeDepth := 9) [*, go_sem])
    repeat (go_big_quiet_step ((go_at_call 71; exact BW.call _ (Ret.of_same (mod_any (by omega) (by omega))))))
    (refine wpQuiet_nil ?_; intro w1 hb; replace hb0 := bnext (w := w) (by go_grown) hb; have hz := hb.size; (try simp only [World.size_alloc, World.size_setCell] at hz); replace q0 : w1.cell? ⟨w.heap.size, 0, none⟩ = some (.int .i64 l0) := bkeep hb (by first | (with_reducible exact q0) | (with_reducible exact akeep q0) | simp [*, go_sem]); replace q1 : w1.cell? ⟨w.heap.size, 1, none⟩ = some (.int .i64 l1) := bkeep hb (by first | (with_reducible exact q1) | (with_reducible exact akeep q1) | simp [*, go_sem]); replace q2 : w1.cell? ⟨w.heap.size, 2, none⟩ = some (.int .i64 l2) := bkeep hb (by first | (with_reducible exact q2) | (with_reducible exact akeep q2) | simp [*, go_sem]); replace f3 : w1.frozen? ⟨w.heap.size + 1, 0, none⟩ = false := bfree (v := .int .i64 0) hb (by first | (with_reducible exact q3) | (with_reducible exact akeep q3) | simp [*, go_sem]) (by first | (with_reducible exact f3) | (with_reducible exact afree q3 f3) | simp [*, go_sem]); replace q3 : w1.cell? ⟨w.heap.size + 1, 0, none⟩ = some (.int .i64 0) := bkeep hb (by first | (with_reducible exact q3) | (with_reducible exact akeep q3) | simp [*, go_sem]); replace f4 : w1.frozen? ⟨w.heap.size + 1, 1, none⟩ = false := bfree (v := .int .i64 0) hb (by first | (with_reducible exact q4) | (with_reducible exact akeep q4) | simp [*, go_sem]) (by first | (with_reducible exact f4) | (with_reducible exact afree q4 f4) | simp [*, go_sem]); replace q4 : w1.cell? ⟨w.heap.size + 1, 1, none⟩ = some (.int .i64 0) := bkeep hb (by first | (with_reducible exact q4) | (with_reducible exact akeep q4) | simp [*, go_sem]); clear hb)
    refine wpAny_ready (rs := [12]) (by kernel_rfl) (by simp) ?_
    refine AllReady.cons rfl (fun K hK => ?_) AllReady.nil
    go_simp
    refine hK _ _ ?_; clear hK K
    refine wpAny_done (by kernel_rfl) ?_ _
    go_wp2
    exact bodyPost_ret (v := .agg #[.int .i64 (l0 + a % (l2 - l0 + 1)), .int .i64 (l0 + a % (l2 - l0 + 1) + b % (l1 + 1))]) (by simp [*, results, Try.results32, go_sem]) rfl ⟨by first | rfl | simp [*], by go_grown⟩

/-- What MadeBody returns: a body, well made. -/
def MadeBo (W : World) (id : Int) (e : Ending) (w' : World) : Prop := ∃ sl sh ll lh hl hh : Int, e = .returned (.agg #[.int .i64 id, .int .i64 sl, .int .i64 sh, .int .i64 ll, .int .i64 lh, .int .i64 hl, .int .i64 hh]) ∧
  (40 ≤ sl ∧ sl ≤ sh ∧ sh ≤ 200) ∧ (10 ≤ ll ∧ ll ≤ lh ∧ lh ≤ 300) ∧ (700 ≤ hl ∧ hl ≤ hh ∧ hh ≤ 1300) ∧ Below W.heap.size W w'
theorem madeBody_any {v : Value} {zs : List Int} {id : Int} {w : World} (hs : IntsAt w v zs) :
    Calls Try.prog 8 #[.int .i64 id, v] w (MadeBo w id) := by
  go_enter Try.func8, Try.ntmps8
  go_wp2_with fail
  refine (at_any (zs := zs) (by first | exact hs | exact hs.below (by go_grown))).mono ?_
  rintro e w1 ⟨rfl, rfl⟩
  go_wp2_with fail
  refine (at_any (zs := zs) (by first | exact hs | exact hs.below (by go_grown))).mono ?_
  rintro e w1 ⟨rfl, rfl⟩
  go_wp2_with fail
  refine (span_any (by omega) (by omega) (by omega) (by omega) (by omega)).mono ?_
  rintro e w1 ⟨rfl, hb⟩
  have hs1 := (show IntsAt _ v zs by first | exact hs | exact hs.below (by go_grown)).below hb
  replace hs := hs1; clear hs1
  replace hb0 := bnext (w := w) (by go_grown) hb; have hz := hb.size; (try simp only [World.size_alloc, World.size_setCell] at hz); replace f0 : w1.frozen? ⟨w.heap.size, 0, none⟩ = false := bfree (v := .int .i64 0) hb (by first | (with_reducible exact q0) | (with_reducible exact akeep q0) | simp [*, go_sem]) (by first | (with_reducible exact f0) | (with_reducible exact afree q0 f0) | simp [*, go_sem]); replace q0 : w1.cell? ⟨w.heap.size, 0, none⟩ = some (.int .i64 0) := bkeep hb (by first | (with_reducible exact q0) | (with_reducible exact akeep q0) | simp [*, go_sem]); replace f1 : w1.frozen? ⟨w.heap.size, 1, none⟩ = false := bfree (v := .int .i64 0) hb (by first | (with_reducible exact q1) | (with_reducible exact akeep q1) | simp [*, go_sem]) (by first | (with_reducible exact f1) | (with_reducible exact afree q1 f1) | simp [*, go_sem]); replace q1 : w1.cell? ⟨w.heap.size, 1, none⟩ = some (.int .i64 0) := bkeep hb (by first | (with_reducible exact q1) | (with_reducible exact akeep q1) | simp [*, go_sem]); replace f2 : w1.frozen? ⟨w.heap.size, 2, none⟩ = false := bfree (v := .int .i64 0) hb (by first | (with_reducible exact q2) | (with_reducible exact akeep q2) | simp [*, go_sem]) (by first | (with_reducible exact f2) | (with_reducible exact afree q2 f2) | simp [*, go_sem]); replace q2 : w1.cell? ⟨w.heap.size, 2, none⟩ = some (.int .i64 0) := bkeep hb (by first | (with_reducible exact q2) | (with_reducible exact akeep q2) | simp [*, go_sem]); replace f3 : w1.frozen? ⟨w.heap.size, 3, none⟩ = false := bfree (v := .int .i64 0) hb (by first | (with_reducible exact q3) | (with_reducible exact akeep q3) | simp [*, go_sem]) (by first | (with_reducible exact f3) | (with_reducible exact afree q3 f3) | simp [*, go_sem]); replace q3 : w1.cell? ⟨w.heap.size, 3, none⟩ = some (.int .i64 0) := bkeep hb (by first | (with_reducible exact q3) | (with_reducible exact akeep q3) | simp [*, go_sem]); replace f4 : w1.frozen? ⟨w.heap.size, 4, none⟩ = false := bfree (v := .int .i64 0) hb (by first | (with_reducible exact q4) | (with_reducible exact akeep q4) | simp [*, go_sem]) (by first | (with_reducible exact f4) | (with_reducible exact afree q4 f4) | simp [*, go_sem]); replace q4 : w1.cell? ⟨w.heap.size, 4, none⟩ = some (.int .i64 0) := bkeep hb (by first | (with_reducible exact q4) | (with_reducible exact akeep q4) | simp [*, go_sem]); replace f5 : w1.frozen? ⟨w.heap.size, 5, none⟩ = false := bfree (v := .int .i64 0) hb (by first | (with_reducible exact q5) | (with_reducible exact akeep q5) | simp [*, go_sem]) (by first | (with_reducible exact f5) | (with_reducible exact afree q5 f5) | simp [*, go_sem]); replace q5 : w1.cell? ⟨w.heap.size, 5, none⟩ = some (.int .i64 0) := bkeep hb (by first | (with_reducible exact q5) | (with_reducible exact akeep q5) | simp [*, go_sem]); replace f6 : w1.frozen? ⟨w.heap.size, 6, none⟩ = false := bfree (v := .int .i64 0) hb (by first | (with_reducible exact q6) | (with_reducible exact akeep q6) | simp [*, go_sem]) (by first | (with_reducible exact f6) | (with_reducible exact afree q6 f6) | simp [*, go_sem]); replace q6 : w1.cell? ⟨w.heap.size, 6, none⟩ = some (.int .i64 0) := bkeep hb (by first | (with_reducible exact q6) | (with_reducible exact akeep q6) | simp [*, go_sem]); clear hb
  go_wp2_with fail
  refine (at_any (zs := zs) (by first | exact hs | exact hs.below (by go_grown))).mono ?_
  rintro e w1 ⟨rfl, rfl⟩
  go_wp2_with fail
  refine (at_any (zs := zs) (by first | exact hs | exact hs.below (by go_grown))).mono ?_
  rintro e w1 ⟨rfl, rfl⟩
  go_wp2_with fail
  refine (span_any (by omega) (by omega) (by omega) (by omega) (by omega)).mono ?_
  rintro e w1 ⟨rfl, hb⟩
  have hs1 := (show IntsAt _ v zs by first | exact hs | exact hs.below (by go_grown)).below hb
  replace hs := hs1; clear hs1
  replace hb0 := bnext (w := w) (by go_grown) hb; have hz := hb.size; (try simp only [World.size_alloc, World.size_setCell] at hz); replace f0 : w1.frozen? ⟨w.heap.size, 0, none⟩ = false := bfree (v := .int .i64 0) hb (by first | (with_reducible exact q0) | (with_reducible exact akeep q0) | simp [*, go_sem]) (by first | (with_reducible exact f0) | (with_reducible exact afree q0 f0) | simp [*, go_sem]); replace q0 : w1.cell? ⟨w.heap.size, 0, none⟩ = some (.int .i64 0) := bkeep hb (by first | (with_reducible exact q0) | (with_reducible exact akeep q0) | simp [*, go_sem]); replace f1 : w1.frozen? ⟨w.heap.size, 1, none⟩ = false := bfree (v := .int .i64 0) hb (by first | (with_reducible exact q1) | (with_reducible exact akeep q1) | simp [*, go_sem]) (by first | (with_reducible exact f1) | (with_reducible exact afree q1 f1) | simp [*, go_sem]); replace q1 : w1.cell? ⟨w.heap.size, 1, none⟩ = some (.int .i64 0) := bkeep hb (by first | (with_reducible exact q1) | (with_reducible exact akeep q1) | simp [*, go_sem]); replace f2 : w1.frozen? ⟨w.heap.size, 2, none⟩ = false := bfree (v := .int .i64 0) hb (by first | (with_reducible exact q2) | (with_reducible exact akeep q2) | simp [*, go_sem]) (by first | (with_reducible exact f2) | (with_reducible exact afree q2 f2) | simp [*, go_sem]); replace q2 : w1.cell? ⟨w.heap.size, 2, none⟩ = some (.int .i64 0) := bkeep hb (by first | (with_reducible exact q2) | (with_reducible exact akeep q2) | simp [*, go_sem]); replace f3 : w1.frozen? ⟨w.heap.size, 3, none⟩ = false := bfree (v := .int .i64 0) hb (by first | (with_reducible exact q3) | (with_reducible exact akeep q3) | simp [*, go_sem]) (by first | (with_reducible exact f3) | (with_reducible exact afree q3 f3) | simp [*, go_sem]); replace q3 : w1.cell? ⟨w.heap.size, 3, none⟩ = some (.int .i64 0) := bkeep hb (by first | (with_reducible exact q3) | (with_reducible exact akeep q3) | simp [*, go_sem]); replace f4 : w1.frozen? ⟨w.heap.size, 4, none⟩ = false := bfree (v := .int .i64 0) hb (by first | (with_reducible exact q4) | (with_reducible exact akeep q4) | simp [*, go_sem]) (by first | (with_reducible exact f4) | (with_reducible exact afree q4 f4) | simp [*, go_sem]); replace q4 : w1.cell? ⟨w.heap.size, 4, none⟩ = some (.int .i64 0) := bkeep hb (by first | (with_reducible exact q4) | (with_reducible exact akeep q4) | simp [*, go_sem]); replace f5 : w1.frozen? ⟨w.heap.size, 5, none⟩ = false := bfree (v := .int .i64 0) hb (by first | (with_reducible exact q5) | (with_reducible exact akeep q5) | simp [*, go_sem]) (by first | (with_reducible exact f5) | (with_reducible exact afree q5 f5) | simp [*, go_sem]); replace q5 : w1.cell? ⟨w.heap.size, 5, none⟩ = some (.int .i64 0) := bkeep hb (by first | (with_reducible exact q5) | (with_reducible exact akeep q5) | simp [*, go_sem]); replace f6 : w1.frozen? ⟨w.heap.size, 6, none⟩ = false := bfree (v := .int .i64 0) hb (by first | (with_reducible exact q6) | (with_reducible exact akeep q6) | simp [*, go_sem]) (by first | (with_reducible exact f6) | (with_reducible exact afree q6 f6) | simp [*, go_sem]); replace q6 : w1.cell? ⟨w.heap.size, 6, none⟩ = some (.int .i64 0) := bkeep hb (by first | (with_reducible exact q6) | (with_reducible exact akeep q6) | simp [*, go_sem]); clear hb
  go_wp2_with fail
  refine (at_any (zs := zs) (by first | exact hs | exact hs.below (by go_grown))).mono ?_
  rintro e w1 ⟨rfl, rfl⟩
  go_wp2_with fail
  refine (at_any (zs := zs) (by first | exact hs | exact hs.below (by go_grown))).mono ?_
  rintro e w1 ⟨rfl, rfl⟩
  go_wp2_with fail
  refine (span_any (by omega) (by omega) (by omega) (by omega) (by omega)).mono ?_
  rintro e w1 ⟨rfl, hb⟩
  have hs1 := (show IntsAt _ v zs by first | exact hs | exact hs.below (by go_grown)).below hb
  replace hs := hs1; clear hs1
  replace hb0 := bnext (w := w) (by go_grown) hb; have hz := hb.size; (try simp only [World.size_alloc, World.size_setCell] at hz); replace f0 : w1.frozen? ⟨w.heap.size, 0, none⟩ = false := bfree (v := .int .i64 0) hb (by first | (with_reducible exact q0) | (with_reducible exact akeep q0) | simp [*, go_sem]) (by first | (with_reducible exact f0) | (with_reducible exact afree q0 f0) | simp [*, go_sem]); replace q0 : w1.cell? ⟨w.heap.size, 0, none⟩ = some (.int .i64 0) := bkeep hb (by first | (with_reducible exact q0) | (with_reducible exact akeep q0) | simp [*, go_sem]); replace f1 : w1.frozen? ⟨w.heap.size, 1, none⟩ = false := bfree (v := .int .i64 0) hb (by first | (with_reducible exact q1) | (with_reducible exact akeep q1) | simp [*, go_sem]) (by first | (with_reducible exact f1) | (with_reducible exact afree q1 f1) | simp [*, go_sem]); replace q1 : w1.cell? ⟨w.heap.size, 1, none⟩ = some (.int .i64 0) := bkeep hb (by first | (with_reducible exact q1) | (with_reducible exact akeep q1) | simp [*, go_sem]); replace f2 : w1.frozen? ⟨w.heap.size, 2, none⟩ = false := bfree (v := .int .i64 0) hb (by first | (with_reducible exact q2) | (with_reducible exact akeep q2) | simp [*, go_sem]) (by first | (with_reducible exact f2) | (with_reducible exact afree q2 f2) | simp [*, go_sem]); replace q2 : w1.cell? ⟨w.heap.size, 2, none⟩ = some (.int .i64 0) := bkeep hb (by first | (with_reducible exact q2) | (with_reducible exact akeep q2) | simp [*, go_sem]); replace f3 : w1.frozen? ⟨w.heap.size, 3, none⟩ = false := bfree (v := .int .i64 0) hb (by first | (with_reducible exact q3) | (with_reducible exact akeep q3) | simp [*, go_sem]) (by first | (with_reducible exact f3) | (with_reducible exact afree q3 f3) | simp [*, go_sem]); replace q3 : w1.cell? ⟨w.heap.size, 3, none⟩ = some (.int .i64 0) := bkeep hb (by first | (with_reducible exact q3) | (with_reducible exact akeep q3) | simp [*, go_sem]); replace f4 : w1.frozen? ⟨w.heap.size, 4, none⟩ = false := bfree (v := .int .i64 0) hb (by first | (with_reducible exact q4) | (with_reducible exact akeep q4) | simp [*, go_sem]) (by first | (with_reducible exact f4) | (with_reducible exact afree q4 f4) | simp [*, go_sem]); replace q4 : w1.cell? ⟨w.heap.size, 4, none⟩ = some (.int .i64 0) := bkeep hb (by first | (with_reducible exact q4) | (with_reducible exact akeep q4) | simp [*, go_sem]); replace f5 : w1.frozen? ⟨w.heap.size, 5, none⟩ = false := bfree (v := .int .i64 0) hb (by first | (with_reducible exact q5) | (with_reducible exact akeep q5) | simp [*, go_sem]) (by first | (with_reducible exact f5) | (with_reducible exact afree q5 f5) | simp [*, go_sem]); replace q5 : w1.cell? ⟨w.heap.size, 5, none⟩ = some (.int .i64 0) := bkeep hb (by first | (with_reducible exact q5) | (with_reducible exact akeep q5) | simp [*, go_sem]); replace f6 : w1.frozen? ⟨w.heap.size, 6, none⟩ = false := bfree (v := .int .i64 0) hb (by first | (with_reducible exact q6) | (with_reducible exact akeep q6) | simp [*, go_sem]) (by first | (with_reducible exact f6) | (with_reducible exact afree q6 f6) | simp [*, go_sem]); replace q6 : w1.cell? ⟨w.heap.size, 6, none⟩ = some (.int .i64 0) := bkeep hb (by first | (with_reducible exact q6) | (with_reducible exact akeep q6) | simp [*, go_sem]); clear hb
  go_wp2
  have := span_bd (a := (atV zs 0)) (b := (atV zs 1)) (l0 := 40) (l1 := 60) (l2 := 200) (by omega) (by omega) (by omega)
  have := span_bd (a := (atV zs 2)) (b := (atV zs 3)) (l0 := 10) (l1 := 40) (l2 := 300) (by omega) (by omega) (by omega)
  have := span_bd (a := (atV zs 4)) (b := (atV zs 5)) (l0 := 700) (l1 := 300) (l2 := 1300) (by omega) (by omega) (by omega)
  exact bodyPost_ret (v := .agg #[.int .i64 id, .int .i64 ((spanLo (atV zs 0) 40 200)), .int .i64 ((spanHi (atV zs 0) (atV zs 1) 40 60 200)), .int .i64 ((spanLo (atV zs 2) 10 300)), .int .i64 ((spanHi (atV zs 2) (atV zs 3) 10 40 300)), .int .i64 ((spanLo (atV zs 4) 700 1300)), .int .i64 ((spanHi (atV zs 4) (atV zs 5) 700 300 1300))]) (by simp [*, results, Try.results8, go_sem]) rfl ⟨_, _, _, _, _, _, rfl, by omega, by omega, by omega, by go_grown⟩

set_option maxHeartbeats 4000000
/-- What MadeShape returns: a shape, well made. -/
def MadeSh (W : World) (id : Int) (e : Ending) (w' : World) : Prop := ∃ wl wh dl dh gl gh ne ml mh be : Int, e = .returned (.agg #[.int .i64 id, .int .i64 wl, .int .i64 wh, .int .i64 dl, .int .i64 dh, .int .i64 gl, .int .i64 gh, .int .i64 ne, .int .i64 ml, .int .i64 mh, .int .i64 be]) ∧
  (20 ≤ wl ∧ wl ≤ wh ∧ wh ≤ 200) ∧ (20 ≤ dl ∧ dl ≤ dh ∧ dh ≤ 200) ∧ (10 ≤ gl ∧ gl ≤ gh ∧ gh ≤ 150) ∧ (0 ≤ ne ∧ ne ≤ gl) ∧ (50 ≤ ml ∧ ml ≤ mh ∧ mh ≤ 900) ∧ (0 ≤ be ∧ be ≤ 5999) ∧ Below W.heap.size W w'
end Go.Proofs.Ytcadbcmldlammaa
