/- Contracts of layer 1's firing: Shrunk, Burnt, Mould and Fired, of the program and of the reference; below the blocks that were there nothing turns. -/
import Derived.Test.YtcadbcmldlammaaW1
import Derived.Deep.RegionHeld3
namespace Go.Proofs.Ytcadbcmldlammaa
open Go.RowKit Go.Pb Go.Pb.Ware
set_option linter.unusedVariables false
set_option linter.unusedSimpArgs false

theorem roundedUp {n d : Int} {w : World} (h0 : 0 ≤ n) (h1 : n ≤ 1000000000) (h2 : 1 ≤ d) (h3 : d ≤ 100000) :
    Calls Try.prog 78 #[.int .i64 n, .int .i64 d] w (Ret w (.int .i64 (up n d))) := by
  unfold Ret
  have hu := hid (up_eq n d (by omega))
  go_enter Try.func78, Try.ntmps78
  go_wp2
  all_goals (go_ret; exact ⟨ret_int (by first | exact hu.out | (rw [← hu.out]; rfl)), by go_grown⟩)

theorem turned {a b c d : Int} {w : World} (h0 : 0 ≤ a) (h1 : a ≤ 100000) (h2 : 0 ≤ b) (h3 : b ≤ 100000) (h4 : 0 ≤ c) (h5 : c ≤ 1000) (h6 : 0 ≤ d) (h7 : d ≤ 1000) (p q : Nat) (hp : w.cell? ⟨p, 0, none⟩ = some (.int .i64 (1000 - d))) (hq : w.cell? ⟨q, 0, none⟩ = some (.int .i64 (1000 - c))) :
    Calls Try.prog 119 #[.agg #[.int .i64 a, .int .i64 b], .pointer (some ⟨p, 0, none⟩), .pointer (some ⟨q, 0, none⟩)] w (Ret w (.agg #[.int .i64 (becomes ⟨a, b⟩ ⟨c, d⟩).lo, .int .i64 (becomes ⟨a, b⟩ ⟨c, d⟩).hi])) := by
  unfold Ret
  obtain ⟨m0, m1⟩ := mul_bd a (1000 - d) 100000 1000 h0 h1 (by omega) (by omega)
  obtain ⟨m2, m3⟩ := mul_bd b (1000 - c) 100000 1000 h2 h3 (by omega) (by omega)
  go_enter Try.func119, Try.ntmps119
  go_upto_region 1 with (fail)
  refine wp_region_gb [0, 1, 2, 3, 4, 5, 6, 7, 8, 9, 10] 1 (by kernel_rfl) rfl (by kernel_rfl) fun hc => ?_
  simp only [named, List.filterMap_cons, List.filterMap_nil, List.getElem?_toArray, List.getElem?_cons_succ, List.getElem?_cons_zero]
  show wpQuiet _ _ _ _ [_, _, _, _, _, _, _, _, _, _, _] _
  have x0 := fun x => (hc x (p) 0 (by simp (maxDischargeDepth := 9) [*, go_sem])).trans (show _ = some (.int .i64 (1000 - d)) by simp (maxDischargeDepth := 9) [*, go_sem])
  have x1 := fun x => (hc x (q) 0 (by simp (maxDischargeDepth := 9) [*, go_sem])).trans (show _ = some (.int .i64 (1000 - c)) by simp (maxDischargeDepth := 9) [*, go_sem])
  repeat (go_big_quiet_step ((go_at_call 78; exact BW.call _ (roundedUp (by omega) (by omega) (by omega) (by omega)))))
  (refine wpQuiet_nil ?_; intro w1 hb; replace hb0 := bnext (w := w) (by go_grown) hb; have hz := hb.size; (try simp only [World.size_alloc, World.size_setCell] at hz); replace f0 : w1.frozen? ⟨w.heap.size + 1, 0, none⟩ = false := bfree (v := .int .i64 0) hb (by first | (with_reducible exact q0) | (with_reducible exact akeep q0) | simp [*, go_sem]) (by first | (with_reducible exact f0) | (with_reducible exact afree q0 f0) | simp [*, go_sem]); replace q0 : w1.cell? ⟨w.heap.size + 1, 0, none⟩ = some (.int .i64 0) := bkeep hb (by first | (with_reducible exact q0) | (with_reducible exact akeep q0) | simp [*, go_sem]); replace f1 : w1.frozen? ⟨w.heap.size + 1, 1, none⟩ = false := bfree (v := .int .i64 0) hb (by first | (with_reducible exact q1) | (with_reducible exact akeep q1) | simp [*, go_sem]) (by first | (with_reducible exact f1) | (with_reducible exact afree q1 f1) | simp [*, go_sem]); replace q1 : w1.cell? ⟨w.heap.size + 1, 1, none⟩ = some (.int .i64 0) := bkeep hb (by first | (with_reducible exact q1) | (with_reducible exact akeep q1) | simp [*, go_sem]); clear hb)
  refine wpAny_ready (rs := [11]) (by kernel_rfl) (by simp) ?_
  refine AllReady.cons rfl (fun K hK => ?_) AllReady.nil
  go_simp
  refine hK _ _ ?_; clear hK K
  refine wpAny_done (by kernel_rfl) ?_ _
  go_wp2
  exact bodyPost_ret (v := .agg #[.int .i64 (becomes ⟨a, b⟩ ⟨c, d⟩).lo, .int .i64 (becomes ⟨a, b⟩ ⟨c, d⟩).hi]) (by simp [*, becomes, results, Try.results119, go_sem]) rfl ⟨by first | rfl | simp [*], by go_grown⟩

/-- The closure that turner hands back, and what its two variables hold. -/
def Turner (f : FuncId) (c d : Int) (W : World) (e : Ending) (w' : World) : Prop :=
  ∃ p q : Nat, W.heap.size ≤ p ∧ W.heap.size ≤ q ∧ e = .returned (.func (.func f) #[] #[.pointer (some ⟨p, 0, none⟩), .pointer (some ⟨q, 0, none⟩)]) ∧ w'.cell? ⟨p, 0, none⟩ = some (.int .i64 (1000 - d)) ∧ w'.cell? ⟨q, 0, none⟩ = some (.int .i64 (1000 - c)) ∧ Below W.heap.size W w'

theorem turner {c d : Int} {w : World} (h4 : 0 ≤ c) (h5 : c ≤ 1000) (h6 : 0 ≤ d) (h7 : d ≤ 1000) :
    Calls Try.prog 76 #[.agg #[.int .i64 c, .int .i64 d]] w (Turner 119 c d w) := by
  unfold Turner
  have hmf : ∀ (fn : Fn) (first cap : Array Value) (w : World), (Instr.makeFunc fn first cap).run Try.prog w = .ok (.func fn first cap) w := fun _ _ _ _ => rfl
  go_enter Try.func76, Try.ntmps76
  go_wp2
  go_region
  all_goals go_wp2
  all_goals go_ret
  all_goals exact ⟨_, _, by omega, by omega, rfl, by simp [go_sem], by simp [go_sem], by go_grown⟩

end Go.Proofs.Ytcadbcmldlammaa
