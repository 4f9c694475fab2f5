/- Whether lists are parts of things. -/
import Derived.Test.YtnchhleokdkejaaKB22Z
import Derived.Test.YtnchhleokdkejaaKScZ
import Derived.Test.YtnchhleokdkejaaKLibDZ
import Derived.Test.YtnchhleokdkejaaKLibZ
import Derived.Test.YtnchhleokdkejaaKB10Z
import Derived.Deep.LoopGhost
import Derived.OwnWalk
import Derived.Test.YtnchhleokdkejaaKBeZ
import Derived.Laws.AppendOwn
import Derived.Deep.DeepMust
import Derived.Test.YtnchhleokdkejaaKSuZ
namespace Go.Proofs.Ytnchhleokdkejaa
open Go.RowKit Go.Pb Go.Pb.Ware Go.Pb.Sag
set_option linter.unusedVariables false
set_option linter.unusedSimpArgs false

theorem nodup_snoc {l : List Int} {z : Int} (h : l.Nodup) (hz : z ∉ l) : (l ++ [z]).Nodup := by
  rw [List.nodup_append]
  exact ⟨h, by simp, fun a ha b hb e => by simp at hb; subst hb; exact hz (e ▸ ha)⟩
/-- Which numbers below n have been seen. -/
def SeenAt (B n : Nat) (seen : List Int) (W : World) : Prop := ∀ i : Nat, i < n → W.cell? ⟨B, i, none⟩ = some (.bool (seen.contains (i : Int))) ∧ W.frozen? ⟨B, i, none⟩ = false
theorem SeenAt.below {B n : Nat} {seen : List Int} {W W' : World} (h : SeenAt B n seen W) (hb : Below W.heap.size W W') : SeenAt B n seen W' := fun i hi => ⟨bkeep hb (h i hi).1, bfree hb (h i hi).1 (h i hi).2⟩
theorem SeenAt.set {B n m : Nat} {seen : List Int} {W : World} (h : SeenAt B n seen W) (hm : m < n) : SeenAt B n (seen ++ [(m : Int)]) (W.setCell ⟨B, m, none⟩ (.bool true)) := by
  intro i hi
  obtain ⟨h1, h2⟩ := h i hi
  refine ⟨?_, set_free h1 h2⟩
  by_cases e : i = m
  · subst e
    rw [setc_same h1]; simp
  · rw [setc_other h1 e]
    have : ¬ (i : Int) = (m : Int) := by omega
    simp [this]
end Go.Proofs.Ytnchhleokdkejaa

/- The bung of an order, at any arguments; whether bungs are the same. -/
namespace Go.Proofs.Ytnchhleokdkejaa
open Go.RowKit Go.Pb Go.Pb.Ware Go.Pb.Sag
set_option linter.unusedVariables false
set_option linter.unusedSimpArgs false

open Go.Pb.Bung
/-- A bung, or none, and an error. -/
def BgRes (r : ((Int × Int) × List Sg) × Int) (W : World) (e : Ending) (w' : World) : Prop := ∃ u, e = .returned (.tuple #[.agg #[.int .i64 r.1.1.1, .int .i64 r.1.1.2, u], .int .i64 r.2]) ∧ Below W.heap.size W w' ∧ RowsAt 8 w' u (r.1.2.map rowG)
def setA (lo hi : Int) (l : List Sg) (zs : List Int) : ((Int × Int) × List Sg) × Int := if wadOk lo hi = true then (if listOk l = true then (if zs ≠ [] ∧ idxOk zs l.length = true then (((lo, hi), chosenG l zs), 0) else (((0, 0), []), 1)) else (((0, 0), []), 30)) else (((0, 0), []), 32)
theorem rows8_nil (W : World) : RowsAt 8 W (.slice none 0 0) (([] : List Sg).map rowG) := .inl ⟨rfl, rfl⟩
theorem idxUp_nd {zs : List Int} {n : Nat} : ∀ {k : Nat}, idxUp zs n k = true → (zs.take k).Nodup
  | 0, _ => by simp
  | k + 1, h => by
    rw [idxUp, Bool.and_eq_true] at h
    have ih := idxUp_nd h.1
    rw [List.take_add_one]
    cases hz : zs[k]? with
    | none => simpa using ih
    | some z =>
      have h2 := h.2
      rw [hz] at h2
      dsimp only at h2
      rw [Bool.and_eq_true] at h2
      refine nodup_snoc ih ?_
      simpa using h2.2
theorem idxOk_nd {zs : List Int} {n : Nat} (h : idxOk zs n = true) : zs.Nodup := by
  have := idxUp_nd (k := zs.length) h
  rwa [List.take_length] at this

set_option maxRecDepth 100000 in
set_option maxHeartbeats 1000000 in
theorem setP {w : World} {v u : Value} {l : List Sg} {zs : List Int} {lo hi : Int} {r : _} (h : RowsAt 8 w v (l.map rowG)) (hz : NumsAt w u zs) (hr : setA lo hi l zs = r) :
    Calls Try.prog 50 #[.agg #[.int .i64 lo, .int .i64 hi], v, u] w (BgRes r w) := by
  unfold BgRes
  obtain ⟨a, cap, rfl, hll⟩ := h.shape
  rw [List.length_map] at hll ⊢
  simp only [List.length_map] at h
  obtain ⟨b, cb, rfl, hb1, hb2⟩ := hz.shape
  have HH : Hid (RowsAt 8 w (.slice a l.length cap) (l.map rowG)) := hid h; have HZZ : Hid (NumsAt w (.slice b zs.length cb) zs) := hid hz
  obtain ⟨n, hn⟩ : ∃ n, l.length = n := ⟨_, rfl⟩
  obtain ⟨m, hm⟩ : ∃ m, zs.length = m := ⟨_, rfl⟩
  have HN : Hid (l.length = n) := hn; have HM : Hid (zs.length = m) := hm
  obtain ⟨b1, h1⟩ : ∃ b, wadOk lo hi = b := ⟨_, rfl⟩
  obtain ⟨b2, h2⟩ : ∃ b, listOk l = b := ⟨_, rfl⟩
  obtain ⟨b3, h3⟩ : ∃ b, idxOk zs l.length = b := ⟨_, rfl⟩
  unfold setA at hr
  rw [h1, h2, h3] at hr
  have hw := wad_of h1; have hcl := ckLs_of h2
  cases b1
  · rw [if_neg (by simp)] at hr
    subst hr
    have HW : Hid (ckWd lo hi = 32) := hid (hw.trans (if_neg (by simp)))
    clear hw hcl h1 h2 h3
    rw [hn] at h hll ⊢
    rw [hm] at hz ⊢
    (try rw [hm] at hb1)
    (try rw [hm] at hb2)
    have hun := hz
    clear hn hm
    go_enter Try.func50, Try.ntmps50
    go_wp2_with fail
    refine (ckWd_any HW.out).mono ?_
    rintro e w1 ⟨rfl, hb⟩
    replace hb0 := bnext (w := w) (by go_grown) hb; have hz := hb.size; (try simp only [World.size_alloc, World.size_setCell] at hz); replace q0 : w1.cell? ⟨w.heap.size, 0, none⟩ = some (.int .i64 lo) := bkeep hb (by first | (with_reducible exact q0) | (with_reducible exact akeep q0) | simp [*, go_sem]); replace q1 : w1.cell? ⟨w.heap.size, 1, none⟩ = some (.int .i64 hi) := bkeep hb (by first | (with_reducible exact q1) | (with_reducible exact akeep q1) | simp [*, go_sem]); replace f2 : w1.frozen? ⟨w.heap.size + 1, 0, none⟩ = false := bfree (v := .int .i64 0) hb (by first | (with_reducible exact q2) | (with_reducible exact akeep q2) | simp [*, go_sem]) (by first | (with_reducible exact f2) | (with_reducible exact afree q2 f2) | simp [*, go_sem]); replace q2 : w1.cell? ⟨w.heap.size + 1, 0, none⟩ = some (.int .i64 0) := bkeep hb (by first | (with_reducible exact q2) | (with_reducible exact akeep q2) | simp [*, go_sem]); replace f3 : w1.frozen? ⟨w.heap.size + 1, 1, none⟩ = false := bfree (v := .int .i64 0) hb (by first | (with_reducible exact q3) | (with_reducible exact akeep q3) | simp [*, go_sem]) (by first | (with_reducible exact f3) | (with_reducible exact afree q3 f3) | simp [*, go_sem]); replace q3 : w1.cell? ⟨w.heap.size + 1, 1, none⟩ = some (.int .i64 0) := bkeep hb (by first | (with_reducible exact q3) | (with_reducible exact akeep q3) | simp [*, go_sem]); replace f4 : w1.frozen? ⟨w.heap.size + 1, 2, none⟩ = false := bfree (v := .slice none 0 0) hb (by first | (with_reducible exact q4) | (with_reducible exact akeep q4) | simp [*, go_sem]) (by first | (with_reducible exact f4) | (with_reducible exact afree q4 f4) | simp [*, go_sem]); replace q4 : w1.cell? ⟨w.heap.size + 1, 2, none⟩ = some (.slice none 0 0) := bkeep hb (by first | (with_reducible exact q4) | (with_reducible exact akeep q4) | simp [*, go_sem]); skip
    clear hb
    go_wp2_with fail
    exact bodyPost_ret (v := .tuple #[.agg #[.int .i64 0, .int .i64 0, .slice none 0 0], .int .i64 32]) (by simp [results, Try.results50, go_sem, *]) rfl ⟨_, rfl, by go_grown, rows8_nil _⟩
  · rw [if_pos rfl] at hr
    have HW : Hid (ckWd lo hi = 0) := hid (hw.trans (if_pos rfl))
    cases b2
    · rw [if_neg (by simp)] at hr
      subst hr
      have HL : Hid (ckLs l = 30) := hid (hcl.trans (if_neg (by simp)))
      clear hw hcl h1 h2 h3
      rw [hn] at h hll ⊢
      rw [hm] at hz ⊢
      (try rw [hm] at hb1)
      (try rw [hm] at hb2)
      have hun := hz
      clear hn hm
      go_enter Try.func50, Try.ntmps50
      go_wp2_with fail
      refine (ckWd_any HW.out).mono ?_
      rintro e w1 ⟨rfl, hb⟩
      replace hb0 := bnext (w := w) (by go_grown) hb; have hz := hb.size; (try simp only [World.size_alloc, World.size_setCell] at hz); replace q0 : w1.cell? ⟨w.heap.size, 0, none⟩ = some (.int .i64 lo) := bkeep hb (by first | (with_reducible exact q0) | (with_reducible exact akeep q0) | simp [*, go_sem]); replace q1 : w1.cell? ⟨w.heap.size, 1, none⟩ = some (.int .i64 hi) := bkeep hb (by first | (with_reducible exact q1) | (with_reducible exact akeep q1) | simp [*, go_sem]); replace f2 : w1.frozen? ⟨w.heap.size + 1, 0, none⟩ = false := bfree (v := .int .i64 0) hb (by first | (with_reducible exact q2) | (with_reducible exact akeep q2) | simp [*, go_sem]) (by first | (with_reducible exact f2) | (with_reducible exact afree q2 f2) | simp [*, go_sem]); replace q2 : w1.cell? ⟨w.heap.size + 1, 0, none⟩ = some (.int .i64 0) := bkeep hb (by first | (with_reducible exact q2) | (with_reducible exact akeep q2) | simp [*, go_sem]); replace f3 : w1.frozen? ⟨w.heap.size + 1, 1, none⟩ = false := bfree (v := .int .i64 0) hb (by first | (with_reducible exact q3) | (with_reducible exact akeep q3) | simp [*, go_sem]) (by first | (with_reducible exact f3) | (with_reducible exact afree q3 f3) | simp [*, go_sem]); replace q3 : w1.cell? ⟨w.heap.size + 1, 1, none⟩ = some (.int .i64 0) := bkeep hb (by first | (with_reducible exact q3) | (with_reducible exact akeep q3) | simp [*, go_sem]); replace f4 : w1.frozen? ⟨w.heap.size + 1, 2, none⟩ = false := bfree (v := .slice none 0 0) hb (by first | (with_reducible exact q4) | (with_reducible exact akeep q4) | simp [*, go_sem]) (by first | (with_reducible exact f4) | (with_reducible exact afree q4 f4) | simp [*, go_sem]); replace q4 : w1.cell? ⟨w.heap.size + 1, 2, none⟩ = some (.slice none 0 0) := bkeep hb (by first | (with_reducible exact q4) | (with_reducible exact akeep q4) | simp [*, go_sem]); skip
      clear hb
      go_wp2_with fail
      refine (ckLs_any (h.below (by go_grown)) HL.out).mono ?_
      rintro e w1 ⟨rfl, hb⟩
      replace hb0 := bnext (w := w) (by go_grown) hb; have hz := hb.size; (try simp only [World.size_alloc, World.size_setCell] at hz); replace q0 : w1.cell? ⟨w.heap.size, 0, none⟩ = some (.int .i64 lo) := bkeep hb (by first | (with_reducible exact q0) | (with_reducible exact akeep q0) | simp [*, go_sem]); replace q1 : w1.cell? ⟨w.heap.size, 1, none⟩ = some (.int .i64 hi) := bkeep hb (by first | (with_reducible exact q1) | (with_reducible exact akeep q1) | simp [*, go_sem]); replace f2 : w1.frozen? ⟨w.heap.size + 1, 0, none⟩ = false := bfree (v := .int .i64 0) hb (by first | (with_reducible exact q2) | (with_reducible exact akeep q2) | simp [*, go_sem]) (by first | (with_reducible exact f2) | (with_reducible exact afree q2 f2) | simp [*, go_sem]); replace q2 : w1.cell? ⟨w.heap.size + 1, 0, none⟩ = some (.int .i64 0) := bkeep hb (by first | (with_reducible exact q2) | (with_reducible exact akeep q2) | simp [*, go_sem]); replace f3 : w1.frozen? ⟨w.heap.size + 1, 1, none⟩ = false := bfree (v := .int .i64 0) hb (by first | (with_reducible exact q3) | (with_reducible exact akeep q3) | simp [*, go_sem]) (by first | (with_reducible exact f3) | (with_reducible exact afree q3 f3) | simp [*, go_sem]); replace q3 : w1.cell? ⟨w.heap.size + 1, 1, none⟩ = some (.int .i64 0) := bkeep hb (by first | (with_reducible exact q3) | (with_reducible exact akeep q3) | simp [*, go_sem]); replace f4 : w1.frozen? ⟨w.heap.size + 1, 2, none⟩ = false := bfree (v := .slice none 0 0) hb (by first | (with_reducible exact q4) | (with_reducible exact akeep q4) | simp [*, go_sem]) (by first | (with_reducible exact f4) | (with_reducible exact afree q4 f4) | simp [*, go_sem]); replace q4 : w1.cell? ⟨w.heap.size + 1, 2, none⟩ = some (.slice none 0 0) := bkeep hb (by first | (with_reducible exact q4) | (with_reducible exact akeep q4) | simp [*, go_sem]); skip
      clear hb
      go_wp2_with fail
      exact bodyPost_ret (v := .tuple #[.agg #[.int .i64 0, .int .i64 0, .slice none 0 0], .int .i64 30]) (by simp [results, Try.results50, go_sem, *]) rfl ⟨_, rfl, by go_grown, rows8_nil _⟩
    · rw [if_pos rfl] at hr
      have HL : Hid (ckLs l = 0) := hid (hcl.trans (if_pos rfl))
      by_cases hz0 : zs = []
      · rw [if_neg (fun e => e.1 hz0)] at hr
        subst hr
        obtain rfl : m = 0 := by rw [← hm, hz0]; rfl
        clear hw hcl h1 h2 h3
        rw [hn] at h hll ⊢
        rw [hm] at hz ⊢
        (try rw [hm] at hb1)
        (try rw [hm] at hb2)
        have hun := hz
        clear hn hm hz0
        go_enter Try.func50, Try.ntmps50
        go_wp2_with fail
        refine (ckWd_any HW.out).mono ?_
        rintro e w1 ⟨rfl, hb⟩
        replace hb0 := bnext (w := w) (by go_grown) hb; have hz := hb.size; (try simp only [World.size_alloc, World.size_setCell] at hz); replace q0 : w1.cell? ⟨w.heap.size, 0, none⟩ = some (.int .i64 lo) := bkeep hb (by first | (with_reducible exact q0) | (with_reducible exact akeep q0) | simp [*, go_sem]); replace q1 : w1.cell? ⟨w.heap.size, 1, none⟩ = some (.int .i64 hi) := bkeep hb (by first | (with_reducible exact q1) | (with_reducible exact akeep q1) | simp [*, go_sem]); replace f2 : w1.frozen? ⟨w.heap.size + 1, 0, none⟩ = false := bfree (v := .int .i64 0) hb (by first | (with_reducible exact q2) | (with_reducible exact akeep q2) | simp [*, go_sem]) (by first | (with_reducible exact f2) | (with_reducible exact afree q2 f2) | simp [*, go_sem]); replace q2 : w1.cell? ⟨w.heap.size + 1, 0, none⟩ = some (.int .i64 0) := bkeep hb (by first | (with_reducible exact q2) | (with_reducible exact akeep q2) | simp [*, go_sem]); replace f3 : w1.frozen? ⟨w.heap.size + 1, 1, none⟩ = false := bfree (v := .int .i64 0) hb (by first | (with_reducible exact q3) | (with_reducible exact akeep q3) | simp [*, go_sem]) (by first | (with_reducible exact f3) | (with_reducible exact afree q3 f3) | simp [*, go_sem]); replace q3 : w1.cell? ⟨w.heap.size + 1, 1, none⟩ = some (.int .i64 0) := bkeep hb (by first | (with_reducible exact q3) | (with_reducible exact akeep q3) | simp [*, go_sem]); replace f4 : w1.frozen? ⟨w.heap.size + 1, 2, none⟩ = false := bfree (v := .slice none 0 0) hb (by first | (with_reducible exact q4) | (with_reducible exact akeep q4) | simp [*, go_sem]) (by first | (with_reducible exact f4) | (with_reducible exact afree q4 f4) | simp [*, go_sem]); replace q4 : w1.cell? ⟨w.heap.size + 1, 2, none⟩ = some (.slice none 0 0) := bkeep hb (by first | (with_reducible exact q4) | (with_reducible exact akeep q4) | simp [*, go_sem]); skip
        clear hb
        go_wp2_with fail
        refine (ckLs_any (h.below (by go_grown)) HL.out).mono ?_
        rintro e w1 ⟨rfl, hb⟩
        replace hb0 := bnext (w := w) (by go_grown) hb; have hz := hb.size; (try simp only [World.size_alloc, World.size_setCell] at hz); replace q0 : w1.cell? ⟨w.heap.size, 0, none⟩ = some (.int .i64 lo) := bkeep hb (by first | (with_reducible exact q0) | (with_reducible exact akeep q0) | simp [*, go_sem]); replace q1 : w1.cell? ⟨w.heap.size, 1, none⟩ = some (.int .i64 hi) := bkeep hb (by first | (with_reducible exact q1) | (with_reducible exact akeep q1) | simp [*, go_sem]); replace f2 : w1.frozen? ⟨w.heap.size + 1, 0, none⟩ = false := bfree (v := .int .i64 0) hb (by first | (with_reducible exact q2) | (with_reducible exact akeep q2) | simp [*, go_sem]) (by first | (with_reducible exact f2) | (with_reducible exact afree q2 f2) | simp [*, go_sem]); replace q2 : w1.cell? ⟨w.heap.size + 1, 0, none⟩ = some (.int .i64 0) := bkeep hb (by first | (with_reducible exact q2) | (with_reducible exact akeep q2) | simp [*, go_sem]); replace f3 : w1.frozen? ⟨w.heap.size + 1, 1, none⟩ = false := bfree (v := .int .i64 0) hb (by first | (with_reducible exact q3) | (with_reducible exact akeep q3) | simp [*, go_sem]) (by first | (with_reducible exact f3) | (with_reducible exact afree q3 f3) | simp [*, go_sem]); replace q3 : w1.cell? ⟨w.heap.size + 1, 1, none⟩ = some (.int .i64 0) := bkeep hb (by first | (with_reducible exact q3) | (with_reducible exact akeep q3) | simp [*, go_sem]); replace f4 : w1.frozen? ⟨w.heap.size + 1, 2, none⟩ = false := bfree (v := .slice none 0 0) hb (by first | (with_reducible exact q4) | (with_reducible exact akeep q4) | simp [*, go_sem]) (by first | (with_reducible exact f4) | (with_reducible exact afree q4 f4) | simp [*, go_sem]); replace q4 : w1.cell? ⟨w.heap.size + 1, 2, none⟩ = some (.slice none 0 0) := bkeep hb (by first | (with_reducible exact q4) | (with_reducible exact akeep q4) | simp [*, go_sem]); skip
        clear hb
        go_wp2_with fail
        exact bodyPost_ret (v := .tuple #[.agg #[.int .i64 0, .int .i64 0, .slice none 0 0], .int .i64 1]) (by simp [results, Try.results50, go_sem, *]) rfl ⟨_, rfl, by go_grown, rows8_nil _⟩
      · have hm0 : m ≠ 0 := by rw [← hm]; exact fun e => hz0 (List.eq_nil_of_length_eq_zero e)
        have hmi : ¬ (m : Int) = 0 := by omega
        have hmb : ((m : Int) == 0) = false := beq_eq_false_iff_ne.mpr hmi
        cases b3
        · rw [if_neg (fun e => by cases e.2)] at hr
          subst hr
          have HI : Hid (idxOk zs n = false) := by rw [← hn]; exact hid h3
          have hl30 : n ≤ 1000 := by rw [← hn]; have := (listOk_iff.1 h2).1; omega
          clear hw hcl h1 h2 h3
          rw [hn] at h hll ⊢
          rw [hm] at hz ⊢
          (try rw [hm] at hb1)
          (try rw [hm] at hb2)
          have hun := hz
          clear hn hm hz0
          go_enter Try.func50, Try.ntmps50
          go_wp2_with fail
          refine (ckWd_any HW.out).mono ?_
          rintro e w1 ⟨rfl, hb⟩
          replace hb0 := bnext (w := w) (by go_grown) hb; have hz := hb.size; (try simp only [World.size_alloc, World.size_setCell] at hz); replace q0 : w1.cell? ⟨w.heap.size, 0, none⟩ = some (.int .i64 lo) := bkeep hb (by first | (with_reducible exact q0) | (with_reducible exact akeep q0) | simp [*, go_sem]); replace q1 : w1.cell? ⟨w.heap.size, 1, none⟩ = some (.int .i64 hi) := bkeep hb (by first | (with_reducible exact q1) | (with_reducible exact akeep q1) | simp [*, go_sem]); replace f2 : w1.frozen? ⟨w.heap.size + 1, 0, none⟩ = false := bfree (v := .int .i64 0) hb (by first | (with_reducible exact q2) | (with_reducible exact akeep q2) | simp [*, go_sem]) (by first | (with_reducible exact f2) | (with_reducible exact afree q2 f2) | simp [*, go_sem]); replace q2 : w1.cell? ⟨w.heap.size + 1, 0, none⟩ = some (.int .i64 0) := bkeep hb (by first | (with_reducible exact q2) | (with_reducible exact akeep q2) | simp [*, go_sem]); replace f3 : w1.frozen? ⟨w.heap.size + 1, 1, none⟩ = false := bfree (v := .int .i64 0) hb (by first | (with_reducible exact q3) | (with_reducible exact akeep q3) | simp [*, go_sem]) (by first | (with_reducible exact f3) | (with_reducible exact afree q3 f3) | simp [*, go_sem]); replace q3 : w1.cell? ⟨w.heap.size + 1, 1, none⟩ = some (.int .i64 0) := bkeep hb (by first | (with_reducible exact q3) | (with_reducible exact akeep q3) | simp [*, go_sem]); replace f4 : w1.frozen? ⟨w.heap.size + 1, 2, none⟩ = false := bfree (v := .slice none 0 0) hb (by first | (with_reducible exact q4) | (with_reducible exact akeep q4) | simp [*, go_sem]) (by first | (with_reducible exact f4) | (with_reducible exact afree q4 f4) | simp [*, go_sem]); replace q4 : w1.cell? ⟨w.heap.size + 1, 2, none⟩ = some (.slice none 0 0) := bkeep hb (by first | (with_reducible exact q4) | (with_reducible exact akeep q4) | simp [*, go_sem]); skip
          clear hb
          go_wp2_with fail
          refine (ckLs_any (h.below (by go_grown)) HL.out).mono ?_
          rintro e w1 ⟨rfl, hb⟩
          replace hb0 := bnext (w := w) (by go_grown) hb; have hz := hb.size; (try simp only [World.size_alloc, World.size_setCell] at hz); replace q0 : w1.cell? ⟨w.heap.size, 0, none⟩ = some (.int .i64 lo) := bkeep hb (by first | (with_reducible exact q0) | (with_reducible exact akeep q0) | simp [*, go_sem]); replace q1 : w1.cell? ⟨w.heap.size, 1, none⟩ = some (.int .i64 hi) := bkeep hb (by first | (with_reducible exact q1) | (with_reducible exact akeep q1) | simp [*, go_sem]); replace f2 : w1.frozen? ⟨w.heap.size + 1, 0, none⟩ = false := bfree (v := .int .i64 0) hb (by first | (with_reducible exact q2) | (with_reducible exact akeep q2) | simp [*, go_sem]) (by first | (with_reducible exact f2) | (with_reducible exact afree q2 f2) | simp [*, go_sem]); replace q2 : w1.cell? ⟨w.heap.size + 1, 0, none⟩ = some (.int .i64 0) := bkeep hb (by first | (with_reducible exact q2) | (with_reducible exact akeep q2) | simp [*, go_sem]); replace f3 : w1.frozen? ⟨w.heap.size + 1, 1, none⟩ = false := bfree (v := .int .i64 0) hb (by first | (with_reducible exact q3) | (with_reducible exact akeep q3) | simp [*, go_sem]) (by first | (with_reducible exact f3) | (with_reducible exact afree q3 f3) | simp [*, go_sem]); replace q3 : w1.cell? ⟨w.heap.size + 1, 1, none⟩ = some (.int .i64 0) := bkeep hb (by first | (with_reducible exact q3) | (with_reducible exact akeep q3) | simp [*, go_sem]); replace f4 : w1.frozen? ⟨w.heap.size + 1, 2, none⟩ = false := bfree (v := .slice none 0 0) hb (by first | (with_reducible exact q4) | (with_reducible exact akeep q4) | simp [*, go_sem]) (by first | (with_reducible exact f4) | (with_reducible exact afree q4 f4) | simp [*, go_sem]); replace q4 : w1.cell? ⟨w.heap.size + 1, 2, none⟩ = some (.slice none 0 0) := bkeep hb (by first | (with_reducible exact q4) | (with_reducible exact akeep q4) | simp [*, go_sem]); skip
          clear hb
          go_wp2_with fail
          refine (idx_any (hun.below (by go_grown)) hl30 HI.out).mono ?_
          rintro e w1 ⟨rfl, hb⟩
          replace hb0 := bnext (w := w) (by go_grown) hb; have hz := hb.size; (try simp only [World.size_alloc, World.size_setCell] at hz); replace q0 : w1.cell? ⟨w.heap.size, 0, none⟩ = some (.int .i64 lo) := bkeep hb (by first | (with_reducible exact q0) | (with_reducible exact akeep q0) | simp [*, go_sem]); replace q1 : w1.cell? ⟨w.heap.size, 1, none⟩ = some (.int .i64 hi) := bkeep hb (by first | (with_reducible exact q1) | (with_reducible exact akeep q1) | simp [*, go_sem]); replace f2 : w1.frozen? ⟨w.heap.size + 1, 0, none⟩ = false := bfree (v := .int .i64 0) hb (by first | (with_reducible exact q2) | (with_reducible exact akeep q2) | simp [*, go_sem]) (by first | (with_reducible exact f2) | (with_reducible exact afree q2 f2) | simp [*, go_sem]); replace q2 : w1.cell? ⟨w.heap.size + 1, 0, none⟩ = some (.int .i64 0) := bkeep hb (by first | (with_reducible exact q2) | (with_reducible exact akeep q2) | simp [*, go_sem]); replace f3 : w1.frozen? ⟨w.heap.size + 1, 1, none⟩ = false := bfree (v := .int .i64 0) hb (by first | (with_reducible exact q3) | (with_reducible exact akeep q3) | simp [*, go_sem]) (by first | (with_reducible exact f3) | (with_reducible exact afree q3 f3) | simp [*, go_sem]); replace q3 : w1.cell? ⟨w.heap.size + 1, 1, none⟩ = some (.int .i64 0) := bkeep hb (by first | (with_reducible exact q3) | (with_reducible exact akeep q3) | simp [*, go_sem]); replace f4 : w1.frozen? ⟨w.heap.size + 1, 2, none⟩ = false := bfree (v := .slice none 0 0) hb (by first | (with_reducible exact q4) | (with_reducible exact akeep q4) | simp [*, go_sem]) (by first | (with_reducible exact f4) | (with_reducible exact afree q4 f4) | simp [*, go_sem]); replace q4 : w1.cell? ⟨w.heap.size + 1, 2, none⟩ = some (.slice none 0 0) := bkeep hb (by first | (with_reducible exact q4) | (with_reducible exact akeep q4) | simp [*, go_sem]); skip
          clear hb
          go_wp2_with fail
          exact bodyPost_ret (v := .tuple #[.agg #[.int .i64 0, .int .i64 0, .slice none 0 0], .int .i64 1]) (by simp [results, Try.results50, go_sem, *]) rfl ⟨_, rfl, by go_grown, rows8_nil _⟩
        · rw [if_pos ⟨hz0, rfl⟩] at hr
          subst hr
          have hzn : zs.length ≤ 1000 := by have h4 := (nodup_len (idxOk_nd h3) (idxOk_in h3)).1; have := (listOk_iff.1 h2).1; omega
          refine (Set_good HH.out HZZ.out h1 h2 hzn h3 hz0).mono ?_
          rintro e w' ⟨u, rfl, hb, -, hu⟩
          exact ⟨u, rfl, hb, hu⟩

set_option maxRecDepth 100000 in
set_option maxHeartbeats 1000000 in
theorem sameBung_any {w : World} {v1 v2 : Value} {l : List Sg} {x0 x1 : Int} (h1 : RowsAt 8 w v1 (l.map rowG)) (h2 : RowsAt 8 w v2 (l.map rowG)) (hl : l.length ≤ 1000) :
    Calls Try.prog 56 #[.agg #[.int .i64 x0, .int .i64 x1, v1], .agg #[.int .i64 x0, .int .i64 x1, v2]] w (Ret w (.bool true)) := by
  unfold Ret
  obtain ⟨a, ac, rfl, ha1⟩ := h1.shape
  obtain ⟨d, dc, rfl, hd1⟩ := h2.shape
  rw [List.length_map] at h1 h2 ha1 hd1 ⊢
  obtain ⟨n, hn⟩ : ∃ n, l.length = n := ⟨_, rfl⟩
  have hx : (l.map rowG).length ≤ 1000 := by rw [List.length_map]; exact hl
  rw [hn] at h1 h2 ha1 hd1 ⊢
  clear hn
  go_enter Try.func56, Try.ntmps56
  go_wp2_with fail
  refine (sameList_any (b := true) (h1.below (by go_grown)) (h2.below (by go_grown)) hx (decide_eq_true rfl)).mono ?_
  rintro e w1 ⟨rfl, hb⟩
  replace hb0 := bnext (w := w) (by go_grown) hb; have hz := hb.size; (try simp only [World.size_alloc, World.size_setCell] at hz); replace q0 : w1.cell? ⟨w.heap.size, 0, none⟩ = some (.int .i64 x0) := bkeep hb (by first | (with_reducible exact q0) | (with_reducible exact akeep q0) | simp [*, go_sem]); replace q1 : w1.cell? ⟨w.heap.size, 1, none⟩ = some (.int .i64 x1) := bkeep hb (by first | (with_reducible exact q1) | (with_reducible exact akeep q1) | simp [*, go_sem]); replace q2 : w1.cell? ⟨w.heap.size, 2, none⟩ = some (.slice a n ac) := bkeep hb (by first | (with_reducible exact q2) | (with_reducible exact akeep q2) | simp [*, go_sem]); replace q3 : w1.cell? ⟨w.heap.size + 1, 0, none⟩ = some (.int .i64 x0) := bkeep hb (by first | (with_reducible exact q3) | (with_reducible exact akeep q3) | simp [*, go_sem]); replace q4 : w1.cell? ⟨w.heap.size + 1, 1, none⟩ = some (.int .i64 x1) := bkeep hb (by first | (with_reducible exact q4) | (with_reducible exact akeep q4) | simp [*, go_sem]); replace q5 : w1.cell? ⟨w.heap.size + 1, 2, none⟩ = some (.slice d n dc) := bkeep hb (by first | (with_reducible exact q5) | (with_reducible exact akeep q5) | simp [*, go_sem]); skip
  clear hb
  go_wp2_with fail
  go_ret
  exact ⟨ret_bool (by simp [BEq.beq]), hb0⟩

end Go.Proofs.Ytnchhleokdkejaa

/- A copy of saggars. -/
namespace Go.Proofs.Ytnchhleokdkejaa
open Go.RowKit Go.Pb Go.Pb.Ware Go.Pb.Sag
set_option linter.unusedVariables false
set_option linter.unusedSimpArgs false

open Go.Pb.Bung
theorem lenG (s : Sg) : (cellsG s).length = 8 := rfl
theorem sg_len (l : List Sg) : (l.flatMap cellsG).length = l.length * 8 := flat_len cellsG lenG l
theorem sg_one {l : List Sg} : ∀ u ∈ l.flatMap cellsG, u.oneCell' = true := fun u hu => by
  obtain ⟨s, _, h⟩ := List.mem_flatMap.1 hu
  exact one_cellsG s u h
theorem sg_lat {w : World} {v : Value} {l : List Sg} (h : RowsAt 8 w v (l.map rowG)) : LAt 8 w v l.length (l.flatMap cellsG) := by
  refine ⟨sg_len l, sg_one, ?_⟩
  rcases h with ⟨h1, h2⟩ | ⟨a, cap, h1, h2, h3, h4⟩
  · rw [List.map_eq_nil_iff] at h2; subst h2; exact .inl ⟨h1, rfl⟩
  · rw [List.length_map] at h1 h2
    refine .inr ⟨a, cap, h1, h2, h3, fun j u hu => ?_⟩
    have hj := (List.getElem?_eq_some_iff.1 hu).1
    rw [sg_len] at hj
    have hk : j / 8 < l.length := by omega
    have hx : l[j / 8]? = some l[j / 8] := List.getElem?_eq_getElem hk
    have e := flat_get cellsG lenG hx (show j % 8 < 8 by omega)
    rw [show j / 8 * 8 + j % 8 = j by omega] at e
    have hu2 : (cellsG l[j / 8])[j % 8]? = some u := by rw [← e]; exact hu
    have h5 := (h4 (j / 8) (rowG l[j / 8]) (by rw [List.getElem?_map, hx]; rfl)).2
    unfold cellsG at hu2
    rw [List.getElem?_map] at hu2
    obtain ⟨z, hz, rfl⟩ := Option.map_eq_some_iff.1 hu2
    have := (h5 (j % 8) z hz).1
    rwa [show j / 8 * 8 + j % 8 = j by omega] at this

set_option maxRecDepth 100000 in
set_option maxHeartbeats 600000 in
theorem cloneG {w : World} {v : Value} {l : List Sg} (h : RowsAt 8 w v (l.map rowG)) (hl : l.length ≤ 1000) :
    Calls Try.prog 106 #[v] w (NewSgs 33 l w) := by
  obtain ⟨i0, hi0, hz0, hz1, hz2⟩ := info_parts Try.infoG
  have hlat := sg_lat h
  obtain ⟨a, cap, rfl, hll⟩ := h.shape
  rw [List.length_map] at h hll hlat ⊢
  unfold NewSgs
  obtain ⟨n, hn⟩ : ∃ n, l.length = n := ⟨_, rfl⟩
  rw [hn] at h hll hl hlat ⊢
  have HL := hid hlat
  cases a with
  | none =>
    obtain ⟨rfl, rfl, he⟩ := hlat.nil
    rw [he]
    clear HL hlat
    have hnil : ∀ w' : World, (binOp BinOp.eql 24 (.slice none 0 0) (.slice none 0 0)).run Try.prog w' = .ok (.bool true) w' := fun w' => rfl
    go_enter Try.func106, Try.ntmps106
    go_wp2_with fail
    go_ret
    exact ⟨_, rfl, by go_grown, World.ownsRow_nil _ _ _ _⟩
  | some a =>
    clear hlat
    have hnil : ∀ w' : World, (binOp BinOp.eql 24 (.slice (some a) n cap) (.slice none 0 0)).run Try.prog w' = .ok (.bool false) w' := fun w' => rfl
    go_enter Try.func106, Try.ntmps106
    go_wp2_with (at_builtin; go_must (refine wpList_append_lat rfl _ _ 24 rfl w.heap.size 33 i0 (.agg #[.int .i64 0, .int .i64 0, .int .i64 0, .int .i64 0, .int .i64 0, .int .i64 0, .int .i64 0, .int .i64 0]) 8 64 Try.underlying24 hi0 hz0 hz1 hz2 rfl (by decide) _ 0 [] rfl (owns_empty w 33 8) _ n (l.flatMap cellsG) rfl (HL.out.below ((Below.refl _ _).alloc (Nat.le_refl _) _)) (by unfold maxLen; omega) (by omega) (by simp) ?_; intro v' w4 ho4 hg4; have hb0 : Below w.heap.size w w4 := Pb.below_grown ((Below.refl _ w).alloc (Nat.le_refl _) _) hg4 (owns_empty w 33 8) (by simp) (Nat.le_refl _)))
    go_ret
    exact ⟨_, rfl, hb0, by simpa using ho4⟩
end Go.Proofs.Ytnchhleokdkejaa

/- A bung with one saggar more, on both sides. -/
namespace Go.Proofs.Ytnchhleokdkejaa
open Go.RowKit Go.Pb Go.Pb.Ware Go.Pb.Sag
set_option linter.unusedVariables false
set_option linter.unusedSimpArgs false

open Go.Proofs Go.Pb.Bung
def topA (lo hi : Int) (l : List Sg) (s : Sg) : ((Int × Int) × List Sg) × Int := if bungOk lo hi l = true then (if sgOk s = true then (if l.length = 30 then (((0, 0), []), 2) else if hasL l s.id = true then (((0, 0), []), 30) else (((lo, hi), l ++ [s]), 0)) else (((0, 0), []), 30)) else (((0, 0), []), 31)

def NewOne (B0 : Nat) (cs : List Value) (v : Value) (w : World) : Prop := ∃ B, B0 ≤ B ∧ v = .slice (some ⟨B, 0, none⟩) 1 1 ∧ CellsAt w B cs
theorem keeps_one {B0 : Nat} {cs : List Value} : Keeps (NewOne B0 cs) := fun _ _ _ ⟨B, h1, h2, h3⟩ hb => ⟨B, h1, h2, h3.below hb⟩
theorem one_of {B0 : Nat} {cs : List Value} {w0 w' : World} {t : TypeId} (hb : Below w0.heap.size w0 w') (h : B0 ≤ w0.heap.size) : Below w'.heap.size w' (w'.alloc (.cells cs.toArray t)) ∧ NewOne B0 cs (.slice (some ⟨w'.heap.size, 0, none⟩) 1 1) (w'.alloc (.cells cs.toArray t)) := ⟨(Below.refl _ _).alloc (Nat.le_refl _) _, w'.heap.size, Nat.le_trans h hb.size, rfl, CellsAt.new w' cs t⟩
theorem sg_i64 {s : Sg} (h : sgOk s = true) : ∀ z ∈ rowG s, I64 z := by
  unfold sgOk at h
  simp only [Bool.and_eq_true, btw_iff, rgOk, decide_eq_true_eq] at h
  intro z hz
  simp only [rowG, List.mem_cons, List.not_mem_nil, or_false] at hz
  rcases hz with rfl | rfl | rfl | rfl | rfl | rfl | rfl | rfl <;> exact I64.mk (by omega) (by omega)

set_option maxRecDepth 100000 in
set_option maxHeartbeats 1000000 in
theorem topP {w : World} {v : Value} {l : List Sg} {lo hi sid swl swh sbl sbh shl shh sti : Int} {r : _} (h : RowsAt 8 w v (l.map rowG)) (hr : topA lo hi l (⟨sid, swl, swh, sbl, sbh, shl, shh, sti⟩ : Sg) = r) :
    Calls Try.prog 54 #[.agg #[.int .i64 lo, .int .i64 hi, v], .agg #[.int .i64 sid, .int .i64 swl, .int .i64 swh, .int .i64 sbl, .int .i64 sbh, .int .i64 shl, .int .i64 shh, .int .i64 sti]] w (BgRes r w) := by
  unfold BgRes
  obtain ⟨i0, hi0, hz0, hz1, hz2⟩ := info_parts Try.infoG
  have hlat := sg_lat h
  have hi64 := i64_rows h
  obtain ⟨a, cap, rfl, hll⟩ := h.shape
  simp only [List.length_map] at h hlat
  rw [List.length_map] at hll ⊢
  obtain ⟨n, hn⟩ : ∃ n, l.length = n := ⟨_, rfl⟩
  have HN : Hid (l.length = n) := hn
  obtain ⟨b1, h1⟩ : ∃ b, bungOk lo hi l = b := ⟨_, rfl⟩
  obtain ⟨b2, h2⟩ : ∃ b, sgOk (⟨sid, swl, swh, sbl, sbh, shl, shh, sti⟩ : Sg) = b := ⟨_, rfl⟩
  obtain ⟨b3, h3⟩ : ∃ b, hasL l sid = b := ⟨_, rfl⟩
  unfold topA at hr
  dsimp only at hr
  rw [h1, h2, h3] at hr
  have hcb : ckBg lo hi l = if b1 = true then 0 else 31 := by unfold ckBg; rw [h1]
  have hcs : ckSg (⟨sid, swl, swh, sbl, sbh, shl, shh, sti⟩ : Sg) = if b2 = true then 0 else 30 := by unfold ckSg; rw [h2]
  have HI64 : Hid (∀ s ∈ l, ∀ z ∈ rowG s, I64 z) := hid hi64
  rw [hn] at h hlat hll hr ⊢
  have HLT := hid hlat
  clear hi64 hlat
  cases b1
  · rw [if_neg (by simp)] at hr
    subst hr
    have HC : Hid (ckBg lo hi l = 31) := hid (hcb.trans (if_neg (by simp)))
    clear hcb hcs h1 h2 h3 hn
    go_enter Try.func54, Try.ntmps54
    go_wp2_with fail
    refine (ckBg_any (h.below (by go_grown)) HC.out).mono ?_
    rintro e w1 ⟨rfl, hb⟩
    replace hb0 := bnext (w := w) (by go_grown) hb; have hz := hb.size; (try simp only [World.size_alloc, World.size_setCell] at hz); replace q0 : w1.cell? ⟨w.heap.size, 0, none⟩ = some (.int .i64 lo) := bkeep hb (by first | (with_reducible exact q0) | (with_reducible exact akeep q0) | simp [*, go_sem]); replace q1 : w1.cell? ⟨w.heap.size, 1, none⟩ = some (.int .i64 hi) := bkeep hb (by first | (with_reducible exact q1) | (with_reducible exact akeep q1) | simp [*, go_sem]); replace q2 : w1.cell? ⟨w.heap.size, 2, none⟩ = some (.slice a n cap) := bkeep hb (by first | (with_reducible exact q2) | (with_reducible exact akeep q2) | simp [*, go_sem]); replace q3 : w1.cell? ⟨w.heap.size + 1, 0, none⟩ = some (.int .i64 sid) := bkeep hb (by first | (with_reducible exact q3) | (with_reducible exact akeep q3) | simp [*, go_sem]); replace q4 : w1.cell? ⟨w.heap.size + 1, 1, none⟩ = some (.int .i64 swl) := bkeep hb (by first | (with_reducible exact q4) | (with_reducible exact akeep q4) | simp [*, go_sem]); replace q5 : w1.cell? ⟨w.heap.size + 1, 2, none⟩ = some (.int .i64 swh) := bkeep hb (by first | (with_reducible exact q5) | (with_reducible exact akeep q5) | simp [*, go_sem]); replace q6 : w1.cell? ⟨w.heap.size + 1, 3, none⟩ = some (.int .i64 sbl) := bkeep hb (by first | (with_reducible exact q6) | (with_reducible exact akeep q6) | simp [*, go_sem]); replace q7 : w1.cell? ⟨w.heap.size + 1, 4, none⟩ = some (.int .i64 sbh) := bkeep hb (by first | (with_reducible exact q7) | (with_reducible exact akeep q7) | simp [*, go_sem]); replace q8 : w1.cell? ⟨w.heap.size + 1, 5, none⟩ = some (.int .i64 shl) := bkeep hb (by first | (with_reducible exact q8) | (with_reducible exact akeep q8) | simp [*, go_sem]); replace q9 : w1.cell? ⟨w.heap.size + 1, 6, none⟩ = some (.int .i64 shh) := bkeep hb (by first | (with_reducible exact q9) | (with_reducible exact akeep q9) | simp [*, go_sem]); replace q10 : w1.cell? ⟨w.heap.size + 1, 7, none⟩ = some (.int .i64 sti) := bkeep hb (by first | (with_reducible exact q10) | (with_reducible exact akeep q10) | simp [*, go_sem]); replace f11 : w1.frozen? ⟨w.heap.size + 1 + 1, 0, none⟩ = false := bfree (v := .int .i64 0) hb (by first | (with_reducible exact q11) | (with_reducible exact akeep q11) | simp [*, go_sem]) (by first | (with_reducible exact f11) | (with_reducible exact afree q11 f11) | simp [*, go_sem]); replace q11 : w1.cell? ⟨w.heap.size + 1 + 1, 0, none⟩ = some (.int .i64 0) := bkeep hb (by first | (with_reducible exact q11) | (with_reducible exact akeep q11) | simp [*, go_sem]); replace f12 : w1.frozen? ⟨w.heap.size + 1 + 1, 1, none⟩ = false := bfree (v := .int .i64 0) hb (by first | (with_reducible exact q12) | (with_reducible exact akeep q12) | simp [*, go_sem]) (by first | (with_reducible exact f12) | (with_reducible exact afree q12 f12) | simp [*, go_sem]); replace q12 : w1.cell? ⟨w.heap.size + 1 + 1, 1, none⟩ = some (.int .i64 0) := bkeep hb (by first | (with_reducible exact q12) | (with_reducible exact akeep q12) | simp [*, go_sem]); replace f13 : w1.frozen? ⟨w.heap.size + 1 + 1, 2, none⟩ = false := bfree (v := .slice none 0 0) hb (by first | (with_reducible exact q13) | (with_reducible exact akeep q13) | simp [*, go_sem]) (by first | (with_reducible exact f13) | (with_reducible exact afree q13 f13) | simp [*, go_sem]); replace q13 : w1.cell? ⟨w.heap.size + 1 + 1, 2, none⟩ = some (.slice none 0 0) := bkeep hb (by first | (with_reducible exact q13) | (with_reducible exact akeep q13) | simp [*, go_sem]); skip
    clear hb
    go_wp2_with fail
    exact bodyPost_ret (v := .tuple #[.agg #[.int .i64 0, .int .i64 0, .slice none 0 0], .int .i64 31]) (by simp [results, Try.results54, go_sem, *]) rfl ⟨_, rfl, by go_grown, rows8_nil _⟩
  · rw [if_pos rfl] at hr
    have HC : Hid (ckBg lo hi l = 0) := hid (hcb.trans (if_pos rfl))
    have hl30 : n ≤ 30 := by rw [← hn]; exact bungOk_len h1
    clear hcb h1
    cases b2
    · rw [if_neg (by simp)] at hr
      subst hr
      have HS : Hid (ckSg (⟨sid, swl, swh, sbl, sbh, shl, shh, sti⟩ : Sg) = 30) := hid (hcs.trans (if_neg (by simp)))
      clear hcs h2 h3 hn
      go_enter Try.func54, Try.ntmps54
      go_wp2_with fail
      refine (ckBg_any (h.below (by go_grown)) HC.out).mono ?_
      rintro e w1 ⟨rfl, hb⟩
      replace hb0 := bnext (w := w) (by go_grown) hb; have hz := hb.size; (try simp only [World.size_alloc, World.size_setCell] at hz); replace q0 : w1.cell? ⟨w.heap.size, 0, none⟩ = some (.int .i64 lo) := bkeep hb (by first | (with_reducible exact q0) | (with_reducible exact akeep q0) | simp [*, go_sem]); replace q1 : w1.cell? ⟨w.heap.size, 1, none⟩ = some (.int .i64 hi) := bkeep hb (by first | (with_reducible exact q1) | (with_reducible exact akeep q1) | simp [*, go_sem]); replace q2 : w1.cell? ⟨w.heap.size, 2, none⟩ = some (.slice a n cap) := bkeep hb (by first | (with_reducible exact q2) | (with_reducible exact akeep q2) | simp [*, go_sem]); replace q3 : w1.cell? ⟨w.heap.size + 1, 0, none⟩ = some (.int .i64 sid) := bkeep hb (by first | (with_reducible exact q3) | (with_reducible exact akeep q3) | simp [*, go_sem]); replace q4 : w1.cell? ⟨w.heap.size + 1, 1, none⟩ = some (.int .i64 swl) := bkeep hb (by first | (with_reducible exact q4) | (with_reducible exact akeep q4) | simp [*, go_sem]); replace q5 : w1.cell? ⟨w.heap.size + 1, 2, none⟩ = some (.int .i64 swh) := bkeep hb (by first | (with_reducible exact q5) | (with_reducible exact akeep q5) | simp [*, go_sem]); replace q6 : w1.cell? ⟨w.heap.size + 1, 3, none⟩ = some (.int .i64 sbl) := bkeep hb (by first | (with_reducible exact q6) | (with_reducible exact akeep q6) | simp [*, go_sem]); replace q7 : w1.cell? ⟨w.heap.size + 1, 4, none⟩ = some (.int .i64 sbh) := bkeep hb (by first | (with_reducible exact q7) | (with_reducible exact akeep q7) | simp [*, go_sem]); replace q8 : w1.cell? ⟨w.heap.size + 1, 5, none⟩ = some (.int .i64 shl) := bkeep hb (by first | (with_reducible exact q8) | (with_reducible exact akeep q8) | simp [*, go_sem]); replace q9 : w1.cell? ⟨w.heap.size + 1, 6, none⟩ = some (.int .i64 shh) := bkeep hb (by first | (with_reducible exact q9) | (with_reducible exact akeep q9) | simp [*, go_sem]); replace q10 : w1.cell? ⟨w.heap.size + 1, 7, none⟩ = some (.int .i64 sti) := bkeep hb (by first | (with_reducible exact q10) | (with_reducible exact akeep q10) | simp [*, go_sem]); replace f11 : w1.frozen? ⟨w.heap.size + 1 + 1, 0, none⟩ = false := bfree (v := .int .i64 0) hb (by first | (with_reducible exact q11) | (with_reducible exact akeep q11) | simp [*, go_sem]) (by first | (with_reducible exact f11) | (with_reducible exact afree q11 f11) | simp [*, go_sem]); replace q11 : w1.cell? ⟨w.heap.size + 1 + 1, 0, none⟩ = some (.int .i64 0) := bkeep hb (by first | (with_reducible exact q11) | (with_reducible exact akeep q11) | simp [*, go_sem]); replace f12 : w1.frozen? ⟨w.heap.size + 1 + 1, 1, none⟩ = false := bfree (v := .int .i64 0) hb (by first | (with_reducible exact q12) | (with_reducible exact akeep q12) | simp [*, go_sem]) (by first | (with_reducible exact f12) | (with_reducible exact afree q12 f12) | simp [*, go_sem]); replace q12 : w1.cell? ⟨w.heap.size + 1 + 1, 1, none⟩ = some (.int .i64 0) := bkeep hb (by first | (with_reducible exact q12) | (with_reducible exact akeep q12) | simp [*, go_sem]); replace f13 : w1.frozen? ⟨w.heap.size + 1 + 1, 2, none⟩ = false := bfree (v := .slice none 0 0) hb (by first | (with_reducible exact q13) | (with_reducible exact akeep q13) | simp [*, go_sem]) (by first | (with_reducible exact f13) | (with_reducible exact afree q13 f13) | simp [*, go_sem]); replace q13 : w1.cell? ⟨w.heap.size + 1 + 1, 2, none⟩ = some (.slice none 0 0) := bkeep hb (by first | (with_reducible exact q13) | (with_reducible exact akeep q13) | simp [*, go_sem]); skip
      clear hb
      go_wp2_with fail
      refine (ckSg_any HS.out).mono ?_
      rintro e w1 ⟨rfl, hb⟩
      replace hb0 := bnext (w := w) (by go_grown) hb; have hz := hb.size; (try simp only [World.size_alloc, World.size_setCell] at hz); replace q0 : w1.cell? ⟨w.heap.size, 0, none⟩ = some (.int .i64 lo) := bkeep hb (by first | (with_reducible exact q0) | (with_reducible exact akeep q0) | simp [*, go_sem]); replace q1 : w1.cell? ⟨w.heap.size, 1, none⟩ = some (.int .i64 hi) := bkeep hb (by first | (with_reducible exact q1) | (with_reducible exact akeep q1) | simp [*, go_sem]); replace q2 : w1.cell? ⟨w.heap.size, 2, none⟩ = some (.slice a n cap) := bkeep hb (by first | (with_reducible exact q2) | (with_reducible exact akeep q2) | simp [*, go_sem]); replace q3 : w1.cell? ⟨w.heap.size + 1, 0, none⟩ = some (.int .i64 sid) := bkeep hb (by first | (with_reducible exact q3) | (with_reducible exact akeep q3) | simp [*, go_sem]); replace q4 : w1.cell? ⟨w.heap.size + 1, 1, none⟩ = some (.int .i64 swl) := bkeep hb (by first | (with_reducible exact q4) | (with_reducible exact akeep q4) | simp [*, go_sem]); replace q5 : w1.cell? ⟨w.heap.size + 1, 2, none⟩ = some (.int .i64 swh) := bkeep hb (by first | (with_reducible exact q5) | (with_reducible exact akeep q5) | simp [*, go_sem]); replace q6 : w1.cell? ⟨w.heap.size + 1, 3, none⟩ = some (.int .i64 sbl) := bkeep hb (by first | (with_reducible exact q6) | (with_reducible exact akeep q6) | simp [*, go_sem]); replace q7 : w1.cell? ⟨w.heap.size + 1, 4, none⟩ = some (.int .i64 sbh) := bkeep hb (by first | (with_reducible exact q7) | (with_reducible exact akeep q7) | simp [*, go_sem]); replace q8 : w1.cell? ⟨w.heap.size + 1, 5, none⟩ = some (.int .i64 shl) := bkeep hb (by first | (with_reducible exact q8) | (with_reducible exact akeep q8) | simp [*, go_sem]); replace q9 : w1.cell? ⟨w.heap.size + 1, 6, none⟩ = some (.int .i64 shh) := bkeep hb (by first | (with_reducible exact q9) | (with_reducible exact akeep q9) | simp [*, go_sem]); replace q10 : w1.cell? ⟨w.heap.size + 1, 7, none⟩ = some (.int .i64 sti) := bkeep hb (by first | (with_reducible exact q10) | (with_reducible exact akeep q10) | simp [*, go_sem]); replace f11 : w1.frozen? ⟨w.heap.size + 1 + 1, 0, none⟩ = false := bfree (v := .int .i64 0) hb (by first | (with_reducible exact q11) | (with_reducible exact akeep q11) | simp [*, go_sem]) (by first | (with_reducible exact f11) | (with_reducible exact afree q11 f11) | simp [*, go_sem]); replace q11 : w1.cell? ⟨w.heap.size + 1 + 1, 0, none⟩ = some (.int .i64 0) := bkeep hb (by first | (with_reducible exact q11) | (with_reducible exact akeep q11) | simp [*, go_sem]); replace f12 : w1.frozen? ⟨w.heap.size + 1 + 1, 1, none⟩ = false := bfree (v := .int .i64 0) hb (by first | (with_reducible exact q12) | (with_reducible exact akeep q12) | simp [*, go_sem]) (by first | (with_reducible exact f12) | (with_reducible exact afree q12 f12) | simp [*, go_sem]); replace q12 : w1.cell? ⟨w.heap.size + 1 + 1, 1, none⟩ = some (.int .i64 0) := bkeep hb (by first | (with_reducible exact q12) | (with_reducible exact akeep q12) | simp [*, go_sem]); replace f13 : w1.frozen? ⟨w.heap.size + 1 + 1, 2, none⟩ = false := bfree (v := .slice none 0 0) hb (by first | (with_reducible exact q13) | (with_reducible exact akeep q13) | simp [*, go_sem]) (by first | (with_reducible exact f13) | (with_reducible exact afree q13 f13) | simp [*, go_sem]); replace q13 : w1.cell? ⟨w.heap.size + 1 + 1, 2, none⟩ = some (.slice none 0 0) := bkeep hb (by first | (with_reducible exact q13) | (with_reducible exact akeep q13) | simp [*, go_sem]); skip
      clear hb
      go_wp2_with fail
      exact bodyPost_ret (v := .tuple #[.agg #[.int .i64 0, .int .i64 0, .slice none 0 0], .int .i64 30]) (by simp [results, Try.results54, go_sem, *]) rfl ⟨_, rfl, by go_grown, rows8_nil _⟩
    · rw [if_pos rfl] at hr
      have HS : Hid (ckSg (⟨sid, swl, swh, sbl, sbh, shl, shh, sti⟩ : Sg) = 0) := hid (hcs.trans (if_pos rfl))
      have HSI : Hid (∀ z ∈ rowG (⟨sid, swl, swh, sbl, sbh, shl, shh, sti⟩ : Sg), I64 z) := hid (sg_i64 h2)
      clear hcs h2
      by_cases hn30 : n = 30
      · rw [if_pos hn30] at hr
        subst hr
        have hni : (n : Int) = 30 := by omega
        have hnb : ((n : Int) == 30) = true := by rw [hni]; rfl
        have HN30 := hid hn30
        clear h3 hn hn30 hni
        go_enter Try.func54, Try.ntmps54
        go_wp2_with fail
        refine (ckBg_any (h.below (by go_grown)) HC.out).mono ?_
        rintro e w1 ⟨rfl, hb⟩
        replace hb0 := bnext (w := w) (by go_grown) hb; have hz := hb.size; (try simp only [World.size_alloc, World.size_setCell] at hz); replace q0 : w1.cell? ⟨w.heap.size, 0, none⟩ = some (.int .i64 lo) := bkeep hb (by first | (with_reducible exact q0) | (with_reducible exact akeep q0) | simp [*, go_sem]); replace q1 : w1.cell? ⟨w.heap.size, 1, none⟩ = some (.int .i64 hi) := bkeep hb (by first | (with_reducible exact q1) | (with_reducible exact akeep q1) | simp [*, go_sem]); replace q2 : w1.cell? ⟨w.heap.size, 2, none⟩ = some (.slice a n cap) := bkeep hb (by first | (with_reducible exact q2) | (with_reducible exact akeep q2) | simp [*, go_sem]); replace q3 : w1.cell? ⟨w.heap.size + 1, 0, none⟩ = some (.int .i64 sid) := bkeep hb (by first | (with_reducible exact q3) | (with_reducible exact akeep q3) | simp [*, go_sem]); replace q4 : w1.cell? ⟨w.heap.size + 1, 1, none⟩ = some (.int .i64 swl) := bkeep hb (by first | (with_reducible exact q4) | (with_reducible exact akeep q4) | simp [*, go_sem]); replace q5 : w1.cell? ⟨w.heap.size + 1, 2, none⟩ = some (.int .i64 swh) := bkeep hb (by first | (with_reducible exact q5) | (with_reducible exact akeep q5) | simp [*, go_sem]); replace q6 : w1.cell? ⟨w.heap.size + 1, 3, none⟩ = some (.int .i64 sbl) := bkeep hb (by first | (with_reducible exact q6) | (with_reducible exact akeep q6) | simp [*, go_sem]); replace q7 : w1.cell? ⟨w.heap.size + 1, 4, none⟩ = some (.int .i64 sbh) := bkeep hb (by first | (with_reducible exact q7) | (with_reducible exact akeep q7) | simp [*, go_sem]); replace q8 : w1.cell? ⟨w.heap.size + 1, 5, none⟩ = some (.int .i64 shl) := bkeep hb (by first | (with_reducible exact q8) | (with_reducible exact akeep q8) | simp [*, go_sem]); replace q9 : w1.cell? ⟨w.heap.size + 1, 6, none⟩ = some (.int .i64 shh) := bkeep hb (by first | (with_reducible exact q9) | (with_reducible exact akeep q9) | simp [*, go_sem]); replace q10 : w1.cell? ⟨w.heap.size + 1, 7, none⟩ = some (.int .i64 sti) := bkeep hb (by first | (with_reducible exact q10) | (with_reducible exact akeep q10) | simp [*, go_sem]); replace f11 : w1.frozen? ⟨w.heap.size + 1 + 1, 0, none⟩ = false := bfree (v := .int .i64 0) hb (by first | (with_reducible exact q11) | (with_reducible exact akeep q11) | simp [*, go_sem]) (by first | (with_reducible exact f11) | (with_reducible exact afree q11 f11) | simp [*, go_sem]); replace q11 : w1.cell? ⟨w.heap.size + 1 + 1, 0, none⟩ = some (.int .i64 0) := bkeep hb (by first | (with_reducible exact q11) | (with_reducible exact akeep q11) | simp [*, go_sem]); replace f12 : w1.frozen? ⟨w.heap.size + 1 + 1, 1, none⟩ = false := bfree (v := .int .i64 0) hb (by first | (with_reducible exact q12) | (with_reducible exact akeep q12) | simp [*, go_sem]) (by first | (with_reducible exact f12) | (with_reducible exact afree q12 f12) | simp [*, go_sem]); replace q12 : w1.cell? ⟨w.heap.size + 1 + 1, 1, none⟩ = some (.int .i64 0) := bkeep hb (by first | (with_reducible exact q12) | (with_reducible exact akeep q12) | simp [*, go_sem]); replace f13 : w1.frozen? ⟨w.heap.size + 1 + 1, 2, none⟩ = false := bfree (v := .slice none 0 0) hb (by first | (with_reducible exact q13) | (with_reducible exact akeep q13) | simp [*, go_sem]) (by first | (with_reducible exact f13) | (with_reducible exact afree q13 f13) | simp [*, go_sem]); replace q13 : w1.cell? ⟨w.heap.size + 1 + 1, 2, none⟩ = some (.slice none 0 0) := bkeep hb (by first | (with_reducible exact q13) | (with_reducible exact akeep q13) | simp [*, go_sem]); skip
        clear hb
        go_wp2_with fail
        refine (ckSg_any HS.out).mono ?_
        rintro e w1 ⟨rfl, hb⟩
        replace hb0 := bnext (w := w) (by go_grown) hb; have hz := hb.size; (try simp only [World.size_alloc, World.size_setCell] at hz); replace q0 : w1.cell? ⟨w.heap.size, 0, none⟩ = some (.int .i64 lo) := bkeep hb (by first | (with_reducible exact q0) | (with_reducible exact akeep q0) | simp [*, go_sem]); replace q1 : w1.cell? ⟨w.heap.size, 1, none⟩ = some (.int .i64 hi) := bkeep hb (by first | (with_reducible exact q1) | (with_reducible exact akeep q1) | simp [*, go_sem]); replace q2 : w1.cell? ⟨w.heap.size, 2, none⟩ = some (.slice a n cap) := bkeep hb (by first | (with_reducible exact q2) | (with_reducible exact akeep q2) | simp [*, go_sem]); replace q3 : w1.cell? ⟨w.heap.size + 1, 0, none⟩ = some (.int .i64 sid) := bkeep hb (by first | (with_reducible exact q3) | (with_reducible exact akeep q3) | simp [*, go_sem]); replace q4 : w1.cell? ⟨w.heap.size + 1, 1, none⟩ = some (.int .i64 swl) := bkeep hb (by first | (with_reducible exact q4) | (with_reducible exact akeep q4) | simp [*, go_sem]); replace q5 : w1.cell? ⟨w.heap.size + 1, 2, none⟩ = some (.int .i64 swh) := bkeep hb (by first | (with_reducible exact q5) | (with_reducible exact akeep q5) | simp [*, go_sem]); replace q6 : w1.cell? ⟨w.heap.size + 1, 3, none⟩ = some (.int .i64 sbl) := bkeep hb (by first | (with_reducible exact q6) | (with_reducible exact akeep q6) | simp [*, go_sem]); replace q7 : w1.cell? ⟨w.heap.size + 1, 4, none⟩ = some (.int .i64 sbh) := bkeep hb (by first | (with_reducible exact q7) | (with_reducible exact akeep q7) | simp [*, go_sem]); replace q8 : w1.cell? ⟨w.heap.size + 1, 5, none⟩ = some (.int .i64 shl) := bkeep hb (by first | (with_reducible exact q8) | (with_reducible exact akeep q8) | simp [*, go_sem]); replace q9 : w1.cell? ⟨w.heap.size + 1, 6, none⟩ = some (.int .i64 shh) := bkeep hb (by first | (with_reducible exact q9) | (with_reducible exact akeep q9) | simp [*, go_sem]); replace q10 : w1.cell? ⟨w.heap.size + 1, 7, none⟩ = some (.int .i64 sti) := bkeep hb (by first | (with_reducible exact q10) | (with_reducible exact akeep q10) | simp [*, go_sem]); replace f11 : w1.frozen? ⟨w.heap.size + 1 + 1, 0, none⟩ = false := bfree (v := .int .i64 0) hb (by first | (with_reducible exact q11) | (with_reducible exact akeep q11) | simp [*, go_sem]) (by first | (with_reducible exact f11) | (with_reducible exact afree q11 f11) | simp [*, go_sem]); replace q11 : w1.cell? ⟨w.heap.size + 1 + 1, 0, none⟩ = some (.int .i64 0) := bkeep hb (by first | (with_reducible exact q11) | (with_reducible exact akeep q11) | simp [*, go_sem]); replace f12 : w1.frozen? ⟨w.heap.size + 1 + 1, 1, none⟩ = false := bfree (v := .int .i64 0) hb (by first | (with_reducible exact q12) | (with_reducible exact akeep q12) | simp [*, go_sem]) (by first | (with_reducible exact f12) | (with_reducible exact afree q12 f12) | simp [*, go_sem]); replace q12 : w1.cell? ⟨w.heap.size + 1 + 1, 1, none⟩ = some (.int .i64 0) := bkeep hb (by first | (with_reducible exact q12) | (with_reducible exact akeep q12) | simp [*, go_sem]); replace f13 : w1.frozen? ⟨w.heap.size + 1 + 1, 2, none⟩ = false := bfree (v := .slice none 0 0) hb (by first | (with_reducible exact q13) | (with_reducible exact akeep q13) | simp [*, go_sem]) (by first | (with_reducible exact f13) | (with_reducible exact afree q13 f13) | simp [*, go_sem]); replace q13 : w1.cell? ⟨w.heap.size + 1 + 1, 2, none⟩ = some (.slice none 0 0) := bkeep hb (by first | (with_reducible exact q13) | (with_reducible exact akeep q13) | simp [*, go_sem]); skip
        clear hb
        go_wp2_with fail
        exact bodyPost_ret (v := .tuple #[.agg #[.int .i64 0, .int .i64 0, .slice none 0 0], .int .i64 2]) (by simp [results, Try.results54, go_sem, *]) rfl ⟨_, rfl, by go_grown, rows8_nil _⟩
      · rw [if_neg hn30] at hr
        have hni : ¬ (n : Int) = 30 := by omega
        have hnb : ((n : Int) == 30) = false := beq_eq_false_iff_ne.mpr hni
        have HH : Hid (hasL l sid = b3) := hid h3
        clear h3 hn
        cases b3
        · rw [if_neg (by simp)] at hr
          subst hr
          go_enter Try.func54, Try.ntmps54
          go_wp2_with fail
          refine (ckBg_any (h.below (by go_grown)) HC.out).mono ?_
          rintro e w1 ⟨rfl, hb⟩
          replace hb0 := bnext (w := w) (by go_grown) hb; have hz := hb.size; (try simp only [World.size_alloc, World.size_setCell] at hz); replace q0 : w1.cell? ⟨w.heap.size, 0, none⟩ = some (.int .i64 lo) := bkeep hb (by first | (with_reducible exact q0) | (with_reducible exact akeep q0) | simp [*, go_sem]); replace q1 : w1.cell? ⟨w.heap.size, 1, none⟩ = some (.int .i64 hi) := bkeep hb (by first | (with_reducible exact q1) | (with_reducible exact akeep q1) | simp [*, go_sem]); replace q2 : w1.cell? ⟨w.heap.size, 2, none⟩ = some (.slice a n cap) := bkeep hb (by first | (with_reducible exact q2) | (with_reducible exact akeep q2) | simp [*, go_sem]); replace q3 : w1.cell? ⟨w.heap.size + 1, 0, none⟩ = some (.int .i64 sid) := bkeep hb (by first | (with_reducible exact q3) | (with_reducible exact akeep q3) | simp [*, go_sem]); replace q4 : w1.cell? ⟨w.heap.size + 1, 1, none⟩ = some (.int .i64 swl) := bkeep hb (by first | (with_reducible exact q4) | (with_reducible exact akeep q4) | simp [*, go_sem]); replace q5 : w1.cell? ⟨w.heap.size + 1, 2, none⟩ = some (.int .i64 swh) := bkeep hb (by first | (with_reducible exact q5) | (with_reducible exact akeep q5) | simp [*, go_sem]); replace q6 : w1.cell? ⟨w.heap.size + 1, 3, none⟩ = some (.int .i64 sbl) := bkeep hb (by first | (with_reducible exact q6) | (with_reducible exact akeep q6) | simp [*, go_sem]); replace q7 : w1.cell? ⟨w.heap.size + 1, 4, none⟩ = some (.int .i64 sbh) := bkeep hb (by first | (with_reducible exact q7) | (with_reducible exact akeep q7) | simp [*, go_sem]); replace q8 : w1.cell? ⟨w.heap.size + 1, 5, none⟩ = some (.int .i64 shl) := bkeep hb (by first | (with_reducible exact q8) | (with_reducible exact akeep q8) | simp [*, go_sem]); replace q9 : w1.cell? ⟨w.heap.size + 1, 6, none⟩ = some (.int .i64 shh) := bkeep hb (by first | (with_reducible exact q9) | (with_reducible exact akeep q9) | simp [*, go_sem]); replace q10 : w1.cell? ⟨w.heap.size + 1, 7, none⟩ = some (.int .i64 sti) := bkeep hb (by first | (with_reducible exact q10) | (with_reducible exact akeep q10) | simp [*, go_sem]); replace f11 : w1.frozen? ⟨w.heap.size + 1 + 1, 0, none⟩ = false := bfree (v := .int .i64 0) hb (by first | (with_reducible exact q11) | (with_reducible exact akeep q11) | simp [*, go_sem]) (by first | (with_reducible exact f11) | (with_reducible exact afree q11 f11) | simp [*, go_sem]); replace q11 : w1.cell? ⟨w.heap.size + 1 + 1, 0, none⟩ = some (.int .i64 0) := bkeep hb (by first | (with_reducible exact q11) | (with_reducible exact akeep q11) | simp [*, go_sem]); replace f12 : w1.frozen? ⟨w.heap.size + 1 + 1, 1, none⟩ = false := bfree (v := .int .i64 0) hb (by first | (with_reducible exact q12) | (with_reducible exact akeep q12) | simp [*, go_sem]) (by first | (with_reducible exact f12) | (with_reducible exact afree q12 f12) | simp [*, go_sem]); replace q12 : w1.cell? ⟨w.heap.size + 1 + 1, 1, none⟩ = some (.int .i64 0) := bkeep hb (by first | (with_reducible exact q12) | (with_reducible exact akeep q12) | simp [*, go_sem]); replace f13 : w1.frozen? ⟨w.heap.size + 1 + 1, 2, none⟩ = false := bfree (v := .slice none 0 0) hb (by first | (with_reducible exact q13) | (with_reducible exact akeep q13) | simp [*, go_sem]) (by first | (with_reducible exact f13) | (with_reducible exact afree q13 f13) | simp [*, go_sem]); replace q13 : w1.cell? ⟨w.heap.size + 1 + 1, 2, none⟩ = some (.slice none 0 0) := bkeep hb (by first | (with_reducible exact q13) | (with_reducible exact akeep q13) | simp [*, go_sem]); skip
          clear hb
          go_wp2_with fail
          refine (ckSg_any HS.out).mono ?_
          rintro e w1 ⟨rfl, hb⟩
          replace hb0 := bnext (w := w) (by go_grown) hb; have hz := hb.size; (try simp only [World.size_alloc, World.size_setCell] at hz); replace q0 : w1.cell? ⟨w.heap.size, 0, none⟩ = some (.int .i64 lo) := bkeep hb (by first | (with_reducible exact q0) | (with_reducible exact akeep q0) | simp [*, go_sem]); replace q1 : w1.cell? ⟨w.heap.size, 1, none⟩ = some (.int .i64 hi) := bkeep hb (by first | (with_reducible exact q1) | (with_reducible exact akeep q1) | simp [*, go_sem]); replace q2 : w1.cell? ⟨w.heap.size, 2, none⟩ = some (.slice a n cap) := bkeep hb (by first | (with_reducible exact q2) | (with_reducible exact akeep q2) | simp [*, go_sem]); replace q3 : w1.cell? ⟨w.heap.size + 1, 0, none⟩ = some (.int .i64 sid) := bkeep hb (by first | (with_reducible exact q3) | (with_reducible exact akeep q3) | simp [*, go_sem]); replace q4 : w1.cell? ⟨w.heap.size + 1, 1, none⟩ = some (.int .i64 swl) := bkeep hb (by first | (with_reducible exact q4) | (with_reducible exact akeep q4) | simp [*, go_sem]); replace q5 : w1.cell? ⟨w.heap.size + 1, 2, none⟩ = some (.int .i64 swh) := bkeep hb (by first | (with_reducible exact q5) | (with_reducible exact akeep q5) | simp [*, go_sem]); replace q6 : w1.cell? ⟨w.heap.size + 1, 3, none⟩ = some (.int .i64 sbl) := bkeep hb (by first | (with_reducible exact q6) | (with_reducible exact akeep q6) | simp [*, go_sem]); replace q7 : w1.cell? ⟨w.heap.size + 1, 4, none⟩ = some (.int .i64 sbh) := bkeep hb (by first | (with_reducible exact q7) | (with_reducible exact akeep q7) | simp [*, go_sem]); replace q8 : w1.cell? ⟨w.heap.size + 1, 5, none⟩ = some (.int .i64 shl) := bkeep hb (by first | (with_reducible exact q8) | (with_reducible exact akeep q8) | simp [*, go_sem]); replace q9 : w1.cell? ⟨w.heap.size + 1, 6, none⟩ = some (.int .i64 shh) := bkeep hb (by first | (with_reducible exact q9) | (with_reducible exact akeep q9) | simp [*, go_sem]); replace q10 : w1.cell? ⟨w.heap.size + 1, 7, none⟩ = some (.int .i64 sti) := bkeep hb (by first | (with_reducible exact q10) | (with_reducible exact akeep q10) | simp [*, go_sem]); replace f11 : w1.frozen? ⟨w.heap.size + 1 + 1, 0, none⟩ = false := bfree (v := .int .i64 0) hb (by first | (with_reducible exact q11) | (with_reducible exact akeep q11) | simp [*, go_sem]) (by first | (with_reducible exact f11) | (with_reducible exact afree q11 f11) | simp [*, go_sem]); replace q11 : w1.cell? ⟨w.heap.size + 1 + 1, 0, none⟩ = some (.int .i64 0) := bkeep hb (by first | (with_reducible exact q11) | (with_reducible exact akeep q11) | simp [*, go_sem]); replace f12 : w1.frozen? ⟨w.heap.size + 1 + 1, 1, none⟩ = false := bfree (v := .int .i64 0) hb (by first | (with_reducible exact q12) | (with_reducible exact akeep q12) | simp [*, go_sem]) (by first | (with_reducible exact f12) | (with_reducible exact afree q12 f12) | simp [*, go_sem]); replace q12 : w1.cell? ⟨w.heap.size + 1 + 1, 1, none⟩ = some (.int .i64 0) := bkeep hb (by first | (with_reducible exact q12) | (with_reducible exact akeep q12) | simp [*, go_sem]); replace f13 : w1.frozen? ⟨w.heap.size + 1 + 1, 2, none⟩ = false := bfree (v := .slice none 0 0) hb (by first | (with_reducible exact q13) | (with_reducible exact akeep q13) | simp [*, go_sem]) (by first | (with_reducible exact f13) | (with_reducible exact afree q13 f13) | simp [*, go_sem]); replace q13 : w1.cell? ⟨w.heap.size + 1 + 1, 2, none⟩ = some (.slice none 0 0) := bkeep hb (by first | (with_reducible exact q13) | (with_reducible exact akeep q13) | simp [*, go_sem]); skip
          clear hb
          go_wp2_with fail
          refine (hasId_any (h.below (by go_grown)) HH.out).mono ?_
          rintro e w1 ⟨rfl, hb⟩
          replace hb0 := bnext (w := w) (by go_grown) hb; have hz := hb.size; (try simp only [World.size_alloc, World.size_setCell] at hz); replace q0 : w1.cell? ⟨w.heap.size, 0, none⟩ = some (.int .i64 lo) := bkeep hb (by first | (with_reducible exact q0) | (with_reducible exact akeep q0) | simp [*, go_sem]); replace q1 : w1.cell? ⟨w.heap.size, 1, none⟩ = some (.int .i64 hi) := bkeep hb (by first | (with_reducible exact q1) | (with_reducible exact akeep q1) | simp [*, go_sem]); replace q2 : w1.cell? ⟨w.heap.size, 2, none⟩ = some (.slice a n cap) := bkeep hb (by first | (with_reducible exact q2) | (with_reducible exact akeep q2) | simp [*, go_sem]); replace q3 : w1.cell? ⟨w.heap.size + 1, 0, none⟩ = some (.int .i64 sid) := bkeep hb (by first | (with_reducible exact q3) | (with_reducible exact akeep q3) | simp [*, go_sem]); replace q4 : w1.cell? ⟨w.heap.size + 1, 1, none⟩ = some (.int .i64 swl) := bkeep hb (by first | (with_reducible exact q4) | (with_reducible exact akeep q4) | simp [*, go_sem]); replace q5 : w1.cell? ⟨w.heap.size + 1, 2, none⟩ = some (.int .i64 swh) := bkeep hb (by first | (with_reducible exact q5) | (with_reducible exact akeep q5) | simp [*, go_sem]); replace q6 : w1.cell? ⟨w.heap.size + 1, 3, none⟩ = some (.int .i64 sbl) := bkeep hb (by first | (with_reducible exact q6) | (with_reducible exact akeep q6) | simp [*, go_sem]); replace q7 : w1.cell? ⟨w.heap.size + 1, 4, none⟩ = some (.int .i64 sbh) := bkeep hb (by first | (with_reducible exact q7) | (with_reducible exact akeep q7) | simp [*, go_sem]); replace q8 : w1.cell? ⟨w.heap.size + 1, 5, none⟩ = some (.int .i64 shl) := bkeep hb (by first | (with_reducible exact q8) | (with_reducible exact akeep q8) | simp [*, go_sem]); replace q9 : w1.cell? ⟨w.heap.size + 1, 6, none⟩ = some (.int .i64 shh) := bkeep hb (by first | (with_reducible exact q9) | (with_reducible exact akeep q9) | simp [*, go_sem]); replace q10 : w1.cell? ⟨w.heap.size + 1, 7, none⟩ = some (.int .i64 sti) := bkeep hb (by first | (with_reducible exact q10) | (with_reducible exact akeep q10) | simp [*, go_sem]); replace f11 : w1.frozen? ⟨w.heap.size + 1 + 1, 0, none⟩ = false := bfree (v := .int .i64 0) hb (by first | (with_reducible exact q11) | (with_reducible exact akeep q11) | simp [*, go_sem]) (by first | (with_reducible exact f11) | (with_reducible exact afree q11 f11) | simp [*, go_sem]); replace q11 : w1.cell? ⟨w.heap.size + 1 + 1, 0, none⟩ = some (.int .i64 0) := bkeep hb (by first | (with_reducible exact q11) | (with_reducible exact akeep q11) | simp [*, go_sem]); replace f12 : w1.frozen? ⟨w.heap.size + 1 + 1, 1, none⟩ = false := bfree (v := .int .i64 0) hb (by first | (with_reducible exact q12) | (with_reducible exact akeep q12) | simp [*, go_sem]) (by first | (with_reducible exact f12) | (with_reducible exact afree q12 f12) | simp [*, go_sem]); replace q12 : w1.cell? ⟨w.heap.size + 1 + 1, 1, none⟩ = some (.int .i64 0) := bkeep hb (by first | (with_reducible exact q12) | (with_reducible exact akeep q12) | simp [*, go_sem]); replace f13 : w1.frozen? ⟨w.heap.size + 1 + 1, 2, none⟩ = false := bfree (v := .slice none 0 0) hb (by first | (with_reducible exact q13) | (with_reducible exact akeep q13) | simp [*, go_sem]) (by first | (with_reducible exact f13) | (with_reducible exact afree q13 f13) | simp [*, go_sem]); replace q13 : w1.cell? ⟨w.heap.size + 1 + 1, 2, none⟩ = some (.slice none 0 0) := bkeep hb (by first | (with_reducible exact q13) | (with_reducible exact akeep q13) | simp [*, go_sem]); skip
          clear hb
          obtain ⟨v2, hv2⟩ : ∃ v, v = w1 := ⟨_, rfl⟩
          subst hv2
          go_upto_region 11 with fail
          refine wp_region_G (fun V => V.cell? ⟨w.heap.size, 0, none⟩ = some (.int .i64 lo) ∧ V.cell? ⟨w.heap.size, 1, none⟩ = some (.int .i64 hi)) (fun V hV => ⟨bkeep hV q0, bkeep hV q1⟩) [0, 1] (by kernel_rfl) [(4, fun v W => W.ownsRow v2.heap.size 33 8 v n (l.flatMap cellsG)), (6, NewOne v2.heap.size [.int .i64 sid, .int .i64 swl, .int .i64 swh, .int .i64 sbl, .int .i64 sbh, .int .i64 shl, .int .i64 shh, .int .i64 sti])] [2, 3, 4, 5, 6] 4 (by kernel_rfl) rfl (by simp only [List.forall_mem_cons]; exact ⟨keeps_owns, keeps_one, fun _ h => by cases h⟩) (by kernel_rfl) ?_
          refine ⟨_, .pointer (some ⟨w.heap.size, 0, none⟩), rfl, ⟨rfl, fun V hV => by (try dsimp only at hV); go_simp⟩, ?_⟩
          simp only [Act.put, List.getElem_toArray, List.getElem_cons_succ, List.getElem_cons_zero, List.setIfInBounds_toArray, List.set_cons_succ, List.set_cons_zero]
          refine ⟨_, .agg #[.int .i64 lo, .int .i64 hi], rfl, ⟨rfl, fun V hV => by (try dsimp only at hV); obtain ⟨c0, c1⟩ := hV; go_simp⟩, ?_⟩
          simp only [Act.put, List.getElem_toArray, List.getElem_cons_succ, List.getElem_cons_zero, List.setIfInBounds_toArray, List.set_cons_succ, List.set_cons_zero]
          simp only [numbered, List.filterMap_cons, List.filterMap_nil, List.getElem?_toArray, List.getElem?_cons_succ, List.getElem?_cons_zero, Option.map_some]
          show wpS _ _ _ _ _ _ _ [(_, _), (_, _), (_, _), (_, _), (_, _)] _ _
          (refine wpS_quiet rfl rfl ?_; intro K hK inst hx; have s0 := fun x => (fun _ => bkeep (BQ.below x) q0) (hx x); have s1 := fun x => (fun _ => bkeep (BQ.below x) q1) (hx x); have s2 := fun x => (fun _ => bkeep (BQ.below x) q2) (hx x); have s3 := fun x => (fun _ => bkeep (BQ.below x) q3) (hx x); have s4 := fun x => (fun _ => bkeep (BQ.below x) q4) (hx x); have s5 := fun x => (fun _ => bkeep (BQ.below x) q5) (hx x); have s6 := fun x => (fun _ => bkeep (BQ.below x) q6) (hx x); have s7 := fun x => (fun _ => bkeep (BQ.below x) q7) (hx x); have s8 := fun x => (fun _ => bkeep (BQ.below x) q8) (hx x); have s9 := fun x => (fun _ => bkeep (BQ.below x) q9) (hx x); have s10 := fun x => (fun _ => bkeep (BQ.below x) q10) (hx x); go_big_quiet_op; (first | go_big_quiet_on | (refine ⟨_, fun _ => rfl, ?_⟩; go_big_quiet_on)); clear hx inst)
          (refine wpS_quiet rfl rfl ?_; intro K hK inst hx; have s0 := fun x => (fun _ => bkeep (BQ.below x) q0) (hx x); have s1 := fun x => (fun _ => bkeep (BQ.below x) q1) (hx x); have s2 := fun x => (fun _ => bkeep (BQ.below x) q2) (hx x); have s3 := fun x => (fun _ => bkeep (BQ.below x) q3) (hx x); have s4 := fun x => (fun _ => bkeep (BQ.below x) q4) (hx x); have s5 := fun x => (fun _ => bkeep (BQ.below x) q5) (hx x); have s6 := fun x => (fun _ => bkeep (BQ.below x) q6) (hx x); have s7 := fun x => (fun _ => bkeep (BQ.below x) q7) (hx x); have s8 := fun x => (fun _ => bkeep (BQ.below x) q8) (hx x); have s9 := fun x => (fun _ => bkeep (BQ.below x) q9) (hx x); have s10 := fun x => (fun _ => bkeep (BQ.below x) q10) (hx x); go_big_quiet_op; (first | go_big_quiet_on | (refine ⟨_, fun _ => rfl, ?_⟩; go_big_quiet_on)); clear hx inst)
          refine wpS_fresh rfl rfl (fun w' hb hF => ?_) ?_
          · change freshAt _ _ _ (fun v W => W.ownsRow v2.heap.size 33 8 v n (l.flatMap cellsG)) _; unfold freshAt; go_simp; exact (cloneG (l := l) (h.below (bnext (w := w) hb0 hb)) (by rw [HN.out]; omega)).mono (fun e W' ⟨v, he, hb', ho⟩ => ⟨v, he, hb', owns_base hb.size (by rw [HN.out] at ho; exact ho)⟩)
          intro v W hv; simp only [pOf, List.lookup_cons, Nat.reduceBEq, beq_self_eq_true] at hv; obtain ⟨ga, gc, rfl, -⟩ := owns_shape hv
          simp only [Act.put, List.setIfInBounds_toArray, List.set_cons_succ, List.set_cons_zero]
          (refine wpS_quiet rfl rfl ?_; intro K hK inst hx; have s0 := fun x => (fun _ => bkeep (BQ.below x) q0) (hx x); have s1 := fun x => (fun _ => bkeep (BQ.below x) q1) (hx x); have s2 := fun x => (fun _ => bkeep (BQ.below x) q2) (hx x); have s3 := fun x => (fun _ => bkeep (BQ.below x) q3) (hx x); have s4 := fun x => (fun _ => bkeep (BQ.below x) q4) (hx x); have s5 := fun x => (fun _ => bkeep (BQ.below x) q5) (hx x); have s6 := fun x => (fun _ => bkeep (BQ.below x) q6) (hx x); have s7 := fun x => (fun _ => bkeep (BQ.below x) q7) (hx x); have s8 := fun x => (fun _ => bkeep (BQ.below x) q8) (hx x); have s9 := fun x => (fun _ => bkeep (BQ.below x) q9) (hx x); have s10 := fun x => (fun _ => bkeep (BQ.below x) q10) (hx x); go_big_quiet_op; (first | go_big_quiet_on | (refine ⟨_, fun _ => rfl, ?_⟩; go_big_quiet_on)); clear hx inst)
          refine wpS_fresh rfl rfl (fun w' hb hF => ?_) ?_
          · change freshAt _ _ _ (NewOne v2.heap.size [.int .i64 sid, .int .i64 swl, .int .i64 swh, .int .i64 sbl, .int .i64 sbh, .int .i64 shl, .int .i64 shh, .int .i64 sti]) _; unfold freshAt; go_simp; exact one_of (cs := [.int .i64 sid, .int .i64 swl, .int .i64 swh, .int .i64 sbl, .int .i64 sbh, .int .i64 shl, .int .i64 shh, .int .i64 sti]) hb (Nat.le_refl _)
          intro v W hv; simp only [pOf, List.lookup_cons, Nat.reduceBEq, beq_self_eq_true] at hv; obtain ⟨B6, hB6, rfl, -⟩ := hv
          simp only [Act.put, List.setIfInBounds_toArray, List.set_cons_succ, List.set_cons_zero]
          refine wpS_nil ?_
          intro v4 hall
          have hb := hall.1
          have hz4 := hb.size
          have ho4 : v4.ownsRow v2.heap.size 33 8 _ n (l.flatMap cellsG) := hall.2 4 _ rfl
          have h6 : NewOne v2.heap.size [.int .i64 sid, .int .i64 swl, .int .i64 swh, .int .i64 sbl, .int .i64 sbh, .int .i64 shl, .int .i64 shh, .int .i64 sti] _ v4 := hall.2 6 _ rfl
          obtain ⟨B', hB', hv', hn'⟩ := h6
          obtain rfl : B6 = B' := by simpa using hv'
          clear hall
          have hz2v : w.heap.size + 1 + 1 < v2.heap.size := World.block_lt_of_cell? v2 ⟨w.heap.size + 1 + 1, 0, none⟩ q11
          replace f11 := bfree hb q11 f11
          replace f12 := bfree hb q12 f12
          replace f13 := bfree hb q13 f13
          replace q0 := bkeep hb q0
          replace q1 := bkeep hb q1
          replace q2 := bkeep hb q2
          replace q3 := bkeep hb q3
          replace q4 := bkeep hb q4
          replace q5 := bkeep hb q5
          replace q6 := bkeep hb q6
          replace q7 := bkeep hb q7
          replace q8 := bkeep hb q8
          replace q9 := bkeep hb q9
          replace q10 := bkeep hb q10
          replace q11 := bkeep hb q11
          replace q12 := bkeep hb q12
          replace q13 := bkeep hb q13
          have hB := bnext (w := w) hb0 hb
          have x4 : (fun V => V.cell? ⟨w.heap.size, 0, none⟩ = some (.int .i64 lo) ∧ V.cell? ⟨w.heap.size, 1, none⟩ = some (.int .i64 hi)) v4 := ⟨q0, q1⟩
          refine wpAnyC_op (r := 7) x4 (by kernel_rfl) rfl rfl (fun K hK => ?_)
          refine wp_append_own v4 (.tmp 35) (.tmp 37) 24 rfl v2.heap.size 33 i0 (.agg #[.int .i64 0, .int .i64 0, .int .i64 0, .int .i64 0, .int .i64 0, .int .i64 0, .int .i64 0, .int .i64 0]) 8 64 Try.underlying24 hi0 hz0 hz1 hz2 rfl (by decide) (.slice ga n gc) n _ rfl ho4 ⟨B6, 0, none⟩ 1 1 [.int .i64 sid, .int .i64 swl, .int .i64 swh, .int .i64 sbl, .int .i64 sbh, .int .i64 shl, .int .i64 shh, .int .i64 sti] rfl rfl (fun j u h => by rw [Go.WideShapes.add_plain, Nat.zero_add]; exact (hn' j u h).1) (one_cellsG (⟨sid, swl, swh, sbl, sbh, shl, shh, sti⟩ : Sg)) (by unfold maxLen; omega) (by omega) hb.size ?_
          intro v39 w5 ho5 hg5 hnil5
          refine hK _ _ ?_
          clear hK K hnil5
          obtain ⟨xa, xc, rfl, -⟩ := owns_shape ho5
          have hb5 : Below v2.heap.size v2 w5 := Pb.below_grown hb hg5 ho4 hb.size (Nat.le_refl _)
          have x5 : (fun V => V.cell? ⟨w.heap.size, 0, none⟩ = some (.int .i64 lo) ∧ V.cell? ⟨w.heap.size, 1, none⟩ = some (.int .i64 hi)) w5 := ⟨grown_kept hg5 x4.1 (fun e => by have h9 := (World.ownsRow.lt ho4 _ e.symm).1; omega), grown_kept hg5 x4.2 (fun e => by have h9 := (World.ownsRow.lt ho4 _ e.symm).1; omega)⟩
          have hB5 := bnext (w := w) hb0 hb5
          have yb : CellsAt v4 (w.heap.size + 1 + 1) [.int .i64 0, .int .i64 0, .slice none 0 0] := (fun o u hu => by match o, hu with | 0, hu => (injection hu with hu; subst hu; exact ⟨q11, f11⟩) | 1, hu => (injection hu with hu; subst hu; exact ⟨q12, f12⟩) | 2, hu => (injection hu with hu; subst hu; exact ⟨q13, f13⟩) | o + 3, hu => simp at hu)
          have hb45 : Below v2.heap.size v4 w5 := Pb.below_grown (Below.refl _ v4) hg5 ho4 hz4 (Nat.le_refl _)
          have yc := cells_low yb hb45 (by omega)
          have Q11 := (yc 0 _ rfl).1; have Q12 := (yc 1 _ rfl).1; have Q13 := (yc 2 _ rfl).1; have F11 := (yc 0 _ rfl).2; have F12 := (yc 1 _ rfl).2; have F13 := (yc 2 _ rfl).2
          have x5 : (fun V => V.cell? ⟨w.heap.size, 0, none⟩ = some (.int .i64 lo) ∧ V.cell? ⟨w.heap.size, 1, none⟩ = some (.int .i64 hi)) w5 := ⟨grown_kept hg5 x4.1 (fun e => by have h9 := (World.ownsRow.lt ho4 _ e.symm).1; omega), grown_kept hg5 x4.2 (fun e => by have h9 := (World.ownsRow.lt ho4 _ e.symm).1; omega)⟩
          have hB5 := bnext (w := w) hb0 hb5
          clear x4 hB hb hg5 ho4 hn' hz4 yb yc hb45 hb5 hb0 q0 q1 q2 q3 q4 q5 q6 q7 q8 q9 q10 q11 q12 q13 f11 f12 f13
          have y2 : CellsAt w5 (w.heap.size + 1 + 1) [.int .i64 0, .int .i64 0, .slice none 0 0] := (fun o u hu => by match o, hu with | 0, hu => (injection hu with hu; subst hu; exact ⟨Q11, F11⟩) | 1, hu => (injection hu with hu; subst hu; exact ⟨Q12, F12⟩) | 2, hu => (injection hu with hu; subst hu; exact ⟨Q13, F13⟩) | o + 3, hu => simp at hu)
          have q11 := Q11; have q12 := Q12; have q13 := Q13; have f11 := F11; have f12 := F12; have f13 := F13
          refine wpAnyC_op (r := 8) x5 (by kernel_rfl) rfl rfl (fun K hK => ?_)
          go_simp
          refine hK _ _ ?_; clear hK K
          refine wpAnyC_op (r := 9) x5 (by kernel_rfl) rfl rfl (fun K hK => ?_)
          go_simp
          refine hK _ _ ?_; clear hK K
          have x9 : (fun V => V.cell? ⟨w.heap.size, 0, none⟩ = some (.int .i64 lo) ∧ V.cell? ⟨w.heap.size, 1, none⟩ = some (.int .i64 hi)) (((w5.setCell ⟨w.heap.size + 1 + 1, 0, none⟩ (.int .i64 lo)).setCell ⟨w.heap.size + 1 + 1, 1, none⟩ (.int .i64 hi)).setCell ⟨w.heap.size + 1 + 1, 2, none⟩ (.slice xa (n + 1) xc)) := ⟨setc_block (setc_block (setc_block x5.1 (by omega)) (by omega)) (by omega), setc_block (setc_block (setc_block x5.2 (by omega)) (by omega)) (by omega)⟩
          refine wpAnyC_op (r := 10) x9 (by kernel_rfl) rfl rfl (fun K hK => ?_)
          go_simp
          refine hK _ _ ?_; clear hK K
          refine wpAnyC_end x9 (by kernel_rfl) ?_
          refine ⟨rfl, ?_⟩
          clear x5 x9
          have z1 := cells_store (o := 2) (u := .slice xa (n + 1) xc) (cells_store (o := 1) (u := .int .i64 hi) (cells_store (o := 0) (u := .int .i64 lo) y2))
          have hB9 : Below w.heap.size w _ := ((hB5.setCell (p := ⟨w.heap.size + 1 + 1, 0, none⟩) (by show w.heap.size ≤ w.heap.size + 1 + 1; omega) (.int .i64 lo)).setCell (p := ⟨w.heap.size + 1 + 1, 1, none⟩) (by show w.heap.size ≤ w.heap.size + 1 + 1; omega) (.int .i64 hi)).setCell (p := ⟨w.heap.size + 1 + 1, 2, none⟩) (by show w.heap.size ≤ w.heap.size + 1 + 1; omega) (.slice xa (n + 1) xc)
          have o9 := own_set (o := 2) (u := .slice xa (n + 1) xc) (own_set (o := 1) (u := .int .i64 hi) (own_set (o := 0) (u := .int .i64 lo) ho5 hz2v) hz2v) hz2v
          have r9 := rows_of_owns (l := l ++ [(⟨sid, swl, swh, sbl, sbh, shl, shh, sti⟩ : Sg)]) (by rw [List.length_append, HN.out, List.flatMap_append]; simpa [cellsG, rowG] using o9) (fun s hs => by rcases List.mem_append.1 hs with h | h; exact HI64.out s h; (rw [List.mem_singleton] at h); subst h; exact HSI.out)
          clear y2 ho5 o9 Q11 Q12 Q13 F11 F12 F13
          generalize World.setCell _ _ _ = v9 at *
          have d0 := (z1 0 _ rfl).1; have d1 := (z1 1 _ rfl).1; have d2 := (z1 2 _ rfl).1
          go_wp2_with fail
          exact bodyPost_ret (v := .tuple #[.agg #[.int .i64 lo, .int .i64 hi, .slice xa (n + 1) xc], .int .i64 0]) (by simp [results, Try.results54, go_sem, *]) rfl ⟨_, rfl, hB9, by rw [List.map_append] at r9; exact r9⟩
        · rw [if_pos rfl] at hr
          subst hr
          go_enter Try.func54, Try.ntmps54
          go_wp2_with fail
          refine (ckBg_any (h.below (by go_grown)) HC.out).mono ?_
          rintro e w1 ⟨rfl, hb⟩
          replace hb0 := bnext (w := w) (by go_grown) hb; have hz := hb.size; (try simp only [World.size_alloc, World.size_setCell] at hz); replace q0 : w1.cell? ⟨w.heap.size, 0, none⟩ = some (.int .i64 lo) := bkeep hb (by first | (with_reducible exact q0) | (with_reducible exact akeep q0) | simp [*, go_sem]); replace q1 : w1.cell? ⟨w.heap.size, 1, none⟩ = some (.int .i64 hi) := bkeep hb (by first | (with_reducible exact q1) | (with_reducible exact akeep q1) | simp [*, go_sem]); replace q2 : w1.cell? ⟨w.heap.size, 2, none⟩ = some (.slice a n cap) := bkeep hb (by first | (with_reducible exact q2) | (with_reducible exact akeep q2) | simp [*, go_sem]); replace q3 : w1.cell? ⟨w.heap.size + 1, 0, none⟩ = some (.int .i64 sid) := bkeep hb (by first | (with_reducible exact q3) | (with_reducible exact akeep q3) | simp [*, go_sem]); replace q4 : w1.cell? ⟨w.heap.size + 1, 1, none⟩ = some (.int .i64 swl) := bkeep hb (by first | (with_reducible exact q4) | (with_reducible exact akeep q4) | simp [*, go_sem]); replace q5 : w1.cell? ⟨w.heap.size + 1, 2, none⟩ = some (.int .i64 swh) := bkeep hb (by first | (with_reducible exact q5) | (with_reducible exact akeep q5) | simp [*, go_sem]); replace q6 : w1.cell? ⟨w.heap.size + 1, 3, none⟩ = some (.int .i64 sbl) := bkeep hb (by first | (with_reducible exact q6) | (with_reducible exact akeep q6) | simp [*, go_sem]); replace q7 : w1.cell? ⟨w.heap.size + 1, 4, none⟩ = some (.int .i64 sbh) := bkeep hb (by first | (with_reducible exact q7) | (with_reducible exact akeep q7) | simp [*, go_sem]); replace q8 : w1.cell? ⟨w.heap.size + 1, 5, none⟩ = some (.int .i64 shl) := bkeep hb (by first | (with_reducible exact q8) | (with_reducible exact akeep q8) | simp [*, go_sem]); replace q9 : w1.cell? ⟨w.heap.size + 1, 6, none⟩ = some (.int .i64 shh) := bkeep hb (by first | (with_reducible exact q9) | (with_reducible exact akeep q9) | simp [*, go_sem]); replace q10 : w1.cell? ⟨w.heap.size + 1, 7, none⟩ = some (.int .i64 sti) := bkeep hb (by first | (with_reducible exact q10) | (with_reducible exact akeep q10) | simp [*, go_sem]); replace f11 : w1.frozen? ⟨w.heap.size + 1 + 1, 0, none⟩ = false := bfree (v := .int .i64 0) hb (by first | (with_reducible exact q11) | (with_reducible exact akeep q11) | simp [*, go_sem]) (by first | (with_reducible exact f11) | (with_reducible exact afree q11 f11) | simp [*, go_sem]); replace q11 : w1.cell? ⟨w.heap.size + 1 + 1, 0, none⟩ = some (.int .i64 0) := bkeep hb (by first | (with_reducible exact q11) | (with_reducible exact akeep q11) | simp [*, go_sem]); replace f12 : w1.frozen? ⟨w.heap.size + 1 + 1, 1, none⟩ = false := bfree (v := .int .i64 0) hb (by first | (with_reducible exact q12) | (with_reducible exact akeep q12) | simp [*, go_sem]) (by first | (with_reducible exact f12) | (with_reducible exact afree q12 f12) | simp [*, go_sem]); replace q12 : w1.cell? ⟨w.heap.size + 1 + 1, 1, none⟩ = some (.int .i64 0) := bkeep hb (by first | (with_reducible exact q12) | (with_reducible exact akeep q12) | simp [*, go_sem]); replace f13 : w1.frozen? ⟨w.heap.size + 1 + 1, 2, none⟩ = false := bfree (v := .slice none 0 0) hb (by first | (with_reducible exact q13) | (with_reducible exact akeep q13) | simp [*, go_sem]) (by first | (with_reducible exact f13) | (with_reducible exact afree q13 f13) | simp [*, go_sem]); replace q13 : w1.cell? ⟨w.heap.size + 1 + 1, 2, none⟩ = some (.slice none 0 0) := bkeep hb (by first | (with_reducible exact q13) | (with_reducible exact akeep q13) | simp [*, go_sem]); skip
          clear hb
          go_wp2_with fail
          refine (ckSg_any HS.out).mono ?_
          rintro e w1 ⟨rfl, hb⟩
          replace hb0 := bnext (w := w) (by go_grown) hb; have hz := hb.size; (try simp only [World.size_alloc, World.size_setCell] at hz); replace q0 : w1.cell? ⟨w.heap.size, 0, none⟩ = some (.int .i64 lo) := bkeep hb (by first | (with_reducible exact q0) | (with_reducible exact akeep q0) | simp [*, go_sem]); replace q1 : w1.cell? ⟨w.heap.size, 1, none⟩ = some (.int .i64 hi) := bkeep hb (by first | (with_reducible exact q1) | (with_reducible exact akeep q1) | simp [*, go_sem]); replace q2 : w1.cell? ⟨w.heap.size, 2, none⟩ = some (.slice a n cap) := bkeep hb (by first | (with_reducible exact q2) | (with_reducible exact akeep q2) | simp [*, go_sem]); replace q3 : w1.cell? ⟨w.heap.size + 1, 0, none⟩ = some (.int .i64 sid) := bkeep hb (by first | (with_reducible exact q3) | (with_reducible exact akeep q3) | simp [*, go_sem]); replace q4 : w1.cell? ⟨w.heap.size + 1, 1, none⟩ = some (.int .i64 swl) := bkeep hb (by first | (with_reducible exact q4) | (with_reducible exact akeep q4) | simp [*, go_sem]); replace q5 : w1.cell? ⟨w.heap.size + 1, 2, none⟩ = some (.int .i64 swh) := bkeep hb (by first | (with_reducible exact q5) | (with_reducible exact akeep q5) | simp [*, go_sem]); replace q6 : w1.cell? ⟨w.heap.size + 1, 3, none⟩ = some (.int .i64 sbl) := bkeep hb (by first | (with_reducible exact q6) | (with_reducible exact akeep q6) | simp [*, go_sem]); replace q7 : w1.cell? ⟨w.heap.size + 1, 4, none⟩ = some (.int .i64 sbh) := bkeep hb (by first | (with_reducible exact q7) | (with_reducible exact akeep q7) | simp [*, go_sem]); replace q8 : w1.cell? ⟨w.heap.size + 1, 5, none⟩ = some (.int .i64 shl) := bkeep hb (by first | (with_reducible exact q8) | (with_reducible exact akeep q8) | simp [*, go_sem]); replace q9 : w1.cell? ⟨w.heap.size + 1, 6, none⟩ = some (.int .i64 shh) := bkeep hb (by first | (with_reducible exact q9) | (with_reducible exact akeep q9) | simp [*, go_sem]); replace q10 : w1.cell? ⟨w.heap.size + 1, 7, none⟩ = some (.int .i64 sti) := bkeep hb (by first | (with_reducible exact q10) | (with_reducible exact akeep q10) | simp [*, go_sem]); replace f11 : w1.frozen? ⟨w.heap.size + 1 + 1, 0, none⟩ = false := bfree (v := .int .i64 0) hb (by first | (with_reducible exact q11) | (with_reducible exact akeep q11) | simp [*, go_sem]) (by first | (with_reducible exact f11) | (with_reducible exact afree q11 f11) | simp [*, go_sem]); replace q11 : w1.cell? ⟨w.heap.size + 1 + 1, 0, none⟩ = some (.int .i64 0) := bkeep hb (by first | (with_reducible exact q11) | (with_reducible exact akeep q11) | simp [*, go_sem]); replace f12 : w1.frozen? ⟨w.heap.size + 1 + 1, 1, none⟩ = false := bfree (v := .int .i64 0) hb (by first | (with_reducible exact q12) | (with_reducible exact akeep q12) | simp [*, go_sem]) (by first | (with_reducible exact f12) | (with_reducible exact afree q12 f12) | simp [*, go_sem]); replace q12 : w1.cell? ⟨w.heap.size + 1 + 1, 1, none⟩ = some (.int .i64 0) := bkeep hb (by first | (with_reducible exact q12) | (with_reducible exact akeep q12) | simp [*, go_sem]); replace f13 : w1.frozen? ⟨w.heap.size + 1 + 1, 2, none⟩ = false := bfree (v := .slice none 0 0) hb (by first | (with_reducible exact q13) | (with_reducible exact akeep q13) | simp [*, go_sem]) (by first | (with_reducible exact f13) | (with_reducible exact afree q13 f13) | simp [*, go_sem]); replace q13 : w1.cell? ⟨w.heap.size + 1 + 1, 2, none⟩ = some (.slice none 0 0) := bkeep hb (by first | (with_reducible exact q13) | (with_reducible exact akeep q13) | simp [*, go_sem]); skip
          clear hb
          go_wp2_with fail
          refine (hasId_any (h.below (by go_grown)) HH.out).mono ?_
          rintro e w1 ⟨rfl, hb⟩
          replace hb0 := bnext (w := w) (by go_grown) hb; have hz := hb.size; (try simp only [World.size_alloc, World.size_setCell] at hz); replace q0 : w1.cell? ⟨w.heap.size, 0, none⟩ = some (.int .i64 lo) := bkeep hb (by first | (with_reducible exact q0) | (with_reducible exact akeep q0) | simp [*, go_sem]); replace q1 : w1.cell? ⟨w.heap.size, 1, none⟩ = some (.int .i64 hi) := bkeep hb (by first | (with_reducible exact q1) | (with_reducible exact akeep q1) | simp [*, go_sem]); replace q2 : w1.cell? ⟨w.heap.size, 2, none⟩ = some (.slice a n cap) := bkeep hb (by first | (with_reducible exact q2) | (with_reducible exact akeep q2) | simp [*, go_sem]); replace q3 : w1.cell? ⟨w.heap.size + 1, 0, none⟩ = some (.int .i64 sid) := bkeep hb (by first | (with_reducible exact q3) | (with_reducible exact akeep q3) | simp [*, go_sem]); replace q4 : w1.cell? ⟨w.heap.size + 1, 1, none⟩ = some (.int .i64 swl) := bkeep hb (by first | (with_reducible exact q4) | (with_reducible exact akeep q4) | simp [*, go_sem]); replace q5 : w1.cell? ⟨w.heap.size + 1, 2, none⟩ = some (.int .i64 swh) := bkeep hb (by first | (with_reducible exact q5) | (with_reducible exact akeep q5) | simp [*, go_sem]); replace q6 : w1.cell? ⟨w.heap.size + 1, 3, none⟩ = some (.int .i64 sbl) := bkeep hb (by first | (with_reducible exact q6) | (with_reducible exact akeep q6) | simp [*, go_sem]); replace q7 : w1.cell? ⟨w.heap.size + 1, 4, none⟩ = some (.int .i64 sbh) := bkeep hb (by first | (with_reducible exact q7) | (with_reducible exact akeep q7) | simp [*, go_sem]); replace q8 : w1.cell? ⟨w.heap.size + 1, 5, none⟩ = some (.int .i64 shl) := bkeep hb (by first | (with_reducible exact q8) | (with_reducible exact akeep q8) | simp [*, go_sem]); replace q9 : w1.cell? ⟨w.heap.size + 1, 6, none⟩ = some (.int .i64 shh) := bkeep hb (by first | (with_reducible exact q9) | (with_reducible exact akeep q9) | simp [*, go_sem]); replace q10 : w1.cell? ⟨w.heap.size + 1, 7, none⟩ = some (.int .i64 sti) := bkeep hb (by first | (with_reducible exact q10) | (with_reducible exact akeep q10) | simp [*, go_sem]); replace f11 : w1.frozen? ⟨w.heap.size + 1 + 1, 0, none⟩ = false := bfree (v := .int .i64 0) hb (by first | (with_reducible exact q11) | (with_reducible exact akeep q11) | simp [*, go_sem]) (by first | (with_reducible exact f11) | (with_reducible exact afree q11 f11) | simp [*, go_sem]); replace q11 : w1.cell? ⟨w.heap.size + 1 + 1, 0, none⟩ = some (.int .i64 0) := bkeep hb (by first | (with_reducible exact q11) | (with_reducible exact akeep q11) | simp [*, go_sem]); replace f12 : w1.frozen? ⟨w.heap.size + 1 + 1, 1, none⟩ = false := bfree (v := .int .i64 0) hb (by first | (with_reducible exact q12) | (with_reducible exact akeep q12) | simp [*, go_sem]) (by first | (with_reducible exact f12) | (with_reducible exact afree q12 f12) | simp [*, go_sem]); replace q12 : w1.cell? ⟨w.heap.size + 1 + 1, 1, none⟩ = some (.int .i64 0) := bkeep hb (by first | (with_reducible exact q12) | (with_reducible exact akeep q12) | simp [*, go_sem]); replace f13 : w1.frozen? ⟨w.heap.size + 1 + 1, 2, none⟩ = false := bfree (v := .slice none 0 0) hb (by first | (with_reducible exact q13) | (with_reducible exact akeep q13) | simp [*, go_sem]) (by first | (with_reducible exact f13) | (with_reducible exact afree q13 f13) | simp [*, go_sem]); replace q13 : w1.cell? ⟨w.heap.size + 1 + 1, 2, none⟩ = some (.slice none 0 0) := bkeep hb (by first | (with_reducible exact q13) | (with_reducible exact akeep q13) | simp [*, go_sem]); skip
          clear hb
          go_wp2_with fail
          exact bodyPost_ret (v := .tuple #[.agg #[.int .i64 0, .int .i64 0, .slice none 0 0], .int .i64 30]) (by simp [results, Try.results54, go_sem, *]) rfl ⟨_, rfl, by go_grown, rows8_nil _⟩

set_option maxRecDepth 100000 in
set_option maxHeartbeats 1000000 in
theorem rTopP {w : World} {v : Value} {l : List Sg} {lo hi sid swl swh sbl sbh shl shh sti : Int} {r : _} (h : RowsAt 8 w v (l.map rowG)) (hr : topA lo hi l (⟨sid, swl, swh, sbl, sbh, shl, shh, sti⟩ : Sg) = r) :
    Calls Try.prog 55 #[.agg #[.int .i64 lo, .int .i64 hi, v], .agg #[.int .i64 sid, .int .i64 swl, .int .i64 swh, .int .i64 sbl, .int .i64 sbh, .int .i64 shl, .int .i64 shh, .int .i64 sti]] w (BgRes r w) := by
  unfold BgRes
  obtain ⟨i0, hi0, hz0, hz1, hz2⟩ := info_parts Try.infoG
  have hlat := sg_lat h
  have hi64 := i64_rows h
  obtain ⟨a, cap, rfl, hll⟩ := h.shape
  simp only [List.length_map] at h hlat
  rw [List.length_map] at hll ⊢
  obtain ⟨n, hn⟩ : ∃ n, l.length = n := ⟨_, rfl⟩
  have HN : Hid (l.length = n) := hn
  obtain ⟨b1, h1⟩ : ∃ b, bungOk lo hi l = b := ⟨_, rfl⟩
  obtain ⟨b2, h2⟩ : ∃ b, sgOk (⟨sid, swl, swh, sbl, sbh, shl, shh, sti⟩ : Sg) = b := ⟨_, rfl⟩
  obtain ⟨b3, h3⟩ : ∃ b, hasL l sid = b := ⟨_, rfl⟩
  unfold topA at hr
  dsimp only at hr
  rw [h1, h2, h3] at hr
  have hcb : ckBg lo hi l = if b1 = true then 0 else 31 := by unfold ckBg; rw [h1]
  have hcs : ckSg (⟨sid, swl, swh, sbl, sbh, shl, shh, sti⟩ : Sg) = if b2 = true then 0 else 30 := by unfold ckSg; rw [h2]
  have HI64 : Hid (∀ s ∈ l, ∀ z ∈ rowG s, I64 z) := hid hi64
  rw [hn] at h hlat hll hr ⊢
  have HLT := hid hlat
  clear hi64 hlat
  cases b1
  · rw [if_neg (by simp)] at hr
    subst hr
    have HC : Hid (ckBg lo hi l = 31) := hid (hcb.trans (if_neg (by simp)))
    clear hcb hcs h1 h2 h3 hn
    go_enter Try.func55, Try.ntmps55
    go_wp2_with fail
    refine (rCkBg (h.below (by go_grown)) HC.out).mono ?_
    rintro e w1 ⟨rfl, hb⟩
    replace hb0 := bnext (w := w) (by go_grown) hb; have hz := hb.size; (try simp only [World.size_alloc, World.size_setCell] at hz); replace q0 : w1.cell? ⟨w.heap.size, 0, none⟩ = some (.int .i64 lo) := bkeep hb (by first | (with_reducible exact q0) | (with_reducible exact akeep q0) | simp [*, go_sem]); replace q1 : w1.cell? ⟨w.heap.size, 1, none⟩ = some (.int .i64 hi) := bkeep hb (by first | (with_reducible exact q1) | (with_reducible exact akeep q1) | simp [*, go_sem]); replace q2 : w1.cell? ⟨w.heap.size, 2, none⟩ = some (.slice a n cap) := bkeep hb (by first | (with_reducible exact q2) | (with_reducible exact akeep q2) | simp [*, go_sem]); replace q3 : w1.cell? ⟨w.heap.size + 1, 0, none⟩ = some (.int .i64 sid) := bkeep hb (by first | (with_reducible exact q3) | (with_reducible exact akeep q3) | simp [*, go_sem]); replace q4 : w1.cell? ⟨w.heap.size + 1, 1, none⟩ = some (.int .i64 swl) := bkeep hb (by first | (with_reducible exact q4) | (with_reducible exact akeep q4) | simp [*, go_sem]); replace q5 : w1.cell? ⟨w.heap.size + 1, 2, none⟩ = some (.int .i64 swh) := bkeep hb (by first | (with_reducible exact q5) | (with_reducible exact akeep q5) | simp [*, go_sem]); replace q6 : w1.cell? ⟨w.heap.size + 1, 3, none⟩ = some (.int .i64 sbl) := bkeep hb (by first | (with_reducible exact q6) | (with_reducible exact akeep q6) | simp [*, go_sem]); replace q7 : w1.cell? ⟨w.heap.size + 1, 4, none⟩ = some (.int .i64 sbh) := bkeep hb (by first | (with_reducible exact q7) | (with_reducible exact akeep q7) | simp [*, go_sem]); replace q8 : w1.cell? ⟨w.heap.size + 1, 5, none⟩ = some (.int .i64 shl) := bkeep hb (by first | (with_reducible exact q8) | (with_reducible exact akeep q8) | simp [*, go_sem]); replace q9 : w1.cell? ⟨w.heap.size + 1, 6, none⟩ = some (.int .i64 shh) := bkeep hb (by first | (with_reducible exact q9) | (with_reducible exact akeep q9) | simp [*, go_sem]); replace q10 : w1.cell? ⟨w.heap.size + 1, 7, none⟩ = some (.int .i64 sti) := bkeep hb (by first | (with_reducible exact q10) | (with_reducible exact akeep q10) | simp [*, go_sem]); replace f11 : w1.frozen? ⟨w.heap.size + 1 + 1, 0, none⟩ = false := bfree (v := .int .i64 0) hb (by first | (with_reducible exact q11) | (with_reducible exact akeep q11) | simp [*, go_sem]) (by first | (with_reducible exact f11) | (with_reducible exact afree q11 f11) | simp [*, go_sem]); replace q11 : w1.cell? ⟨w.heap.size + 1 + 1, 0, none⟩ = some (.int .i64 0) := bkeep hb (by first | (with_reducible exact q11) | (with_reducible exact akeep q11) | simp [*, go_sem]); replace f12 : w1.frozen? ⟨w.heap.size + 1 + 1, 1, none⟩ = false := bfree (v := .int .i64 0) hb (by first | (with_reducible exact q12) | (with_reducible exact akeep q12) | simp [*, go_sem]) (by first | (with_reducible exact f12) | (with_reducible exact afree q12 f12) | simp [*, go_sem]); replace q12 : w1.cell? ⟨w.heap.size + 1 + 1, 1, none⟩ = some (.int .i64 0) := bkeep hb (by first | (with_reducible exact q12) | (with_reducible exact akeep q12) | simp [*, go_sem]); replace f13 : w1.frozen? ⟨w.heap.size + 1 + 1, 2, none⟩ = false := bfree (v := .slice none 0 0) hb (by first | (with_reducible exact q13) | (with_reducible exact akeep q13) | simp [*, go_sem]) (by first | (with_reducible exact f13) | (with_reducible exact afree q13 f13) | simp [*, go_sem]); replace q13 : w1.cell? ⟨w.heap.size + 1 + 1, 2, none⟩ = some (.slice none 0 0) := bkeep hb (by first | (with_reducible exact q13) | (with_reducible exact akeep q13) | simp [*, go_sem]); skip
    clear hb
    go_wp2_with fail
    exact bodyPost_ret (v := .tuple #[.agg #[.int .i64 0, .int .i64 0, .slice none 0 0], .int .i64 31]) (by simp [results, Try.results55, go_sem, *]) rfl ⟨_, rfl, by go_grown, rows8_nil _⟩
  · rw [if_pos rfl] at hr
    have HC : Hid (ckBg lo hi l = 0) := hid (hcb.trans (if_pos rfl))
    have hl30 : n ≤ 30 := by rw [← hn]; exact bungOk_len h1
    clear hcb h1
    cases b2
    · rw [if_neg (by simp)] at hr
      subst hr
      have HS : Hid (ckSg (⟨sid, swl, swh, sbl, sbh, shl, shh, sti⟩ : Sg) = 30) := hid (hcs.trans (if_neg (by simp)))
      clear hcs h2 h3 hn
      go_enter Try.func55, Try.ntmps55
      go_wp2_with fail
      refine (rCkBg (h.below (by go_grown)) HC.out).mono ?_
      rintro e w1 ⟨rfl, hb⟩
      replace hb0 := bnext (w := w) (by go_grown) hb; have hz := hb.size; (try simp only [World.size_alloc, World.size_setCell] at hz); replace q0 : w1.cell? ⟨w.heap.size, 0, none⟩ = some (.int .i64 lo) := bkeep hb (by first | (with_reducible exact q0) | (with_reducible exact akeep q0) | simp [*, go_sem]); replace q1 : w1.cell? ⟨w.heap.size, 1, none⟩ = some (.int .i64 hi) := bkeep hb (by first | (with_reducible exact q1) | (with_reducible exact akeep q1) | simp [*, go_sem]); replace q2 : w1.cell? ⟨w.heap.size, 2, none⟩ = some (.slice a n cap) := bkeep hb (by first | (with_reducible exact q2) | (with_reducible exact akeep q2) | simp [*, go_sem]); replace q3 : w1.cell? ⟨w.heap.size + 1, 0, none⟩ = some (.int .i64 sid) := bkeep hb (by first | (with_reducible exact q3) | (with_reducible exact akeep q3) | simp [*, go_sem]); replace q4 : w1.cell? ⟨w.heap.size + 1, 1, none⟩ = some (.int .i64 swl) := bkeep hb (by first | (with_reducible exact q4) | (with_reducible exact akeep q4) | simp [*, go_sem]); replace q5 : w1.cell? ⟨w.heap.size + 1, 2, none⟩ = some (.int .i64 swh) := bkeep hb (by first | (with_reducible exact q5) | (with_reducible exact akeep q5) | simp [*, go_sem]); replace q6 : w1.cell? ⟨w.heap.size + 1, 3, none⟩ = some (.int .i64 sbl) := bkeep hb (by first | (with_reducible exact q6) | (with_reducible exact akeep q6) | simp [*, go_sem]); replace q7 : w1.cell? ⟨w.heap.size + 1, 4, none⟩ = some (.int .i64 sbh) := bkeep hb (by first | (with_reducible exact q7) | (with_reducible exact akeep q7) | simp [*, go_sem]); replace q8 : w1.cell? ⟨w.heap.size + 1, 5, none⟩ = some (.int .i64 shl) := bkeep hb (by first | (with_reducible exact q8) | (with_reducible exact akeep q8) | simp [*, go_sem]); replace q9 : w1.cell? ⟨w.heap.size + 1, 6, none⟩ = some (.int .i64 shh) := bkeep hb (by first | (with_reducible exact q9) | (with_reducible exact akeep q9) | simp [*, go_sem]); replace q10 : w1.cell? ⟨w.heap.size + 1, 7, none⟩ = some (.int .i64 sti) := bkeep hb (by first | (with_reducible exact q10) | (with_reducible exact akeep q10) | simp [*, go_sem]); replace f11 : w1.frozen? ⟨w.heap.size + 1 + 1, 0, none⟩ = false := bfree (v := .int .i64 0) hb (by first | (with_reducible exact q11) | (with_reducible exact akeep q11) | simp [*, go_sem]) (by first | (with_reducible exact f11) | (with_reducible exact afree q11 f11) | simp [*, go_sem]); replace q11 : w1.cell? ⟨w.heap.size + 1 + 1, 0, none⟩ = some (.int .i64 0) := bkeep hb (by first | (with_reducible exact q11) | (with_reducible exact akeep q11) | simp [*, go_sem]); replace f12 : w1.frozen? ⟨w.heap.size + 1 + 1, 1, none⟩ = false := bfree (v := .int .i64 0) hb (by first | (with_reducible exact q12) | (with_reducible exact akeep q12) | simp [*, go_sem]) (by first | (with_reducible exact f12) | (with_reducible exact afree q12 f12) | simp [*, go_sem]); replace q12 : w1.cell? ⟨w.heap.size + 1 + 1, 1, none⟩ = some (.int .i64 0) := bkeep hb (by first | (with_reducible exact q12) | (with_reducible exact akeep q12) | simp [*, go_sem]); replace f13 : w1.frozen? ⟨w.heap.size + 1 + 1, 2, none⟩ = false := bfree (v := .slice none 0 0) hb (by first | (with_reducible exact q13) | (with_reducible exact akeep q13) | simp [*, go_sem]) (by first | (with_reducible exact f13) | (with_reducible exact afree q13 f13) | simp [*, go_sem]); replace q13 : w1.cell? ⟨w.heap.size + 1 + 1, 2, none⟩ = some (.slice none 0 0) := bkeep hb (by first | (with_reducible exact q13) | (with_reducible exact akeep q13) | simp [*, go_sem]); skip
      clear hb
      go_wp2_with fail
      refine (rCkSg HS.out).mono ?_
      rintro e w1 ⟨rfl, hb⟩
      replace hb0 := bnext (w := w) (by go_grown) hb; have hz := hb.size; (try simp only [World.size_alloc, World.size_setCell] at hz); replace q0 : w1.cell? ⟨w.heap.size, 0, none⟩ = some (.int .i64 lo) := bkeep hb (by first | (with_reducible exact q0) | (with_reducible exact akeep q0) | simp [*, go_sem]); replace q1 : w1.cell? ⟨w.heap.size, 1, none⟩ = some (.int .i64 hi) := bkeep hb (by first | (with_reducible exact q1) | (with_reducible exact akeep q1) | simp [*, go_sem]); replace q2 : w1.cell? ⟨w.heap.size, 2, none⟩ = some (.slice a n cap) := bkeep hb (by first | (with_reducible exact q2) | (with_reducible exact akeep q2) | simp [*, go_sem]); replace q3 : w1.cell? ⟨w.heap.size + 1, 0, none⟩ = some (.int .i64 sid) := bkeep hb (by first | (with_reducible exact q3) | (with_reducible exact akeep q3) | simp [*, go_sem]); replace q4 : w1.cell? ⟨w.heap.size + 1, 1, none⟩ = some (.int .i64 swl) := bkeep hb (by first | (with_reducible exact q4) | (with_reducible exact akeep q4) | simp [*, go_sem]); replace q5 : w1.cell? ⟨w.heap.size + 1, 2, none⟩ = some (.int .i64 swh) := bkeep hb (by first | (with_reducible exact q5) | (with_reducible exact akeep q5) | simp [*, go_sem]); replace q6 : w1.cell? ⟨w.heap.size + 1, 3, none⟩ = some (.int .i64 sbl) := bkeep hb (by first | (with_reducible exact q6) | (with_reducible exact akeep q6) | simp [*, go_sem]); replace q7 : w1.cell? ⟨w.heap.size + 1, 4, none⟩ = some (.int .i64 sbh) := bkeep hb (by first | (with_reducible exact q7) | (with_reducible exact akeep q7) | simp [*, go_sem]); replace q8 : w1.cell? ⟨w.heap.size + 1, 5, none⟩ = some (.int .i64 shl) := bkeep hb (by first | (with_reducible exact q8) | (with_reducible exact akeep q8) | simp [*, go_sem]); replace q9 : w1.cell? ⟨w.heap.size + 1, 6, none⟩ = some (.int .i64 shh) := bkeep hb (by first | (with_reducible exact q9) | (with_reducible exact akeep q9) | simp [*, go_sem]); replace q10 : w1.cell? ⟨w.heap.size + 1, 7, none⟩ = some (.int .i64 sti) := bkeep hb (by first | (with_reducible exact q10) | (with_reducible exact akeep q10) | simp [*, go_sem]); replace f11 : w1.frozen? ⟨w.heap.size + 1 + 1, 0, none⟩ = false := bfree (v := .int .i64 0) hb (by first | (with_reducible exact q11) | (with_reducible exact akeep q11) | simp [*, go_sem]) (by first | (with_reducible exact f11) | (with_reducible exact afree q11 f11) | simp [*, go_sem]); replace q11 : w1.cell? ⟨w.heap.size + 1 + 1, 0, none⟩ = some (.int .i64 0) := bkeep hb (by first | (with_reducible exact q11) | (with_reducible exact akeep q11) | simp [*, go_sem]); replace f12 : w1.frozen? ⟨w.heap.size + 1 + 1, 1, none⟩ = false := bfree (v := .int .i64 0) hb (by first | (with_reducible exact q12) | (with_reducible exact akeep q12) | simp [*, go_sem]) (by first | (with_reducible exact f12) | (with_reducible exact afree q12 f12) | simp [*, go_sem]); replace q12 : w1.cell? ⟨w.heap.size + 1 + 1, 1, none⟩ = some (.int .i64 0) := bkeep hb (by first | (with_reducible exact q12) | (with_reducible exact akeep q12) | simp [*, go_sem]); replace f13 : w1.frozen? ⟨w.heap.size + 1 + 1, 2, none⟩ = false := bfree (v := .slice none 0 0) hb (by first | (with_reducible exact q13) | (with_reducible exact akeep q13) | simp [*, go_sem]) (by first | (with_reducible exact f13) | (with_reducible exact afree q13 f13) | simp [*, go_sem]); replace q13 : w1.cell? ⟨w.heap.size + 1 + 1, 2, none⟩ = some (.slice none 0 0) := bkeep hb (by first | (with_reducible exact q13) | (with_reducible exact akeep q13) | simp [*, go_sem]); skip
      clear hb
      go_wp2_with fail
      exact bodyPost_ret (v := .tuple #[.agg #[.int .i64 0, .int .i64 0, .slice none 0 0], .int .i64 30]) (by simp [results, Try.results55, go_sem, *]) rfl ⟨_, rfl, by go_grown, rows8_nil _⟩
    · rw [if_pos rfl] at hr
      have HS : Hid (ckSg (⟨sid, swl, swh, sbl, sbh, shl, shh, sti⟩ : Sg) = 0) := hid (hcs.trans (if_pos rfl))
      have HSI : Hid (∀ z ∈ rowG (⟨sid, swl, swh, sbl, sbh, shl, shh, sti⟩ : Sg), I64 z) := hid (sg_i64 h2)
      clear hcs h2
      by_cases hn30 : n = 30
      · rw [if_pos hn30] at hr
        subst hr
        have hni : (n : Int) = 30 := by omega
        have hnb : ((n : Int) == 30) = true := by rw [hni]; rfl
        have HN30 := hid hn30
        clear h3 hn hn30 hni
        go_enter Try.func55, Try.ntmps55
        go_wp2_with fail
        refine (rCkBg (h.below (by go_grown)) HC.out).mono ?_
        rintro e w1 ⟨rfl, hb⟩
        replace hb0 := bnext (w := w) (by go_grown) hb; have hz := hb.size; (try simp only [World.size_alloc, World.size_setCell] at hz); replace q0 : w1.cell? ⟨w.heap.size, 0, none⟩ = some (.int .i64 lo) := bkeep hb (by first | (with_reducible exact q0) | (with_reducible exact akeep q0) | simp [*, go_sem]); replace q1 : w1.cell? ⟨w.heap.size, 1, none⟩ = some (.int .i64 hi) := bkeep hb (by first | (with_reducible exact q1) | (with_reducible exact akeep q1) | simp [*, go_sem]); replace q2 : w1.cell? ⟨w.heap.size, 2, none⟩ = some (.slice a n cap) := bkeep hb (by first | (with_reducible exact q2) | (with_reducible exact akeep q2) | simp [*, go_sem]); replace q3 : w1.cell? ⟨w.heap.size + 1, 0, none⟩ = some (.int .i64 sid) := bkeep hb (by first | (with_reducible exact q3) | (with_reducible exact akeep q3) | simp [*, go_sem]); replace q4 : w1.cell? ⟨w.heap.size + 1, 1, none⟩ = some (.int .i64 swl) := bkeep hb (by first | (with_reducible exact q4) | (with_reducible exact akeep q4) | simp [*, go_sem]); replace q5 : w1.cell? ⟨w.heap.size + 1, 2, none⟩ = some (.int .i64 swh) := bkeep hb (by first | (with_reducible exact q5) | (with_reducible exact akeep q5) | simp [*, go_sem]); replace q6 : w1.cell? ⟨w.heap.size + 1, 3, none⟩ = some (.int .i64 sbl) := bkeep hb (by first | (with_reducible exact q6) | (with_reducible exact akeep q6) | simp [*, go_sem]); replace q7 : w1.cell? ⟨w.heap.size + 1, 4, none⟩ = some (.int .i64 sbh) := bkeep hb (by first | (with_reducible exact q7) | (with_reducible exact akeep q7) | simp [*, go_sem]); replace q8 : w1.cell? ⟨w.heap.size + 1, 5, none⟩ = some (.int .i64 shl) := bkeep hb (by first | (with_reducible exact q8) | (with_reducible exact akeep q8) | simp [*, go_sem]); replace q9 : w1.cell? ⟨w.heap.size + 1, 6, none⟩ = some (.int .i64 shh) := bkeep hb (by first | (with_reducible exact q9) | (with_reducible exact akeep q9) | simp [*, go_sem]); replace q10 : w1.cell? ⟨w.heap.size + 1, 7, none⟩ = some (.int .i64 sti) := bkeep hb (by first | (with_reducible exact q10) | (with_reducible exact akeep q10) | simp [*, go_sem]); replace f11 : w1.frozen? ⟨w.heap.size + 1 + 1, 0, none⟩ = false := bfree (v := .int .i64 0) hb (by first | (with_reducible exact q11) | (with_reducible exact akeep q11) | simp [*, go_sem]) (by first | (with_reducible exact f11) | (with_reducible exact afree q11 f11) | simp [*, go_sem]); replace q11 : w1.cell? ⟨w.heap.size + 1 + 1, 0, none⟩ = some (.int .i64 0) := bkeep hb (by first | (with_reducible exact q11) | (with_reducible exact akeep q11) | simp [*, go_sem]); replace f12 : w1.frozen? ⟨w.heap.size + 1 + 1, 1, none⟩ = false := bfree (v := .int .i64 0) hb (by first | (with_reducible exact q12) | (with_reducible exact akeep q12) | simp [*, go_sem]) (by first | (with_reducible exact f12) | (with_reducible exact afree q12 f12) | simp [*, go_sem]); replace q12 : w1.cell? ⟨w.heap.size + 1 + 1, 1, none⟩ = some (.int .i64 0) := bkeep hb (by first | (with_reducible exact q12) | (with_reducible exact akeep q12) | simp [*, go_sem]); replace f13 : w1.frozen? ⟨w.heap.size + 1 + 1, 2, none⟩ = false := bfree (v := .slice none 0 0) hb (by first | (with_reducible exact q13) | (with_reducible exact akeep q13) | simp [*, go_sem]) (by first | (with_reducible exact f13) | (with_reducible exact afree q13 f13) | simp [*, go_sem]); replace q13 : w1.cell? ⟨w.heap.size + 1 + 1, 2, none⟩ = some (.slice none 0 0) := bkeep hb (by first | (with_reducible exact q13) | (with_reducible exact akeep q13) | simp [*, go_sem]); skip
        clear hb
        go_wp2_with fail
        refine (rCkSg HS.out).mono ?_
        rintro e w1 ⟨rfl, hb⟩
        replace hb0 := bnext (w := w) (by go_grown) hb; have hz := hb.size; (try simp only [World.size_alloc, World.size_setCell] at hz); replace q0 : w1.cell? ⟨w.heap.size, 0, none⟩ = some (.int .i64 lo) := bkeep hb (by first | (with_reducible exact q0) | (with_reducible exact akeep q0) | simp [*, go_sem]); replace q1 : w1.cell? ⟨w.heap.size, 1, none⟩ = some (.int .i64 hi) := bkeep hb (by first | (with_reducible exact q1) | (with_reducible exact akeep q1) | simp [*, go_sem]); replace q2 : w1.cell? ⟨w.heap.size, 2, none⟩ = some (.slice a n cap) := bkeep hb (by first | (with_reducible exact q2) | (with_reducible exact akeep q2) | simp [*, go_sem]); replace q3 : w1.cell? ⟨w.heap.size + 1, 0, none⟩ = some (.int .i64 sid) := bkeep hb (by first | (with_reducible exact q3) | (with_reducible exact akeep q3) | simp [*, go_sem]); replace q4 : w1.cell? ⟨w.heap.size + 1, 1, none⟩ = some (.int .i64 swl) := bkeep hb (by first | (with_reducible exact q4) | (with_reducible exact akeep q4) | simp [*, go_sem]); replace q5 : w1.cell? ⟨w.heap.size + 1, 2, none⟩ = some (.int .i64 swh) := bkeep hb (by first | (with_reducible exact q5) | (with_reducible exact akeep q5) | simp [*, go_sem]); replace q6 : w1.cell? ⟨w.heap.size + 1, 3, none⟩ = some (.int .i64 sbl) := bkeep hb (by first | (with_reducible exact q6) | (with_reducible exact akeep q6) | simp [*, go_sem]); replace q7 : w1.cell? ⟨w.heap.size + 1, 4, none⟩ = some (.int .i64 sbh) := bkeep hb (by first | (with_reducible exact q7) | (with_reducible exact akeep q7) | simp [*, go_sem]); replace q8 : w1.cell? ⟨w.heap.size + 1, 5, none⟩ = some (.int .i64 shl) := bkeep hb (by first | (with_reducible exact q8) | (with_reducible exact akeep q8) | simp [*, go_sem]); replace q9 : w1.cell? ⟨w.heap.size + 1, 6, none⟩ = some (.int .i64 shh) := bkeep hb (by first | (with_reducible exact q9) | (with_reducible exact akeep q9) | simp [*, go_sem]); replace q10 : w1.cell? ⟨w.heap.size + 1, 7, none⟩ = some (.int .i64 sti) := bkeep hb (by first | (with_reducible exact q10) | (with_reducible exact akeep q10) | simp [*, go_sem]); replace f11 : w1.frozen? ⟨w.heap.size + 1 + 1, 0, none⟩ = false := bfree (v := .int .i64 0) hb (by first | (with_reducible exact q11) | (with_reducible exact akeep q11) | simp [*, go_sem]) (by first | (with_reducible exact f11) | (with_reducible exact afree q11 f11) | simp [*, go_sem]); replace q11 : w1.cell? ⟨w.heap.size + 1 + 1, 0, none⟩ = some (.int .i64 0) := bkeep hb (by first | (with_reducible exact q11) | (with_reducible exact akeep q11) | simp [*, go_sem]); replace f12 : w1.frozen? ⟨w.heap.size + 1 + 1, 1, none⟩ = false := bfree (v := .int .i64 0) hb (by first | (with_reducible exact q12) | (with_reducible exact akeep q12) | simp [*, go_sem]) (by first | (with_reducible exact f12) | (with_reducible exact afree q12 f12) | simp [*, go_sem]); replace q12 : w1.cell? ⟨w.heap.size + 1 + 1, 1, none⟩ = some (.int .i64 0) := bkeep hb (by first | (with_reducible exact q12) | (with_reducible exact akeep q12) | simp [*, go_sem]); replace f13 : w1.frozen? ⟨w.heap.size + 1 + 1, 2, none⟩ = false := bfree (v := .slice none 0 0) hb (by first | (with_reducible exact q13) | (with_reducible exact akeep q13) | simp [*, go_sem]) (by first | (with_reducible exact f13) | (with_reducible exact afree q13 f13) | simp [*, go_sem]); replace q13 : w1.cell? ⟨w.heap.size + 1 + 1, 2, none⟩ = some (.slice none 0 0) := bkeep hb (by first | (with_reducible exact q13) | (with_reducible exact akeep q13) | simp [*, go_sem]); skip
        clear hb
        go_wp2_with fail
        exact bodyPost_ret (v := .tuple #[.agg #[.int .i64 0, .int .i64 0, .slice none 0 0], .int .i64 2]) (by simp [results, Try.results55, go_sem, *]) rfl ⟨_, rfl, by go_grown, rows8_nil _⟩
      · rw [if_neg hn30] at hr
        have hni : ¬ (n : Int) = 30 := by omega
        have hnb : ((n : Int) == 30) = false := beq_eq_false_iff_ne.mpr hni
        have HH : Hid (hasL l sid = b3) := hid h3
        clear h3 hn
        cases b3
        · rw [if_neg (by simp)] at hr
          subst hr
          go_enter Try.func55, Try.ntmps55
          go_wp2_with fail
          refine (rCkBg (h.below (by go_grown)) HC.out).mono ?_
          rintro e w1 ⟨rfl, hb⟩
          replace hb0 := bnext (w := w) (by go_grown) hb; have hz := hb.size; (try simp only [World.size_alloc, World.size_setCell] at hz); replace q0 : w1.cell? ⟨w.heap.size, 0, none⟩ = some (.int .i64 lo) := bkeep hb (by first | (with_reducible exact q0) | (with_reducible exact akeep q0) | simp [*, go_sem]); replace q1 : w1.cell? ⟨w.heap.size, 1, none⟩ = some (.int .i64 hi) := bkeep hb (by first | (with_reducible exact q1) | (with_reducible exact akeep q1) | simp [*, go_sem]); replace q2 : w1.cell? ⟨w.heap.size, 2, none⟩ = some (.slice a n cap) := bkeep hb (by first | (with_reducible exact q2) | (with_reducible exact akeep q2) | simp [*, go_sem]); replace q3 : w1.cell? ⟨w.heap.size + 1, 0, none⟩ = some (.int .i64 sid) := bkeep hb (by first | (with_reducible exact q3) | (with_reducible exact akeep q3) | simp [*, go_sem]); replace q4 : w1.cell? ⟨w.heap.size + 1, 1, none⟩ = some (.int .i64 swl) := bkeep hb (by first | (with_reducible exact q4) | (with_reducible exact akeep q4) | simp [*, go_sem]); replace q5 : w1.cell? ⟨w.heap.size + 1, 2, none⟩ = some (.int .i64 swh) := bkeep hb (by first | (with_reducible exact q5) | (with_reducible exact akeep q5) | simp [*, go_sem]); replace q6 : w1.cell? ⟨w.heap.size + 1, 3, none⟩ = some (.int .i64 sbl) := bkeep hb (by first | (with_reducible exact q6) | (with_reducible exact akeep q6) | simp [*, go_sem]); replace q7 : w1.cell? ⟨w.heap.size + 1, 4, none⟩ = some (.int .i64 sbh) := bkeep hb (by first | (with_reducible exact q7) | (with_reducible exact akeep q7) | simp [*, go_sem]); replace q8 : w1.cell? ⟨w.heap.size + 1, 5, none⟩ = some (.int .i64 shl) := bkeep hb (by first | (with_reducible exact q8) | (with_reducible exact akeep q8) | simp [*, go_sem]); replace q9 : w1.cell? ⟨w.heap.size + 1, 6, none⟩ = some (.int .i64 shh) := bkeep hb (by first | (with_reducible exact q9) | (with_reducible exact akeep q9) | simp [*, go_sem]); replace q10 : w1.cell? ⟨w.heap.size + 1, 7, none⟩ = some (.int .i64 sti) := bkeep hb (by first | (with_reducible exact q10) | (with_reducible exact akeep q10) | simp [*, go_sem]); replace f11 : w1.frozen? ⟨w.heap.size + 1 + 1, 0, none⟩ = false := bfree (v := .int .i64 0) hb (by first | (with_reducible exact q11) | (with_reducible exact akeep q11) | simp [*, go_sem]) (by first | (with_reducible exact f11) | (with_reducible exact afree q11 f11) | simp [*, go_sem]); replace q11 : w1.cell? ⟨w.heap.size + 1 + 1, 0, none⟩ = some (.int .i64 0) := bkeep hb (by first | (with_reducible exact q11) | (with_reducible exact akeep q11) | simp [*, go_sem]); replace f12 : w1.frozen? ⟨w.heap.size + 1 + 1, 1, none⟩ = false := bfree (v := .int .i64 0) hb (by first | (with_reducible exact q12) | (with_reducible exact akeep q12) | simp [*, go_sem]) (by first | (with_reducible exact f12) | (with_reducible exact afree q12 f12) | simp [*, go_sem]); replace q12 : w1.cell? ⟨w.heap.size + 1 + 1, 1, none⟩ = some (.int .i64 0) := bkeep hb (by first | (with_reducible exact q12) | (with_reducible exact akeep q12) | simp [*, go_sem]); replace f13 : w1.frozen? ⟨w.heap.size + 1 + 1, 2, none⟩ = false := bfree (v := .slice none 0 0) hb (by first | (with_reducible exact q13) | (with_reducible exact akeep q13) | simp [*, go_sem]) (by first | (with_reducible exact f13) | (with_reducible exact afree q13 f13) | simp [*, go_sem]); replace q13 : w1.cell? ⟨w.heap.size + 1 + 1, 2, none⟩ = some (.slice none 0 0) := bkeep hb (by first | (with_reducible exact q13) | (with_reducible exact akeep q13) | simp [*, go_sem]); skip
          clear hb
          go_wp2_with fail
          refine (rCkSg HS.out).mono ?_
          rintro e w1 ⟨rfl, hb⟩
          replace hb0 := bnext (w := w) (by go_grown) hb; have hz := hb.size; (try simp only [World.size_alloc, World.size_setCell] at hz); replace q0 : w1.cell? ⟨w.heap.size, 0, none⟩ = some (.int .i64 lo) := bkeep hb (by first | (with_reducible exact q0) | (with_reducible exact akeep q0) | simp [*, go_sem]); replace q1 : w1.cell? ⟨w.heap.size, 1, none⟩ = some (.int .i64 hi) := bkeep hb (by first | (with_reducible exact q1) | (with_reducible exact akeep q1) | simp [*, go_sem]); replace q2 : w1.cell? ⟨w.heap.size, 2, none⟩ = some (.slice a n cap) := bkeep hb (by first | (with_reducible exact q2) | (with_reducible exact akeep q2) | simp [*, go_sem]); replace q3 : w1.cell? ⟨w.heap.size + 1, 0, none⟩ = some (.int .i64 sid) := bkeep hb (by first | (with_reducible exact q3) | (with_reducible exact akeep q3) | simp [*, go_sem]); replace q4 : w1.cell? ⟨w.heap.size + 1, 1, none⟩ = some (.int .i64 swl) := bkeep hb (by first | (with_reducible exact q4) | (with_reducible exact akeep q4) | simp [*, go_sem]); replace q5 : w1.cell? ⟨w.heap.size + 1, 2, none⟩ = some (.int .i64 swh) := bkeep hb (by first | (with_reducible exact q5) | (with_reducible exact akeep q5) | simp [*, go_sem]); replace q6 : w1.cell? ⟨w.heap.size + 1, 3, none⟩ = some (.int .i64 sbl) := bkeep hb (by first | (with_reducible exact q6) | (with_reducible exact akeep q6) | simp [*, go_sem]); replace q7 : w1.cell? ⟨w.heap.size + 1, 4, none⟩ = some (.int .i64 sbh) := bkeep hb (by first | (with_reducible exact q7) | (with_reducible exact akeep q7) | simp [*, go_sem]); replace q8 : w1.cell? ⟨w.heap.size + 1, 5, none⟩ = some (.int .i64 shl) := bkeep hb (by first | (with_reducible exact q8) | (with_reducible exact akeep q8) | simp [*, go_sem]); replace q9 : w1.cell? ⟨w.heap.size + 1, 6, none⟩ = some (.int .i64 shh) := bkeep hb (by first | (with_reducible exact q9) | (with_reducible exact akeep q9) | simp [*, go_sem]); replace q10 : w1.cell? ⟨w.heap.size + 1, 7, none⟩ = some (.int .i64 sti) := bkeep hb (by first | (with_reducible exact q10) | (with_reducible exact akeep q10) | simp [*, go_sem]); replace f11 : w1.frozen? ⟨w.heap.size + 1 + 1, 0, none⟩ = false := bfree (v := .int .i64 0) hb (by first | (with_reducible exact q11) | (with_reducible exact akeep q11) | simp [*, go_sem]) (by first | (with_reducible exact f11) | (with_reducible exact afree q11 f11) | simp [*, go_sem]); replace q11 : w1.cell? ⟨w.heap.size + 1 + 1, 0, none⟩ = some (.int .i64 0) := bkeep hb (by first | (with_reducible exact q11) | (with_reducible exact akeep q11) | simp [*, go_sem]); replace f12 : w1.frozen? ⟨w.heap.size + 1 + 1, 1, none⟩ = false := bfree (v := .int .i64 0) hb (by first | (with_reducible exact q12) | (with_reducible exact akeep q12) | simp [*, go_sem]) (by first | (with_reducible exact f12) | (with_reducible exact afree q12 f12) | simp [*, go_sem]); replace q12 : w1.cell? ⟨w.heap.size + 1 + 1, 1, none⟩ = some (.int .i64 0) := bkeep hb (by first | (with_reducible exact q12) | (with_reducible exact akeep q12) | simp [*, go_sem]); replace f13 : w1.frozen? ⟨w.heap.size + 1 + 1, 2, none⟩ = false := bfree (v := .slice none 0 0) hb (by first | (with_reducible exact q13) | (with_reducible exact akeep q13) | simp [*, go_sem]) (by first | (with_reducible exact f13) | (with_reducible exact afree q13 f13) | simp [*, go_sem]); replace q13 : w1.cell? ⟨w.heap.size + 1 + 1, 2, none⟩ = some (.slice none 0 0) := bkeep hb (by first | (with_reducible exact q13) | (with_reducible exact akeep q13) | simp [*, go_sem]); skip
          clear hb
          go_wp2_with fail
          refine (rHas_any (h.below (by go_grown)) HH.out).mono ?_
          rintro e w1 ⟨rfl, hb⟩
          replace hb0 := bnext (w := w) (by go_grown) hb; have hz := hb.size; (try simp only [World.size_alloc, World.size_setCell] at hz); replace q0 : w1.cell? ⟨w.heap.size, 0, none⟩ = some (.int .i64 lo) := bkeep hb (by first | (with_reducible exact q0) | (with_reducible exact akeep q0) | simp [*, go_sem]); replace q1 : w1.cell? ⟨w.heap.size, 1, none⟩ = some (.int .i64 hi) := bkeep hb (by first | (with_reducible exact q1) | (with_reducible exact akeep q1) | simp [*, go_sem]); replace q2 : w1.cell? ⟨w.heap.size, 2, none⟩ = some (.slice a n cap) := bkeep hb (by first | (with_reducible exact q2) | (with_reducible exact akeep q2) | simp [*, go_sem]); replace q3 : w1.cell? ⟨w.heap.size + 1, 0, none⟩ = some (.int .i64 sid) := bkeep hb (by first | (with_reducible exact q3) | (with_reducible exact akeep q3) | simp [*, go_sem]); replace q4 : w1.cell? ⟨w.heap.size + 1, 1, none⟩ = some (.int .i64 swl) := bkeep hb (by first | (with_reducible exact q4) | (with_reducible exact akeep q4) | simp [*, go_sem]); replace q5 : w1.cell? ⟨w.heap.size + 1, 2, none⟩ = some (.int .i64 swh) := bkeep hb (by first | (with_reducible exact q5) | (with_reducible exact akeep q5) | simp [*, go_sem]); replace q6 : w1.cell? ⟨w.heap.size + 1, 3, none⟩ = some (.int .i64 sbl) := bkeep hb (by first | (with_reducible exact q6) | (with_reducible exact akeep q6) | simp [*, go_sem]); replace q7 : w1.cell? ⟨w.heap.size + 1, 4, none⟩ = some (.int .i64 sbh) := bkeep hb (by first | (with_reducible exact q7) | (with_reducible exact akeep q7) | simp [*, go_sem]); replace q8 : w1.cell? ⟨w.heap.size + 1, 5, none⟩ = some (.int .i64 shl) := bkeep hb (by first | (with_reducible exact q8) | (with_reducible exact akeep q8) | simp [*, go_sem]); replace q9 : w1.cell? ⟨w.heap.size + 1, 6, none⟩ = some (.int .i64 shh) := bkeep hb (by first | (with_reducible exact q9) | (with_reducible exact akeep q9) | simp [*, go_sem]); replace q10 : w1.cell? ⟨w.heap.size + 1, 7, none⟩ = some (.int .i64 sti) := bkeep hb (by first | (with_reducible exact q10) | (with_reducible exact akeep q10) | simp [*, go_sem]); replace f11 : w1.frozen? ⟨w.heap.size + 1 + 1, 0, none⟩ = false := bfree (v := .int .i64 0) hb (by first | (with_reducible exact q11) | (with_reducible exact akeep q11) | simp [*, go_sem]) (by first | (with_reducible exact f11) | (with_reducible exact afree q11 f11) | simp [*, go_sem]); replace q11 : w1.cell? ⟨w.heap.size + 1 + 1, 0, none⟩ = some (.int .i64 0) := bkeep hb (by first | (with_reducible exact q11) | (with_reducible exact akeep q11) | simp [*, go_sem]); replace f12 : w1.frozen? ⟨w.heap.size + 1 + 1, 1, none⟩ = false := bfree (v := .int .i64 0) hb (by first | (with_reducible exact q12) | (with_reducible exact akeep q12) | simp [*, go_sem]) (by first | (with_reducible exact f12) | (with_reducible exact afree q12 f12) | simp [*, go_sem]); replace q12 : w1.cell? ⟨w.heap.size + 1 + 1, 1, none⟩ = some (.int .i64 0) := bkeep hb (by first | (with_reducible exact q12) | (with_reducible exact akeep q12) | simp [*, go_sem]); replace f13 : w1.frozen? ⟨w.heap.size + 1 + 1, 2, none⟩ = false := bfree (v := .slice none 0 0) hb (by first | (with_reducible exact q13) | (with_reducible exact akeep q13) | simp [*, go_sem]) (by first | (with_reducible exact f13) | (with_reducible exact afree q13 f13) | simp [*, go_sem]); replace q13 : w1.cell? ⟨w.heap.size + 1 + 1, 2, none⟩ = some (.slice none 0 0) := bkeep hb (by first | (with_reducible exact q13) | (with_reducible exact akeep q13) | simp [*, go_sem]); skip
          clear hb
          obtain ⟨v2, hv2⟩ : ∃ v, v = w1 := ⟨_, rfl⟩
          subst hv2
          go_upto_region 9 with fail
          refine wp_region_G (fun V => V.cell? ⟨w.heap.size, 0, none⟩ = some (.int .i64 lo) ∧ V.cell? ⟨w.heap.size, 1, none⟩ = some (.int .i64 hi)) (fun V hV => ⟨bkeep hV q0, bkeep hV q1⟩) [0, 1] (by kernel_rfl) [(2, NewEmpty v2.heap.size 33), (5, fun v W => W.ownsRow v2.heap.size 33 8 v n (l.flatMap cellsG)), (7, NewOne v2.heap.size [.int .i64 sid, .int .i64 swl, .int .i64 swh, .int .i64 sbl, .int .i64 sbh, .int .i64 shl, .int .i64 shh, .int .i64 sti])] [2, 3, 4, 5, 6, 7] 4 (by kernel_rfl) rfl (by simp only [List.forall_mem_cons]; exact ⟨keeps_empty, keeps_owns, keeps_one, fun _ h => by cases h⟩) (by kernel_rfl) ?_
          refine ⟨_, .pointer (some ⟨w.heap.size, 0, none⟩), rfl, ⟨rfl, fun V hV => by (try dsimp only at hV); go_simp⟩, ?_⟩
          simp only [Act.put, List.getElem_toArray, List.getElem_cons_succ, List.getElem_cons_zero, List.setIfInBounds_toArray, List.set_cons_succ, List.set_cons_zero]
          refine ⟨_, .agg #[.int .i64 lo, .int .i64 hi], rfl, ⟨rfl, fun V hV => by (try dsimp only at hV); obtain ⟨c0, c1⟩ := hV; go_simp⟩, ?_⟩
          simp only [Act.put, List.getElem_toArray, List.getElem_cons_succ, List.getElem_cons_zero, List.setIfInBounds_toArray, List.set_cons_succ, List.set_cons_zero]
          simp only [numbered, List.filterMap_cons, List.filterMap_nil, List.getElem?_toArray, List.getElem?_cons_succ, List.getElem?_cons_zero, Option.map_some]
          show wpS _ _ _ _ _ _ _ [(_, _), (_, _), (_, _), (_, _), (_, _), (_, _)] _ _
          refine wpS_fresh rfl rfl (fun w' hb hF => ?_) ?_
          · change freshAt _ _ _ (NewEmpty v2.heap.size 33) _; unfold freshAt; go_simp; exact empty_of hb
          intro v W hv; simp only [pOf, List.lookup_cons, Nat.reduceBEq, beq_self_eq_true] at hv; have hv0 := hv; obtain ⟨B0, hB0, rfl, -⟩ := hv
          simp only [Act.put, List.setIfInBounds_toArray, List.set_cons_succ, List.set_cons_zero]
          (refine wpS_quiet rfl rfl ?_; intro K hK inst hx; have s0 := fun x => (fun _ => bkeep (BQ.below x) q0) (hx x); have s1 := fun x => (fun _ => bkeep (BQ.below x) q1) (hx x); have s2 := fun x => (fun _ => bkeep (BQ.below x) q2) (hx x); have s3 := fun x => (fun _ => bkeep (BQ.below x) q3) (hx x); have s4 := fun x => (fun _ => bkeep (BQ.below x) q4) (hx x); have s5 := fun x => (fun _ => bkeep (BQ.below x) q5) (hx x); have s6 := fun x => (fun _ => bkeep (BQ.below x) q6) (hx x); have s7 := fun x => (fun _ => bkeep (BQ.below x) q7) (hx x); have s8 := fun x => (fun _ => bkeep (BQ.below x) q8) (hx x); have s9 := fun x => (fun _ => bkeep (BQ.below x) q9) (hx x); have s10 := fun x => (fun _ => bkeep (BQ.below x) q10) (hx x); go_big_quiet_op; (first | go_big_quiet_on | (refine ⟨_, fun _ => rfl, ?_⟩; go_big_quiet_on)); clear hx inst)
          (refine wpS_quiet rfl rfl ?_; intro K hK inst hx; have s0 := fun x => (fun _ => bkeep (BQ.below x) q0) (hx x); have s1 := fun x => (fun _ => bkeep (BQ.below x) q1) (hx x); have s2 := fun x => (fun _ => bkeep (BQ.below x) q2) (hx x); have s3 := fun x => (fun _ => bkeep (BQ.below x) q3) (hx x); have s4 := fun x => (fun _ => bkeep (BQ.below x) q4) (hx x); have s5 := fun x => (fun _ => bkeep (BQ.below x) q5) (hx x); have s6 := fun x => (fun _ => bkeep (BQ.below x) q6) (hx x); have s7 := fun x => (fun _ => bkeep (BQ.below x) q7) (hx x); have s8 := fun x => (fun _ => bkeep (BQ.below x) q8) (hx x); have s9 := fun x => (fun _ => bkeep (BQ.below x) q9) (hx x); have s10 := fun x => (fun _ => bkeep (BQ.below x) q10) (hx x); go_big_quiet_op; (first | go_big_quiet_on | (refine ⟨_, fun _ => rfl, ?_⟩; go_big_quiet_on)); clear hx inst)
          refine wpS_fresh rfl rfl (fun w' hb hF => ?_) ?_
          · change freshAt _ _ _ (fun v W => W.ownsRow v2.heap.size 33 8 v n (l.flatMap cellsG)) _; have h0 : NewEmpty v2.heap.size 33 _ w' := hF 2 _ rfl (by kernel_rfl); exact fresh_append_lat (.tmp 27) (.tmp 29) 24 rfl v2.heap.size 33 i0 (.agg #[.int .i64 0, .int .i64 0, .int .i64 0, .int .i64 0, .int .i64 0, .int .i64 0, .int .i64 0, .int .i64 0]) 8 64 Try.underlying24 hi0 hz0 hz1 hz2 rfl (by decide) (.slice (some ⟨B0, 0, none⟩) 0 0) rfl h0 (.slice a n cap) n _ rfl (HLT.out.below (bnext (w := w) hb0 hb)) (by unfold maxLen; omega) (by omega) hb.size
          intro v W hv; simp only [pOf, List.lookup_cons, Nat.reduceBEq, beq_self_eq_true] at hv; obtain ⟨ga, gc, rfl, -⟩ := owns_shape hv
          simp only [Act.put, List.setIfInBounds_toArray, List.set_cons_succ, List.set_cons_zero]
          (refine wpS_quiet rfl rfl ?_; intro K hK inst hx; have s0 := fun x => (fun _ => bkeep (BQ.below x) q0) (hx x); have s1 := fun x => (fun _ => bkeep (BQ.below x) q1) (hx x); have s2 := fun x => (fun _ => bkeep (BQ.below x) q2) (hx x); have s3 := fun x => (fun _ => bkeep (BQ.below x) q3) (hx x); have s4 := fun x => (fun _ => bkeep (BQ.below x) q4) (hx x); have s5 := fun x => (fun _ => bkeep (BQ.below x) q5) (hx x); have s6 := fun x => (fun _ => bkeep (BQ.below x) q6) (hx x); have s7 := fun x => (fun _ => bkeep (BQ.below x) q7) (hx x); have s8 := fun x => (fun _ => bkeep (BQ.below x) q8) (hx x); have s9 := fun x => (fun _ => bkeep (BQ.below x) q9) (hx x); have s10 := fun x => (fun _ => bkeep (BQ.below x) q10) (hx x); go_big_quiet_op; (first | go_big_quiet_on | (refine ⟨_, fun _ => rfl, ?_⟩; go_big_quiet_on)); clear hx inst)
          refine wpS_fresh rfl rfl (fun w' hb hF => ?_) ?_
          · change freshAt _ _ _ (NewOne v2.heap.size [.int .i64 sid, .int .i64 swl, .int .i64 swh, .int .i64 sbl, .int .i64 sbh, .int .i64 shl, .int .i64 shh, .int .i64 sti]) _; unfold freshAt; go_simp; exact one_of (cs := [.int .i64 sid, .int .i64 swl, .int .i64 swh, .int .i64 sbl, .int .i64 sbh, .int .i64 shl, .int .i64 shh, .int .i64 sti]) hb (Nat.le_refl _)
          intro v W hv; simp only [pOf, List.lookup_cons, Nat.reduceBEq, beq_self_eq_true] at hv; obtain ⟨B6, hB6, rfl, -⟩ := hv
          simp only [Act.put, List.setIfInBounds_toArray, List.set_cons_succ, List.set_cons_zero]
          refine wpS_nil ?_
          intro v4 hall
          have hb := hall.1
          have hz4 := hb.size
          have ho4 : v4.ownsRow v2.heap.size 33 8 _ n (l.flatMap cellsG) := hall.2 5 _ rfl
          have h6 : NewOne v2.heap.size [.int .i64 sid, .int .i64 swl, .int .i64 swh, .int .i64 sbl, .int .i64 sbh, .int .i64 shl, .int .i64 shh, .int .i64 sti] _ v4 := hall.2 7 _ rfl
          obtain ⟨B', hB', hv', hn'⟩ := h6
          obtain rfl : B6 = B' := by simpa using hv'
          clear hall
          have hz2v : w.heap.size + 1 + 1 < v2.heap.size := World.block_lt_of_cell? v2 ⟨w.heap.size + 1 + 1, 0, none⟩ q11
          replace f11 := bfree hb q11 f11
          replace f12 := bfree hb q12 f12
          replace f13 := bfree hb q13 f13
          replace q0 := bkeep hb q0
          replace q1 := bkeep hb q1
          replace q2 := bkeep hb q2
          replace q3 := bkeep hb q3
          replace q4 := bkeep hb q4
          replace q5 := bkeep hb q5
          replace q6 := bkeep hb q6
          replace q7 := bkeep hb q7
          replace q8 := bkeep hb q8
          replace q9 := bkeep hb q9
          replace q10 := bkeep hb q10
          replace q11 := bkeep hb q11
          replace q12 := bkeep hb q12
          replace q13 := bkeep hb q13
          have hB := bnext (w := w) hb0 hb
          have x4 : (fun V => V.cell? ⟨w.heap.size, 0, none⟩ = some (.int .i64 lo) ∧ V.cell? ⟨w.heap.size, 1, none⟩ = some (.int .i64 hi)) v4 := ⟨q0, q1⟩
          refine wpAnyC_op (r := 8) x4 (by kernel_rfl) rfl rfl (fun K hK => ?_)
          refine wp_append_own v4 (.tmp 30) (.tmp 32) 24 rfl v2.heap.size 33 i0 (.agg #[.int .i64 0, .int .i64 0, .int .i64 0, .int .i64 0, .int .i64 0, .int .i64 0, .int .i64 0, .int .i64 0]) 8 64 Try.underlying24 hi0 hz0 hz1 hz2 rfl (by decide) (.slice ga n gc) n _ rfl ho4 ⟨B6, 0, none⟩ 1 1 [.int .i64 sid, .int .i64 swl, .int .i64 swh, .int .i64 sbl, .int .i64 sbh, .int .i64 shl, .int .i64 shh, .int .i64 sti] rfl rfl (fun j u h => by rw [Go.WideShapes.add_plain, Nat.zero_add]; exact (hn' j u h).1) (one_cellsG (⟨sid, swl, swh, sbl, sbh, shl, shh, sti⟩ : Sg)) (by unfold maxLen; omega) (by omega) hb.size ?_
          intro v39 w5 ho5 hg5 hnil5
          refine hK _ _ ?_
          clear hK K hnil5
          obtain ⟨xa, xc, rfl, -⟩ := owns_shape ho5
          have hb5 : Below v2.heap.size v2 w5 := Pb.below_grown hb hg5 ho4 hb.size (Nat.le_refl _)
          have x5 : (fun V => V.cell? ⟨w.heap.size, 0, none⟩ = some (.int .i64 lo) ∧ V.cell? ⟨w.heap.size, 1, none⟩ = some (.int .i64 hi)) w5 := ⟨grown_kept hg5 x4.1 (fun e => by have h9 := (World.ownsRow.lt ho4 _ e.symm).1; omega), grown_kept hg5 x4.2 (fun e => by have h9 := (World.ownsRow.lt ho4 _ e.symm).1; omega)⟩
          have hB5 := bnext (w := w) hb0 hb5
          have yb : CellsAt v4 (w.heap.size + 1 + 1) [.int .i64 0, .int .i64 0, .slice none 0 0] := (fun o u hu => by match o, hu with | 0, hu => (injection hu with hu; subst hu; exact ⟨q11, f11⟩) | 1, hu => (injection hu with hu; subst hu; exact ⟨q12, f12⟩) | 2, hu => (injection hu with hu; subst hu; exact ⟨q13, f13⟩) | o + 3, hu => simp at hu)
          have hb45 : Below v2.heap.size v4 w5 := Pb.below_grown (Below.refl _ v4) hg5 ho4 hz4 (Nat.le_refl _)
          have yc := cells_low yb hb45 (by omega)
          have Q11 := (yc 0 _ rfl).1; have Q12 := (yc 1 _ rfl).1; have Q13 := (yc 2 _ rfl).1; have F11 := (yc 0 _ rfl).2; have F12 := (yc 1 _ rfl).2; have F13 := (yc 2 _ rfl).2
          have x5 : (fun V => V.cell? ⟨w.heap.size, 0, none⟩ = some (.int .i64 lo) ∧ V.cell? ⟨w.heap.size, 1, none⟩ = some (.int .i64 hi)) w5 := ⟨grown_kept hg5 x4.1 (fun e => by have h9 := (World.ownsRow.lt ho4 _ e.symm).1; omega), grown_kept hg5 x4.2 (fun e => by have h9 := (World.ownsRow.lt ho4 _ e.symm).1; omega)⟩
          have hB5 := bnext (w := w) hb0 hb5
          clear x4 hB hb hg5 ho4 hn' hz4 yb yc hb45 hb5 hb0 q0 q1 q2 q3 q4 q5 q6 q7 q8 q9 q10 q11 q12 q13 f11 f12 f13
          have y2 : CellsAt w5 (w.heap.size + 1 + 1) [.int .i64 0, .int .i64 0, .slice none 0 0] := (fun o u hu => by match o, hu with | 0, hu => (injection hu with hu; subst hu; exact ⟨Q11, F11⟩) | 1, hu => (injection hu with hu; subst hu; exact ⟨Q12, F12⟩) | 2, hu => (injection hu with hu; subst hu; exact ⟨Q13, F13⟩) | o + 3, hu => simp at hu)
          have q11 := Q11; have q12 := Q12; have q13 := Q13; have f11 := F11; have f12 := F12; have f13 := F13
          refine wpAnyC_op (r := 9) x5 (by kernel_rfl) rfl rfl (fun K hK => ?_)
          go_simp
          refine hK _ _ ?_; clear hK K
          refine wpAnyC_op (r := 10) x5 (by kernel_rfl) rfl rfl (fun K hK => ?_)
          go_simp
          refine hK _ _ ?_; clear hK K
          have x9 : (fun V => V.cell? ⟨w.heap.size, 0, none⟩ = some (.int .i64 lo) ∧ V.cell? ⟨w.heap.size, 1, none⟩ = some (.int .i64 hi)) (((w5.setCell ⟨w.heap.size + 1 + 1, 0, none⟩ (.int .i64 lo)).setCell ⟨w.heap.size + 1 + 1, 1, none⟩ (.int .i64 hi)).setCell ⟨w.heap.size + 1 + 1, 2, none⟩ (.slice xa (n + 1) xc)) := ⟨setc_block (setc_block (setc_block x5.1 (by omega)) (by omega)) (by omega), setc_block (setc_block (setc_block x5.2 (by omega)) (by omega)) (by omega)⟩
          refine wpAnyC_op (r := 11) x9 (by kernel_rfl) rfl rfl (fun K hK => ?_)
          go_simp
          refine hK _ _ ?_; clear hK K
          refine wpAnyC_end x9 (by kernel_rfl) ?_
          refine ⟨rfl, ?_⟩
          clear x5 x9
          have z1 := cells_store (o := 2) (u := .slice xa (n + 1) xc) (cells_store (o := 1) (u := .int .i64 hi) (cells_store (o := 0) (u := .int .i64 lo) y2))
          have hB9 : Below w.heap.size w _ := ((hB5.setCell (p := ⟨w.heap.size + 1 + 1, 0, none⟩) (by show w.heap.size ≤ w.heap.size + 1 + 1; omega) (.int .i64 lo)).setCell (p := ⟨w.heap.size + 1 + 1, 1, none⟩) (by show w.heap.size ≤ w.heap.size + 1 + 1; omega) (.int .i64 hi)).setCell (p := ⟨w.heap.size + 1 + 1, 2, none⟩) (by show w.heap.size ≤ w.heap.size + 1 + 1; omega) (.slice xa (n + 1) xc)
          have o9 := own_set (o := 2) (u := .slice xa (n + 1) xc) (own_set (o := 1) (u := .int .i64 hi) (own_set (o := 0) (u := .int .i64 lo) ho5 hz2v) hz2v) hz2v
          have r9 := rows_of_owns (l := l ++ [(⟨sid, swl, swh, sbl, sbh, shl, shh, sti⟩ : Sg)]) (by rw [List.length_append, HN.out, List.flatMap_append]; simpa [cellsG, rowG] using o9) (fun s hs => by rcases List.mem_append.1 hs with h | h; exact HI64.out s h; (rw [List.mem_singleton] at h); subst h; exact HSI.out)
          clear y2 ho5 o9 Q11 Q12 Q13 F11 F12 F13
          generalize World.setCell _ _ _ = v9 at *
          have d0 := (z1 0 _ rfl).1; have d1 := (z1 1 _ rfl).1; have d2 := (z1 2 _ rfl).1
          go_wp2_with fail
          exact bodyPost_ret (v := .tuple #[.agg #[.int .i64 lo, .int .i64 hi, .slice xa (n + 1) xc], .int .i64 0]) (by simp [results, Try.results55, go_sem, *]) rfl ⟨_, rfl, hB9, by rw [List.map_append] at r9; exact r9⟩
        · rw [if_pos rfl] at hr
          subst hr
          go_enter Try.func55, Try.ntmps55
          go_wp2_with fail
          refine (rCkBg (h.below (by go_grown)) HC.out).mono ?_
          rintro e w1 ⟨rfl, hb⟩
          replace hb0 := bnext (w := w) (by go_grown) hb; have hz := hb.size; (try simp only [World.size_alloc, World.size_setCell] at hz); replace q0 : w1.cell? ⟨w.heap.size, 0, none⟩ = some (.int .i64 lo) := bkeep hb (by first | (with_reducible exact q0) | (with_reducible exact akeep q0) | simp [*, go_sem]); replace q1 : w1.cell? ⟨w.heap.size, 1, none⟩ = some (.int .i64 hi) := bkeep hb (by first | (with_reducible exact q1) | (with_reducible exact akeep q1) | simp [*, go_sem]); replace q2 : w1.cell? ⟨w.heap.size, 2, none⟩ = some (.slice a n cap) := bkeep hb (by first | (with_reducible exact q2) | (with_reducible exact akeep q2) | simp [*, go_sem]); replace q3 : w1.cell? ⟨w.heap.size + 1, 0, none⟩ = some (.int .i64 sid) := bkeep hb (by first | (with_reducible exact q3) | (with_reducible exact akeep q3) | simp [*, go_sem]); replace q4 : w1.cell? ⟨w.heap.size + 1, 1, none⟩ = some (.int .i64 swl) := bkeep hb (by first | (with_reducible exact q4) | (with_reducible exact akeep q4) | simp [*, go_sem]); replace q5 : w1.cell? ⟨w.heap.size + 1, 2, none⟩ = some (.int .i64 swh) := bkeep hb (by first | (with_reducible exact q5) | (with_reducible exact akeep q5) | simp [*, go_sem]); replace q6 : w1.cell? ⟨w.heap.size + 1, 3, none⟩ = some (.int .i64 sbl) := bkeep hb (by first | (with_reducible exact q6) | (with_reducible exact akeep q6) | simp [*, go_sem]); replace q7 : w1.cell? ⟨w.heap.size + 1, 4, none⟩ = some (.int .i64 sbh) := bkeep hb (by first | (with_reducible exact q7) | (with_reducible exact akeep q7) | simp [*, go_sem]); replace q8 : w1.cell? ⟨w.heap.size + 1, 5, none⟩ = some (.int .i64 shl) := bkeep hb (by first | (with_reducible exact q8) | (with_reducible exact akeep q8) | simp [*, go_sem]); replace q9 : w1.cell? ⟨w.heap.size + 1, 6, none⟩ = some (.int .i64 shh) := bkeep hb (by first | (with_reducible exact q9) | (with_reducible exact akeep q9) | simp [*, go_sem]); replace q10 : w1.cell? ⟨w.heap.size + 1, 7, none⟩ = some (.int .i64 sti) := bkeep hb (by first | (with_reducible exact q10) | (with_reducible exact akeep q10) | simp [*, go_sem]); replace f11 : w1.frozen? ⟨w.heap.size + 1 + 1, 0, none⟩ = false := bfree (v := .int .i64 0) hb (by first | (with_reducible exact q11) | (with_reducible exact akeep q11) | simp [*, go_sem]) (by first | (with_reducible exact f11) | (with_reducible exact afree q11 f11) | simp [*, go_sem]); replace q11 : w1.cell? ⟨w.heap.size + 1 + 1, 0, none⟩ = some (.int .i64 0) := bkeep hb (by first | (with_reducible exact q11) | (with_reducible exact akeep q11) | simp [*, go_sem]); replace f12 : w1.frozen? ⟨w.heap.size + 1 + 1, 1, none⟩ = false := bfree (v := .int .i64 0) hb (by first | (with_reducible exact q12) | (with_reducible exact akeep q12) | simp [*, go_sem]) (by first | (with_reducible exact f12) | (with_reducible exact afree q12 f12) | simp [*, go_sem]); replace q12 : w1.cell? ⟨w.heap.size + 1 + 1, 1, none⟩ = some (.int .i64 0) := bkeep hb (by first | (with_reducible exact q12) | (with_reducible exact akeep q12) | simp [*, go_sem]); replace f13 : w1.frozen? ⟨w.heap.size + 1 + 1, 2, none⟩ = false := bfree (v := .slice none 0 0) hb (by first | (with_reducible exact q13) | (with_reducible exact akeep q13) | simp [*, go_sem]) (by first | (with_reducible exact f13) | (with_reducible exact afree q13 f13) | simp [*, go_sem]); replace q13 : w1.cell? ⟨w.heap.size + 1 + 1, 2, none⟩ = some (.slice none 0 0) := bkeep hb (by first | (with_reducible exact q13) | (with_reducible exact akeep q13) | simp [*, go_sem]); skip
          clear hb
          go_wp2_with fail
          refine (rCkSg HS.out).mono ?_
          rintro e w1 ⟨rfl, hb⟩
          replace hb0 := bnext (w := w) (by go_grown) hb; have hz := hb.size; (try simp only [World.size_alloc, World.size_setCell] at hz); replace q0 : w1.cell? ⟨w.heap.size, 0, none⟩ = some (.int .i64 lo) := bkeep hb (by first | (with_reducible exact q0) | (with_reducible exact akeep q0) | simp [*, go_sem]); replace q1 : w1.cell? ⟨w.heap.size, 1, none⟩ = some (.int .i64 hi) := bkeep hb (by first | (with_reducible exact q1) | (with_reducible exact akeep q1) | simp [*, go_sem]); replace q2 : w1.cell? ⟨w.heap.size, 2, none⟩ = some (.slice a n cap) := bkeep hb (by first | (with_reducible exact q2) | (with_reducible exact akeep q2) | simp [*, go_sem]); replace q3 : w1.cell? ⟨w.heap.size + 1, 0, none⟩ = some (.int .i64 sid) := bkeep hb (by first | (with_reducible exact q3) | (with_reducible exact akeep q3) | simp [*, go_sem]); replace q4 : w1.cell? ⟨w.heap.size + 1, 1, none⟩ = some (.int .i64 swl) := bkeep hb (by first | (with_reducible exact q4) | (with_reducible exact akeep q4) | simp [*, go_sem]); replace q5 : w1.cell? ⟨w.heap.size + 1, 2, none⟩ = some (.int .i64 swh) := bkeep hb (by first | (with_reducible exact q5) | (with_reducible exact akeep q5) | simp [*, go_sem]); replace q6 : w1.cell? ⟨w.heap.size + 1, 3, none⟩ = some (.int .i64 sbl) := bkeep hb (by first | (with_reducible exact q6) | (with_reducible exact akeep q6) | simp [*, go_sem]); replace q7 : w1.cell? ⟨w.heap.size + 1, 4, none⟩ = some (.int .i64 sbh) := bkeep hb (by first | (with_reducible exact q7) | (with_reducible exact akeep q7) | simp [*, go_sem]); replace q8 : w1.cell? ⟨w.heap.size + 1, 5, none⟩ = some (.int .i64 shl) := bkeep hb (by first | (with_reducible exact q8) | (with_reducible exact akeep q8) | simp [*, go_sem]); replace q9 : w1.cell? ⟨w.heap.size + 1, 6, none⟩ = some (.int .i64 shh) := bkeep hb (by first | (with_reducible exact q9) | (with_reducible exact akeep q9) | simp [*, go_sem]); replace q10 : w1.cell? ⟨w.heap.size + 1, 7, none⟩ = some (.int .i64 sti) := bkeep hb (by first | (with_reducible exact q10) | (with_reducible exact akeep q10) | simp [*, go_sem]); replace f11 : w1.frozen? ⟨w.heap.size + 1 + 1, 0, none⟩ = false := bfree (v := .int .i64 0) hb (by first | (with_reducible exact q11) | (with_reducible exact akeep q11) | simp [*, go_sem]) (by first | (with_reducible exact f11) | (with_reducible exact afree q11 f11) | simp [*, go_sem]); replace q11 : w1.cell? ⟨w.heap.size + 1 + 1, 0, none⟩ = some (.int .i64 0) := bkeep hb (by first | (with_reducible exact q11) | (with_reducible exact akeep q11) | simp [*, go_sem]); replace f12 : w1.frozen? ⟨w.heap.size + 1 + 1, 1, none⟩ = false := bfree (v := .int .i64 0) hb (by first | (with_reducible exact q12) | (with_reducible exact akeep q12) | simp [*, go_sem]) (by first | (with_reducible exact f12) | (with_reducible exact afree q12 f12) | simp [*, go_sem]); replace q12 : w1.cell? ⟨w.heap.size + 1 + 1, 1, none⟩ = some (.int .i64 0) := bkeep hb (by first | (with_reducible exact q12) | (with_reducible exact akeep q12) | simp [*, go_sem]); replace f13 : w1.frozen? ⟨w.heap.size + 1 + 1, 2, none⟩ = false := bfree (v := .slice none 0 0) hb (by first | (with_reducible exact q13) | (with_reducible exact akeep q13) | simp [*, go_sem]) (by first | (with_reducible exact f13) | (with_reducible exact afree q13 f13) | simp [*, go_sem]); replace q13 : w1.cell? ⟨w.heap.size + 1 + 1, 2, none⟩ = some (.slice none 0 0) := bkeep hb (by first | (with_reducible exact q13) | (with_reducible exact akeep q13) | simp [*, go_sem]); skip
          clear hb
          go_wp2_with fail
          refine (rHas_any (h.below (by go_grown)) HH.out).mono ?_
          rintro e w1 ⟨rfl, hb⟩
          replace hb0 := bnext (w := w) (by go_grown) hb; have hz := hb.size; (try simp only [World.size_alloc, World.size_setCell] at hz); replace q0 : w1.cell? ⟨w.heap.size, 0, none⟩ = some (.int .i64 lo) := bkeep hb (by first | (with_reducible exact q0) | (with_reducible exact akeep q0) | simp [*, go_sem]); replace q1 : w1.cell? ⟨w.heap.size, 1, none⟩ = some (.int .i64 hi) := bkeep hb (by first | (with_reducible exact q1) | (with_reducible exact akeep q1) | simp [*, go_sem]); replace q2 : w1.cell? ⟨w.heap.size, 2, none⟩ = some (.slice a n cap) := bkeep hb (by first | (with_reducible exact q2) | (with_reducible exact akeep q2) | simp [*, go_sem]); replace q3 : w1.cell? ⟨w.heap.size + 1, 0, none⟩ = some (.int .i64 sid) := bkeep hb (by first | (with_reducible exact q3) | (with_reducible exact akeep q3) | simp [*, go_sem]); replace q4 : w1.cell? ⟨w.heap.size + 1, 1, none⟩ = some (.int .i64 swl) := bkeep hb (by first | (with_reducible exact q4) | (with_reducible exact akeep q4) | simp [*, go_sem]); replace q5 : w1.cell? ⟨w.heap.size + 1, 2, none⟩ = some (.int .i64 swh) := bkeep hb (by first | (with_reducible exact q5) | (with_reducible exact akeep q5) | simp [*, go_sem]); replace q6 : w1.cell? ⟨w.heap.size + 1, 3, none⟩ = some (.int .i64 sbl) := bkeep hb (by first | (with_reducible exact q6) | (with_reducible exact akeep q6) | simp [*, go_sem]); replace q7 : w1.cell? ⟨w.heap.size + 1, 4, none⟩ = some (.int .i64 sbh) := bkeep hb (by first | (with_reducible exact q7) | (with_reducible exact akeep q7) | simp [*, go_sem]); replace q8 : w1.cell? ⟨w.heap.size + 1, 5, none⟩ = some (.int .i64 shl) := bkeep hb (by first | (with_reducible exact q8) | (with_reducible exact akeep q8) | simp [*, go_sem]); replace q9 : w1.cell? ⟨w.heap.size + 1, 6, none⟩ = some (.int .i64 shh) := bkeep hb (by first | (with_reducible exact q9) | (with_reducible exact akeep q9) | simp [*, go_sem]); replace q10 : w1.cell? ⟨w.heap.size + 1, 7, none⟩ = some (.int .i64 sti) := bkeep hb (by first | (with_reducible exact q10) | (with_reducible exact akeep q10) | simp [*, go_sem]); replace f11 : w1.frozen? ⟨w.heap.size + 1 + 1, 0, none⟩ = false := bfree (v := .int .i64 0) hb (by first | (with_reducible exact q11) | (with_reducible exact akeep q11) | simp [*, go_sem]) (by first | (with_reducible exact f11) | (with_reducible exact afree q11 f11) | simp [*, go_sem]); replace q11 : w1.cell? ⟨w.heap.size + 1 + 1, 0, none⟩ = some (.int .i64 0) := bkeep hb (by first | (with_reducible exact q11) | (with_reducible exact akeep q11) | simp [*, go_sem]); replace f12 : w1.frozen? ⟨w.heap.size + 1 + 1, 1, none⟩ = false := bfree (v := .int .i64 0) hb (by first | (with_reducible exact q12) | (with_reducible exact akeep q12) | simp [*, go_sem]) (by first | (with_reducible exact f12) | (with_reducible exact afree q12 f12) | simp [*, go_sem]); replace q12 : w1.cell? ⟨w.heap.size + 1 + 1, 1, none⟩ = some (.int .i64 0) := bkeep hb (by first | (with_reducible exact q12) | (with_reducible exact akeep q12) | simp [*, go_sem]); replace f13 : w1.frozen? ⟨w.heap.size + 1 + 1, 2, none⟩ = false := bfree (v := .slice none 0 0) hb (by first | (with_reducible exact q13) | (with_reducible exact akeep q13) | simp [*, go_sem]) (by first | (with_reducible exact f13) | (with_reducible exact afree q13 f13) | simp [*, go_sem]); replace q13 : w1.cell? ⟨w.heap.size + 1 + 1, 2, none⟩ = some (.slice none 0 0) := bkeep hb (by first | (with_reducible exact q13) | (with_reducible exact akeep q13) | simp [*, go_sem]); skip
          clear hb
          go_wp2_with fail
          exact bodyPost_ret (v := .tuple #[.agg #[.int .i64 0, .int .i64 0, .slice none 0 0], .int .i64 30]) (by simp [results, Try.results55, go_sem, *]) rfl ⟨_, rfl, by go_grown, rows8_nil _⟩

end Go.Proofs.Ytnchhleokdkejaa

/- Whether numbers are a break of saggars. -/
namespace Go.Proofs.Ytnchhleokdkejaa
open Go.RowKit Go.Pb Go.Pb.Ware Go.Pb.Sag
set_option linter.unusedVariables false
set_option linter.unusedSimpArgs false

open Go.Pb.Bung
theorem getD_of {l : List Sg} {c : Nat} {s : Sg} (h : l[c]? = some s) : l.getD c default = s := by rw [List.getD_eq_getElem?_getD, h]; rfl
end Go.Proofs.Ytnchhleokdkejaa

/- Saggars of an own slice written in place. -/
namespace Go.Pb.Bung
open Go Go.Pb Go.Pb.Ware Go.Pb.Sag Go.RowKit
set_option linter.unusedVariables false
theorem flat_setG : ∀ {l : List Sg} {i : Nat} {s : Sg}, i < l.length → ((((((((l.flatMap cellsG).set (i * 8) (.int .i64 s.id)).set (i * 8 + 1) (.int .i64 s.wl)).set (i * 8 + 2) (.int .i64 s.wh)).set (i * 8 + 3) (.int .i64 s.bl)).set (i * 8 + 4) (.int .i64 s.bh)).set (i * 8 + 5) (.int .i64 s.hl)).set (i * 8 + 6) (.int .i64 s.hh)).set (i * 8 + 7) (.int .i64 s.ti) = (l.set i s).flatMap cellsG
  | [], i, s, h => by simp at h
  | y :: ys, 0, s, h => rfl
  | y :: ys, i + 1, s, h => by
    have ih := flat_setG (l := ys) (i := i) (s := s) (by simpa using h)
    have e : ∀ (t : List Value) (j : Nat) (v : Value), (cellsG y ++ t).set (j + 8) v = cellsG y ++ t.set j v := fun t j v => rfl
    rw [List.flatMap_cons, show (i + 1) * 8 = i * 8 + 8 by omega, show i * 8 + 8 + 1 = i * 8 + 1 + 8 by omega, show i * 8 + 8 + 2 = i * 8 + 2 + 8 by omega, show i * 8 + 8 + 3 = i * 8 + 3 + 8 by omega, show i * 8 + 8 + 4 = i * 8 + 4 + 8 by omega, show i * 8 + 8 + 5 = i * 8 + 5 + 8 by omega, show i * 8 + 8 + 6 = i * 8 + 6 + 8 by omega, show i * 8 + 8 + 7 = i * 8 + 7 + 8 by omega, e, e, e, e, e, e, e, e, ih]
    rfl
/-- The world with a saggar stored at o of block g. -/
abbrev putG8 (W : World) (g o : Nat) (s : Sg) : World := (((((((W.setCell ⟨g, o, none⟩ (.int .i64 s.id)).setCell ⟨g, o + 1, none⟩ (.int .i64 s.wl)).setCell ⟨g, o + 2, none⟩ (.int .i64 s.wh)).setCell ⟨g, o + 3, none⟩ (.int .i64 s.bl)).setCell ⟨g, o + 4, none⟩ (.int .i64 s.bh)).setCell ⟨g, o + 5, none⟩ (.int .i64 s.hl)).setCell ⟨g, o + 6, none⟩ (.int .i64 s.hh)).setCell ⟨g, o + 7, none⟩ (.int .i64 s.ti)
theorem own_putG {W : World} {lo T n cap g k : Nat} {l : List Sg} {s : Sg} (h : W.ownsRow lo T 8 (.slice (some ⟨g, 0, none⟩) n cap) n (l.flatMap cellsG)) (hk : k < l.length) : (putG8 W g (k * 8) s).ownsRow lo T 8 (.slice (some ⟨g, 0, none⟩) n cap) n ((l.set k s).flatMap cellsG) := by
  rw [← flat_setG hk]
  exact Sag.own_set (Sag.own_set (Sag.own_set (Sag.own_set (Sag.own_set (Sag.own_set (Sag.own_set (Sag.own_set h)))))))
end Go.Pb.Bung

/- A bung with two neighbours exchanged, by the reference. -/
namespace Go.Proofs.Ytnchhleokdkejaa
open Go.RowKit Go.Pb Go.Pb.Ware Go.Pb.Sag
set_option linter.unusedVariables false
set_option linter.unusedSimpArgs false

open Go.Proofs Go.Pb.Bung
theorem own_at {W : World} {lo T n cap g o : Nat} {l : List Sg} (h : W.ownsRow lo T 8 (.slice (some ⟨g, 0, none⟩) n cap) n (l.flatMap cellsG)) (ho : o < l.length * 8) : ∃ u, W.cell? ⟨g, o, none⟩ = some u := by
  obtain ⟨u, hu⟩ : ∃ u, (l.flatMap cellsG)[o]? = some u := ⟨_, List.getElem?_eq_getElem (by rw [sg_len]; exact ho)⟩
  have := h.cells (g := g) rfl o u hu
  rw [Go.WideShapes.add_plain, Nat.zero_add] at this
  exact ⟨u, this⟩
def swapL (l : List Sg) (c : Nat) : List Sg := (l.set c (l.getD (c + 1) default)).set (c + 1) (l.getD c default)
def swpA (lo hi : Int) (l : List Sg) (co : Int) : ((Int × Int) × List Sg) × Int := if bungOk lo hi l = true then (if btw co 0 ((l.length : Int) - 2) = true then (((lo, hi), swapL l co.toNat), 0) else (((0, 0), []), 1)) else (((0, 0), []), 31)
theorem putG_below {B g o : Nat} {w W : World} {s : Sg} (h : Below B w W) (hb : B ≤ g) : Below B w (putG8 W g o s) := ((((((((h.setCell (p := ⟨g, o, none⟩) hb _).setCell (p := ⟨g, o + 1, none⟩) hb _).setCell (p := ⟨g, o + 2, none⟩) hb _).setCell (p := ⟨g, o + 3, none⟩) hb _).setCell (p := ⟨g, o + 4, none⟩) hb _).setCell (p := ⟨g, o + 5, none⟩) hb _).setCell (p := ⟨g, o + 6, none⟩) hb _).setCell (p := ⟨g, o + 7, none⟩) hb _)
set_option maxRecDepth 100000 in
set_option maxHeartbeats 1000000 in
theorem rSwapP {w : World} {v : Value} {l : List Sg} {lo hi co : Int} {r : _} (h : RowsAt 8 w v (l.map rowG)) (hr : swpA lo hi l co = r) :
    Calls Try.prog 53 #[.agg #[.int .i64 lo, .int .i64 hi, v], .int .i64 co] w (BgRes r w) := by
  unfold BgRes
  obtain ⟨i0, hi0, hz0, hz1, hz2⟩ := info_parts Try.infoG
  have hlat := sg_lat h
  have hi64 := i64_rows h
  obtain ⟨a, cap, rfl, hll⟩ := h.shape
  simp only [List.length_map] at h hlat
  rw [List.length_map] at hll ⊢
  obtain ⟨n, hn⟩ : ∃ n, l.length = n := ⟨_, rfl⟩
  have HN : Hid (l.length = n) := hn
  obtain ⟨b1, h1⟩ : ∃ b, bungOk lo hi l = b := ⟨_, rfl⟩
  obtain ⟨b2, h2⟩ : ∃ b, btw co 0 ((n : Int) - 2) = b := ⟨_, rfl⟩
  unfold swpA at hr
  rw [hn, h1, h2] at hr
  have hcb : ckBg lo hi l = if b1 = true then 0 else 31 := by unfold ckBg; rw [h1]
  have HI64 : Hid (∀ s ∈ l, ∀ z ∈ rowG s, I64 z) := hid hi64
  rw [hn] at h hlat hll ⊢
  have HLT := hid hlat; have HB2 := hid h2
  clear hi64 hlat
  cases b1
  · rw [if_neg (by simp)] at hr
    subst hr
    have HC : Hid (ckBg lo hi l = 31) := hid (hcb.trans (if_neg (by simp)))
    clear hcb h1 h2 hn
    go_enter Try.func53, Try.ntmps53
    go_wp2_with fail
    refine (rCkBg (h.below (by go_grown)) HC.out).mono ?_
    rintro e w1 ⟨rfl, hb⟩
    replace hb0 := bnext (w := w) (by go_grown) hb; have hz := hb.size; (try simp only [World.size_alloc, World.size_setCell] at hz); replace q0 : w1.cell? ⟨w.heap.size, 0, none⟩ = some (.int .i64 lo) := bkeep hb (by first | (with_reducible exact q0) | (with_reducible exact akeep q0) | simp [*, go_sem]); replace q1 : w1.cell? ⟨w.heap.size, 1, none⟩ = some (.int .i64 hi) := bkeep hb (by first | (with_reducible exact q1) | (with_reducible exact akeep q1) | simp [*, go_sem]); replace q2 : w1.cell? ⟨w.heap.size, 2, none⟩ = some (.slice a n cap) := bkeep hb (by first | (with_reducible exact q2) | (with_reducible exact akeep q2) | simp [*, go_sem]); replace f3 : w1.frozen? ⟨w.heap.size + 1, 0, none⟩ = false := bfree (v := .int .i64 0) hb (by first | (with_reducible exact q3) | (with_reducible exact akeep q3) | simp [*, go_sem]) (by first | (with_reducible exact f3) | (with_reducible exact afree q3 f3) | simp [*, go_sem]); replace q3 : w1.cell? ⟨w.heap.size + 1, 0, none⟩ = some (.int .i64 0) := bkeep hb (by first | (with_reducible exact q3) | (with_reducible exact akeep q3) | simp [*, go_sem]); replace f4 : w1.frozen? ⟨w.heap.size + 1, 1, none⟩ = false := bfree (v := .int .i64 0) hb (by first | (with_reducible exact q4) | (with_reducible exact akeep q4) | simp [*, go_sem]) (by first | (with_reducible exact f4) | (with_reducible exact afree q4 f4) | simp [*, go_sem]); replace q4 : w1.cell? ⟨w.heap.size + 1, 1, none⟩ = some (.int .i64 0) := bkeep hb (by first | (with_reducible exact q4) | (with_reducible exact akeep q4) | simp [*, go_sem]); replace f5 : w1.frozen? ⟨w.heap.size + 1, 2, none⟩ = false := bfree (v := .slice none 0 0) hb (by first | (with_reducible exact q5) | (with_reducible exact akeep q5) | simp [*, go_sem]) (by first | (with_reducible exact f5) | (with_reducible exact afree q5 f5) | simp [*, go_sem]); replace q5 : w1.cell? ⟨w.heap.size + 1, 2, none⟩ = some (.slice none 0 0) := bkeep hb (by first | (with_reducible exact q5) | (with_reducible exact akeep q5) | simp [*, go_sem]); skip
    clear hb
    go_wp2_with fail
    exact bodyPost_ret (v := .tuple #[.agg #[.int .i64 0, .int .i64 0, .slice none 0 0], .int .i64 31]) (by simp [results, Try.results53, go_sem, *]) rfl ⟨_, rfl, by go_grown, rows8_nil _⟩
  · rw [if_pos rfl] at hr
    have HC : Hid (ckBg lo hi l = 0) := hid (hcb.trans (if_pos rfl))
    have hl30 : n ≤ 30 := by rw [← hn]; exact bungOk_len h1
    have hwn : IntKind.i64.wrap ((n : Int) - 2) = (n : Int) - 2 := IntWalk.i64_in _ (by omega)
    clear hcb h1
    cases b2
    · rw [if_neg (by simp)] at hr
      subst hr
      clear h2 hn
      go_enter Try.func53, Try.ntmps53
      go_wp2_with fail
      refine (rCkBg (h.below (by go_grown)) HC.out).mono ?_
      rintro e w1 ⟨rfl, hb⟩
      replace hb0 := bnext (w := w) (by go_grown) hb; have hz := hb.size; (try simp only [World.size_alloc, World.size_setCell] at hz); replace q0 : w1.cell? ⟨w.heap.size, 0, none⟩ = some (.int .i64 lo) := bkeep hb (by first | (with_reducible exact q0) | (with_reducible exact akeep q0) | simp [*, go_sem]); replace q1 : w1.cell? ⟨w.heap.size, 1, none⟩ = some (.int .i64 hi) := bkeep hb (by first | (with_reducible exact q1) | (with_reducible exact akeep q1) | simp [*, go_sem]); replace q2 : w1.cell? ⟨w.heap.size, 2, none⟩ = some (.slice a n cap) := bkeep hb (by first | (with_reducible exact q2) | (with_reducible exact akeep q2) | simp [*, go_sem]); replace f3 : w1.frozen? ⟨w.heap.size + 1, 0, none⟩ = false := bfree (v := .int .i64 0) hb (by first | (with_reducible exact q3) | (with_reducible exact akeep q3) | simp [*, go_sem]) (by first | (with_reducible exact f3) | (with_reducible exact afree q3 f3) | simp [*, go_sem]); replace q3 : w1.cell? ⟨w.heap.size + 1, 0, none⟩ = some (.int .i64 0) := bkeep hb (by first | (with_reducible exact q3) | (with_reducible exact akeep q3) | simp [*, go_sem]); replace f4 : w1.frozen? ⟨w.heap.size + 1, 1, none⟩ = false := bfree (v := .int .i64 0) hb (by first | (with_reducible exact q4) | (with_reducible exact akeep q4) | simp [*, go_sem]) (by first | (with_reducible exact f4) | (with_reducible exact afree q4 f4) | simp [*, go_sem]); replace q4 : w1.cell? ⟨w.heap.size + 1, 1, none⟩ = some (.int .i64 0) := bkeep hb (by first | (with_reducible exact q4) | (with_reducible exact akeep q4) | simp [*, go_sem]); replace f5 : w1.frozen? ⟨w.heap.size + 1, 2, none⟩ = false := bfree (v := .slice none 0 0) hb (by first | (with_reducible exact q5) | (with_reducible exact akeep q5) | simp [*, go_sem]) (by first | (with_reducible exact f5) | (with_reducible exact afree q5 f5) | simp [*, go_sem]); replace q5 : w1.cell? ⟨w.heap.size + 1, 2, none⟩ = some (.slice none 0 0) := bkeep hb (by first | (with_reducible exact q5) | (with_reducible exact akeep q5) | simp [*, go_sem]); skip
      clear hb
      go_wp2_with fail
      refine (rB HB2.out).mono ?_
      rintro e w1 ⟨rfl, hb⟩
      replace hb0 := bnext (w := w) (by go_grown) hb; have hz := hb.size; (try simp only [World.size_alloc, World.size_setCell] at hz); replace q0 : w1.cell? ⟨w.heap.size, 0, none⟩ = some (.int .i64 lo) := bkeep hb (by first | (with_reducible exact q0) | (with_reducible exact akeep q0) | simp [*, go_sem]); replace q1 : w1.cell? ⟨w.heap.size, 1, none⟩ = some (.int .i64 hi) := bkeep hb (by first | (with_reducible exact q1) | (with_reducible exact akeep q1) | simp [*, go_sem]); replace q2 : w1.cell? ⟨w.heap.size, 2, none⟩ = some (.slice a n cap) := bkeep hb (by first | (with_reducible exact q2) | (with_reducible exact akeep q2) | simp [*, go_sem]); replace f3 : w1.frozen? ⟨w.heap.size + 1, 0, none⟩ = false := bfree (v := .int .i64 0) hb (by first | (with_reducible exact q3) | (with_reducible exact akeep q3) | simp [*, go_sem]) (by first | (with_reducible exact f3) | (with_reducible exact afree q3 f3) | simp [*, go_sem]); replace q3 : w1.cell? ⟨w.heap.size + 1, 0, none⟩ = some (.int .i64 0) := bkeep hb (by first | (with_reducible exact q3) | (with_reducible exact akeep q3) | simp [*, go_sem]); replace f4 : w1.frozen? ⟨w.heap.size + 1, 1, none⟩ = false := bfree (v := .int .i64 0) hb (by first | (with_reducible exact q4) | (with_reducible exact akeep q4) | simp [*, go_sem]) (by first | (with_reducible exact f4) | (with_reducible exact afree q4 f4) | simp [*, go_sem]); replace q4 : w1.cell? ⟨w.heap.size + 1, 1, none⟩ = some (.int .i64 0) := bkeep hb (by first | (with_reducible exact q4) | (with_reducible exact akeep q4) | simp [*, go_sem]); replace f5 : w1.frozen? ⟨w.heap.size + 1, 2, none⟩ = false := bfree (v := .slice none 0 0) hb (by first | (with_reducible exact q5) | (with_reducible exact akeep q5) | simp [*, go_sem]) (by first | (with_reducible exact f5) | (with_reducible exact afree q5 f5) | simp [*, go_sem]); replace q5 : w1.cell? ⟨w.heap.size + 1, 2, none⟩ = some (.slice none 0 0) := bkeep hb (by first | (with_reducible exact q5) | (with_reducible exact akeep q5) | simp [*, go_sem]); skip
      clear hb
      go_wp2_with fail
      exact bodyPost_ret (v := .tuple #[.agg #[.int .i64 0, .int .i64 0, .slice none 0 0], .int .i64 1]) (by simp [results, Try.results53, go_sem, *]) rfl ⟨_, rfl, by go_grown, rows8_nil _⟩
    · rw [if_pos rfl] at hr
      have hco := btw_iff.1 h2
      clear h2
      obtain ⟨c, rfl⟩ : ∃ c : Nat, co = (c : Int) := ⟨co.toNat, by omega⟩
      rw [Int.toNat_natCast] at hr
      have hn0 : 0 < n := by omega
      obtain ⟨d, hd⟩ : ∃ d, c + 1 = d := ⟨_, rfl⟩
      have hwc : IntKind.i64.wrap ((c : Int) + 1) = (d : Int) := (IntWalk.i64_in _ (by omega)).trans (by omega)
      have hcn : (c : Int) < (n : Int) := by omega
      have hdn : (d : Int) < (n : Int) := by omega
      obtain ⟨x, hx⟩ : ∃ s, l[c]? = some s := ⟨_, List.getElem?_eq_getElem (by omega)⟩
      obtain ⟨y, hy⟩ : ∃ s, l[d]? = some s := ⟨_, List.getElem?_eq_getElem (by omega)⟩
      have hsw : swapL l c = (l.set c y).set d x := by unfold swapL; rw [hd, getD_of hx, getD_of hy]
      rw [hsw] at hr
      subst hr
      have HD := hid hd; have HX : Hid (l[c]? = some x) := hid hx; have HY : Hid (l[d]? = some y) := hid hy
      clear hd hsw hn
      go_enter Try.func53, Try.ntmps53
      go_wp2_with fail
      refine (rCkBg (h.below (by go_grown)) HC.out).mono ?_
      rintro e w1 ⟨rfl, hb⟩
      replace hb0 := bnext (w := w) (by go_grown) hb; have hz := hb.size; (try simp only [World.size_alloc, World.size_setCell] at hz); replace q0 : w1.cell? ⟨w.heap.size, 0, none⟩ = some (.int .i64 lo) := bkeep hb (by first | (with_reducible exact q0) | (with_reducible exact akeep q0) | simp [*, go_sem]); replace q1 : w1.cell? ⟨w.heap.size, 1, none⟩ = some (.int .i64 hi) := bkeep hb (by first | (with_reducible exact q1) | (with_reducible exact akeep q1) | simp [*, go_sem]); replace q2 : w1.cell? ⟨w.heap.size, 2, none⟩ = some (.slice a n cap) := bkeep hb (by first | (with_reducible exact q2) | (with_reducible exact akeep q2) | simp [*, go_sem]); replace f3 : w1.frozen? ⟨w.heap.size + 1, 0, none⟩ = false := bfree (v := .int .i64 0) hb (by first | (with_reducible exact q3) | (with_reducible exact akeep q3) | simp [*, go_sem]) (by first | (with_reducible exact f3) | (with_reducible exact afree q3 f3) | simp [*, go_sem]); replace q3 : w1.cell? ⟨w.heap.size + 1, 0, none⟩ = some (.int .i64 0) := bkeep hb (by first | (with_reducible exact q3) | (with_reducible exact akeep q3) | simp [*, go_sem]); replace f4 : w1.frozen? ⟨w.heap.size + 1, 1, none⟩ = false := bfree (v := .int .i64 0) hb (by first | (with_reducible exact q4) | (with_reducible exact akeep q4) | simp [*, go_sem]) (by first | (with_reducible exact f4) | (with_reducible exact afree q4 f4) | simp [*, go_sem]); replace q4 : w1.cell? ⟨w.heap.size + 1, 1, none⟩ = some (.int .i64 0) := bkeep hb (by first | (with_reducible exact q4) | (with_reducible exact akeep q4) | simp [*, go_sem]); replace f5 : w1.frozen? ⟨w.heap.size + 1, 2, none⟩ = false := bfree (v := .slice none 0 0) hb (by first | (with_reducible exact q5) | (with_reducible exact akeep q5) | simp [*, go_sem]) (by first | (with_reducible exact f5) | (with_reducible exact afree q5 f5) | simp [*, go_sem]); replace q5 : w1.cell? ⟨w.heap.size + 1, 2, none⟩ = some (.slice none 0 0) := bkeep hb (by first | (with_reducible exact q5) | (with_reducible exact akeep q5) | simp [*, go_sem]); skip
      clear hb
      go_wp2_with fail
      refine (rB HB2.out).mono ?_
      rintro e w1 ⟨rfl, hb⟩
      replace hb0 := bnext (w := w) (by go_grown) hb; have hz := hb.size; (try simp only [World.size_alloc, World.size_setCell] at hz); replace q0 : w1.cell? ⟨w.heap.size, 0, none⟩ = some (.int .i64 lo) := bkeep hb (by first | (with_reducible exact q0) | (with_reducible exact akeep q0) | simp [*, go_sem]); replace q1 : w1.cell? ⟨w.heap.size, 1, none⟩ = some (.int .i64 hi) := bkeep hb (by first | (with_reducible exact q1) | (with_reducible exact akeep q1) | simp [*, go_sem]); replace q2 : w1.cell? ⟨w.heap.size, 2, none⟩ = some (.slice a n cap) := bkeep hb (by first | (with_reducible exact q2) | (with_reducible exact akeep q2) | simp [*, go_sem]); replace f3 : w1.frozen? ⟨w.heap.size + 1, 0, none⟩ = false := bfree (v := .int .i64 0) hb (by first | (with_reducible exact q3) | (with_reducible exact akeep q3) | simp [*, go_sem]) (by first | (with_reducible exact f3) | (with_reducible exact afree q3 f3) | simp [*, go_sem]); replace q3 : w1.cell? ⟨w.heap.size + 1, 0, none⟩ = some (.int .i64 0) := bkeep hb (by first | (with_reducible exact q3) | (with_reducible exact akeep q3) | simp [*, go_sem]); replace f4 : w1.frozen? ⟨w.heap.size + 1, 1, none⟩ = false := bfree (v := .int .i64 0) hb (by first | (with_reducible exact q4) | (with_reducible exact akeep q4) | simp [*, go_sem]) (by first | (with_reducible exact f4) | (with_reducible exact afree q4 f4) | simp [*, go_sem]); replace q4 : w1.cell? ⟨w.heap.size + 1, 1, none⟩ = some (.int .i64 0) := bkeep hb (by first | (with_reducible exact q4) | (with_reducible exact akeep q4) | simp [*, go_sem]); replace f5 : w1.frozen? ⟨w.heap.size + 1, 2, none⟩ = false := bfree (v := .slice none 0 0) hb (by first | (with_reducible exact q5) | (with_reducible exact akeep q5) | simp [*, go_sem]) (by first | (with_reducible exact f5) | (with_reducible exact afree q5 f5) | simp [*, go_sem]); replace q5 : w1.cell? ⟨w.heap.size + 1, 2, none⟩ = some (.slice none 0 0) := bkeep hb (by first | (with_reducible exact q5) | (with_reducible exact akeep q5) | simp [*, go_sem]); skip
      clear hb
      obtain ⟨v2, hv2⟩ : ∃ v, v = w1 := ⟨_, rfl⟩
      subst hv2
      have hz2v : w.heap.size + 1 < v2.heap.size := World.block_lt_of_cell? v2 ⟨w.heap.size + 1, 0, none⟩ q3
      have hB := hb0
      go_upto_region 6 with (at_builtin; go_must (refine wpList_append_lat rfl _ _ 24 rfl v2.heap.size 33 i0 (.agg #[.int .i64 0, .int .i64 0, .int .i64 0, .int .i64 0, .int .i64 0, .int .i64 0, .int .i64 0, .int .i64 0]) 8 64 Try.underlying24 hi0 hz0 hz1 hz2 rfl (by decide) _ 0 [] rfl (owns_empty v2 33 8) _ n (l.flatMap cellsG) rfl (HLT.out.below (hB.alloc (by omega) _)) (by unfold maxLen; omega) (by omega) (by simp) ?_; intro v' w4 ho4 hg4; have hb4 : Below v2.heap.size v2 w4 := Pb.below_grown ((Below.refl _ v2).alloc (Nat.le_refl _) _) hg4 (owns_empty v2 33 8) (by simp) (Nat.le_refl _); rw [Nat.zero_add, List.nil_append] at ho4; obtain ⟨g, gc, rfl, -, -⟩ := own_some ho4 hn0; clear hg4))
      have hge : v2.heap.size ≤ g := (World.ownsRow.lt ho4 g rfl).1
      have k0 := bkeep hb4 q0
      have k1 := bkeep hb4 q1
      have k2 := bkeep hb4 q2
      obtain ⟨a9, ha, u0, hcc, -⟩ := sg_row (by rw [HN.out]; exact h.below (bnext (w := w) hb0 hb4)) HY.out
      (first | subst ha | (injection ha with ha; subst ha))
      have u1 := hcc 1 _ (by decide) rfl
      have u2 := hcc 2 _ (by decide) rfl
      have u3 := hcc 3 _ (by decide) rfl
      have u4 := hcc 4 _ (by decide) rfl
      have u5 := hcc 5 _ (by decide) rfl
      have u6 := hcc 6 _ (by decide) rfl
      have u7 := hcc 7 _ (by decide) rfl
      clear hcc
      obtain ⟨z0, p0⟩ := own_at ho4 (o := c * 8) (by rw [HN.out]; omega); have f0' := owns_frozen ho4 rfl (c * 8)
      obtain ⟨z1, p1⟩ := own_at ho4 (o := c * 8 + 1) (by rw [HN.out]; omega); have f1' := owns_frozen ho4 rfl (c * 8 + 1)
      obtain ⟨z2, p2⟩ := own_at ho4 (o := c * 8 + 2) (by rw [HN.out]; omega); have f2' := owns_frozen ho4 rfl (c * 8 + 2)
      obtain ⟨z3, p3⟩ := own_at ho4 (o := c * 8 + 3) (by rw [HN.out]; omega); have f3' := owns_frozen ho4 rfl (c * 8 + 3)
      obtain ⟨z4, p4⟩ := own_at ho4 (o := c * 8 + 4) (by rw [HN.out]; omega); have f4' := owns_frozen ho4 rfl (c * 8 + 4)
      obtain ⟨z5, p5⟩ := own_at ho4 (o := c * 8 + 5) (by rw [HN.out]; omega); have f5' := owns_frozen ho4 rfl (c * 8 + 5)
      obtain ⟨z6, p6⟩ := own_at ho4 (o := c * 8 + 6) (by rw [HN.out]; omega); have f6' := owns_frozen ho4 rfl (c * 8 + 6)
      obtain ⟨z7, p7⟩ := own_at ho4 (o := c * 8 + 7) (by rw [HN.out]; omega); have f7' := owns_frozen ho4 rfl (c * 8 + 7)
      go_upto_region 7 with fail
      have ho5 := own_putG (s := y) (k := c) ho4 (by rw [HN.out]; omega)
      have hb5 : Below v2.heap.size v2 (putG8 w4 g (c * 8) y) := putG_below hb4 hge
      clear ho4 hb4
      clear k0 k1 k2 u0 p0 f0' u1 p1 f1' u2 p2 f2' u3 p3 f3' u4 p4 f4' u5 p5 f5' u6 p6 f6' u7 p7 f7'
      dsimp only [putG8] at ho5 hb5
      generalize (World.setCell _ _ _ : World) = w5 at *
      have k0 := bkeep hb5 q0
      have k1 := bkeep hb5 q1
      have k2 := bkeep hb5 q2
      obtain ⟨a9, ha, u0, hcc, -⟩ := sg_row (by rw [HN.out]; exact h.below (bnext (w := w) hb0 hb5)) HX.out
      (first | subst ha | (injection ha with ha; subst ha))
      have u1 := hcc 1 _ (by decide) rfl
      have u2 := hcc 2 _ (by decide) rfl
      have u3 := hcc 3 _ (by decide) rfl
      have u4 := hcc 4 _ (by decide) rfl
      have u5 := hcc 5 _ (by decide) rfl
      have u6 := hcc 6 _ (by decide) rfl
      have u7 := hcc 7 _ (by decide) rfl
      clear hcc
      obtain ⟨z0, p0⟩ := own_at ho5 (o := d * 8) (by rw [List.length_set, HN.out]; omega); have f0' := owns_frozen ho5 rfl (d * 8)
      obtain ⟨z1, p1⟩ := own_at ho5 (o := d * 8 + 1) (by rw [List.length_set, HN.out]; omega); have f1' := owns_frozen ho5 rfl (d * 8 + 1)
      obtain ⟨z2, p2⟩ := own_at ho5 (o := d * 8 + 2) (by rw [List.length_set, HN.out]; omega); have f2' := owns_frozen ho5 rfl (d * 8 + 2)
      obtain ⟨z3, p3⟩ := own_at ho5 (o := d * 8 + 3) (by rw [List.length_set, HN.out]; omega); have f3' := owns_frozen ho5 rfl (d * 8 + 3)
      obtain ⟨z4, p4⟩ := own_at ho5 (o := d * 8 + 4) (by rw [List.length_set, HN.out]; omega); have f4' := owns_frozen ho5 rfl (d * 8 + 4)
      obtain ⟨z5, p5⟩ := own_at ho5 (o := d * 8 + 5) (by rw [List.length_set, HN.out]; omega); have f5' := owns_frozen ho5 rfl (d * 8 + 5)
      obtain ⟨z6, p6⟩ := own_at ho5 (o := d * 8 + 6) (by rw [List.length_set, HN.out]; omega); have f6' := owns_frozen ho5 rfl (d * 8 + 6)
      obtain ⟨z7, p7⟩ := own_at ho5 (o := d * 8 + 7) (by rw [List.length_set, HN.out]; omega); have f7' := owns_frozen ho5 rfl (d * 8 + 7)
      go_upto_region 8 with fail
      have ho6 := own_putG (s := x) (k := d) ho5 (by rw [List.length_set, HN.out]; omega)
      have hb6 : Below v2.heap.size v2 (putG8 w5 g (d * 8) x) := putG_below hb5 hge
      clear ho5 hb5
      clear k0 k1 k2 u0 p0 f0' u1 p1 f1' u2 p2 f2' u3 p3 f3' u4 p4 f4' u5 p5 f5' u6 p6 f6' u7 p7 f7'
      dsimp only [putG8] at ho6 hb6
      generalize (World.setCell _ _ _ : World) = w6 at *
      have g3 := bkeep hb6 q3; have g4 := bkeep hb6 q4; have g5 := bkeep hb6 q5; have e3 := bfree hb6 q3 f3; have e4 := bfree hb6 q4 f4; have e5 := bfree hb6 q5 f5; have k0 := bkeep hb6 q0; have k1 := bkeep hb6 q1; have k2 := bkeep hb6 q2
      have y1 : CellsAt w6 (w.heap.size + 1) [.int .i64 0, .int .i64 0, .slice none 0 0] := (fun o u hu => by match o, hu with | 0, hu => (injection hu with hu; subst hu; exact ⟨g3, e3⟩) | 1, hu => (injection hu with hu; subst hu; exact ⟨g4, e4⟩) | 2, hu => (injection hu with hu; subst hu; exact ⟨g5, e5⟩) | o + 3, hu => simp at hu)
      have hB6 := bnext (w := w) hb0 hb6
      clear hb6 q0 q1 q2 q3 q4 q5 f3 f4 f5 hB hb0
      go_wp2_with fail
      have z1 := cells_store (o := 2) (u := .slice (some ⟨g, 0, none⟩) n gc) (cells_store (o := 1) (u := .int .i64 hi) (cells_store (o := 0) (u := .int .i64 lo) y1))
      have hB9 : Below w.heap.size w _ := ((hB6.setCell (p := ⟨w.heap.size + 1, 0, none⟩) (Nat.le_succ _) (.int .i64 lo)).setCell (p := ⟨w.heap.size + 1, 1, none⟩) (Nat.le_succ _) (.int .i64 hi)).setCell (p := ⟨w.heap.size + 1, 2, none⟩) (Nat.le_succ _) (.slice (some ⟨g, 0, none⟩) n gc)
      have o9 := own_set (o := 2) (b := w.heap.size + 1) (u := .slice (some ⟨g, 0, none⟩) n gc) (own_set (o := 1) (b := w.heap.size + 1) (u := .int .i64 hi) (own_set (o := 0) (b := w.heap.size + 1) (u := .int .i64 lo) ho6 hz2v) hz2v) hz2v
      have r9 := rows_of_owns (l := (l.set c y).set d x) (by rw [List.length_set, List.length_set, HN.out]; exact o9) (fun s hs => by rcases List.mem_or_eq_of_mem_set hs with h | h; (rcases List.mem_or_eq_of_mem_set h with h | h; exact HI64.out s h; subst h; exact HI64.out _ (List.mem_of_getElem? HY.out)); subst h; exact HI64.out _ (List.mem_of_getElem? HX.out))
      clear o9 y1
      have d0 := (z1 0 _ rfl).1; have d1 := (z1 1 _ rfl).1; have d2 := (z1 2 _ rfl).1
      exact bodyPost_ret (v := .tuple #[.agg #[.int .i64 lo, .int .i64 hi, .slice (some ⟨g, 0, none⟩) n gc], .int .i64 0]) (by simp [results, Try.results53, go_sem, *]) rfl ⟨_, rfl, hB9, by simpa using r9⟩

end Go.Proofs.Ytnchhleokdkejaa

/- A bung with two neighbours exchanged. -/
namespace Go.Proofs.Ytnchhleokdkejaa
open Go.RowKit Go.Pb Go.Pb.Ware Go.Pb.Sag
set_option linter.unusedVariables false
set_option linter.unusedSimpArgs false

open Go.Proofs Go.Pb.Bung
set_option maxRecDepth 100000 in
set_option maxHeartbeats 1000000 in
theorem swapP {w : World} {v : Value} {l : List Sg} {lo hi co : Int} {r : _} (h : RowsAt 8 w v (l.map rowG)) (hr : swpA lo hi l co = r) :
    Calls Try.prog 52 #[.agg #[.int .i64 lo, .int .i64 hi, v], .int .i64 co] w (BgRes r w) := by
  unfold BgRes
  obtain ⟨i0, hi0, hz0, hz1, hz2⟩ := info_parts Try.infoG
  have hlat := sg_lat h
  have hi64 := i64_rows h
  obtain ⟨a, cap, rfl, hll⟩ := h.shape
  simp only [List.length_map] at h hlat
  rw [List.length_map] at hll ⊢
  obtain ⟨n, hn⟩ : ∃ n, l.length = n := ⟨_, rfl⟩
  have HN : Hid (l.length = n) := hn
  obtain ⟨b1, h1⟩ : ∃ b, bungOk lo hi l = b := ⟨_, rfl⟩
  obtain ⟨b2, h2⟩ : ∃ b, btw co 0 ((n : Int) - 2) = b := ⟨_, rfl⟩
  unfold swpA at hr
  rw [hn, h1, h2] at hr
  have hcb : ckBg lo hi l = if b1 = true then 0 else 31 := by unfold ckBg; rw [h1]
  have HI64 : Hid (∀ s ∈ l, ∀ z ∈ rowG s, I64 z) := hid hi64
  rw [hn] at h hlat hll ⊢
  have HLT := hid hlat; have HB2 := hid h2
  clear hi64 hlat
  cases b1
  · rw [if_neg (by simp)] at hr
    subst hr
    have HC : Hid (ckBg lo hi l = 31) := hid (hcb.trans (if_neg (by simp)))
    clear hcb h1 h2 hn
    go_enter Try.func52, Try.ntmps52
    go_wp2_with fail
    refine (ckBg_any (h.below (by go_grown)) HC.out).mono ?_
    rintro e w1 ⟨rfl, hb⟩
    replace hb0 := bnext (w := w) (by go_grown) hb; have hz := hb.size; (try simp only [World.size_alloc, World.size_setCell] at hz); replace q0 : w1.cell? ⟨w.heap.size, 0, none⟩ = some (.int .i64 lo) := bkeep hb (by first | (with_reducible exact q0) | (with_reducible exact akeep q0) | simp [*, go_sem]); replace q1 : w1.cell? ⟨w.heap.size, 1, none⟩ = some (.int .i64 hi) := bkeep hb (by first | (with_reducible exact q1) | (with_reducible exact akeep q1) | simp [*, go_sem]); replace q2 : w1.cell? ⟨w.heap.size, 2, none⟩ = some (.slice a n cap) := bkeep hb (by first | (with_reducible exact q2) | (with_reducible exact akeep q2) | simp [*, go_sem]); replace f3 : w1.frozen? ⟨w.heap.size + 1, 0, none⟩ = false := bfree (v := .int .i64 0) hb (by first | (with_reducible exact q3) | (with_reducible exact akeep q3) | simp [*, go_sem]) (by first | (with_reducible exact f3) | (with_reducible exact afree q3 f3) | simp [*, go_sem]); replace q3 : w1.cell? ⟨w.heap.size + 1, 0, none⟩ = some (.int .i64 0) := bkeep hb (by first | (with_reducible exact q3) | (with_reducible exact akeep q3) | simp [*, go_sem]); replace f4 : w1.frozen? ⟨w.heap.size + 1, 1, none⟩ = false := bfree (v := .int .i64 0) hb (by first | (with_reducible exact q4) | (with_reducible exact akeep q4) | simp [*, go_sem]) (by first | (with_reducible exact f4) | (with_reducible exact afree q4 f4) | simp [*, go_sem]); replace q4 : w1.cell? ⟨w.heap.size + 1, 1, none⟩ = some (.int .i64 0) := bkeep hb (by first | (with_reducible exact q4) | (with_reducible exact akeep q4) | simp [*, go_sem]); replace f5 : w1.frozen? ⟨w.heap.size + 1, 2, none⟩ = false := bfree (v := .slice none 0 0) hb (by first | (with_reducible exact q5) | (with_reducible exact akeep q5) | simp [*, go_sem]) (by first | (with_reducible exact f5) | (with_reducible exact afree q5 f5) | simp [*, go_sem]); replace q5 : w1.cell? ⟨w.heap.size + 1, 2, none⟩ = some (.slice none 0 0) := bkeep hb (by first | (with_reducible exact q5) | (with_reducible exact akeep q5) | simp [*, go_sem]); skip
    clear hb
    go_wp2_with fail
    exact bodyPost_ret (v := .tuple #[.agg #[.int .i64 0, .int .i64 0, .slice none 0 0], .int .i64 31]) (by simp [results, Try.results52, go_sem, *]) rfl ⟨_, rfl, by go_grown, rows8_nil _⟩
  · rw [if_pos rfl] at hr
    have HC : Hid (ckBg lo hi l = 0) := hid (hcb.trans (if_pos rfl))
    have hl30 : n ≤ 30 := by rw [← hn]; exact bungOk_len h1
    have hwn : IntKind.i64.wrap ((n : Int) - 2) = (n : Int) - 2 := IntWalk.i64_in _ (by omega)
    clear hcb h1
    cases b2
    · rw [if_neg (by simp)] at hr
      subst hr
      clear h2 hn
      go_enter Try.func52, Try.ntmps52
      go_wp2_with fail
      refine (ckBg_any (h.below (by go_grown)) HC.out).mono ?_
      rintro e w1 ⟨rfl, hb⟩
      replace hb0 := bnext (w := w) (by go_grown) hb; have hz := hb.size; (try simp only [World.size_alloc, World.size_setCell] at hz); replace q0 : w1.cell? ⟨w.heap.size, 0, none⟩ = some (.int .i64 lo) := bkeep hb (by first | (with_reducible exact q0) | (with_reducible exact akeep q0) | simp [*, go_sem]); replace q1 : w1.cell? ⟨w.heap.size, 1, none⟩ = some (.int .i64 hi) := bkeep hb (by first | (with_reducible exact q1) | (with_reducible exact akeep q1) | simp [*, go_sem]); replace q2 : w1.cell? ⟨w.heap.size, 2, none⟩ = some (.slice a n cap) := bkeep hb (by first | (with_reducible exact q2) | (with_reducible exact akeep q2) | simp [*, go_sem]); replace f3 : w1.frozen? ⟨w.heap.size + 1, 0, none⟩ = false := bfree (v := .int .i64 0) hb (by first | (with_reducible exact q3) | (with_reducible exact akeep q3) | simp [*, go_sem]) (by first | (with_reducible exact f3) | (with_reducible exact afree q3 f3) | simp [*, go_sem]); replace q3 : w1.cell? ⟨w.heap.size + 1, 0, none⟩ = some (.int .i64 0) := bkeep hb (by first | (with_reducible exact q3) | (with_reducible exact akeep q3) | simp [*, go_sem]); replace f4 : w1.frozen? ⟨w.heap.size + 1, 1, none⟩ = false := bfree (v := .int .i64 0) hb (by first | (with_reducible exact q4) | (with_reducible exact akeep q4) | simp [*, go_sem]) (by first | (with_reducible exact f4) | (with_reducible exact afree q4 f4) | simp [*, go_sem]); replace q4 : w1.cell? ⟨w.heap.size + 1, 1, none⟩ = some (.int .i64 0) := bkeep hb (by first | (with_reducible exact q4) | (with_reducible exact akeep q4) | simp [*, go_sem]); replace f5 : w1.frozen? ⟨w.heap.size + 1, 2, none⟩ = false := bfree (v := .slice none 0 0) hb (by first | (with_reducible exact q5) | (with_reducible exact akeep q5) | simp [*, go_sem]) (by first | (with_reducible exact f5) | (with_reducible exact afree q5 f5) | simp [*, go_sem]); replace q5 : w1.cell? ⟨w.heap.size + 1, 2, none⟩ = some (.slice none 0 0) := bkeep hb (by first | (with_reducible exact q5) | (with_reducible exact akeep q5) | simp [*, go_sem]); skip
      clear hb
      go_wp2_with fail
      refine (bB HB2.out).mono ?_
      rintro e w1 ⟨rfl, hb⟩
      replace hb0 := bnext (w := w) (by go_grown) hb; have hz := hb.size; (try simp only [World.size_alloc, World.size_setCell] at hz); replace q0 : w1.cell? ⟨w.heap.size, 0, none⟩ = some (.int .i64 lo) := bkeep hb (by first | (with_reducible exact q0) | (with_reducible exact akeep q0) | simp [*, go_sem]); replace q1 : w1.cell? ⟨w.heap.size, 1, none⟩ = some (.int .i64 hi) := bkeep hb (by first | (with_reducible exact q1) | (with_reducible exact akeep q1) | simp [*, go_sem]); replace q2 : w1.cell? ⟨w.heap.size, 2, none⟩ = some (.slice a n cap) := bkeep hb (by first | (with_reducible exact q2) | (with_reducible exact akeep q2) | simp [*, go_sem]); replace f3 : w1.frozen? ⟨w.heap.size + 1, 0, none⟩ = false := bfree (v := .int .i64 0) hb (by first | (with_reducible exact q3) | (with_reducible exact akeep q3) | simp [*, go_sem]) (by first | (with_reducible exact f3) | (with_reducible exact afree q3 f3) | simp [*, go_sem]); replace q3 : w1.cell? ⟨w.heap.size + 1, 0, none⟩ = some (.int .i64 0) := bkeep hb (by first | (with_reducible exact q3) | (with_reducible exact akeep q3) | simp [*, go_sem]); replace f4 : w1.frozen? ⟨w.heap.size + 1, 1, none⟩ = false := bfree (v := .int .i64 0) hb (by first | (with_reducible exact q4) | (with_reducible exact akeep q4) | simp [*, go_sem]) (by first | (with_reducible exact f4) | (with_reducible exact afree q4 f4) | simp [*, go_sem]); replace q4 : w1.cell? ⟨w.heap.size + 1, 1, none⟩ = some (.int .i64 0) := bkeep hb (by first | (with_reducible exact q4) | (with_reducible exact akeep q4) | simp [*, go_sem]); replace f5 : w1.frozen? ⟨w.heap.size + 1, 2, none⟩ = false := bfree (v := .slice none 0 0) hb (by first | (with_reducible exact q5) | (with_reducible exact akeep q5) | simp [*, go_sem]) (by first | (with_reducible exact f5) | (with_reducible exact afree q5 f5) | simp [*, go_sem]); replace q5 : w1.cell? ⟨w.heap.size + 1, 2, none⟩ = some (.slice none 0 0) := bkeep hb (by first | (with_reducible exact q5) | (with_reducible exact akeep q5) | simp [*, go_sem]); skip
      clear hb
      go_wp2_with fail
      exact bodyPost_ret (v := .tuple #[.agg #[.int .i64 0, .int .i64 0, .slice none 0 0], .int .i64 1]) (by simp [results, Try.results52, go_sem, *]) rfl ⟨_, rfl, by go_grown, rows8_nil _⟩
    · rw [if_pos rfl] at hr
      have hco := btw_iff.1 h2
      clear h2
      obtain ⟨c, rfl⟩ : ∃ c : Nat, co = (c : Int) := ⟨co.toNat, by omega⟩
      rw [Int.toNat_natCast] at hr
      have hn0 : 0 < n := by omega
      obtain ⟨d, hd⟩ : ∃ d, c + 1 = d := ⟨_, rfl⟩
      have hwc : IntKind.i64.wrap ((c : Int) + 1) = (d : Int) := (IntWalk.i64_in _ (by omega)).trans (by omega)
      have hcn : (c : Int) < (n : Int) := by omega
      have hdn : (d : Int) < (n : Int) := by omega
      obtain ⟨x, hx⟩ : ∃ s, l[c]? = some s := ⟨_, List.getElem?_eq_getElem (by omega)⟩
      obtain ⟨y, hy⟩ : ∃ s, l[d]? = some s := ⟨_, List.getElem?_eq_getElem (by omega)⟩
      have hsw : swapL l c = (l.set c y).set d x := by unfold swapL; rw [hd, getD_of hx, getD_of hy]
      rw [hsw] at hr
      subst hr
      have HD := hid hd; have HX : Hid (l[c]? = some x) := hid hx; have HY : Hid (l[d]? = some y) := hid hy
      clear hd hsw hn
      go_enter Try.func52, Try.ntmps52
      go_wp2_with fail
      refine (ckBg_any (h.below (by go_grown)) HC.out).mono ?_
      rintro e w1 ⟨rfl, hb⟩
      replace hb0 := bnext (w := w) (by go_grown) hb; have hz := hb.size; (try simp only [World.size_alloc, World.size_setCell] at hz); replace q0 : w1.cell? ⟨w.heap.size, 0, none⟩ = some (.int .i64 lo) := bkeep hb (by first | (with_reducible exact q0) | (with_reducible exact akeep q0) | simp [*, go_sem]); replace q1 : w1.cell? ⟨w.heap.size, 1, none⟩ = some (.int .i64 hi) := bkeep hb (by first | (with_reducible exact q1) | (with_reducible exact akeep q1) | simp [*, go_sem]); replace q2 : w1.cell? ⟨w.heap.size, 2, none⟩ = some (.slice a n cap) := bkeep hb (by first | (with_reducible exact q2) | (with_reducible exact akeep q2) | simp [*, go_sem]); replace f3 : w1.frozen? ⟨w.heap.size + 1, 0, none⟩ = false := bfree (v := .int .i64 0) hb (by first | (with_reducible exact q3) | (with_reducible exact akeep q3) | simp [*, go_sem]) (by first | (with_reducible exact f3) | (with_reducible exact afree q3 f3) | simp [*, go_sem]); replace q3 : w1.cell? ⟨w.heap.size + 1, 0, none⟩ = some (.int .i64 0) := bkeep hb (by first | (with_reducible exact q3) | (with_reducible exact akeep q3) | simp [*, go_sem]); replace f4 : w1.frozen? ⟨w.heap.size + 1, 1, none⟩ = false := bfree (v := .int .i64 0) hb (by first | (with_reducible exact q4) | (with_reducible exact akeep q4) | simp [*, go_sem]) (by first | (with_reducible exact f4) | (with_reducible exact afree q4 f4) | simp [*, go_sem]); replace q4 : w1.cell? ⟨w.heap.size + 1, 1, none⟩ = some (.int .i64 0) := bkeep hb (by first | (with_reducible exact q4) | (with_reducible exact akeep q4) | simp [*, go_sem]); replace f5 : w1.frozen? ⟨w.heap.size + 1, 2, none⟩ = false := bfree (v := .slice none 0 0) hb (by first | (with_reducible exact q5) | (with_reducible exact akeep q5) | simp [*, go_sem]) (by first | (with_reducible exact f5) | (with_reducible exact afree q5 f5) | simp [*, go_sem]); replace q5 : w1.cell? ⟨w.heap.size + 1, 2, none⟩ = some (.slice none 0 0) := bkeep hb (by first | (with_reducible exact q5) | (with_reducible exact akeep q5) | simp [*, go_sem]); skip
      clear hb
      go_wp2_with fail
      refine (bB HB2.out).mono ?_
      rintro e w1 ⟨rfl, hb⟩
      replace hb0 := bnext (w := w) (by go_grown) hb; have hz := hb.size; (try simp only [World.size_alloc, World.size_setCell] at hz); replace q0 : w1.cell? ⟨w.heap.size, 0, none⟩ = some (.int .i64 lo) := bkeep hb (by first | (with_reducible exact q0) | (with_reducible exact akeep q0) | simp [*, go_sem]); replace q1 : w1.cell? ⟨w.heap.size, 1, none⟩ = some (.int .i64 hi) := bkeep hb (by first | (with_reducible exact q1) | (with_reducible exact akeep q1) | simp [*, go_sem]); replace q2 : w1.cell? ⟨w.heap.size, 2, none⟩ = some (.slice a n cap) := bkeep hb (by first | (with_reducible exact q2) | (with_reducible exact akeep q2) | simp [*, go_sem]); replace f3 : w1.frozen? ⟨w.heap.size + 1, 0, none⟩ = false := bfree (v := .int .i64 0) hb (by first | (with_reducible exact q3) | (with_reducible exact akeep q3) | simp [*, go_sem]) (by first | (with_reducible exact f3) | (with_reducible exact afree q3 f3) | simp [*, go_sem]); replace q3 : w1.cell? ⟨w.heap.size + 1, 0, none⟩ = some (.int .i64 0) := bkeep hb (by first | (with_reducible exact q3) | (with_reducible exact akeep q3) | simp [*, go_sem]); replace f4 : w1.frozen? ⟨w.heap.size + 1, 1, none⟩ = false := bfree (v := .int .i64 0) hb (by first | (with_reducible exact q4) | (with_reducible exact akeep q4) | simp [*, go_sem]) (by first | (with_reducible exact f4) | (with_reducible exact afree q4 f4) | simp [*, go_sem]); replace q4 : w1.cell? ⟨w.heap.size + 1, 1, none⟩ = some (.int .i64 0) := bkeep hb (by first | (with_reducible exact q4) | (with_reducible exact akeep q4) | simp [*, go_sem]); replace f5 : w1.frozen? ⟨w.heap.size + 1, 2, none⟩ = false := bfree (v := .slice none 0 0) hb (by first | (with_reducible exact q5) | (with_reducible exact akeep q5) | simp [*, go_sem]) (by first | (with_reducible exact f5) | (with_reducible exact afree q5 f5) | simp [*, go_sem]); replace q5 : w1.cell? ⟨w.heap.size + 1, 2, none⟩ = some (.slice none 0 0) := bkeep hb (by first | (with_reducible exact q5) | (with_reducible exact akeep q5) | simp [*, go_sem]); skip
      clear hb
      obtain ⟨v2, hv2⟩ : ∃ v, v = w1 := ⟨_, rfl⟩
      subst hv2
      have hz2v : w.heap.size + 1 < v2.heap.size := World.block_lt_of_cell? v2 ⟨w.heap.size + 1, 0, none⟩ q3
      have hB := hb0
      go_wp2_with fail
      refine (cloneG (l := l) (h.below hb0) (by rw [HN.out]; omega)).mono ?_
      unfold NewSgs
      rw [HN.out]
      rintro e w4 ⟨xv, rfl, hb4, ho4⟩
      obtain ⟨g, gc, rfl, -, -⟩ := own_some ho4 hn0
      have hge : v2.heap.size ≤ g := (World.ownsRow.lt ho4 g rfl).1
      have k0 := bkeep hb4 q0
      have k1 := bkeep hb4 q1
      have k2 := bkeep hb4 q2
      have hrw := rows_of_owns (l := l) (by rw [HN.out]; exact ho4) HI64.out
      obtain ⟨a9, ha, u0, hcc, -⟩ := sg_row (by rw [HN.out]; exact hrw) HY.out
      injection ha with ha
      subst ha
      have u1 := hcc 1 _ (by decide) rfl
      have u2 := hcc 2 _ (by decide) rfl
      have u3 := hcc 3 _ (by decide) rfl
      have u4 := hcc 4 _ (by decide) rfl
      have u5 := hcc 5 _ (by decide) rfl
      have u6 := hcc 6 _ (by decide) rfl
      have u7 := hcc 7 _ (by decide) rfl
      clear hcc
      simp only [Go.WideShapes.add_plain, Nat.zero_add] at u0 u1 u2 u3 u4 u5 u6 u7
      obtain ⟨a9, ha, t0, hcc, -⟩ := sg_row (by rw [HN.out]; exact hrw) HX.out
      injection ha with ha
      subst ha
      have t1 := hcc 1 _ (by decide) rfl
      have t2 := hcc 2 _ (by decide) rfl
      have t3 := hcc 3 _ (by decide) rfl
      have t4 := hcc 4 _ (by decide) rfl
      have t5 := hcc 5 _ (by decide) rfl
      have t6 := hcc 6 _ (by decide) rfl
      have t7 := hcc 7 _ (by decide) rfl
      clear hcc
      simp only [Go.WideShapes.add_plain, Nat.zero_add] at t0 t1 t2 t3 t4 t5 t6 t7
      go_upto_region 7 with fail
      refine wp_region_F [2, 3, 4, 10, 11, 12] (by kernel_rfl) [] [0, 1, 5, 6, 7, 8, 9, 13] 4 (by kernel_rfl) rfl (fun _ h => by cases h) (by kernel_rfl) ?_
      refine ⟨_, .slice (some ⟨g, 0, none⟩) n gc, rfl, .inl ⟨rfl, fun w => by go_simp⟩, ?_⟩
      (try simp only [Act.put, List.getElem_toArray, List.getElem_cons_succ, List.getElem_cons_zero, List.setIfInBounds_toArray, List.set_cons_succ, List.set_cons_zero])
      refine ⟨_, .int .i64 (c : Int), rfl, .inl ⟨rfl, fun w => by go_simp⟩, ?_⟩
      (try simp only [Act.put, List.getElem_toArray, List.getElem_cons_succ, List.getElem_cons_zero, List.setIfInBounds_toArray, List.set_cons_succ, List.set_cons_zero])
      refine ⟨_, .int .i64 (d : Int), rfl, .inl ⟨rfl, fun w => by go_simp⟩, ?_⟩
      (try simp only [Act.put, List.getElem_toArray, List.getElem_cons_succ, List.getElem_cons_zero, List.setIfInBounds_toArray, List.set_cons_succ, List.set_cons_zero])
      refine ⟨_, .slice (some ⟨g, 0, none⟩) n gc, rfl, .inl ⟨rfl, fun w => by go_simp⟩, ?_⟩
      (try simp only [Act.put, List.getElem_toArray, List.getElem_cons_succ, List.getElem_cons_zero, List.setIfInBounds_toArray, List.set_cons_succ, List.set_cons_zero])
      refine ⟨_, .int .i64 (c : Int), rfl, .inl ⟨rfl, fun w => by go_simp⟩, ?_⟩
      (try simp only [Act.put, List.getElem_toArray, List.getElem_cons_succ, List.getElem_cons_zero, List.setIfInBounds_toArray, List.set_cons_succ, List.set_cons_zero])
      refine ⟨_, .pointer (some ⟨g, c * 8, none⟩), rfl, .inl ⟨rfl, fun w => by go_simp⟩, ?_⟩
      (try simp only [Act.put, List.getElem_toArray, List.getElem_cons_succ, List.getElem_cons_zero, List.setIfInBounds_toArray, List.set_cons_succ, List.set_cons_zero])
      show wpS _ _ _ _ _ _ _ (numbered _ _) _ _
      simp only [numbered, List.filterMap_cons, List.filterMap_nil, List.getElem?_toArray, List.getElem?_cons_succ, List.getElem?_cons_zero, Option.map_some]
      show wpS _ _ _ _ _ _ _ [(_, _), (_, _), (_, _), (_, _), (_, _), (_, _), (_, _), (_, _)] _ _
      (refine wpS_quiet rfl rfl ?_; intro K hK inst hx; have s0 := fun x => (fun _ => bkeep (BQ.below x) k0) (hx x); have s1 := fun x => (fun _ => bkeep (BQ.below x) k1) (hx x); have s2 := fun x => (fun _ => bkeep (BQ.below x) k2) (hx x); have s3 := fun x => (fun _ => bkeep (BQ.below x) u0) (hx x); have s4 := fun x => (fun _ => bkeep (BQ.below x) u1) (hx x); have s5 := fun x => (fun _ => bkeep (BQ.below x) u2) (hx x); have s6 := fun x => (fun _ => bkeep (BQ.below x) u3) (hx x); have s7 := fun x => (fun _ => bkeep (BQ.below x) u4) (hx x); have s8 := fun x => (fun _ => bkeep (BQ.below x) u5) (hx x); have s9 := fun x => (fun _ => bkeep (BQ.below x) u6) (hx x); have s10 := fun x => (fun _ => bkeep (BQ.below x) u7) (hx x); have s11 := fun x => (fun _ => bkeep (BQ.below x) t0) (hx x); have s12 := fun x => (fun _ => bkeep (BQ.below x) t1) (hx x); have s13 := fun x => (fun _ => bkeep (BQ.below x) t2) (hx x); have s14 := fun x => (fun _ => bkeep (BQ.below x) t3) (hx x); have s15 := fun x => (fun _ => bkeep (BQ.below x) t4) (hx x); have s16 := fun x => (fun _ => bkeep (BQ.below x) t5) (hx x); have s17 := fun x => (fun _ => bkeep (BQ.below x) t6) (hx x); have s18 := fun x => (fun _ => bkeep (BQ.below x) t7) (hx x); go_big_quiet_op; (first | go_big_quiet_on | (refine ⟨_, fun _ => rfl, ?_⟩; go_big_quiet_on)); clear hx inst)
      (refine wpS_quiet rfl rfl ?_; intro K hK inst hx; have s0 := fun x => (fun _ => bkeep (BQ.below x) k0) (hx x); have s1 := fun x => (fun _ => bkeep (BQ.below x) k1) (hx x); have s2 := fun x => (fun _ => bkeep (BQ.below x) k2) (hx x); have s3 := fun x => (fun _ => bkeep (BQ.below x) u0) (hx x); have s4 := fun x => (fun _ => bkeep (BQ.below x) u1) (hx x); have s5 := fun x => (fun _ => bkeep (BQ.below x) u2) (hx x); have s6 := fun x => (fun _ => bkeep (BQ.below x) u3) (hx x); have s7 := fun x => (fun _ => bkeep (BQ.below x) u4) (hx x); have s8 := fun x => (fun _ => bkeep (BQ.below x) u5) (hx x); have s9 := fun x => (fun _ => bkeep (BQ.below x) u6) (hx x); have s10 := fun x => (fun _ => bkeep (BQ.below x) u7) (hx x); have s11 := fun x => (fun _ => bkeep (BQ.below x) t0) (hx x); have s12 := fun x => (fun _ => bkeep (BQ.below x) t1) (hx x); have s13 := fun x => (fun _ => bkeep (BQ.below x) t2) (hx x); have s14 := fun x => (fun _ => bkeep (BQ.below x) t3) (hx x); have s15 := fun x => (fun _ => bkeep (BQ.below x) t4) (hx x); have s16 := fun x => (fun _ => bkeep (BQ.below x) t5) (hx x); have s17 := fun x => (fun _ => bkeep (BQ.below x) t6) (hx x); have s18 := fun x => (fun _ => bkeep (BQ.below x) t7) (hx x); go_big_quiet_op; (first | go_big_quiet_on | (refine ⟨_, fun _ => rfl, ?_⟩; go_big_quiet_on)); clear hx inst)
      (refine wpS_quiet rfl rfl ?_; intro K hK inst hx; have s0 := fun x => (fun _ => bkeep (BQ.below x) k0) (hx x); have s1 := fun x => (fun _ => bkeep (BQ.below x) k1) (hx x); have s2 := fun x => (fun _ => bkeep (BQ.below x) k2) (hx x); have s3 := fun x => (fun _ => bkeep (BQ.below x) u0) (hx x); have s4 := fun x => (fun _ => bkeep (BQ.below x) u1) (hx x); have s5 := fun x => (fun _ => bkeep (BQ.below x) u2) (hx x); have s6 := fun x => (fun _ => bkeep (BQ.below x) u3) (hx x); have s7 := fun x => (fun _ => bkeep (BQ.below x) u4) (hx x); have s8 := fun x => (fun _ => bkeep (BQ.below x) u5) (hx x); have s9 := fun x => (fun _ => bkeep (BQ.below x) u6) (hx x); have s10 := fun x => (fun _ => bkeep (BQ.below x) u7) (hx x); have s11 := fun x => (fun _ => bkeep (BQ.below x) t0) (hx x); have s12 := fun x => (fun _ => bkeep (BQ.below x) t1) (hx x); have s13 := fun x => (fun _ => bkeep (BQ.below x) t2) (hx x); have s14 := fun x => (fun _ => bkeep (BQ.below x) t3) (hx x); have s15 := fun x => (fun _ => bkeep (BQ.below x) t4) (hx x); have s16 := fun x => (fun _ => bkeep (BQ.below x) t5) (hx x); have s17 := fun x => (fun _ => bkeep (BQ.below x) t6) (hx x); have s18 := fun x => (fun _ => bkeep (BQ.below x) t7) (hx x); go_big_quiet_op; (first | go_big_quiet_on | (refine ⟨_, fun _ => rfl, ?_⟩; go_big_quiet_on)); clear hx inst)
      (refine wpS_quiet rfl rfl ?_; intro K hK inst hx; have s0 := fun x => (fun _ => bkeep (BQ.below x) k0) (hx x); have s1 := fun x => (fun _ => bkeep (BQ.below x) k1) (hx x); have s2 := fun x => (fun _ => bkeep (BQ.below x) k2) (hx x); have s3 := fun x => (fun _ => bkeep (BQ.below x) u0) (hx x); have s4 := fun x => (fun _ => bkeep (BQ.below x) u1) (hx x); have s5 := fun x => (fun _ => bkeep (BQ.below x) u2) (hx x); have s6 := fun x => (fun _ => bkeep (BQ.below x) u3) (hx x); have s7 := fun x => (fun _ => bkeep (BQ.below x) u4) (hx x); have s8 := fun x => (fun _ => bkeep (BQ.below x) u5) (hx x); have s9 := fun x => (fun _ => bkeep (BQ.below x) u6) (hx x); have s10 := fun x => (fun _ => bkeep (BQ.below x) u7) (hx x); have s11 := fun x => (fun _ => bkeep (BQ.below x) t0) (hx x); have s12 := fun x => (fun _ => bkeep (BQ.below x) t1) (hx x); have s13 := fun x => (fun _ => bkeep (BQ.below x) t2) (hx x); have s14 := fun x => (fun _ => bkeep (BQ.below x) t3) (hx x); have s15 := fun x => (fun _ => bkeep (BQ.below x) t4) (hx x); have s16 := fun x => (fun _ => bkeep (BQ.below x) t5) (hx x); have s17 := fun x => (fun _ => bkeep (BQ.below x) t6) (hx x); have s18 := fun x => (fun _ => bkeep (BQ.below x) t7) (hx x); go_big_quiet_op; (first | go_big_quiet_on | (refine ⟨_, fun _ => rfl, ?_⟩; go_big_quiet_on)); clear hx inst)
      (refine wpS_quiet rfl rfl ?_; intro K hK inst hx; have s0 := fun x => (fun _ => bkeep (BQ.below x) k0) (hx x); have s1 := fun x => (fun _ => bkeep (BQ.below x) k1) (hx x); have s2 := fun x => (fun _ => bkeep (BQ.below x) k2) (hx x); have s3 := fun x => (fun _ => bkeep (BQ.below x) u0) (hx x); have s4 := fun x => (fun _ => bkeep (BQ.below x) u1) (hx x); have s5 := fun x => (fun _ => bkeep (BQ.below x) u2) (hx x); have s6 := fun x => (fun _ => bkeep (BQ.below x) u3) (hx x); have s7 := fun x => (fun _ => bkeep (BQ.below x) u4) (hx x); have s8 := fun x => (fun _ => bkeep (BQ.below x) u5) (hx x); have s9 := fun x => (fun _ => bkeep (BQ.below x) u6) (hx x); have s10 := fun x => (fun _ => bkeep (BQ.below x) u7) (hx x); have s11 := fun x => (fun _ => bkeep (BQ.below x) t0) (hx x); have s12 := fun x => (fun _ => bkeep (BQ.below x) t1) (hx x); have s13 := fun x => (fun _ => bkeep (BQ.below x) t2) (hx x); have s14 := fun x => (fun _ => bkeep (BQ.below x) t3) (hx x); have s15 := fun x => (fun _ => bkeep (BQ.below x) t4) (hx x); have s16 := fun x => (fun _ => bkeep (BQ.below x) t5) (hx x); have s17 := fun x => (fun _ => bkeep (BQ.below x) t6) (hx x); have s18 := fun x => (fun _ => bkeep (BQ.below x) t7) (hx x); go_big_quiet_op; (first | go_big_quiet_on | (refine ⟨_, fun _ => rfl, ?_⟩; go_big_quiet_on)); clear hx inst)
      (refine wpS_quiet rfl rfl ?_; intro K hK inst hx; have s0 := fun x => (fun _ => bkeep (BQ.below x) k0) (hx x); have s1 := fun x => (fun _ => bkeep (BQ.below x) k1) (hx x); have s2 := fun x => (fun _ => bkeep (BQ.below x) k2) (hx x); have s3 := fun x => (fun _ => bkeep (BQ.below x) u0) (hx x); have s4 := fun x => (fun _ => bkeep (BQ.below x) u1) (hx x); have s5 := fun x => (fun _ => bkeep (BQ.below x) u2) (hx x); have s6 := fun x => (fun _ => bkeep (BQ.below x) u3) (hx x); have s7 := fun x => (fun _ => bkeep (BQ.below x) u4) (hx x); have s8 := fun x => (fun _ => bkeep (BQ.below x) u5) (hx x); have s9 := fun x => (fun _ => bkeep (BQ.below x) u6) (hx x); have s10 := fun x => (fun _ => bkeep (BQ.below x) u7) (hx x); have s11 := fun x => (fun _ => bkeep (BQ.below x) t0) (hx x); have s12 := fun x => (fun _ => bkeep (BQ.below x) t1) (hx x); have s13 := fun x => (fun _ => bkeep (BQ.below x) t2) (hx x); have s14 := fun x => (fun _ => bkeep (BQ.below x) t3) (hx x); have s15 := fun x => (fun _ => bkeep (BQ.below x) t4) (hx x); have s16 := fun x => (fun _ => bkeep (BQ.below x) t5) (hx x); have s17 := fun x => (fun _ => bkeep (BQ.below x) t6) (hx x); have s18 := fun x => (fun _ => bkeep (BQ.below x) t7) (hx x); go_big_quiet_op; (first | go_big_quiet_on | (refine ⟨_, fun _ => rfl, ?_⟩; go_big_quiet_on)); clear hx inst)
      (refine wpS_quiet rfl rfl ?_; intro K hK inst hx; have s0 := fun x => (fun _ => bkeep (BQ.below x) k0) (hx x); have s1 := fun x => (fun _ => bkeep (BQ.below x) k1) (hx x); have s2 := fun x => (fun _ => bkeep (BQ.below x) k2) (hx x); have s3 := fun x => (fun _ => bkeep (BQ.below x) u0) (hx x); have s4 := fun x => (fun _ => bkeep (BQ.below x) u1) (hx x); have s5 := fun x => (fun _ => bkeep (BQ.below x) u2) (hx x); have s6 := fun x => (fun _ => bkeep (BQ.below x) u3) (hx x); have s7 := fun x => (fun _ => bkeep (BQ.below x) u4) (hx x); have s8 := fun x => (fun _ => bkeep (BQ.below x) u5) (hx x); have s9 := fun x => (fun _ => bkeep (BQ.below x) u6) (hx x); have s10 := fun x => (fun _ => bkeep (BQ.below x) u7) (hx x); have s11 := fun x => (fun _ => bkeep (BQ.below x) t0) (hx x); have s12 := fun x => (fun _ => bkeep (BQ.below x) t1) (hx x); have s13 := fun x => (fun _ => bkeep (BQ.below x) t2) (hx x); have s14 := fun x => (fun _ => bkeep (BQ.below x) t3) (hx x); have s15 := fun x => (fun _ => bkeep (BQ.below x) t4) (hx x); have s16 := fun x => (fun _ => bkeep (BQ.below x) t5) (hx x); have s17 := fun x => (fun _ => bkeep (BQ.below x) t6) (hx x); have s18 := fun x => (fun _ => bkeep (BQ.below x) t7) (hx x); go_big_quiet_op; (first | go_big_quiet_on | (refine ⟨_, fun _ => rfl, ?_⟩; go_big_quiet_on)); clear hx inst)
      (refine wpS_quiet rfl rfl ?_; intro K hK inst hx; have s0 := fun x => (fun _ => bkeep (BQ.below x) k0) (hx x); have s1 := fun x => (fun _ => bkeep (BQ.below x) k1) (hx x); have s2 := fun x => (fun _ => bkeep (BQ.below x) k2) (hx x); have s3 := fun x => (fun _ => bkeep (BQ.below x) u0) (hx x); have s4 := fun x => (fun _ => bkeep (BQ.below x) u1) (hx x); have s5 := fun x => (fun _ => bkeep (BQ.below x) u2) (hx x); have s6 := fun x => (fun _ => bkeep (BQ.below x) u3) (hx x); have s7 := fun x => (fun _ => bkeep (BQ.below x) u4) (hx x); have s8 := fun x => (fun _ => bkeep (BQ.below x) u5) (hx x); have s9 := fun x => (fun _ => bkeep (BQ.below x) u6) (hx x); have s10 := fun x => (fun _ => bkeep (BQ.below x) u7) (hx x); have s11 := fun x => (fun _ => bkeep (BQ.below x) t0) (hx x); have s12 := fun x => (fun _ => bkeep (BQ.below x) t1) (hx x); have s13 := fun x => (fun _ => bkeep (BQ.below x) t2) (hx x); have s14 := fun x => (fun _ => bkeep (BQ.below x) t3) (hx x); have s15 := fun x => (fun _ => bkeep (BQ.below x) t4) (hx x); have s16 := fun x => (fun _ => bkeep (BQ.below x) t5) (hx x); have s17 := fun x => (fun _ => bkeep (BQ.below x) t6) (hx x); have s18 := fun x => (fun _ => bkeep (BQ.below x) t7) (hx x); go_big_quiet_op; (first | go_big_quiet_on | (refine ⟨_, fun _ => rfl, ?_⟩; go_big_quiet_on)); clear hx inst)
      refine wpS_nil ?_
      intro v6 hall
      have hb := hall.1
      clear hall
      have ho6 := owns_below ho4 hb
      have hb6 := hb4.trans (hb.mono hb4.size)
      clear hb ho4 hb4 hrw k0 k1 k2 u0 t0 u1 t1 u2 t2 u3 t3 u4 t4 u5 t5 u6 t6 u7 t7
      refine wpAny_ready (rs := [14]) (by kernel_rfl) (by simp) ?_
      refine AllReady.cons rfl (fun K hK => ?_) AllReady.nil
      go_simp
      refine hK _ _ ?_; clear hK K
      obtain ⟨z0, p0⟩ := own_at ho6 (o := c * 8) (by rw [HN.out]; omega); have f0' := owns_frozen ho6 rfl (c * 8)
      obtain ⟨z1, p1⟩ := own_at ho6 (o := c * 8 + 1) (by rw [HN.out]; omega); have f1' := owns_frozen ho6 rfl (c * 8 + 1)
      obtain ⟨z2, p2⟩ := own_at ho6 (o := c * 8 + 2) (by rw [HN.out]; omega); have f2' := owns_frozen ho6 rfl (c * 8 + 2)
      obtain ⟨z3, p3⟩ := own_at ho6 (o := c * 8 + 3) (by rw [HN.out]; omega); have f3' := owns_frozen ho6 rfl (c * 8 + 3)
      obtain ⟨z4, p4⟩ := own_at ho6 (o := c * 8 + 4) (by rw [HN.out]; omega); have f4' := owns_frozen ho6 rfl (c * 8 + 4)
      obtain ⟨z5, p5⟩ := own_at ho6 (o := c * 8 + 5) (by rw [HN.out]; omega); have f5' := owns_frozen ho6 rfl (c * 8 + 5)
      obtain ⟨z6, p6⟩ := own_at ho6 (o := c * 8 + 6) (by rw [HN.out]; omega); have f6' := owns_frozen ho6 rfl (c * 8 + 6)
      obtain ⟨z7, p7⟩ := own_at ho6 (o := c * 8 + 7) (by rw [HN.out]; omega); have f7' := owns_frozen ho6 rfl (c * 8 + 7)
      refine wpAny_ready (rs := [15]) (by kernel_rfl) (by simp) ?_
      refine AllReady.cons rfl (fun K hK => ?_) AllReady.nil
      go_simp
      refine hK _ _ ?_; clear hK K
      have ho7 := own_putG (s := y) (k := c) ho6 (by rw [HN.out]; omega)
      have hb7 : Below v2.heap.size v2 (putG8 v6 g (c * 8) y) := putG_below hb6 hge
      clear ho6 hb6 p0 f0' p1 f1' p2 f2' p3 f3' p4 f4' p5 f5' p6 f6' p7 f7'
      dsimp only [putG8] at ho7 hb7
      generalize (World.setCell _ _ _ : World) = v7 at *
      refine wpAny_ready (rs := [16]) (by kernel_rfl) (by simp) ?_
      refine AllReady.cons rfl (fun K hK => ?_) AllReady.nil
      go_simp
      refine hK _ _ ?_; clear hK K
      obtain ⟨z0, p0⟩ := own_at ho7 (o := d * 8) (by rw [List.length_set, HN.out]; omega); have f0' := owns_frozen ho7 rfl (d * 8)
      obtain ⟨z1, p1⟩ := own_at ho7 (o := d * 8 + 1) (by rw [List.length_set, HN.out]; omega); have f1' := owns_frozen ho7 rfl (d * 8 + 1)
      obtain ⟨z2, p2⟩ := own_at ho7 (o := d * 8 + 2) (by rw [List.length_set, HN.out]; omega); have f2' := owns_frozen ho7 rfl (d * 8 + 2)
      obtain ⟨z3, p3⟩ := own_at ho7 (o := d * 8 + 3) (by rw [List.length_set, HN.out]; omega); have f3' := owns_frozen ho7 rfl (d * 8 + 3)
      obtain ⟨z4, p4⟩ := own_at ho7 (o := d * 8 + 4) (by rw [List.length_set, HN.out]; omega); have f4' := owns_frozen ho7 rfl (d * 8 + 4)
      obtain ⟨z5, p5⟩ := own_at ho7 (o := d * 8 + 5) (by rw [List.length_set, HN.out]; omega); have f5' := owns_frozen ho7 rfl (d * 8 + 5)
      obtain ⟨z6, p6⟩ := own_at ho7 (o := d * 8 + 6) (by rw [List.length_set, HN.out]; omega); have f6' := owns_frozen ho7 rfl (d * 8 + 6)
      obtain ⟨z7, p7⟩ := own_at ho7 (o := d * 8 + 7) (by rw [List.length_set, HN.out]; omega); have f7' := owns_frozen ho7 rfl (d * 8 + 7)
      refine wpAny_ready (rs := [17]) (by kernel_rfl) (by simp) ?_
      refine AllReady.cons rfl (fun K hK => ?_) AllReady.nil
      go_simp
      refine hK _ _ ?_; clear hK K
      have ho6 := own_putG (s := x) (k := d) ho7 (by rw [List.length_set, HN.out]; omega)
      have hb6 : Below v2.heap.size v2 (putG8 v7 g (d * 8) x) := putG_below hb7 hge
      clear ho7 hb7 p0 f0' p1 f1' p2 f2' p3 f3' p4 f4' p5 f5' p6 f6' p7 f7'
      dsimp only [putG8] at ho6 hb6
      generalize (World.setCell _ _ _ : World) = w6 at *
      refine wpAny_done (by kernel_rfl) ?_ _
      refine ⟨rfl, ?_⟩
      have g3 := bkeep hb6 q3; have g4 := bkeep hb6 q4; have g5 := bkeep hb6 q5; have e3 := bfree hb6 q3 f3; have e4 := bfree hb6 q4 f4; have e5 := bfree hb6 q5 f5; have k0 := bkeep hb6 q0; have k1 := bkeep hb6 q1; have k2 := bkeep hb6 q2
      have y1 : CellsAt w6 (w.heap.size + 1) [.int .i64 0, .int .i64 0, .slice none 0 0] := (fun o u hu => by match o, hu with | 0, hu => (injection hu with hu; subst hu; exact ⟨g3, e3⟩) | 1, hu => (injection hu with hu; subst hu; exact ⟨g4, e4⟩) | 2, hu => (injection hu with hu; subst hu; exact ⟨g5, e5⟩) | o + 3, hu => simp at hu)
      have hB6 := bnext (w := w) hb0 hb6
      clear hb6 q0 q1 q2 q3 q4 q5 f3 f4 f5 hB hb0
      go_wp2_with fail
      have z1 := cells_store (o := 2) (u := .slice (some ⟨g, 0, none⟩) n gc) (cells_store (o := 1) (u := .int .i64 hi) (cells_store (o := 0) (u := .int .i64 lo) y1))
      have hB9 : Below w.heap.size w _ := ((hB6.setCell (p := ⟨w.heap.size + 1, 0, none⟩) (Nat.le_succ _) (.int .i64 lo)).setCell (p := ⟨w.heap.size + 1, 1, none⟩) (Nat.le_succ _) (.int .i64 hi)).setCell (p := ⟨w.heap.size + 1, 2, none⟩) (Nat.le_succ _) (.slice (some ⟨g, 0, none⟩) n gc)
      have o9 := own_set (o := 2) (b := w.heap.size + 1) (u := .slice (some ⟨g, 0, none⟩) n gc) (own_set (o := 1) (b := w.heap.size + 1) (u := .int .i64 hi) (own_set (o := 0) (b := w.heap.size + 1) (u := .int .i64 lo) ho6 hz2v) hz2v) hz2v
      have r9 := rows_of_owns (l := (l.set c y).set d x) (by rw [List.length_set, List.length_set, HN.out]; exact o9) (fun s hs => by rcases List.mem_or_eq_of_mem_set hs with h | h; (rcases List.mem_or_eq_of_mem_set h with h | h; exact HI64.out s h; subst h; exact HI64.out _ (List.mem_of_getElem? HY.out)); subst h; exact HI64.out _ (List.mem_of_getElem? HX.out))
      clear o9 y1
      have d0 := (z1 0 _ rfl).1; have d1 := (z1 1 _ rfl).1; have d2 := (z1 2 _ rfl).1
      exact bodyPost_ret (v := .tuple #[.agg #[.int .i64 lo, .int .i64 hi, .slice (some ⟨g, 0, none⟩) n gc], .int .i64 0]) (by simp [results, Try.results52, go_sem, *]) rfl ⟨_, rfl, hB9, by simpa using r9⟩

end Go.Proofs.Ytnchhleokdkejaa

/- The bung of an order, by the reference. -/
namespace Go.Proofs.Ytnchhleokdkejaa
open Go.RowKit Go.Pb Go.Pb.Ware Go.Pb.Sag
set_option linter.unusedVariables false
set_option linter.unusedSimpArgs false

open Go.Proofs Go.Pb.Bung
theorem nums_head {w : World} {a : Addr} {m k cap : Nat} {zs : List Int} (h : NumsAt w (.slice (some a) m cap) zs) (hm : zs.length = m) (hk : k ≤ m) : NumsAt w (.slice (some a) k cap) (zs.take k) := by
  rcases h with ⟨h1, _⟩ | ⟨b, c, h1, h2, h3, h4⟩
  · cases h1
  · injection h1 with e1 e2 e3
    injection e1 with e1
    subst e1; subst e3
    have hl : (zs.take k).length = k := by rw [List.length_take]; omega
    refine .inr ⟨a, cap, by rw [hl], by omega, h3, fun j z hj => ?_⟩
    rw [List.getElem?_take] at hj
    split at hj
    · exact h4 j z hj
    · cases hj

set_option maxRecDepth 100000 in
set_option maxHeartbeats 1000000 in
theorem rSetP {w : World} {v u : Value} {l : List Sg} {zs : List Int} {lo hi : Int} {r : _} (h : RowsAt 8 w v (l.map rowG)) (hz : NumsAt w u zs) (hr : setA lo hi l zs = r) :
    Calls Try.prog 51 #[.agg #[.int .i64 lo, .int .i64 hi, u], v] w (BgRes r w) := by
  unfold BgRes
  obtain ⟨a, cap, rfl, hll⟩ := h.shape
  rw [List.length_map] at hll ⊢
  simp only [List.length_map] at h
  obtain ⟨b, cb, rfl, hb1, hb2⟩ := hz.shape
  have HH : Hid (RowsAt 8 w (.slice a l.length cap) (l.map rowG)) := hid h; have HZZ : Hid (NumsAt w (.slice b zs.length cb) zs) := hid hz
  obtain ⟨n, hn⟩ : ∃ n, l.length = n := ⟨_, rfl⟩
  obtain ⟨m, hm⟩ : ∃ m, zs.length = m := ⟨_, rfl⟩
  have HN : Hid (l.length = n) := hn; have HM : Hid (zs.length = m) := hm
  obtain ⟨b1, h1⟩ : ∃ b, wadOk lo hi = b := ⟨_, rfl⟩
  obtain ⟨b2, h2⟩ : ∃ b, listOk l = b := ⟨_, rfl⟩
  obtain ⟨b3, h3⟩ : ∃ b, idxOk zs l.length = b := ⟨_, rfl⟩
  unfold setA at hr
  rw [h1, h2, h3] at hr
  have hw := wad_of h1; have hcl := ckLs_of h2
  cases b1
  · rw [if_neg (by simp)] at hr
    subst hr
    have HW : Hid (wadOk lo hi = false) := hid h1
    clear hw hcl h1 h2 h3
    rw [hn] at h hll ⊢
    rw [hm] at hz ⊢
    (try rw [hm] at hb1)
    (try rw [hm] at hb2)
    have hun := hz
    clear hn hm
    go_enter Try.func51, Try.ntmps51
    go_wp2_with fail
    refine (rWad_any HW.out).mono ?_
    rintro e w1 ⟨rfl, hb⟩
    replace hb0 := bnext (w := w) (by go_grown) hb; have hz := hb.size; (try simp only [World.size_alloc, World.size_setCell] at hz); replace q0 : w1.cell? ⟨w.heap.size, 0, none⟩ = some (.int .i64 lo) := bkeep hb (by first | (with_reducible exact q0) | (with_reducible exact akeep q0) | simp [*, go_sem]); replace q1 : w1.cell? ⟨w.heap.size, 1, none⟩ = some (.int .i64 hi) := bkeep hb (by first | (with_reducible exact q1) | (with_reducible exact akeep q1) | simp [*, go_sem]); replace q2 : w1.cell? ⟨w.heap.size, 2, none⟩ = some (.slice b m cb) := bkeep hb (by first | (with_reducible exact q2) | (with_reducible exact akeep q2) | simp [*, go_sem]); replace f3 : w1.frozen? ⟨w.heap.size + 1, 0, none⟩ = false := bfree (v := .int .i64 0) hb (by first | (with_reducible exact q3) | (with_reducible exact akeep q3) | simp [*, go_sem]) (by first | (with_reducible exact f3) | (with_reducible exact afree q3 f3) | simp [*, go_sem]); replace q3 : w1.cell? ⟨w.heap.size + 1, 0, none⟩ = some (.int .i64 0) := bkeep hb (by first | (with_reducible exact q3) | (with_reducible exact akeep q3) | simp [*, go_sem]); replace f4 : w1.frozen? ⟨w.heap.size + 1, 1, none⟩ = false := bfree (v := .int .i64 0) hb (by first | (with_reducible exact q4) | (with_reducible exact akeep q4) | simp [*, go_sem]) (by first | (with_reducible exact f4) | (with_reducible exact afree q4 f4) | simp [*, go_sem]); replace q4 : w1.cell? ⟨w.heap.size + 1, 1, none⟩ = some (.int .i64 0) := bkeep hb (by first | (with_reducible exact q4) | (with_reducible exact akeep q4) | simp [*, go_sem]); replace f5 : w1.frozen? ⟨w.heap.size + 1, 2, none⟩ = false := bfree (v := .slice none 0 0) hb (by first | (with_reducible exact q5) | (with_reducible exact akeep q5) | simp [*, go_sem]) (by first | (with_reducible exact f5) | (with_reducible exact afree q5 f5) | simp [*, go_sem]); replace q5 : w1.cell? ⟨w.heap.size + 1, 2, none⟩ = some (.slice none 0 0) := bkeep hb (by first | (with_reducible exact q5) | (with_reducible exact akeep q5) | simp [*, go_sem]); skip
    clear hb
    go_wp2_with fail
    exact bodyPost_ret (v := .tuple #[.agg #[.int .i64 0, .int .i64 0, .slice none 0 0], .int .i64 32]) (by simp [results, Try.results51, go_sem, *]) rfl ⟨_, rfl, by go_grown, rows8_nil _⟩
  · rw [if_pos rfl] at hr
    have HW : Hid (wadOk lo hi = true) := hid h1
    cases b2
    · rw [if_neg (by simp)] at hr
      subst hr
      have HL : Hid (ckLs l = 30) := hid (hcl.trans (if_neg (by simp)))
      clear hw hcl h1 h2 h3
      rw [hn] at h hll ⊢
      rw [hm] at hz ⊢
      (try rw [hm] at hb1)
      (try rw [hm] at hb2)
      have hun := hz
      clear hn hm
      go_enter Try.func51, Try.ntmps51
      go_wp2_with fail
      refine (rWad_any HW.out).mono ?_
      rintro e w1 ⟨rfl, hb⟩
      replace hb0 := bnext (w := w) (by go_grown) hb; have hz := hb.size; (try simp only [World.size_alloc, World.size_setCell] at hz); replace q0 : w1.cell? ⟨w.heap.size, 0, none⟩ = some (.int .i64 lo) := bkeep hb (by first | (with_reducible exact q0) | (with_reducible exact akeep q0) | simp [*, go_sem]); replace q1 : w1.cell? ⟨w.heap.size, 1, none⟩ = some (.int .i64 hi) := bkeep hb (by first | (with_reducible exact q1) | (with_reducible exact akeep q1) | simp [*, go_sem]); replace q2 : w1.cell? ⟨w.heap.size, 2, none⟩ = some (.slice b m cb) := bkeep hb (by first | (with_reducible exact q2) | (with_reducible exact akeep q2) | simp [*, go_sem]); replace f3 : w1.frozen? ⟨w.heap.size + 1, 0, none⟩ = false := bfree (v := .int .i64 0) hb (by first | (with_reducible exact q3) | (with_reducible exact akeep q3) | simp [*, go_sem]) (by first | (with_reducible exact f3) | (with_reducible exact afree q3 f3) | simp [*, go_sem]); replace q3 : w1.cell? ⟨w.heap.size + 1, 0, none⟩ = some (.int .i64 0) := bkeep hb (by first | (with_reducible exact q3) | (with_reducible exact akeep q3) | simp [*, go_sem]); replace f4 : w1.frozen? ⟨w.heap.size + 1, 1, none⟩ = false := bfree (v := .int .i64 0) hb (by first | (with_reducible exact q4) | (with_reducible exact akeep q4) | simp [*, go_sem]) (by first | (with_reducible exact f4) | (with_reducible exact afree q4 f4) | simp [*, go_sem]); replace q4 : w1.cell? ⟨w.heap.size + 1, 1, none⟩ = some (.int .i64 0) := bkeep hb (by first | (with_reducible exact q4) | (with_reducible exact akeep q4) | simp [*, go_sem]); replace f5 : w1.frozen? ⟨w.heap.size + 1, 2, none⟩ = false := bfree (v := .slice none 0 0) hb (by first | (with_reducible exact q5) | (with_reducible exact akeep q5) | simp [*, go_sem]) (by first | (with_reducible exact f5) | (with_reducible exact afree q5 f5) | simp [*, go_sem]); replace q5 : w1.cell? ⟨w.heap.size + 1, 2, none⟩ = some (.slice none 0 0) := bkeep hb (by first | (with_reducible exact q5) | (with_reducible exact akeep q5) | simp [*, go_sem]); skip
      clear hb
      go_wp2_with fail
      refine (rCkLs (h.below (by go_grown)) HL.out).mono ?_
      rintro e w1 ⟨rfl, hb⟩
      replace hb0 := bnext (w := w) (by go_grown) hb; have hz := hb.size; (try simp only [World.size_alloc, World.size_setCell] at hz); replace q0 : w1.cell? ⟨w.heap.size, 0, none⟩ = some (.int .i64 lo) := bkeep hb (by first | (with_reducible exact q0) | (with_reducible exact akeep q0) | simp [*, go_sem]); replace q1 : w1.cell? ⟨w.heap.size, 1, none⟩ = some (.int .i64 hi) := bkeep hb (by first | (with_reducible exact q1) | (with_reducible exact akeep q1) | simp [*, go_sem]); replace q2 : w1.cell? ⟨w.heap.size, 2, none⟩ = some (.slice b m cb) := bkeep hb (by first | (with_reducible exact q2) | (with_reducible exact akeep q2) | simp [*, go_sem]); replace f3 : w1.frozen? ⟨w.heap.size + 1, 0, none⟩ = false := bfree (v := .int .i64 0) hb (by first | (with_reducible exact q3) | (with_reducible exact akeep q3) | simp [*, go_sem]) (by first | (with_reducible exact f3) | (with_reducible exact afree q3 f3) | simp [*, go_sem]); replace q3 : w1.cell? ⟨w.heap.size + 1, 0, none⟩ = some (.int .i64 0) := bkeep hb (by first | (with_reducible exact q3) | (with_reducible exact akeep q3) | simp [*, go_sem]); replace f4 : w1.frozen? ⟨w.heap.size + 1, 1, none⟩ = false := bfree (v := .int .i64 0) hb (by first | (with_reducible exact q4) | (with_reducible exact akeep q4) | simp [*, go_sem]) (by first | (with_reducible exact f4) | (with_reducible exact afree q4 f4) | simp [*, go_sem]); replace q4 : w1.cell? ⟨w.heap.size + 1, 1, none⟩ = some (.int .i64 0) := bkeep hb (by first | (with_reducible exact q4) | (with_reducible exact akeep q4) | simp [*, go_sem]); replace f5 : w1.frozen? ⟨w.heap.size + 1, 2, none⟩ = false := bfree (v := .slice none 0 0) hb (by first | (with_reducible exact q5) | (with_reducible exact akeep q5) | simp [*, go_sem]) (by first | (with_reducible exact f5) | (with_reducible exact afree q5 f5) | simp [*, go_sem]); replace q5 : w1.cell? ⟨w.heap.size + 1, 2, none⟩ = some (.slice none 0 0) := bkeep hb (by first | (with_reducible exact q5) | (with_reducible exact akeep q5) | simp [*, go_sem]); skip
      clear hb
      go_wp2_with fail
      exact bodyPost_ret (v := .tuple #[.agg #[.int .i64 0, .int .i64 0, .slice none 0 0], .int .i64 30]) (by simp [results, Try.results51, go_sem, *]) rfl ⟨_, rfl, by go_grown, rows8_nil _⟩
    · rw [if_pos rfl] at hr
      have HL : Hid (ckLs l = 0) := hid (hcl.trans (if_pos rfl))
      have HR : Hid ((if zs ≠ [] ∧ idxOk zs l.length = true then (((lo, hi), chosenG l zs), 0) else (((0, 0), []), 1)) = r) := by rw [h3]; exact hid hr
      have HI64 : Hid (∀ s ∈ l, ∀ z ∈ rowG s, I64 z) := hid (i64_rows h)
      have hl30 : n ≤ 30 := by rw [← hn]; exact (listOk_iff.1 h2).1
      have HK : Hid (listOk l = true) := hid h2
      clear hr hw hcl h1 h2 h3
      rw [hn] at h hll ⊢
      rw [hm] at hz ⊢
      (try rw [hm] at hb1)
      (try rw [hm] at hb2)
      have hun := hz
      clear hn hm
      have hwn : IntKind.i64.wrap ((n : Int) - 1) = (n : Int) - 1 := IntWalk.i64_in _ (by omega)
      go_enter Try.func51, Try.ntmps51
      go_upto_region 1 with fail
      generalize hW0 : World.alloc (World.alloc w _) _ = v1
      have y0 : CellsAt v1 w.heap.size [.int .i64 lo, .int .i64 hi, .slice b m cb] := by rw [← hW0]; exact (CellsAt.new w [.int .i64 lo, .int .i64 hi, .slice b m cb] 64).alloc _
      have y1 : CellsAt v1 (w.heap.size + 1) [.int .i64 0, .int .i64 0, .slice none 0 0] := by rw [← hW0]; have h := CellsAt.new (w.alloc (.cells #[.int .i64 lo, .int .i64 hi, .slice b m cb] 64)) [.int .i64 0, .int .i64 0, .slice none 0 0] 26; rwa [World.size_alloc] at h
      have hB : Below w.heap.size w v1 := by rw [← hW0]; exact ((Below.refl _ w).alloc (Nat.le_refl _) _).alloc (by simp) _
      have hzv : w.heap.size + 2 ≤ v1.heap.size := by rw [← hW0]; simp
      clear hW0
      have q0 := (y0 0 _ rfl).1; have q1 := (y0 1 _ rfl).1; have q2 := (y0 2 _ rfl).1
      go_wp2_with fail
      refine (rWad_any HW.out).mono ?_
      rintro e v2 ⟨rfl, hb⟩
      clear q0 q1 q2
      replace y0 := y0.below hb; replace y1 := y1.below hb
      replace hB := bnext (w := w) hB hb
      replace hzv := Nat.le_trans hzv hb.size
      clear hb
      have q0 := (y0 0 _ rfl).1; have q1 := (y0 1 _ rfl).1; have q2 := (y0 2 _ rfl).1
      go_wp2_with fail
      refine (rCkLs (h.below hB) HL.out).mono ?_
      rintro e v3 ⟨rfl, hb⟩
      clear q0 q1 q2
      replace y0 := y0.below hb; replace y1 := y1.below hb
      replace hB := bnext (w := w) hB hb
      replace hzv := Nat.le_trans hzv hb.size
      clear hb
      have q0 := (y0 0 _ rfl).1; have q1 := (y0 1 _ rfl).1; have q2 := (y0 2 _ rfl).1
      go_wp2_with fail
      clear q0 q1 q2
      go_loopg [6] m (fun gk iv wr => ∃ k : Nat, k ≤ m ∧ gk = m - k ∧ iv = .int .i64 k ∧ Hid (idxUp zs n k = true) ∧ CellsAt wr w.heap.size [.int .i64 lo, .int .i64 hi, .slice b m cb] ∧ CellsAt wr (w.heap.size + 1) [.int .i64 0, .int .i64 0, .slice none 0 0] ∧ Below w.heap.size w wr ∧ w.heap.size + 2 ≤ wr.heap.size)
      case atStart => exact ⟨0, Nat.zero_le _, rfl, rfl, hid rfl, y0, y1, hB, hzv⟩
      case round =>
        clear y0 y1 hB hzv
        obtain ⟨k, hk, hgk, rfl, HA, y0, y1, hB, hzv⟩ := hrel
        have HGK := hid hgk; clear hgk
        have q0 := (y0 0 _ rfl).1; have q1 := (y0 1 _ rfl).1; have q2 := (y0 2 _ rfl).1
        by_cases hlt : k < m
        · have hki : (k : Int) < (m : Int) := by omega
          obtain ⟨z, hz9⟩ : ∃ z, zs[k]? = some z := ⟨_, List.getElem?_eq_getElem (by rw [HM.out]; exact hlt)⟩
          obtain ⟨b', hb', o0⟩ := (show NumsAt wr (.slice b zs.length cb) zs by rw [HM.out]; exact hun.below hB).elem (by rw [HM.out]; exact hlt)
          subst hb'
          rw [show zs[k]'(by rw [HM.out]; exact hlt) = z from Option.some.inj ((List.getElem?_eq_getElem _).symm.trans hz9)] at o0
          have HZ : Hid (zs[k]? = some z) := hz9
          clear hz9
          obtain ⟨c1, hc1⟩ : ∃ b, btw z 0 ((n : Int) - 1) = b := ⟨_, rfl⟩
          obtain ⟨c2, hc2⟩ : ∃ b, (zs.take k).contains z = b := ⟨_, rfl⟩
          have HC1 := hid hc1; have HC2 := hid hc2; clear hc1 hc2
          have hnh := nums_head (k := k) (hun.below hB) HM.out (by omega)
          have hkm : (k : Int) ≤ (m : Int) := by omega
          have hkc : (k : Int) ≤ (cb : Int) := by omega
          obtain ⟨v5, hv5⟩ : ∃ v, v = wr := ⟨_, rfl⟩
          subst hv5
          cases c1
          · go_upto_region 8 with fail
            have s0 := fun z : BW v5 => bkeep z.below q0
            have s1 := fun z : BW v5 => bkeep z.below q1
            have s2 := fun z : BW v5 => bkeep z.below q2
            have s3 := fun z : BW v5 => bkeep z.below o0
            refine wp_region_qb (by kernel_rfl) (by kernel_rfl) fun hcq => ?_
            repeat (go_big_quiet_step ((first | (go_at_call 78; exact BW.call _ (rB HC1.out)) | (go_at_call 74; exact BW.call _ (has_eq (hnh.below (BW.below _)) HC2.out)))))
            refine wpQuiet_nil ?_
            intro v6 hb
            clear s0 s1 s2 s3
            clear o0 hnh q0 q1 q2
            replace y0 := y0.below hb; replace y1 := y1.below hb
            replace hB := bnext (w := w) hB hb
            replace hzv := Nat.le_trans hzv hb.size
            clear hb
            have hno := idxOk_no (n := n) HZ.out (by rw [HC1.out]; rfl)
            have hR := HR.out
            rw [if_neg (by rw [HN.out, hno]; simp)] at hR
            subst hR
            clear HR
            have f0 := (y1 0 _ rfl).2; have f1 := (y1 1 _ rfl).2; have f2 := (y1 2 _ rfl).2; have g0 := (y1 0 _ rfl).1; have g1 := (y1 1 _ rfl).1; have g2 := (y1 2 _ rfl).1
            go_wp2_with fail
            have z1 := cells_store (o := 2) (u := .slice none 0 0) (cells_store (o := 1) (u := .int .i64 0) (cells_store (o := 0) (u := .int .i64 0) y1))
            have hB9 : Below w.heap.size w _ := ((hB.setCell (p := ⟨w.heap.size + 1, 0, none⟩) (Nat.le_succ _) (.int .i64 0)).setCell (p := ⟨w.heap.size + 1, 1, none⟩) (Nat.le_succ _) (.int .i64 0)).setCell (p := ⟨w.heap.size + 1, 2, none⟩) (Nat.le_succ _) (.slice none 0 0)
            have d0 := (z1 0 _ rfl).1; have d1 := (z1 1 _ rfl).1; have d2 := (z1 2 _ rfl).1
            exact bodyPost_ret (v := .tuple #[.agg #[.int .i64 0, .int .i64 0, .slice none 0 0], .int .i64 1]) (by simp [results, Try.results51, go_sem, *]) rfl ⟨_, rfl, hB9, rows8_nil _⟩
          · go_upto_region 8 with fail
            have s0 := fun z : BW v5 => bkeep z.below q0
            have s1 := fun z : BW v5 => bkeep z.below q1
            have s2 := fun z : BW v5 => bkeep z.below q2
            have s3 := fun z : BW v5 => bkeep z.below o0
            refine wp_region_qb (by kernel_rfl) (by kernel_rfl) fun hcq => ?_
            repeat (go_big_quiet_step ((first | (go_at_call 78; exact BW.call _ (rB HC1.out)) | (go_at_call 74; exact BW.call _ (has_eq (hnh.below (BW.below _)) HC2.out)))))
            refine wpQuiet_nil ?_
            intro v6 hb
            clear s0 s1 s2 s3
            clear o0 hnh q0 q1 q2
            replace y0 := y0.below hb; replace y1 := y1.below hb
            replace hB := bnext (w := w) hB hb
            replace hzv := Nat.le_trans hzv hb.size
            clear hb
            cases c2
            · have hup : Hid (idxUp zs n (k + 1) = true) := hid (by rw [idxUp, HA.out, HZ.out]; have h5 := HC2.out; dsimp only; rw [HC1.out]; simpa using h5)
              go_wp2_with fail
              go_roundg (m - (k + 1))
              case measure => have h := HGK.out; omega
              case rel => exact ⟨k + 1, by omega, rfl, by go_num, hup, y0, y1, hB, hzv⟩
            · have hno := idxOk_no (n := n) HZ.out (by have h5 := HC2.out; rw [HC1.out]; simpa using h5)
              have hR := HR.out
              rw [if_neg (by rw [HN.out, hno]; simp)] at hR
              subst hR
              clear HR
              have f0 := (y1 0 _ rfl).2; have f1 := (y1 1 _ rfl).2; have f2 := (y1 2 _ rfl).2; have g0 := (y1 0 _ rfl).1; have g1 := (y1 1 _ rfl).1; have g2 := (y1 2 _ rfl).1
              go_wp2_with fail
              have z1 := cells_store (o := 2) (u := .slice none 0 0) (cells_store (o := 1) (u := .int .i64 0) (cells_store (o := 0) (u := .int .i64 0) y1))
              have hB9 : Below w.heap.size w _ := ((hB.setCell (p := ⟨w.heap.size + 1, 0, none⟩) (Nat.le_succ _) (.int .i64 0)).setCell (p := ⟨w.heap.size + 1, 1, none⟩) (Nat.le_succ _) (.int .i64 0)).setCell (p := ⟨w.heap.size + 1, 2, none⟩) (Nat.le_succ _) (.slice none 0 0)
              have d0 := (z1 0 _ rfl).1; have d1 := (z1 1 _ rfl).1; have d2 := (z1 2 _ rfl).1
              exact bodyPost_ret (v := .tuple #[.agg #[.int .i64 0, .int .i64 0, .slice none 0 0], .int .i64 1]) (by simp [results, Try.results51, go_sem, *]) rfl ⟨_, rfl, hB9, rows8_nil _⟩
        · obtain rfl : k = m := by omega
          have hkk : ¬ (k : Int) < (k : Int) := by omega
          have hok : idxOk zs n = true := by unfold idxOk; rw [HM.out]; exact HA.out
          by_cases hk0 : k = 0
          · have hR := HR.out
            rw [if_neg (fun e => e.1 (List.eq_nil_of_length_eq_zero (by rw [HM.out]; exact hk0)))] at hR
            subst hR
            clear HR
            have hki : (k : Int) = 0 := by omega
            have hkb : ((k : Int) == 0) = true := by rw [hki]; rfl
            have hk2 : Hid (k = 0) := hid hk0; clear hk0 hki
            have f0 := (y1 0 _ rfl).2; have f1 := (y1 1 _ rfl).2; have f2 := (y1 2 _ rfl).2; have g0 := (y1 0 _ rfl).1; have g1 := (y1 1 _ rfl).1; have g2 := (y1 2 _ rfl).1
            go_wp2_with fail
            have z1 := cells_store (o := 2) (u := .slice none 0 0) (cells_store (o := 1) (u := .int .i64 0) (cells_store (o := 0) (u := .int .i64 0) y1))
            have hB9 : Below w.heap.size w _ := ((hB.setCell (p := ⟨w.heap.size + 1, 0, none⟩) (Nat.le_succ _) (.int .i64 0)).setCell (p := ⟨w.heap.size + 1, 1, none⟩) (Nat.le_succ _) (.int .i64 0)).setCell (p := ⟨w.heap.size + 1, 2, none⟩) (Nat.le_succ _) (.slice none 0 0)
            have d0 := (z1 0 _ rfl).1; have d1 := (z1 1 _ rfl).1; have d2 := (z1 2 _ rfl).1
            exact bodyPost_ret (v := .tuple #[.agg #[.int .i64 0, .int .i64 0, .slice none 0 0], .int .i64 1]) (by simp [results, Try.results51, go_sem, *]) rfl ⟨_, rfl, hB9, rows8_nil _⟩
          · have HW9 : Hid (w.heap.size + 1 < wr.heap.size) := hid (by omega)
            have hki : ¬ (k : Int) = 0 := by omega
            have hkb : ((k : Int) == 0) = false := beq_eq_false_iff_ne.mpr hki
            have hne : zs ≠ [] := fun e => hk0 (by rw [← HM.out, e]; rfl)
            have hR := HR.out
            rw [if_pos ⟨hne, by rw [HN.out]; exact hok⟩] at hR
            subst hR
            clear HR hne
            have hzn : zs.length ≤ 1000 := by have h4 := (nodup_len (idxOk_nd hok) (idxOk_in hok)).1; omega
            have hin : ∀ z ∈ zs, 0 ≤ z ∧ z < (l.length : Int) := by rw [HN.out]; exact idxOk_in hok
            have HIN := hid hin; clear hin hok hk0
            go_upto_region 12 with fail
            refine wp_region_Rs [(5, fun v W => W.ownsRow wr.heap.size 33 8 v (chosenG l zs).length ((chosenG l zs).flatMap cellsG))] [0, 1, 2, 3, 4, 5, 6] 2 (by kernel_rfl) rfl (by simp only [List.forall_mem_cons]; exact ⟨keeps_owns, fun _ h => by cases h⟩) (by kernel_rfl) ?_
            simp only [numbered, List.filterMap_cons, List.filterMap_nil, List.getElem?_toArray, List.getElem?_cons_succ, List.getElem?_cons_zero, Option.map_some]
            show wpS _ _ _ _ _ _ _ [(_, _), (_, _), (_, _), (_, _), (_, _), (_, _), (_, _)] _ _
            (refine wpS_quiet rfl rfl ?_; intro K hK inst hx; have s0 := fun x => (fun _ => bkeep (BQ.below x) q0) (hx x); have s1 := fun x => (fun _ => bkeep (BQ.below x) q1) (hx x); have s2 := fun x => (fun _ => bkeep (BQ.below x) q2) (hx x); go_big_quiet_op; (first | go_big_quiet_on | (refine ⟨_, fun _ => rfl, ?_⟩; go_big_quiet_on)); clear hx inst)
            (refine wpS_quiet rfl rfl ?_; intro K hK inst hx; have s0 := fun x => (fun _ => bkeep (BQ.below x) q0) (hx x); have s1 := fun x => (fun _ => bkeep (BQ.below x) q1) (hx x); have s2 := fun x => (fun _ => bkeep (BQ.below x) q2) (hx x); go_big_quiet_op; (first | go_big_quiet_on | (refine ⟨_, fun _ => rfl, ?_⟩; go_big_quiet_on)); clear hx inst)
            (refine wpS_quiet rfl rfl ?_; intro K hK inst hx; have s0 := fun x => (fun _ => bkeep (BQ.below x) q0) (hx x); have s1 := fun x => (fun _ => bkeep (BQ.below x) q1) (hx x); have s2 := fun x => (fun _ => bkeep (BQ.below x) q2) (hx x); go_big_quiet_op; (first | go_big_quiet_on | (refine ⟨_, fun _ => rfl, ?_⟩; go_big_quiet_on)); clear hx inst)
            (refine wpS_quiet rfl rfl ?_; intro K hK inst hx; have s0 := fun x => (fun _ => bkeep (BQ.below x) q0) (hx x); have s1 := fun x => (fun _ => bkeep (BQ.below x) q1) (hx x); have s2 := fun x => (fun _ => bkeep (BQ.below x) q2) (hx x); go_big_quiet_op; (first | go_big_quiet_on | (refine ⟨_, fun _ => rfl, ?_⟩; go_big_quiet_on)); clear hx inst)
            (refine wpS_quiet rfl rfl ?_; intro K hK inst hx; have s0 := fun x => (fun _ => bkeep (BQ.below x) q0) (hx x); have s1 := fun x => (fun _ => bkeep (BQ.below x) q1) (hx x); have s2 := fun x => (fun _ => bkeep (BQ.below x) q2) (hx x); go_big_quiet_op; (first | go_big_quiet_on | (refine ⟨_, fun _ => rfl, ?_⟩; go_big_quiet_on)); clear hx inst)
            refine wpS_fresh rfl rfl (fun w' hb hF => ?_) ?_
            · change freshAt _ _ _ (fun v W => W.ownsRow wr.heap.size 33 8 v (chosenG l zs).length ((chosenG l zs).flatMap cellsG)) _; unfold freshAt; go_simp; exact (rSome_any (l := l) (zs := zs) (h.below (hB.trans (hb.mono hB.size))) (by rw [HN.out]; omega) (hun.below (hB.trans (hb.mono hB.size))) hzn HIN.out).mono (fun e W' ⟨v, he, hb', ho⟩ => ⟨v, he, hb', owns_base hb.size ho⟩)
            intro v W hv; simp only [pOf, List.lookup_cons, Nat.reduceBEq, beq_self_eq_true] at hv; obtain ⟨ga, gc, rfl, -⟩ := owns_shape hv
            simp only [Act.put, List.setIfInBounds_toArray, List.set_cons_succ, List.set_cons_zero]
            (refine wpS_quiet rfl rfl ?_; intro K hK inst hx; have s0 := fun x => (fun _ => bkeep (BQ.below x) q0) (hx x); have s1 := fun x => (fun _ => bkeep (BQ.below x) q1) (hx x); have s2 := fun x => (fun _ => bkeep (BQ.below x) q2) (hx x); go_big_quiet_op; (first | go_big_quiet_on | (refine ⟨_, fun _ => rfl, ?_⟩; go_big_quiet_on)); clear hx inst)
            refine wpS_nil ?_
            intro v5 hall
            have hb := hall.1
            have ho : v5.ownsRow wr.heap.size 33 8 _ (chosenG l zs).length ((chosenG l zs).flatMap cellsG) := hall.2 5 _ rfl
            clear hall q0 q1 q2
            replace y0 := y0.below hb; replace y1 := y1.below hb
            replace hB := bnext (w := w) hB hb
            replace hzv := Nat.le_trans hzv hb.size
            clear hb
            have f0 := (y1 0 _ rfl).2; have f1 := (y1 1 _ rfl).2; have f2 := (y1 2 _ rfl).2; have g0 := (y1 0 _ rfl).1; have g1 := (y1 1 _ rfl).1; have g2 := (y1 2 _ rfl).1
            refine wpAny_ready (rs := [7]) (by kernel_rfl) (by simp) ?_
            refine AllReady.cons rfl (fun K hK => ?_) AllReady.nil
            go_simp
            refine hK _ _ ?_; clear hK K
            refine wpAny_ready (rs := [8]) (by kernel_rfl) (by simp) ?_
            refine AllReady.cons rfl (fun K hK => ?_) AllReady.nil
            go_simp
            refine hK _ _ ?_; clear hK K
            refine wpAny_done (by kernel_rfl) ?_ _
            have z1 := cells_store (o := 2) (u := .slice ga (chosenG l zs).length gc) (cells_store (o := 1) (u := .int .i64 hi) (cells_store (o := 0) (u := .int .i64 lo) y1))
            have hB9 : Below w.heap.size w _ := ((hB.setCell (p := ⟨w.heap.size + 1, 0, none⟩) (Nat.le_succ _) (.int .i64 lo)).setCell (p := ⟨w.heap.size + 1, 1, none⟩) (Nat.le_succ _) (.int .i64 hi)).setCell (p := ⟨w.heap.size + 1, 2, none⟩) (Nat.le_succ _) (.slice ga (chosenG l zs).length gc)
            skip
            have o9 := own_set (o := 2) (u := .slice ga (chosenG l zs).length gc) (own_set (o := 1) (u := .int .i64 hi) (own_set (o := 0) (u := .int .i64 lo) ho HW9.out) HW9.out) HW9.out
            have r9 := rows_of_owns o9 (i64_chosen HI64.out)
            clear y1 f0 f1 f2 g0 g1 g2 ho
            generalize World.setCell _ _ _ = v9 at *
            have d0 := (z1 0 _ rfl).1; have d1 := (z1 1 _ rfl).1; have d2 := (z1 2 _ rfl).1
            go_wp2_with fail
            exact bodyPost_ret (v := .tuple #[.agg #[.int .i64 lo, .int .i64 hi, .slice ga (chosenG l zs).length gc], .int .i64 0]) (by simp [results, Try.results51, go_sem, *]) rfl ⟨_, rfl, hB9, r9⟩

end Go.Proofs.Ytnchhleokdkejaa

/- BungSets returns true. -/
namespace Go.Proofs.Ytnchhleokdkejaa
open Go.RowKit Go.Pb Go.Pb.Ware Go.Pb.Sag
set_option linter.unusedVariables false
set_option linter.unusedSimpArgs false

open Go.Proofs Go.Pb.Bung
theorem setA_len {lo hi : Int} {l : List Sg} {zs : List Int} : (setA lo hi l zs).1.2.length ≤ 1000 := by
  unfold setA
  split
  · split
    · rename_i h2
      split
      · rename_i h3
        have h4 := (nodup_len (idxOk_nd h3.2) (idxOk_in h3.2)).1
        have := (listOk_iff.1 h2).1
        rw [chosenG_length]
        omega
      · simp
    · simp
  · simp
theorem swpA_len {lo hi co : Int} {l : List Sg} : (swpA lo hi l co).1.2.length ≤ 1000 := by
  unfold swpA
  split
  · rename_i h
    have := bungOk_len h
    split
    · unfold swapL; rw [List.length_set, List.length_set]; omega
    · simp
  · simp
theorem topA_len {lo hi : Int} {l : List Sg} {s : Sg} : (topA lo hi l s).1.2.length ≤ 1000 := by
  unfold topA
  split
  · rename_i h
    have := bungOk_len h
    split
    · split
      · simp
      · split
        · simp
        · rw [List.length_append]; simp; omega
    · simp
  · simp

set_option maxRecDepth 100000 in
set_option maxHeartbeats 2000000 in
theorem bungSets_walk {w : World} {v u dv : Value} {l bl : List Sg} {zs : List Int} {lo hi blo bhi co sid swl swh sbl sbh shl shh sti : Int} (h : RowsAt 8 w v (l.map rowG)) (hu : NumsAt w u zs) (hd : RowsAt 8 w dv (bl.map rowG)) :
    Calls Try.prog 8 #[.agg #[.int .i64 lo, .int .i64 hi, u], v, .agg #[.int .i64 blo, .int .i64 bhi, dv, .int .i64 co, .int .i64 sid, .int .i64 swl, .int .i64 swh, .int .i64 sbl, .int .i64 sbh, .int .i64 shl, .int .i64 shh, .int .i64 sti]] w (Ret w (.bool true)) := by
  unfold Ret
  obtain ⟨a, cap, rfl, hll⟩ := h.shape
  obtain ⟨b, cb, rfl, hb1, hb2⟩ := hu.shape
  obtain ⟨d, cd, rfl, hdl⟩ := hd.shape
  simp only [List.length_map] at h hll hd hdl ⊢
  have l1 := setA_len (lo := lo) (hi := hi) (l := l) (zs := zs); have l2 := swpA_len (lo := blo) (hi := bhi) (l := bl) (co := co); have l3 := topA_len (lo := blo) (hi := bhi) (l := bl) (s := (⟨sid, swl, swh, sbl, sbh, shl, shh, sti⟩ : Sg))
  obtain ⟨r1, h1⟩ : ∃ r, setA lo hi l zs = r := ⟨_, rfl⟩
  obtain ⟨r2, h2⟩ : ∃ r, swpA blo bhi bl co = r := ⟨_, rfl⟩
  obtain ⟨r3, h3⟩ : ∃ r, topA blo bhi bl (⟨sid, swl, swh, sbl, sbh, shl, shh, sti⟩ : Sg) = r := ⟨_, rfl⟩
  rw [h1] at l1; rw [h2] at l2; rw [h3] at l3
  have H1 : Hid _ := h1; have H2 : Hid _ := h2; have H3 : Hid _ := h3; clear h1 h2 h3
  obtain ⟨⟨⟨e0, e1⟩, el⟩, e2⟩ := r1
  obtain ⟨⟨⟨g0, g1⟩, gl⟩, g2⟩ := r2
  obtain ⟨⟨⟨j0, j1⟩, jl⟩, j2⟩ := r3
  dsimp only at l1 l2 l3
  obtain ⟨n, hn⟩ : ∃ n, l.length = n := ⟨_, rfl⟩
  obtain ⟨m, hm⟩ : ∃ m, zs.length = m := ⟨_, rfl⟩
  obtain ⟨k, hk⟩ : ∃ k, bl.length = k := ⟨_, rfl⟩
  rw [hn] at h hll ⊢
  rw [hm] at hu ⊢
  (try rw [hm] at hb1)
  (try rw [hm] at hb2)
  rw [hk] at hd hdl ⊢
  clear hn hm hk
  go_enter Try.func8, Try.ntmps8
  go_wp2_with fail
  refine (sane_any).mono ?_
  (try unfold BgRes)
  rintro e w1 ⟨rfl, hb⟩
  replace hb0 := bnext (w := w) (by go_grown) hb; have hz := hb.size; (try simp only [World.size_alloc, World.size_setCell] at hz); replace q0 : w1.cell? ⟨w.heap.size, 0, none⟩ = some (.int .i64 lo) := bkeep hb (by first | (with_reducible exact q0) | (with_reducible exact akeep q0) | simp [*, go_sem]); replace q1 : w1.cell? ⟨w.heap.size, 1, none⟩ = some (.int .i64 hi) := bkeep hb (by first | (with_reducible exact q1) | (with_reducible exact akeep q1) | simp [*, go_sem]); replace q2 : w1.cell? ⟨w.heap.size, 2, none⟩ = some (.slice b m cb) := bkeep hb (by first | (with_reducible exact q2) | (with_reducible exact akeep q2) | simp [*, go_sem]); replace q3 : w1.cell? ⟨w.heap.size + 1, 0, none⟩ = some (.int .i64 blo) := bkeep hb (by first | (with_reducible exact q3) | (with_reducible exact akeep q3) | simp [*, go_sem]); replace q4 : w1.cell? ⟨w.heap.size + 1, 1, none⟩ = some (.int .i64 bhi) := bkeep hb (by first | (with_reducible exact q4) | (with_reducible exact akeep q4) | simp [*, go_sem]); replace q5 : w1.cell? ⟨w.heap.size + 1, 2, none⟩ = some (.slice d k cd) := bkeep hb (by first | (with_reducible exact q5) | (with_reducible exact akeep q5) | simp [*, go_sem]); replace q6 : w1.cell? ⟨w.heap.size + 1, 3, none⟩ = some (.int .i64 co) := bkeep hb (by first | (with_reducible exact q6) | (with_reducible exact akeep q6) | simp [*, go_sem]); replace q7 : w1.cell? ⟨w.heap.size + 1, 4, none⟩ = some (.int .i64 sid) := bkeep hb (by first | (with_reducible exact q7) | (with_reducible exact akeep q7) | simp [*, go_sem]); replace q8 : w1.cell? ⟨w.heap.size + 1, 5, none⟩ = some (.int .i64 swl) := bkeep hb (by first | (with_reducible exact q8) | (with_reducible exact akeep q8) | simp [*, go_sem]); replace q9 : w1.cell? ⟨w.heap.size + 1, 6, none⟩ = some (.int .i64 swh) := bkeep hb (by first | (with_reducible exact q9) | (with_reducible exact akeep q9) | simp [*, go_sem]); replace q10 : w1.cell? ⟨w.heap.size + 1, 7, none⟩ = some (.int .i64 sbl) := bkeep hb (by first | (with_reducible exact q10) | (with_reducible exact akeep q10) | simp [*, go_sem]); replace q11 : w1.cell? ⟨w.heap.size + 1, 8, none⟩ = some (.int .i64 sbh) := bkeep hb (by first | (with_reducible exact q11) | (with_reducible exact akeep q11) | simp [*, go_sem]); replace q12 : w1.cell? ⟨w.heap.size + 1, 9, none⟩ = some (.int .i64 shl) := bkeep hb (by first | (with_reducible exact q12) | (with_reducible exact akeep q12) | simp [*, go_sem]); replace q13 : w1.cell? ⟨w.heap.size + 1, 10, none⟩ = some (.int .i64 shh) := bkeep hb (by first | (with_reducible exact q13) | (with_reducible exact akeep q13) | simp [*, go_sem]); replace q14 : w1.cell? ⟨w.heap.size + 1, 11, none⟩ = some (.int .i64 sti) := bkeep hb (by first | (with_reducible exact q14) | (with_reducible exact akeep q14) | simp [*, go_sem]); skip
  clear hb
  (try dsimp only)
  go_wp2_with fail
  refine (setP (h.below (by go_grown)) (hu.below (by go_grown)) H1.out).mono ?_
  (try unfold BgRes)
  rintro e w1 ⟨u1, rfl, hb, hu1⟩
  replace hb0 := bnext (w := w) (by go_grown) hb; have hz := hb.size; (try simp only [World.size_alloc, World.size_setCell] at hz); replace q0 : w1.cell? ⟨w.heap.size, 0, none⟩ = some (.int .i64 lo) := bkeep hb (by first | (with_reducible exact q0) | (with_reducible exact akeep q0) | simp [*, go_sem]); replace q1 : w1.cell? ⟨w.heap.size, 1, none⟩ = some (.int .i64 hi) := bkeep hb (by first | (with_reducible exact q1) | (with_reducible exact akeep q1) | simp [*, go_sem]); replace q2 : w1.cell? ⟨w.heap.size, 2, none⟩ = some (.slice b m cb) := bkeep hb (by first | (with_reducible exact q2) | (with_reducible exact akeep q2) | simp [*, go_sem]); replace q3 : w1.cell? ⟨w.heap.size + 1, 0, none⟩ = some (.int .i64 blo) := bkeep hb (by first | (with_reducible exact q3) | (with_reducible exact akeep q3) | simp [*, go_sem]); replace q4 : w1.cell? ⟨w.heap.size + 1, 1, none⟩ = some (.int .i64 bhi) := bkeep hb (by first | (with_reducible exact q4) | (with_reducible exact akeep q4) | simp [*, go_sem]); replace q5 : w1.cell? ⟨w.heap.size + 1, 2, none⟩ = some (.slice d k cd) := bkeep hb (by first | (with_reducible exact q5) | (with_reducible exact akeep q5) | simp [*, go_sem]); replace q6 : w1.cell? ⟨w.heap.size + 1, 3, none⟩ = some (.int .i64 co) := bkeep hb (by first | (with_reducible exact q6) | (with_reducible exact akeep q6) | simp [*, go_sem]); replace q7 : w1.cell? ⟨w.heap.size + 1, 4, none⟩ = some (.int .i64 sid) := bkeep hb (by first | (with_reducible exact q7) | (with_reducible exact akeep q7) | simp [*, go_sem]); replace q8 : w1.cell? ⟨w.heap.size + 1, 5, none⟩ = some (.int .i64 swl) := bkeep hb (by first | (with_reducible exact q8) | (with_reducible exact akeep q8) | simp [*, go_sem]); replace q9 : w1.cell? ⟨w.heap.size + 1, 6, none⟩ = some (.int .i64 swh) := bkeep hb (by first | (with_reducible exact q9) | (with_reducible exact akeep q9) | simp [*, go_sem]); replace q10 : w1.cell? ⟨w.heap.size + 1, 7, none⟩ = some (.int .i64 sbl) := bkeep hb (by first | (with_reducible exact q10) | (with_reducible exact akeep q10) | simp [*, go_sem]); replace q11 : w1.cell? ⟨w.heap.size + 1, 8, none⟩ = some (.int .i64 sbh) := bkeep hb (by first | (with_reducible exact q11) | (with_reducible exact akeep q11) | simp [*, go_sem]); replace q12 : w1.cell? ⟨w.heap.size + 1, 9, none⟩ = some (.int .i64 shl) := bkeep hb (by first | (with_reducible exact q12) | (with_reducible exact akeep q12) | simp [*, go_sem]); replace q13 : w1.cell? ⟨w.heap.size + 1, 10, none⟩ = some (.int .i64 shh) := bkeep hb (by first | (with_reducible exact q13) | (with_reducible exact akeep q13) | simp [*, go_sem]); replace q14 : w1.cell? ⟨w.heap.size + 1, 11, none⟩ = some (.int .i64 sti) := bkeep hb (by first | (with_reducible exact q14) | (with_reducible exact akeep q14) | simp [*, go_sem]); skip
  clear hb
  (try dsimp only)
  dsimp only at hu1
  obtain ⟨x1, z1, rfl, -⟩ := hu1.shape
  rw [List.length_map] at hu1 ⊢
  obtain ⟨vA1, hv9⟩ : ∃ v, v = w1 := ⟨_, rfl⟩
  subst hv9
  go_upto_region 3 with fail
  generalize hW : World.alloc vA1 _ = vB1
  have y1 : CellsAt vB1 vA1.heap.size [.int .i64 e0, .int .i64 e1, .slice x1 el.length z1] := by rw [← hW]; exact CellsAt.new vA1 [.int .i64 e0, .int .i64 e1, .slice x1 el.length z1] 26
  have hN : Below vA1.heap.size vA1 vB1 := by rw [← hW]; exact (Below.refl _ _).alloc (Nat.le_refl _) _
  replace hu1 := hu1.below hN
  replace q0 := bkeep hN q0
  replace q1 := bkeep hN q1
  replace q2 := bkeep hN q2
  replace q3 := bkeep hN q3
  replace q4 := bkeep hN q4
  replace q5 := bkeep hN q5
  replace q6 := bkeep hN q6
  replace q7 := bkeep hN q7
  replace q8 := bkeep hN q8
  replace q9 := bkeep hN q9
  replace q10 := bkeep hN q10
  replace q11 := bkeep hN q11
  replace q12 := bkeep hN q12
  replace q13 := bkeep hN q13
  replace q14 := bkeep hN q14
  replace hb0 := bnext (w := w) hb0 hN
  clear hW hN
  go_wp2_with fail
  refine (rSetP (h.below (by go_grown)) (hu.below (by go_grown)) H1.out).mono ?_
  (try unfold BgRes)
  rintro e w1 ⟨u2, rfl, hb, hu2⟩
  replace hb0 := bnext (w := w) (by go_grown) hb; have hz := hb.size; (try simp only [World.size_alloc, World.size_setCell] at hz); replace q0 : w1.cell? ⟨w.heap.size, 0, none⟩ = some (.int .i64 lo) := bkeep hb (by first | (with_reducible exact q0) | (with_reducible exact akeep q0) | simp [*, go_sem]); replace q1 : w1.cell? ⟨w.heap.size, 1, none⟩ = some (.int .i64 hi) := bkeep hb (by first | (with_reducible exact q1) | (with_reducible exact akeep q1) | simp [*, go_sem]); replace q2 : w1.cell? ⟨w.heap.size, 2, none⟩ = some (.slice b m cb) := bkeep hb (by first | (with_reducible exact q2) | (with_reducible exact akeep q2) | simp [*, go_sem]); replace q3 : w1.cell? ⟨w.heap.size + 1, 0, none⟩ = some (.int .i64 blo) := bkeep hb (by first | (with_reducible exact q3) | (with_reducible exact akeep q3) | simp [*, go_sem]); replace q4 : w1.cell? ⟨w.heap.size + 1, 1, none⟩ = some (.int .i64 bhi) := bkeep hb (by first | (with_reducible exact q4) | (with_reducible exact akeep q4) | simp [*, go_sem]); replace q5 : w1.cell? ⟨w.heap.size + 1, 2, none⟩ = some (.slice d k cd) := bkeep hb (by first | (with_reducible exact q5) | (with_reducible exact akeep q5) | simp [*, go_sem]); replace q6 : w1.cell? ⟨w.heap.size + 1, 3, none⟩ = some (.int .i64 co) := bkeep hb (by first | (with_reducible exact q6) | (with_reducible exact akeep q6) | simp [*, go_sem]); replace q7 : w1.cell? ⟨w.heap.size + 1, 4, none⟩ = some (.int .i64 sid) := bkeep hb (by first | (with_reducible exact q7) | (with_reducible exact akeep q7) | simp [*, go_sem]); replace q8 : w1.cell? ⟨w.heap.size + 1, 5, none⟩ = some (.int .i64 swl) := bkeep hb (by first | (with_reducible exact q8) | (with_reducible exact akeep q8) | simp [*, go_sem]); replace q9 : w1.cell? ⟨w.heap.size + 1, 6, none⟩ = some (.int .i64 swh) := bkeep hb (by first | (with_reducible exact q9) | (with_reducible exact akeep q9) | simp [*, go_sem]); replace q10 : w1.cell? ⟨w.heap.size + 1, 7, none⟩ = some (.int .i64 sbl) := bkeep hb (by first | (with_reducible exact q10) | (with_reducible exact akeep q10) | simp [*, go_sem]); replace q11 : w1.cell? ⟨w.heap.size + 1, 8, none⟩ = some (.int .i64 sbh) := bkeep hb (by first | (with_reducible exact q11) | (with_reducible exact akeep q11) | simp [*, go_sem]); replace q12 : w1.cell? ⟨w.heap.size + 1, 9, none⟩ = some (.int .i64 shl) := bkeep hb (by first | (with_reducible exact q12) | (with_reducible exact akeep q12) | simp [*, go_sem]); replace q13 : w1.cell? ⟨w.heap.size + 1, 10, none⟩ = some (.int .i64 shh) := bkeep hb (by first | (with_reducible exact q13) | (with_reducible exact akeep q13) | simp [*, go_sem]); replace q14 : w1.cell? ⟨w.heap.size + 1, 11, none⟩ = some (.int .i64 sti) := bkeep hb (by first | (with_reducible exact q14) | (with_reducible exact akeep q14) | simp [*, go_sem]); skip
  replace hu1 := hu1.below hb
  replace y1 := y1.below hb
  clear hb
  (try dsimp only)
  dsimp only at hu2
  obtain ⟨x2, z2, rfl, -⟩ := hu2.shape
  rw [List.length_map] at hu2 ⊢
  obtain ⟨vA2, hv9⟩ : ∃ v, v = w1 := ⟨_, rfl⟩
  subst hv9
  go_upto_region 4 with fail
  generalize hW : World.alloc vA2 _ = vB2
  have y2 : CellsAt vB2 vA2.heap.size [.int .i64 e0, .int .i64 e1, .slice x2 el.length z2] := by rw [← hW]; exact CellsAt.new vA2 [.int .i64 e0, .int .i64 e1, .slice x2 el.length z2] 26
  have hN : Below vA2.heap.size vA2 vB2 := by rw [← hW]; exact (Below.refl _ _).alloc (Nat.le_refl _) _
  replace hu1 := hu1.below hN
  replace y1 := y1.below hN
  replace hu2 := hu2.below hN
  replace q0 := bkeep hN q0
  replace q1 := bkeep hN q1
  replace q2 := bkeep hN q2
  replace q3 := bkeep hN q3
  replace q4 := bkeep hN q4
  replace q5 := bkeep hN q5
  replace q6 := bkeep hN q6
  replace q7 := bkeep hN q7
  replace q8 := bkeep hN q8
  replace q9 := bkeep hN q9
  replace q10 := bkeep hN q10
  replace q11 := bkeep hN q11
  replace q12 := bkeep hN q12
  replace q13 := bkeep hN q13
  replace q14 := bkeep hN q14
  replace hb0 := bnext (w := w) hb0 hN
  clear hW hN
  go_wp2_with fail
  refine (swapP (hd.below (by go_grown)) H2.out).mono ?_
  (try unfold BgRes)
  rintro e w1 ⟨u3, rfl, hb, hu3⟩
  replace hb0 := bnext (w := w) (by go_grown) hb; have hz := hb.size; (try simp only [World.size_alloc, World.size_setCell] at hz); replace q0 : w1.cell? ⟨w.heap.size, 0, none⟩ = some (.int .i64 lo) := bkeep hb (by first | (with_reducible exact q0) | (with_reducible exact akeep q0) | simp [*, go_sem]); replace q1 : w1.cell? ⟨w.heap.size, 1, none⟩ = some (.int .i64 hi) := bkeep hb (by first | (with_reducible exact q1) | (with_reducible exact akeep q1) | simp [*, go_sem]); replace q2 : w1.cell? ⟨w.heap.size, 2, none⟩ = some (.slice b m cb) := bkeep hb (by first | (with_reducible exact q2) | (with_reducible exact akeep q2) | simp [*, go_sem]); replace q3 : w1.cell? ⟨w.heap.size + 1, 0, none⟩ = some (.int .i64 blo) := bkeep hb (by first | (with_reducible exact q3) | (with_reducible exact akeep q3) | simp [*, go_sem]); replace q4 : w1.cell? ⟨w.heap.size + 1, 1, none⟩ = some (.int .i64 bhi) := bkeep hb (by first | (with_reducible exact q4) | (with_reducible exact akeep q4) | simp [*, go_sem]); replace q5 : w1.cell? ⟨w.heap.size + 1, 2, none⟩ = some (.slice d k cd) := bkeep hb (by first | (with_reducible exact q5) | (with_reducible exact akeep q5) | simp [*, go_sem]); replace q6 : w1.cell? ⟨w.heap.size + 1, 3, none⟩ = some (.int .i64 co) := bkeep hb (by first | (with_reducible exact q6) | (with_reducible exact akeep q6) | simp [*, go_sem]); replace q7 : w1.cell? ⟨w.heap.size + 1, 4, none⟩ = some (.int .i64 sid) := bkeep hb (by first | (with_reducible exact q7) | (with_reducible exact akeep q7) | simp [*, go_sem]); replace q8 : w1.cell? ⟨w.heap.size + 1, 5, none⟩ = some (.int .i64 swl) := bkeep hb (by first | (with_reducible exact q8) | (with_reducible exact akeep q8) | simp [*, go_sem]); replace q9 : w1.cell? ⟨w.heap.size + 1, 6, none⟩ = some (.int .i64 swh) := bkeep hb (by first | (with_reducible exact q9) | (with_reducible exact akeep q9) | simp [*, go_sem]); replace q10 : w1.cell? ⟨w.heap.size + 1, 7, none⟩ = some (.int .i64 sbl) := bkeep hb (by first | (with_reducible exact q10) | (with_reducible exact akeep q10) | simp [*, go_sem]); replace q11 : w1.cell? ⟨w.heap.size + 1, 8, none⟩ = some (.int .i64 sbh) := bkeep hb (by first | (with_reducible exact q11) | (with_reducible exact akeep q11) | simp [*, go_sem]); replace q12 : w1.cell? ⟨w.heap.size + 1, 9, none⟩ = some (.int .i64 shl) := bkeep hb (by first | (with_reducible exact q12) | (with_reducible exact akeep q12) | simp [*, go_sem]); replace q13 : w1.cell? ⟨w.heap.size + 1, 10, none⟩ = some (.int .i64 shh) := bkeep hb (by first | (with_reducible exact q13) | (with_reducible exact akeep q13) | simp [*, go_sem]); replace q14 : w1.cell? ⟨w.heap.size + 1, 11, none⟩ = some (.int .i64 sti) := bkeep hb (by first | (with_reducible exact q14) | (with_reducible exact akeep q14) | simp [*, go_sem]); skip
  replace hu1 := hu1.below hb
  replace y1 := y1.below hb
  replace hu2 := hu2.below hb
  replace y2 := y2.below hb
  clear hb
  (try dsimp only)
  dsimp only at hu3
  obtain ⟨x3, z3, rfl, -⟩ := hu3.shape
  rw [List.length_map] at hu3 ⊢
  obtain ⟨vA3, hv9⟩ : ∃ v, v = w1 := ⟨_, rfl⟩
  subst hv9
  go_upto_region 5 with fail
  generalize hW : World.alloc vA3 _ = vB3
  have y3 : CellsAt vB3 vA3.heap.size [.int .i64 g0, .int .i64 g1, .slice x3 gl.length z3] := by rw [← hW]; exact CellsAt.new vA3 [.int .i64 g0, .int .i64 g1, .slice x3 gl.length z3] 26
  have hN : Below vA3.heap.size vA3 vB3 := by rw [← hW]; exact (Below.refl _ _).alloc (Nat.le_refl _) _
  replace hu1 := hu1.below hN
  replace y1 := y1.below hN
  replace hu2 := hu2.below hN
  replace y2 := y2.below hN
  replace hu3 := hu3.below hN
  replace q0 := bkeep hN q0
  replace q1 := bkeep hN q1
  replace q2 := bkeep hN q2
  replace q3 := bkeep hN q3
  replace q4 := bkeep hN q4
  replace q5 := bkeep hN q5
  replace q6 := bkeep hN q6
  replace q7 := bkeep hN q7
  replace q8 := bkeep hN q8
  replace q9 := bkeep hN q9
  replace q10 := bkeep hN q10
  replace q11 := bkeep hN q11
  replace q12 := bkeep hN q12
  replace q13 := bkeep hN q13
  replace q14 := bkeep hN q14
  replace hb0 := bnext (w := w) hb0 hN
  clear hW hN
  go_wp2_with fail
  refine (rSwapP (hd.below (by go_grown)) H2.out).mono ?_
  (try unfold BgRes)
  rintro e w1 ⟨u4, rfl, hb, hu4⟩
  replace hb0 := bnext (w := w) (by go_grown) hb; have hz := hb.size; (try simp only [World.size_alloc, World.size_setCell] at hz); replace q0 : w1.cell? ⟨w.heap.size, 0, none⟩ = some (.int .i64 lo) := bkeep hb (by first | (with_reducible exact q0) | (with_reducible exact akeep q0) | simp [*, go_sem]); replace q1 : w1.cell? ⟨w.heap.size, 1, none⟩ = some (.int .i64 hi) := bkeep hb (by first | (with_reducible exact q1) | (with_reducible exact akeep q1) | simp [*, go_sem]); replace q2 : w1.cell? ⟨w.heap.size, 2, none⟩ = some (.slice b m cb) := bkeep hb (by first | (with_reducible exact q2) | (with_reducible exact akeep q2) | simp [*, go_sem]); replace q3 : w1.cell? ⟨w.heap.size + 1, 0, none⟩ = some (.int .i64 blo) := bkeep hb (by first | (with_reducible exact q3) | (with_reducible exact akeep q3) | simp [*, go_sem]); replace q4 : w1.cell? ⟨w.heap.size + 1, 1, none⟩ = some (.int .i64 bhi) := bkeep hb (by first | (with_reducible exact q4) | (with_reducible exact akeep q4) | simp [*, go_sem]); replace q5 : w1.cell? ⟨w.heap.size + 1, 2, none⟩ = some (.slice d k cd) := bkeep hb (by first | (with_reducible exact q5) | (with_reducible exact akeep q5) | simp [*, go_sem]); replace q6 : w1.cell? ⟨w.heap.size + 1, 3, none⟩ = some (.int .i64 co) := bkeep hb (by first | (with_reducible exact q6) | (with_reducible exact akeep q6) | simp [*, go_sem]); replace q7 : w1.cell? ⟨w.heap.size + 1, 4, none⟩ = some (.int .i64 sid) := bkeep hb (by first | (with_reducible exact q7) | (with_reducible exact akeep q7) | simp [*, go_sem]); replace q8 : w1.cell? ⟨w.heap.size + 1, 5, none⟩ = some (.int .i64 swl) := bkeep hb (by first | (with_reducible exact q8) | (with_reducible exact akeep q8) | simp [*, go_sem]); replace q9 : w1.cell? ⟨w.heap.size + 1, 6, none⟩ = some (.int .i64 swh) := bkeep hb (by first | (with_reducible exact q9) | (with_reducible exact akeep q9) | simp [*, go_sem]); replace q10 : w1.cell? ⟨w.heap.size + 1, 7, none⟩ = some (.int .i64 sbl) := bkeep hb (by first | (with_reducible exact q10) | (with_reducible exact akeep q10) | simp [*, go_sem]); replace q11 : w1.cell? ⟨w.heap.size + 1, 8, none⟩ = some (.int .i64 sbh) := bkeep hb (by first | (with_reducible exact q11) | (with_reducible exact akeep q11) | simp [*, go_sem]); replace q12 : w1.cell? ⟨w.heap.size + 1, 9, none⟩ = some (.int .i64 shl) := bkeep hb (by first | (with_reducible exact q12) | (with_reducible exact akeep q12) | simp [*, go_sem]); replace q13 : w1.cell? ⟨w.heap.size + 1, 10, none⟩ = some (.int .i64 shh) := bkeep hb (by first | (with_reducible exact q13) | (with_reducible exact akeep q13) | simp [*, go_sem]); replace q14 : w1.cell? ⟨w.heap.size + 1, 11, none⟩ = some (.int .i64 sti) := bkeep hb (by first | (with_reducible exact q14) | (with_reducible exact akeep q14) | simp [*, go_sem]); skip
  replace hu1 := hu1.below hb
  replace y1 := y1.below hb
  replace hu2 := hu2.below hb
  replace y2 := y2.below hb
  replace hu3 := hu3.below hb
  replace y3 := y3.below hb
  clear hb
  (try dsimp only)
  dsimp only at hu4
  obtain ⟨x4, z4, rfl, -⟩ := hu4.shape
  rw [List.length_map] at hu4 ⊢
  obtain ⟨vA4, hv9⟩ : ∃ v, v = w1 := ⟨_, rfl⟩
  subst hv9
  go_upto_region 6 with fail
  generalize hW : World.alloc vA4 _ = vB4
  have y4 : CellsAt vB4 vA4.heap.size [.int .i64 g0, .int .i64 g1, .slice x4 gl.length z4] := by rw [← hW]; exact CellsAt.new vA4 [.int .i64 g0, .int .i64 g1, .slice x4 gl.length z4] 26
  have hN : Below vA4.heap.size vA4 vB4 := by rw [← hW]; exact (Below.refl _ _).alloc (Nat.le_refl _) _
  replace hu1 := hu1.below hN
  replace y1 := y1.below hN
  replace hu2 := hu2.below hN
  replace y2 := y2.below hN
  replace hu3 := hu3.below hN
  replace y3 := y3.below hN
  replace hu4 := hu4.below hN
  replace q0 := bkeep hN q0
  replace q1 := bkeep hN q1
  replace q2 := bkeep hN q2
  replace q3 := bkeep hN q3
  replace q4 := bkeep hN q4
  replace q5 := bkeep hN q5
  replace q6 := bkeep hN q6
  replace q7 := bkeep hN q7
  replace q8 := bkeep hN q8
  replace q9 := bkeep hN q9
  replace q10 := bkeep hN q10
  replace q11 := bkeep hN q11
  replace q12 := bkeep hN q12
  replace q13 := bkeep hN q13
  replace q14 := bkeep hN q14
  replace hb0 := bnext (w := w) hb0 hN
  clear hW hN
  go_wp2_with fail
  refine (topP (hd.below (by go_grown)) H3.out).mono ?_
  (try unfold BgRes)
  rintro e w1 ⟨u5, rfl, hb, hu5⟩
  replace hb0 := bnext (w := w) (by go_grown) hb; have hz := hb.size; (try simp only [World.size_alloc, World.size_setCell] at hz); replace q0 : w1.cell? ⟨w.heap.size, 0, none⟩ = some (.int .i64 lo) := bkeep hb (by first | (with_reducible exact q0) | (with_reducible exact akeep q0) | simp [*, go_sem]); replace q1 : w1.cell? ⟨w.heap.size, 1, none⟩ = some (.int .i64 hi) := bkeep hb (by first | (with_reducible exact q1) | (with_reducible exact akeep q1) | simp [*, go_sem]); replace q2 : w1.cell? ⟨w.heap.size, 2, none⟩ = some (.slice b m cb) := bkeep hb (by first | (with_reducible exact q2) | (with_reducible exact akeep q2) | simp [*, go_sem]); replace q3 : w1.cell? ⟨w.heap.size + 1, 0, none⟩ = some (.int .i64 blo) := bkeep hb (by first | (with_reducible exact q3) | (with_reducible exact akeep q3) | simp [*, go_sem]); replace q4 : w1.cell? ⟨w.heap.size + 1, 1, none⟩ = some (.int .i64 bhi) := bkeep hb (by first | (with_reducible exact q4) | (with_reducible exact akeep q4) | simp [*, go_sem]); replace q5 : w1.cell? ⟨w.heap.size + 1, 2, none⟩ = some (.slice d k cd) := bkeep hb (by first | (with_reducible exact q5) | (with_reducible exact akeep q5) | simp [*, go_sem]); replace q6 : w1.cell? ⟨w.heap.size + 1, 3, none⟩ = some (.int .i64 co) := bkeep hb (by first | (with_reducible exact q6) | (with_reducible exact akeep q6) | simp [*, go_sem]); replace q7 : w1.cell? ⟨w.heap.size + 1, 4, none⟩ = some (.int .i64 sid) := bkeep hb (by first | (with_reducible exact q7) | (with_reducible exact akeep q7) | simp [*, go_sem]); replace q8 : w1.cell? ⟨w.heap.size + 1, 5, none⟩ = some (.int .i64 swl) := bkeep hb (by first | (with_reducible exact q8) | (with_reducible exact akeep q8) | simp [*, go_sem]); replace q9 : w1.cell? ⟨w.heap.size + 1, 6, none⟩ = some (.int .i64 swh) := bkeep hb (by first | (with_reducible exact q9) | (with_reducible exact akeep q9) | simp [*, go_sem]); replace q10 : w1.cell? ⟨w.heap.size + 1, 7, none⟩ = some (.int .i64 sbl) := bkeep hb (by first | (with_reducible exact q10) | (with_reducible exact akeep q10) | simp [*, go_sem]); replace q11 : w1.cell? ⟨w.heap.size + 1, 8, none⟩ = some (.int .i64 sbh) := bkeep hb (by first | (with_reducible exact q11) | (with_reducible exact akeep q11) | simp [*, go_sem]); replace q12 : w1.cell? ⟨w.heap.size + 1, 9, none⟩ = some (.int .i64 shl) := bkeep hb (by first | (with_reducible exact q12) | (with_reducible exact akeep q12) | simp [*, go_sem]); replace q13 : w1.cell? ⟨w.heap.size + 1, 10, none⟩ = some (.int .i64 shh) := bkeep hb (by first | (with_reducible exact q13) | (with_reducible exact akeep q13) | simp [*, go_sem]); replace q14 : w1.cell? ⟨w.heap.size + 1, 11, none⟩ = some (.int .i64 sti) := bkeep hb (by first | (with_reducible exact q14) | (with_reducible exact akeep q14) | simp [*, go_sem]); skip
  replace hu1 := hu1.below hb
  replace y1 := y1.below hb
  replace hu2 := hu2.below hb
  replace y2 := y2.below hb
  replace hu3 := hu3.below hb
  replace y3 := y3.below hb
  replace hu4 := hu4.below hb
  replace y4 := y4.below hb
  clear hb
  (try dsimp only)
  dsimp only at hu5
  obtain ⟨x5, z5, rfl, -⟩ := hu5.shape
  rw [List.length_map] at hu5 ⊢
  obtain ⟨vA5, hv9⟩ : ∃ v, v = w1 := ⟨_, rfl⟩
  subst hv9
  go_upto_region 7 with fail
  generalize hW : World.alloc vA5 _ = vB5
  have y5 : CellsAt vB5 vA5.heap.size [.int .i64 j0, .int .i64 j1, .slice x5 jl.length z5] := by rw [← hW]; exact CellsAt.new vA5 [.int .i64 j0, .int .i64 j1, .slice x5 jl.length z5] 26
  have hN : Below vA5.heap.size vA5 vB5 := by rw [← hW]; exact (Below.refl _ _).alloc (Nat.le_refl _) _
  replace hu1 := hu1.below hN
  replace y1 := y1.below hN
  replace hu2 := hu2.below hN
  replace y2 := y2.below hN
  replace hu3 := hu3.below hN
  replace y3 := y3.below hN
  replace hu4 := hu4.below hN
  replace y4 := y4.below hN
  replace hu5 := hu5.below hN
  replace q0 := bkeep hN q0
  replace q1 := bkeep hN q1
  replace q2 := bkeep hN q2
  replace q3 := bkeep hN q3
  replace q4 := bkeep hN q4
  replace q5 := bkeep hN q5
  replace q6 := bkeep hN q6
  replace q7 := bkeep hN q7
  replace q8 := bkeep hN q8
  replace q9 := bkeep hN q9
  replace q10 := bkeep hN q10
  replace q11 := bkeep hN q11
  replace q12 := bkeep hN q12
  replace q13 := bkeep hN q13
  replace q14 := bkeep hN q14
  replace hb0 := bnext (w := w) hb0 hN
  clear hW hN
  go_wp2_with fail
  refine (rTopP (hd.below (by go_grown)) H3.out).mono ?_
  (try unfold BgRes)
  rintro e w1 ⟨u6, rfl, hb, hu6⟩
  replace hb0 := bnext (w := w) (by go_grown) hb; have hz := hb.size; (try simp only [World.size_alloc, World.size_setCell] at hz); replace q0 : w1.cell? ⟨w.heap.size, 0, none⟩ = some (.int .i64 lo) := bkeep hb (by first | (with_reducible exact q0) | (with_reducible exact akeep q0) | simp [*, go_sem]); replace q1 : w1.cell? ⟨w.heap.size, 1, none⟩ = some (.int .i64 hi) := bkeep hb (by first | (with_reducible exact q1) | (with_reducible exact akeep q1) | simp [*, go_sem]); replace q2 : w1.cell? ⟨w.heap.size, 2, none⟩ = some (.slice b m cb) := bkeep hb (by first | (with_reducible exact q2) | (with_reducible exact akeep q2) | simp [*, go_sem]); replace q3 : w1.cell? ⟨w.heap.size + 1, 0, none⟩ = some (.int .i64 blo) := bkeep hb (by first | (with_reducible exact q3) | (with_reducible exact akeep q3) | simp [*, go_sem]); replace q4 : w1.cell? ⟨w.heap.size + 1, 1, none⟩ = some (.int .i64 bhi) := bkeep hb (by first | (with_reducible exact q4) | (with_reducible exact akeep q4) | simp [*, go_sem]); replace q5 : w1.cell? ⟨w.heap.size + 1, 2, none⟩ = some (.slice d k cd) := bkeep hb (by first | (with_reducible exact q5) | (with_reducible exact akeep q5) | simp [*, go_sem]); replace q6 : w1.cell? ⟨w.heap.size + 1, 3, none⟩ = some (.int .i64 co) := bkeep hb (by first | (with_reducible exact q6) | (with_reducible exact akeep q6) | simp [*, go_sem]); replace q7 : w1.cell? ⟨w.heap.size + 1, 4, none⟩ = some (.int .i64 sid) := bkeep hb (by first | (with_reducible exact q7) | (with_reducible exact akeep q7) | simp [*, go_sem]); replace q8 : w1.cell? ⟨w.heap.size + 1, 5, none⟩ = some (.int .i64 swl) := bkeep hb (by first | (with_reducible exact q8) | (with_reducible exact akeep q8) | simp [*, go_sem]); replace q9 : w1.cell? ⟨w.heap.size + 1, 6, none⟩ = some (.int .i64 swh) := bkeep hb (by first | (with_reducible exact q9) | (with_reducible exact akeep q9) | simp [*, go_sem]); replace q10 : w1.cell? ⟨w.heap.size + 1, 7, none⟩ = some (.int .i64 sbl) := bkeep hb (by first | (with_reducible exact q10) | (with_reducible exact akeep q10) | simp [*, go_sem]); replace q11 : w1.cell? ⟨w.heap.size + 1, 8, none⟩ = some (.int .i64 sbh) := bkeep hb (by first | (with_reducible exact q11) | (with_reducible exact akeep q11) | simp [*, go_sem]); replace q12 : w1.cell? ⟨w.heap.size + 1, 9, none⟩ = some (.int .i64 shl) := bkeep hb (by first | (with_reducible exact q12) | (with_reducible exact akeep q12) | simp [*, go_sem]); replace q13 : w1.cell? ⟨w.heap.size + 1, 10, none⟩ = some (.int .i64 shh) := bkeep hb (by first | (with_reducible exact q13) | (with_reducible exact akeep q13) | simp [*, go_sem]); replace q14 : w1.cell? ⟨w.heap.size + 1, 11, none⟩ = some (.int .i64 sti) := bkeep hb (by first | (with_reducible exact q14) | (with_reducible exact akeep q14) | simp [*, go_sem]); skip
  replace hu1 := hu1.below hb
  replace y1 := y1.below hb
  replace hu2 := hu2.below hb
  replace y2 := y2.below hb
  replace hu3 := hu3.below hb
  replace y3 := y3.below hb
  replace hu4 := hu4.below hb
  replace y4 := y4.below hb
  replace hu5 := hu5.below hb
  replace y5 := y5.below hb
  clear hb
  (try dsimp only)
  dsimp only at hu6
  obtain ⟨x6, z6, rfl, -⟩ := hu6.shape
  rw [List.length_map] at hu6 ⊢
  obtain ⟨vA6, hv9⟩ : ∃ v, v = w1 := ⟨_, rfl⟩
  subst hv9
  go_upto_region 8 with fail
  generalize hW : World.alloc vA6 _ = vB6
  have y6 : CellsAt vB6 vA6.heap.size [.int .i64 j0, .int .i64 j1, .slice x6 jl.length z6] := by rw [← hW]; exact CellsAt.new vA6 [.int .i64 j0, .int .i64 j1, .slice x6 jl.length z6] 26
  have hN : Below vA6.heap.size vA6 vB6 := by rw [← hW]; exact (Below.refl _ _).alloc (Nat.le_refl _) _
  replace hu1 := hu1.below hN
  replace y1 := y1.below hN
  replace hu2 := hu2.below hN
  replace y2 := y2.below hN
  replace hu3 := hu3.below hN
  replace y3 := y3.below hN
  replace hu4 := hu4.below hN
  replace y4 := y4.below hN
  replace hu5 := hu5.below hN
  replace y5 := y5.below hN
  replace hu6 := hu6.below hN
  replace q0 := bkeep hN q0
  replace q1 := bkeep hN q1
  replace q2 := bkeep hN q2
  replace q3 := bkeep hN q3
  replace q4 := bkeep hN q4
  replace q5 := bkeep hN q5
  replace q6 := bkeep hN q6
  replace q7 := bkeep hN q7
  replace q8 := bkeep hN q8
  replace q9 := bkeep hN q9
  replace q10 := bkeep hN q10
  replace q11 := bkeep hN q11
  replace q12 := bkeep hN q12
  replace q13 := bkeep hN q13
  replace q14 := bkeep hN q14
  replace hb0 := bnext (w := w) hb0 hN
  clear hW hN
  have a0 := (y1 0 _ rfl).1; have a1 := (y1 1 _ rfl).1; have a2 := (y1 2 _ rfl).1; have d0 := (y2 0 _ rfl).1; have d1 := (y2 1 _ rfl).1; have d2 := (y2 2 _ rfl).1
  go_wp2_with fail
  refine (sameBung_any hu1 hu2 l1).mono ?_
  (try unfold BgRes)
  rintro e w1 ⟨rfl, hb⟩
  replace hb0 := bnext (w := w) (by go_grown) hb; have hz := hb.size; (try simp only [World.size_alloc, World.size_setCell] at hz); replace q0 : w1.cell? ⟨w.heap.size, 0, none⟩ = some (.int .i64 lo) := bkeep hb (by first | (with_reducible exact q0) | (with_reducible exact akeep q0) | simp [*, go_sem]); replace q1 : w1.cell? ⟨w.heap.size, 1, none⟩ = some (.int .i64 hi) := bkeep hb (by first | (with_reducible exact q1) | (with_reducible exact akeep q1) | simp [*, go_sem]); replace q2 : w1.cell? ⟨w.heap.size, 2, none⟩ = some (.slice b m cb) := bkeep hb (by first | (with_reducible exact q2) | (with_reducible exact akeep q2) | simp [*, go_sem]); replace q3 : w1.cell? ⟨w.heap.size + 1, 0, none⟩ = some (.int .i64 blo) := bkeep hb (by first | (with_reducible exact q3) | (with_reducible exact akeep q3) | simp [*, go_sem]); replace q4 : w1.cell? ⟨w.heap.size + 1, 1, none⟩ = some (.int .i64 bhi) := bkeep hb (by first | (with_reducible exact q4) | (with_reducible exact akeep q4) | simp [*, go_sem]); replace q5 : w1.cell? ⟨w.heap.size + 1, 2, none⟩ = some (.slice d k cd) := bkeep hb (by first | (with_reducible exact q5) | (with_reducible exact akeep q5) | simp [*, go_sem]); replace q6 : w1.cell? ⟨w.heap.size + 1, 3, none⟩ = some (.int .i64 co) := bkeep hb (by first | (with_reducible exact q6) | (with_reducible exact akeep q6) | simp [*, go_sem]); replace q7 : w1.cell? ⟨w.heap.size + 1, 4, none⟩ = some (.int .i64 sid) := bkeep hb (by first | (with_reducible exact q7) | (with_reducible exact akeep q7) | simp [*, go_sem]); replace q8 : w1.cell? ⟨w.heap.size + 1, 5, none⟩ = some (.int .i64 swl) := bkeep hb (by first | (with_reducible exact q8) | (with_reducible exact akeep q8) | simp [*, go_sem]); replace q9 : w1.cell? ⟨w.heap.size + 1, 6, none⟩ = some (.int .i64 swh) := bkeep hb (by first | (with_reducible exact q9) | (with_reducible exact akeep q9) | simp [*, go_sem]); replace q10 : w1.cell? ⟨w.heap.size + 1, 7, none⟩ = some (.int .i64 sbl) := bkeep hb (by first | (with_reducible exact q10) | (with_reducible exact akeep q10) | simp [*, go_sem]); replace q11 : w1.cell? ⟨w.heap.size + 1, 8, none⟩ = some (.int .i64 sbh) := bkeep hb (by first | (with_reducible exact q11) | (with_reducible exact akeep q11) | simp [*, go_sem]); replace q12 : w1.cell? ⟨w.heap.size + 1, 9, none⟩ = some (.int .i64 shl) := bkeep hb (by first | (with_reducible exact q12) | (with_reducible exact akeep q12) | simp [*, go_sem]); replace q13 : w1.cell? ⟨w.heap.size + 1, 10, none⟩ = some (.int .i64 shh) := bkeep hb (by first | (with_reducible exact q13) | (with_reducible exact akeep q13) | simp [*, go_sem]); replace q14 : w1.cell? ⟨w.heap.size + 1, 11, none⟩ = some (.int .i64 sti) := bkeep hb (by first | (with_reducible exact q14) | (with_reducible exact akeep q14) | simp [*, go_sem]); skip
  replace hu1 := hu1.below hb
  replace y1 := y1.below hb
  replace hu2 := hu2.below hb
  replace y2 := y2.below hb
  replace hu3 := hu3.below hb
  replace y3 := y3.below hb
  replace hu4 := hu4.below hb
  replace y4 := y4.below hb
  replace hu5 := hu5.below hb
  replace y5 := y5.below hb
  replace hu6 := hu6.below hb
  replace y6 := y6.below hb
  clear hb
  (try dsimp only)
  clear a0 a1 a2 d0 d1 d2
  have a0 := (y3 0 _ rfl).1; have a1 := (y3 1 _ rfl).1; have a2 := (y3 2 _ rfl).1; have d0 := (y4 0 _ rfl).1; have d1 := (y4 1 _ rfl).1; have d2 := (y4 2 _ rfl).1
  go_wp2_with fail
  refine (sameBung_any hu3 hu4 l2).mono ?_
  (try unfold BgRes)
  rintro e w1 ⟨rfl, hb⟩
  replace hb0 := bnext (w := w) (by go_grown) hb; have hz := hb.size; (try simp only [World.size_alloc, World.size_setCell] at hz); replace q0 : w1.cell? ⟨w.heap.size, 0, none⟩ = some (.int .i64 lo) := bkeep hb (by first | (with_reducible exact q0) | (with_reducible exact akeep q0) | simp [*, go_sem]); replace q1 : w1.cell? ⟨w.heap.size, 1, none⟩ = some (.int .i64 hi) := bkeep hb (by first | (with_reducible exact q1) | (with_reducible exact akeep q1) | simp [*, go_sem]); replace q2 : w1.cell? ⟨w.heap.size, 2, none⟩ = some (.slice b m cb) := bkeep hb (by first | (with_reducible exact q2) | (with_reducible exact akeep q2) | simp [*, go_sem]); replace q3 : w1.cell? ⟨w.heap.size + 1, 0, none⟩ = some (.int .i64 blo) := bkeep hb (by first | (with_reducible exact q3) | (with_reducible exact akeep q3) | simp [*, go_sem]); replace q4 : w1.cell? ⟨w.heap.size + 1, 1, none⟩ = some (.int .i64 bhi) := bkeep hb (by first | (with_reducible exact q4) | (with_reducible exact akeep q4) | simp [*, go_sem]); replace q5 : w1.cell? ⟨w.heap.size + 1, 2, none⟩ = some (.slice d k cd) := bkeep hb (by first | (with_reducible exact q5) | (with_reducible exact akeep q5) | simp [*, go_sem]); replace q6 : w1.cell? ⟨w.heap.size + 1, 3, none⟩ = some (.int .i64 co) := bkeep hb (by first | (with_reducible exact q6) | (with_reducible exact akeep q6) | simp [*, go_sem]); replace q7 : w1.cell? ⟨w.heap.size + 1, 4, none⟩ = some (.int .i64 sid) := bkeep hb (by first | (with_reducible exact q7) | (with_reducible exact akeep q7) | simp [*, go_sem]); replace q8 : w1.cell? ⟨w.heap.size + 1, 5, none⟩ = some (.int .i64 swl) := bkeep hb (by first | (with_reducible exact q8) | (with_reducible exact akeep q8) | simp [*, go_sem]); replace q9 : w1.cell? ⟨w.heap.size + 1, 6, none⟩ = some (.int .i64 swh) := bkeep hb (by first | (with_reducible exact q9) | (with_reducible exact akeep q9) | simp [*, go_sem]); replace q10 : w1.cell? ⟨w.heap.size + 1, 7, none⟩ = some (.int .i64 sbl) := bkeep hb (by first | (with_reducible exact q10) | (with_reducible exact akeep q10) | simp [*, go_sem]); replace q11 : w1.cell? ⟨w.heap.size + 1, 8, none⟩ = some (.int .i64 sbh) := bkeep hb (by first | (with_reducible exact q11) | (with_reducible exact akeep q11) | simp [*, go_sem]); replace q12 : w1.cell? ⟨w.heap.size + 1, 9, none⟩ = some (.int .i64 shl) := bkeep hb (by first | (with_reducible exact q12) | (with_reducible exact akeep q12) | simp [*, go_sem]); replace q13 : w1.cell? ⟨w.heap.size + 1, 10, none⟩ = some (.int .i64 shh) := bkeep hb (by first | (with_reducible exact q13) | (with_reducible exact akeep q13) | simp [*, go_sem]); replace q14 : w1.cell? ⟨w.heap.size + 1, 11, none⟩ = some (.int .i64 sti) := bkeep hb (by first | (with_reducible exact q14) | (with_reducible exact akeep q14) | simp [*, go_sem]); skip
  replace hu1 := hu1.below hb
  replace y1 := y1.below hb
  replace hu2 := hu2.below hb
  replace y2 := y2.below hb
  replace hu3 := hu3.below hb
  replace y3 := y3.below hb
  replace hu4 := hu4.below hb
  replace y4 := y4.below hb
  replace hu5 := hu5.below hb
  replace y5 := y5.below hb
  replace hu6 := hu6.below hb
  replace y6 := y6.below hb
  clear hb
  (try dsimp only)
  clear a0 a1 a2 d0 d1 d2
  have a0 := (y5 0 _ rfl).1; have a1 := (y5 1 _ rfl).1; have a2 := (y5 2 _ rfl).1; have d0 := (y6 0 _ rfl).1; have d1 := (y6 1 _ rfl).1; have d2 := (y6 2 _ rfl).1
  go_wp2_with fail
  refine (sameBung_any hu5 hu6 l3).mono ?_
  (try unfold BgRes)
  rintro e w1 ⟨rfl, hb⟩
  replace hb0 := bnext (w := w) (by go_grown) hb; have hz := hb.size; (try simp only [World.size_alloc, World.size_setCell] at hz); replace q0 : w1.cell? ⟨w.heap.size, 0, none⟩ = some (.int .i64 lo) := bkeep hb (by first | (with_reducible exact q0) | (with_reducible exact akeep q0) | simp [*, go_sem]); replace q1 : w1.cell? ⟨w.heap.size, 1, none⟩ = some (.int .i64 hi) := bkeep hb (by first | (with_reducible exact q1) | (with_reducible exact akeep q1) | simp [*, go_sem]); replace q2 : w1.cell? ⟨w.heap.size, 2, none⟩ = some (.slice b m cb) := bkeep hb (by first | (with_reducible exact q2) | (with_reducible exact akeep q2) | simp [*, go_sem]); replace q3 : w1.cell? ⟨w.heap.size + 1, 0, none⟩ = some (.int .i64 blo) := bkeep hb (by first | (with_reducible exact q3) | (with_reducible exact akeep q3) | simp [*, go_sem]); replace q4 : w1.cell? ⟨w.heap.size + 1, 1, none⟩ = some (.int .i64 bhi) := bkeep hb (by first | (with_reducible exact q4) | (with_reducible exact akeep q4) | simp [*, go_sem]); replace q5 : w1.cell? ⟨w.heap.size + 1, 2, none⟩ = some (.slice d k cd) := bkeep hb (by first | (with_reducible exact q5) | (with_reducible exact akeep q5) | simp [*, go_sem]); replace q6 : w1.cell? ⟨w.heap.size + 1, 3, none⟩ = some (.int .i64 co) := bkeep hb (by first | (with_reducible exact q6) | (with_reducible exact akeep q6) | simp [*, go_sem]); replace q7 : w1.cell? ⟨w.heap.size + 1, 4, none⟩ = some (.int .i64 sid) := bkeep hb (by first | (with_reducible exact q7) | (with_reducible exact akeep q7) | simp [*, go_sem]); replace q8 : w1.cell? ⟨w.heap.size + 1, 5, none⟩ = some (.int .i64 swl) := bkeep hb (by first | (with_reducible exact q8) | (with_reducible exact akeep q8) | simp [*, go_sem]); replace q9 : w1.cell? ⟨w.heap.size + 1, 6, none⟩ = some (.int .i64 swh) := bkeep hb (by first | (with_reducible exact q9) | (with_reducible exact akeep q9) | simp [*, go_sem]); replace q10 : w1.cell? ⟨w.heap.size + 1, 7, none⟩ = some (.int .i64 sbl) := bkeep hb (by first | (with_reducible exact q10) | (with_reducible exact akeep q10) | simp [*, go_sem]); replace q11 : w1.cell? ⟨w.heap.size + 1, 8, none⟩ = some (.int .i64 sbh) := bkeep hb (by first | (with_reducible exact q11) | (with_reducible exact akeep q11) | simp [*, go_sem]); replace q12 : w1.cell? ⟨w.heap.size + 1, 9, none⟩ = some (.int .i64 shl) := bkeep hb (by first | (with_reducible exact q12) | (with_reducible exact akeep q12) | simp [*, go_sem]); replace q13 : w1.cell? ⟨w.heap.size + 1, 10, none⟩ = some (.int .i64 shh) := bkeep hb (by first | (with_reducible exact q13) | (with_reducible exact akeep q13) | simp [*, go_sem]); replace q14 : w1.cell? ⟨w.heap.size + 1, 11, none⟩ = some (.int .i64 sti) := bkeep hb (by first | (with_reducible exact q14) | (with_reducible exact akeep q14) | simp [*, go_sem]); skip
  replace hu1 := hu1.below hb
  replace y1 := y1.below hb
  replace hu2 := hu2.below hb
  replace y2 := y2.below hb
  replace hu3 := hu3.below hb
  replace y3 := y3.below hb
  replace hu4 := hu4.below hb
  replace y4 := y4.below hb
  replace hu5 := hu5.below hb
  replace y5 := y5.below hb
  replace hu6 := hu6.below hb
  replace y6 := y6.below hb
  clear hb
  (try dsimp only)
  clear a0 a1 a2 d0 d1 d2
  go_wp2_with fail
  go_ret
  exact ⟨rfl, hb0⟩

end Go.Proofs.Ytnchhleokdkejaa
