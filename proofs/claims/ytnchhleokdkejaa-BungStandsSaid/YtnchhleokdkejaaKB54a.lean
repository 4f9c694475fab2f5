/- A bung with two neighbours exchanged, by the reference. -/
import Derived.Test.YtnchhleokdkejaaKB32a
import Derived.Test.YtnchhleokdkejaaKW20a
import Derived.Test.YtnchhleokdkejaaKSca
import Derived.Test.YtnchhleokdkejaaKTka
import Derived.Deep.LoopGhost
import Derived.Deep.CutBlock
namespace Go.Proofs.Ytnchhleokdkejaa
open Go.RowKit Go.Pb Go.Pb.Ware Go.Pb.Sag
set_option linter.unusedVariables false
set_option linter.unusedSimpArgs false

open Go.Proofs Go.Pb.Bung
theorem own_at {W : World} {lo T n cap g o : Nat} {l : List Sg} (h : W.ownsRow lo T 8 (.slice (some ⟨g, 0, none⟩) n cap) n (l.flatMap cellsG)) (ho : o < l.length * 8) : ∃ u, W.cell? ⟨g, o, none⟩ = some u := by
  obtain ⟨u, hu⟩ : ∃ u, (l.flatMap cellsG)[o]? = some u := ⟨_, List.getElem?_eq_getElem (by rw [sg_len]; exact ho)⟩
  have := h.cells (g := g) rfl o u hu
  rw [Go.WideShapes.add_plain, Nat.zero_add] at this
  exact ⟨u, this⟩
def swapL (l : List Sg) (c : Nat) : List Sg := (l.set c (l.getD (c + 1) default)).set (c + 1) (l.getD c default)
def swpA (lo hi : Int) (l : List Sg) (co : Int) : ((Int × Int) × List Sg) × Int := if bungOk lo hi l = true then (if btw co 0 ((l.length : Int) - 2) = true then (((lo, hi), swapL l co.toNat), 0) else (((0, 0), []), 1)) else (((0, 0), []), 31)
theorem putG_below {B g o : Nat} {w W : World} {s : Sg} (h : Below B w W) (hb : B ≤ g) : Below B w (putG8 W g o s) := ((((((((h.setCell (p := ⟨g, o, none⟩) hb _).setCell (p := ⟨g, o + 1, none⟩) hb _).setCell (p := ⟨g, o + 2, none⟩) hb _).setCell (p := ⟨g, o + 3, none⟩) hb _).setCell (p := ⟨g, o + 4, none⟩) hb _).setCell (p := ⟨g, o + 5, none⟩) hb _).setCell (p := ⟨g, o + 6, none⟩) hb _).setCell (p := ⟨g, o + 7, none⟩) hb _)
end Go.Proofs.Ytnchhleokdkejaa

/- A bung with two neighbours exchanged. -/
namespace Go.Proofs.Ytnchhleokdkejaa
open Go.RowKit Go.Pb Go.Pb.Ware Go.Pb.Sag
set_option linter.unusedVariables false
set_option linter.unusedSimpArgs false

open Go.Proofs Go.Pb.Bung
set_option maxRecDepth 100000 in
set_option maxHeartbeats 1000000 in
theorem swapP {w : World} {v : Value} {l : List Sg} {lo hi co : Int} {r : _} (h : RowsAt 8 w v (l.map rowG)) (hr : swpA lo hi l co = r) :
    Calls Try.prog 52 #[.agg #[.int .i64 lo, .int .i64 hi, v], .int .i64 co] w (BgRes r w) := by
  unfold BgRes
  obtain ⟨i0, hi0, hz0, hz1, hz2⟩ := info_parts Try.infoG
  have hlat := sg_lat h
  have hi64 := i64_rows h
  obtain ⟨a, cap, rfl, hll⟩ := h.shape
  simp only [List.length_map] at h hlat
  rw [List.length_map] at hll ⊢
  obtain ⟨n, hn⟩ : ∃ n, l.length = n := ⟨_, rfl⟩
  have HN : Hid (l.length = n) := hn
  obtain ⟨b1, h1⟩ : ∃ b, bungOk lo hi l = b := ⟨_, rfl⟩
  obtain ⟨b2, h2⟩ : ∃ b, btw co 0 ((n : Int) - 2) = b := ⟨_, rfl⟩
  unfold swpA at hr
  rw [hn, h1, h2] at hr
  have hcb : ckBg lo hi l = if b1 = true then 0 else 31 := by unfold ckBg; rw [h1]
  have HI64 : Hid (∀ s ∈ l, ∀ z ∈ rowG s, I64 z) := hid hi64
  rw [hn] at h hlat hll ⊢
  have HLT := hid hlat; have HB2 := hid h2
  clear hi64 hlat
  cases b1
  · rw [if_neg (by simp)] at hr
    subst hr
    have HC : Hid (ckBg lo hi l = 31) := hid (hcb.trans (if_neg (by simp)))
    clear hcb h1 h2 hn
    go_enter Try.func52, Try.ntmps52
    go_wp2_with fail
    refine (ckBg_any (h.below (by go_grown)) HC.out).mono ?_
    rintro e w1 ⟨rfl, hb⟩
    replace hb0 := bnext (w := w) (by go_grown) hb; have hz := hb.size; (try simp only [World.size_alloc, World.size_setCell] at hz); replace q0 : w1.cell? ⟨w.heap.size, 0, none⟩ = some (.int .i64 lo) := bkeep hb (by first | (with_reducible exact q0) | (with_reducible exact akeep q0) | simp [*, go_sem]); replace q1 : w1.cell? ⟨w.heap.size, 1, none⟩ = some (.int .i64 hi) := bkeep hb (by first | (with_reducible exact q1) | (with_reducible exact akeep q1) | simp [*, go_sem]); replace q2 : w1.cell? ⟨w.heap.size, 2, none⟩ = some (.slice a n cap) := bkeep hb (by first | (with_reducible exact q2) | (with_reducible exact akeep q2) | simp [*, go_sem]); replace f3 : w1.frozen? ⟨w.heap.size + 1, 0, none⟩ = false := bfree (v := .int .i64 0) hb (by first | (with_reducible exact q3) | (with_reducible exact akeep q3) | simp [*, go_sem]) (by first | (with_reducible exact f3) | (with_reducible exact afree q3 f3) | simp [*, go_sem]); replace q3 : w1.cell? ⟨w.heap.size + 1, 0, none⟩ = some (.int .i64 0) := bkeep hb (by first | (with_reducible exact q3) | (with_reducible exact akeep q3) | simp [*, go_sem]); replace f4 : w1.frozen? ⟨w.heap.size + 1, 1, none⟩ = false := bfree (v := .int .i64 0) hb (by first | (with_reducible exact q4) | (with_reducible exact akeep q4) | simp [*, go_sem]) (by first | (with_reducible exact f4) | (with_reducible exact afree q4 f4) | simp [*, go_sem]); replace q4 : w1.cell? ⟨w.heap.size + 1, 1, none⟩ = some (.int .i64 0) := bkeep hb (by first | (with_reducible exact q4) | (with_reducible exact akeep q4) | simp [*, go_sem]); replace f5 : w1.frozen? ⟨w.heap.size + 1, 2, none⟩ = false := bfree (v := .slice none 0 0) hb (by first | (with_reducible exact q5) | (with_reducible exact akeep q5) | simp [*, go_sem]) (by first | (with_reducible exact f5) | (with_reducible exact afree q5 f5) | simp [*, go_sem]); replace q5 : w1.cell? ⟨w.heap.size + 1, 2, none⟩ = some (.slice none 0 0) := bkeep hb (by first | (with_reducible exact q5) | (with_reducible exact akeep q5) | simp [*, go_sem]); skip
    clear hb
    go_wp2_with fail
    exact bodyPost_ret (v := .tuple #[.agg #[.int .i64 0, .int .i64 0, .slice none 0 0], .int .i64 31]) (by simp [results, Try.results52, go_sem, *]) rfl ⟨_, rfl, by go_grown, rows8_nil _⟩
  · rw [if_pos rfl] at hr
    have HC : Hid (ckBg lo hi l = 0) := hid (hcb.trans (if_pos rfl))
    have hl30 : n ≤ 30 := by rw [← hn]; exact bungOk_len h1
    have hwn : IntKind.i64.wrap ((n : Int) - 2) = (n : Int) - 2 := IntWalk.i64_in _ (by omega)
    clear hcb h1
    cases b2
    · rw [if_neg (by simp)] at hr
      subst hr
      clear h2 hn
      go_enter Try.func52, Try.ntmps52
      go_wp2_with fail
      refine (ckBg_any (h.below (by go_grown)) HC.out).mono ?_
      rintro e w1 ⟨rfl, hb⟩
      replace hb0 := bnext (w := w) (by go_grown) hb; have hz := hb.size; (try simp only [World.size_alloc, World.size_setCell] at hz); replace q0 : w1.cell? ⟨w.heap.size, 0, none⟩ = some (.int .i64 lo) := bkeep hb (by first | (with_reducible exact q0) | (with_reducible exact akeep q0) | simp [*, go_sem]); replace q1 : w1.cell? ⟨w.heap.size, 1, none⟩ = some (.int .i64 hi) := bkeep hb (by first | (with_reducible exact q1) | (with_reducible exact akeep q1) | simp [*, go_sem]); replace q2 : w1.cell? ⟨w.heap.size, 2, none⟩ = some (.slice a n cap) := bkeep hb (by first | (with_reducible exact q2) | (with_reducible exact akeep q2) | simp [*, go_sem]); replace f3 : w1.frozen? ⟨w.heap.size + 1, 0, none⟩ = false := bfree (v := .int .i64 0) hb (by first | (with_reducible exact q3) | (with_reducible exact akeep q3) | simp [*, go_sem]) (by first | (with_reducible exact f3) | (with_reducible exact afree q3 f3) | simp [*, go_sem]); replace q3 : w1.cell? ⟨w.heap.size + 1, 0, none⟩ = some (.int .i64 0) := bkeep hb (by first | (with_reducible exact q3) | (with_reducible exact akeep q3) | simp [*, go_sem]); replace f4 : w1.frozen? ⟨w.heap.size + 1, 1, none⟩ = false := bfree (v := .int .i64 0) hb (by first | (with_reducible exact q4) | (with_reducible exact akeep q4) | simp [*, go_sem]) (by first | (with_reducible exact f4) | (with_reducible exact afree q4 f4) | simp [*, go_sem]); replace q4 : w1.cell? ⟨w.heap.size + 1, 1, none⟩ = some (.int .i64 0) := bkeep hb (by first | (with_reducible exact q4) | (with_reducible exact akeep q4) | simp [*, go_sem]); replace f5 : w1.frozen? ⟨w.heap.size + 1, 2, none⟩ = false := bfree (v := .slice none 0 0) hb (by first | (with_reducible exact q5) | (with_reducible exact akeep q5) | simp [*, go_sem]) (by first | (with_reducible exact f5) | (with_reducible exact afree q5 f5) | simp [*, go_sem]); replace q5 : w1.cell? ⟨w.heap.size + 1, 2, none⟩ = some (.slice none 0 0) := bkeep hb (by first | (with_reducible exact q5) | (with_reducible exact akeep q5) | simp [*, go_sem]); skip
      clear hb
      go_wp2_with fail
      refine (bB HB2.out).mono ?_
      rintro e w1 ⟨rfl, hb⟩
      replace hb0 := bnext (w := w) (by go_grown) hb; have hz := hb.size; (try simp only [World.size_alloc, World.size_setCell] at hz); replace q0 : w1.cell? ⟨w.heap.size, 0, none⟩ = some (.int .i64 lo) := bkeep hb (by first | (with_reducible exact q0) | (with_reducible exact akeep q0) | simp [*, go_sem]); replace q1 : w1.cell? ⟨w.heap.size, 1, none⟩ = some (.int .i64 hi) := bkeep hb (by first | (with_reducible exact q1) | (with_reducible exact akeep q1) | simp [*, go_sem]); replace q2 : w1.cell? ⟨w.heap.size, 2, none⟩ = some (.slice a n cap) := bkeep hb (by first | (with_reducible exact q2) | (with_reducible exact akeep q2) | simp [*, go_sem]); replace f3 : w1.frozen? ⟨w.heap.size + 1, 0, none⟩ = false := bfree (v := .int .i64 0) hb (by first | (with_reducible exact q3) | (with_reducible exact akeep q3) | simp [*, go_sem]) (by first | (with_reducible exact f3) | (with_reducible exact afree q3 f3) | simp [*, go_sem]); replace q3 : w1.cell? ⟨w.heap.size + 1, 0, none⟩ = some (.int .i64 0) := bkeep hb (by first | (with_reducible exact q3) | (with_reducible exact akeep q3) | simp [*, go_sem]); replace f4 : w1.frozen? ⟨w.heap.size + 1, 1, none⟩ = false := bfree (v := .int .i64 0) hb (by first | (with_reducible exact q4) | (with_reducible exact akeep q4) | simp [*, go_sem]) (by first | (with_reducible exact f4) | (with_reducible exact afree q4 f4) | simp [*, go_sem]); replace q4 : w1.cell? ⟨w.heap.size + 1, 1, none⟩ = some (.int .i64 0) := bkeep hb (by first | (with_reducible exact q4) | (with_reducible exact akeep q4) | simp [*, go_sem]); replace f5 : w1.frozen? ⟨w.heap.size + 1, 2, none⟩ = false := bfree (v := .slice none 0 0) hb (by first | (with_reducible exact q5) | (with_reducible exact akeep q5) | simp [*, go_sem]) (by first | (with_reducible exact f5) | (with_reducible exact afree q5 f5) | simp [*, go_sem]); replace q5 : w1.cell? ⟨w.heap.size + 1, 2, none⟩ = some (.slice none 0 0) := bkeep hb (by first | (with_reducible exact q5) | (with_reducible exact akeep q5) | simp [*, go_sem]); skip
      clear hb
      go_wp2_with fail
      exact bodyPost_ret (v := .tuple #[.agg #[.int .i64 0, .int .i64 0, .slice none 0 0], .int .i64 1]) (by simp [results, Try.results52, go_sem, *]) rfl ⟨_, rfl, by go_grown, rows8_nil _⟩
    · rw [if_pos rfl] at hr
      have hco := btw_iff.1 h2
      clear h2
      obtain ⟨c, rfl⟩ : ∃ c : Nat, co = (c : Int) := ⟨co.toNat, by omega⟩
      rw [Int.toNat_natCast] at hr
      have hn0 : 0 < n := by omega
      obtain ⟨d, hd⟩ : ∃ d, c + 1 = d := ⟨_, rfl⟩
      have hwc : IntKind.i64.wrap ((c : Int) + 1) = (d : Int) := (IntWalk.i64_in _ (by omega)).trans (by omega)
      have hcn : (c : Int) < (n : Int) := by omega
      have hdn : (d : Int) < (n : Int) := by omega
      obtain ⟨x, hx⟩ : ∃ s, l[c]? = some s := ⟨_, List.getElem?_eq_getElem (by omega)⟩
      obtain ⟨y, hy⟩ : ∃ s, l[d]? = some s := ⟨_, List.getElem?_eq_getElem (by omega)⟩
      have hsw : swapL l c = (l.set c y).set d x := by unfold swapL; rw [hd, getD_of hx, getD_of hy]
      rw [hsw] at hr
      subst hr
      have HD := hid hd; have HX : Hid (l[c]? = some x) := hid hx; have HY : Hid (l[d]? = some y) := hid hy
      clear hd hsw hn
      go_enter Try.func52, Try.ntmps52
      go_wp2_with fail
      refine (ckBg_any (h.below (by go_grown)) HC.out).mono ?_
      rintro e w1 ⟨rfl, hb⟩
      replace hb0 := bnext (w := w) (by go_grown) hb; have hz := hb.size; (try simp only [World.size_alloc, World.size_setCell] at hz); replace q0 : w1.cell? ⟨w.heap.size, 0, none⟩ = some (.int .i64 lo) := bkeep hb (by first | (with_reducible exact q0) | (with_reducible exact akeep q0) | simp [*, go_sem]); replace q1 : w1.cell? ⟨w.heap.size, 1, none⟩ = some (.int .i64 hi) := bkeep hb (by first | (with_reducible exact q1) | (with_reducible exact akeep q1) | simp [*, go_sem]); replace q2 : w1.cell? ⟨w.heap.size, 2, none⟩ = some (.slice a n cap) := bkeep hb (by first | (with_reducible exact q2) | (with_reducible exact akeep q2) | simp [*, go_sem]); replace f3 : w1.frozen? ⟨w.heap.size + 1, 0, none⟩ = false := bfree (v := .int .i64 0) hb (by first | (with_reducible exact q3) | (with_reducible exact akeep q3) | simp [*, go_sem]) (by first | (with_reducible exact f3) | (with_reducible exact afree q3 f3) | simp [*, go_sem]); replace q3 : w1.cell? ⟨w.heap.size + 1, 0, none⟩ = some (.int .i64 0) := bkeep hb (by first | (with_reducible exact q3) | (with_reducible exact akeep q3) | simp [*, go_sem]); replace f4 : w1.frozen? ⟨w.heap.size + 1, 1, none⟩ = false := bfree (v := .int .i64 0) hb (by first | (with_reducible exact q4) | (with_reducible exact akeep q4) | simp [*, go_sem]) (by first | (with_reducible exact f4) | (with_reducible exact afree q4 f4) | simp [*, go_sem]); replace q4 : w1.cell? ⟨w.heap.size + 1, 1, none⟩ = some (.int .i64 0) := bkeep hb (by first | (with_reducible exact q4) | (with_reducible exact akeep q4) | simp [*, go_sem]); replace f5 : w1.frozen? ⟨w.heap.size + 1, 2, none⟩ = false := bfree (v := .slice none 0 0) hb (by first | (with_reducible exact q5) | (with_reducible exact akeep q5) | simp [*, go_sem]) (by first | (with_reducible exact f5) | (with_reducible exact afree q5 f5) | simp [*, go_sem]); replace q5 : w1.cell? ⟨w.heap.size + 1, 2, none⟩ = some (.slice none 0 0) := bkeep hb (by first | (with_reducible exact q5) | (with_reducible exact akeep q5) | simp [*, go_sem]); skip
      clear hb
      go_wp2_with fail
      refine (bB HB2.out).mono ?_
      rintro e w1 ⟨rfl, hb⟩
      replace hb0 := bnext (w := w) (by go_grown) hb; have hz := hb.size; (try simp only [World.size_alloc, World.size_setCell] at hz); replace q0 : w1.cell? ⟨w.heap.size, 0, none⟩ = some (.int .i64 lo) := bkeep hb (by first | (with_reducible exact q0) | (with_reducible exact akeep q0) | simp [*, go_sem]); replace q1 : w1.cell? ⟨w.heap.size, 1, none⟩ = some (.int .i64 hi) := bkeep hb (by first | (with_reducible exact q1) | (with_reducible exact akeep q1) | simp [*, go_sem]); replace q2 : w1.cell? ⟨w.heap.size, 2, none⟩ = some (.slice a n cap) := bkeep hb (by first | (with_reducible exact q2) | (with_reducible exact akeep q2) | simp [*, go_sem]); replace f3 : w1.frozen? ⟨w.heap.size + 1, 0, none⟩ = false := bfree (v := .int .i64 0) hb (by first | (with_reducible exact q3) | (with_reducible exact akeep q3) | simp [*, go_sem]) (by first | (with_reducible exact f3) | (with_reducible exact afree q3 f3) | simp [*, go_sem]); replace q3 : w1.cell? ⟨w.heap.size + 1, 0, none⟩ = some (.int .i64 0) := bkeep hb (by first | (with_reducible exact q3) | (with_reducible exact akeep q3) | simp [*, go_sem]); replace f4 : w1.frozen? ⟨w.heap.size + 1, 1, none⟩ = false := bfree (v := .int .i64 0) hb (by first | (with_reducible exact q4) | (with_reducible exact akeep q4) | simp [*, go_sem]) (by first | (with_reducible exact f4) | (with_reducible exact afree q4 f4) | simp [*, go_sem]); replace q4 : w1.cell? ⟨w.heap.size + 1, 1, none⟩ = some (.int .i64 0) := bkeep hb (by first | (with_reducible exact q4) | (with_reducible exact akeep q4) | simp [*, go_sem]); replace f5 : w1.frozen? ⟨w.heap.size + 1, 2, none⟩ = false := bfree (v := .slice none 0 0) hb (by first | (with_reducible exact q5) | (with_reducible exact akeep q5) | simp [*, go_sem]) (by first | (with_reducible exact f5) | (with_reducible exact afree q5 f5) | simp [*, go_sem]); replace q5 : w1.cell? ⟨w.heap.size + 1, 2, none⟩ = some (.slice none 0 0) := bkeep hb (by first | (with_reducible exact q5) | (with_reducible exact akeep q5) | simp [*, go_sem]); skip
      clear hb
      obtain ⟨v2, hv2⟩ : ∃ v, v = w1 := ⟨_, rfl⟩
      subst hv2
      have hz2v : w.heap.size + 1 < v2.heap.size := World.block_lt_of_cell? v2 ⟨w.heap.size + 1, 0, none⟩ q3
      have hB := hb0
      go_wp2_with fail
      refine (cloneG (l := l) (h.below hb0) (by rw [HN.out]; omega)).mono ?_
      unfold NewSgs
      rw [HN.out]
      rintro e w4 ⟨xv, rfl, hb4, ho4⟩
      obtain ⟨g, gc, rfl, -, -⟩ := own_some ho4 hn0
      have hge : v2.heap.size ≤ g := (World.ownsRow.lt ho4 g rfl).1
      have k0 := bkeep hb4 q0
      have k1 := bkeep hb4 q1
      have k2 := bkeep hb4 q2
      have hrw := rows_of_owns (l := l) (by rw [HN.out]; exact ho4) HI64.out
      obtain ⟨a9, ha, u0, hcc, -⟩ := sg_row (by rw [HN.out]; exact hrw) HY.out
      injection ha with ha
      subst ha
      have u1 := hcc 1 _ (by decide) rfl
      have u2 := hcc 2 _ (by decide) rfl
      have u3 := hcc 3 _ (by decide) rfl
      have u4 := hcc 4 _ (by decide) rfl
      have u5 := hcc 5 _ (by decide) rfl
      have u6 := hcc 6 _ (by decide) rfl
      have u7 := hcc 7 _ (by decide) rfl
      clear hcc
      simp only [Go.WideShapes.add_plain, Nat.zero_add] at u0 u1 u2 u3 u4 u5 u6 u7
      obtain ⟨a9, ha, t0, hcc, -⟩ := sg_row (by rw [HN.out]; exact hrw) HX.out
      injection ha with ha
      subst ha
      have t1 := hcc 1 _ (by decide) rfl
      have t2 := hcc 2 _ (by decide) rfl
      have t3 := hcc 3 _ (by decide) rfl
      have t4 := hcc 4 _ (by decide) rfl
      have t5 := hcc 5 _ (by decide) rfl
      have t6 := hcc 6 _ (by decide) rfl
      have t7 := hcc 7 _ (by decide) rfl
      clear hcc
      simp only [Go.WideShapes.add_plain, Nat.zero_add] at t0 t1 t2 t3 t4 t5 t6 t7
      go_upto_region 7 with fail
      refine wp_region_F [2, 3, 4, 10, 11, 12] (by kernel_rfl) [] [0, 1, 5, 6, 7, 8, 9, 13] 4 (by kernel_rfl) rfl (fun _ h => by cases h) (by kernel_rfl) ?_
      refine ⟨_, .slice (some ⟨g, 0, none⟩) n gc, rfl, .inl ⟨rfl, fun w => by go_simp⟩, ?_⟩
      (try simp only [Act.put, List.getElem_toArray, List.getElem_cons_succ, List.getElem_cons_zero, List.setIfInBounds_toArray, List.set_cons_succ, List.set_cons_zero])
      refine ⟨_, .int .i64 (c : Int), rfl, .inl ⟨rfl, fun w => by go_simp⟩, ?_⟩
      (try simp only [Act.put, List.getElem_toArray, List.getElem_cons_succ, List.getElem_cons_zero, List.setIfInBounds_toArray, List.set_cons_succ, List.set_cons_zero])
      refine ⟨_, .int .i64 (d : Int), rfl, .inl ⟨rfl, fun w => by go_simp⟩, ?_⟩
      (try simp only [Act.put, List.getElem_toArray, List.getElem_cons_succ, List.getElem_cons_zero, List.setIfInBounds_toArray, List.set_cons_succ, List.set_cons_zero])
      refine ⟨_, .slice (some ⟨g, 0, none⟩) n gc, rfl, .inl ⟨rfl, fun w => by go_simp⟩, ?_⟩
      (try simp only [Act.put, List.getElem_toArray, List.getElem_cons_succ, List.getElem_cons_zero, List.setIfInBounds_toArray, List.set_cons_succ, List.set_cons_zero])
      refine ⟨_, .int .i64 (c : Int), rfl, .inl ⟨rfl, fun w => by go_simp⟩, ?_⟩
      (try simp only [Act.put, List.getElem_toArray, List.getElem_cons_succ, List.getElem_cons_zero, List.setIfInBounds_toArray, List.set_cons_succ, List.set_cons_zero])
      refine ⟨_, .pointer (some ⟨g, c * 8, none⟩), rfl, .inl ⟨rfl, fun w => by go_simp⟩, ?_⟩
      (try simp only [Act.put, List.getElem_toArray, List.getElem_cons_succ, List.getElem_cons_zero, List.setIfInBounds_toArray, List.set_cons_succ, List.set_cons_zero])
      show wpS _ _ _ _ _ _ _ (numbered _ _) _ _
      simp only [numbered, List.filterMap_cons, List.filterMap_nil, List.getElem?_toArray, List.getElem?_cons_succ, List.getElem?_cons_zero, Option.map_some]
      show wpS _ _ _ _ _ _ _ [(_, _), (_, _), (_, _), (_, _), (_, _), (_, _), (_, _), (_, _)] _ _
      (refine wpS_quiet rfl rfl ?_; intro K hK inst hx; have s0 := fun x => (fun _ => bkeep (BQ.below x) k0) (hx x); have s1 := fun x => (fun _ => bkeep (BQ.below x) k1) (hx x); have s2 := fun x => (fun _ => bkeep (BQ.below x) k2) (hx x); have s3 := fun x => (fun _ => bkeep (BQ.below x) u0) (hx x); have s4 := fun x => (fun _ => bkeep (BQ.below x) u1) (hx x); have s5 := fun x => (fun _ => bkeep (BQ.below x) u2) (hx x); have s6 := fun x => (fun _ => bkeep (BQ.below x) u3) (hx x); have s7 := fun x => (fun _ => bkeep (BQ.below x) u4) (hx x); have s8 := fun x => (fun _ => bkeep (BQ.below x) u5) (hx x); have s9 := fun x => (fun _ => bkeep (BQ.below x) u6) (hx x); have s10 := fun x => (fun _ => bkeep (BQ.below x) u7) (hx x); have s11 := fun x => (fun _ => bkeep (BQ.below x) t0) (hx x); have s12 := fun x => (fun _ => bkeep (BQ.below x) t1) (hx x); have s13 := fun x => (fun _ => bkeep (BQ.below x) t2) (hx x); have s14 := fun x => (fun _ => bkeep (BQ.below x) t3) (hx x); have s15 := fun x => (fun _ => bkeep (BQ.below x) t4) (hx x); have s16 := fun x => (fun _ => bkeep (BQ.below x) t5) (hx x); have s17 := fun x => (fun _ => bkeep (BQ.below x) t6) (hx x); have s18 := fun x => (fun _ => bkeep (BQ.below x) t7) (hx x); go_big_quiet_op; (first | go_big_quiet_on | (refine ⟨_, fun _ => rfl, ?_⟩; go_big_quiet_on)); clear hx inst)
      (refine wpS_quiet rfl rfl ?_; intro K hK inst hx; have s0 := fun x => (fun _ => bkeep (BQ.below x) k0) (hx x); have s1 := fun x => (fun _ => bkeep (BQ.below x) k1) (hx x); have s2 := fun x => (fun _ => bkeep (BQ.below x) k2) (hx x); have s3 := fun x => (fun _ => bkeep (BQ.below x) u0) (hx x); have s4 := fun x => (fun _ => bkeep (BQ.below x) u1) (hx x); have s5 := fun x => (fun _ => bkeep (BQ.below x) u2) (hx x); have s6 := fun x => (fun _ => bkeep (BQ.below x) u3) (hx x); have s7 := fun x => (fun _ => bkeep (BQ.below x) u4) (hx x); have s8 := fun x => (fun _ => bkeep (BQ.below x) u5) (hx x); have s9 := fun x => (fun _ => bkeep (BQ.below x) u6) (hx x); have s10 := fun x => (fun _ => bkeep (BQ.below x) u7) (hx x); have s11 := fun x => (fun _ => bkeep (BQ.below x) t0) (hx x); have s12 := fun x => (fun _ => bkeep (BQ.below x) t1) (hx x); have s13 := fun x => (fun _ => bkeep (BQ.below x) t2) (hx x); have s14 := fun x => (fun _ => bkeep (BQ.below x) t3) (hx x); have s15 := fun x => (fun _ => bkeep (BQ.below x) t4) (hx x); have s16 := fun x => (fun _ => bkeep (BQ.below x) t5) (hx x); have s17 := fun x => (fun _ => bkeep (BQ.below x) t6) (hx x); have s18 := fun x => (fun _ => bkeep (BQ.below x) t7) (hx x); go_big_quiet_op; (first | go_big_quiet_on | (refine ⟨_, fun _ => rfl, ?_⟩; go_big_quiet_on)); clear hx inst)
      (refine wpS_quiet rfl rfl ?_; intro K hK inst hx; have s0 := fun x => (fun _ => bkeep (BQ.below x) k0) (hx x); have s1 := fun x => (fun _ => bkeep (BQ.below x) k1) (hx x); have s2 := fun x => (fun _ => bkeep (BQ.below x) k2) (hx x); have s3 := fun x => (fun _ => bkeep (BQ.below x) u0) (hx x); have s4 := fun x => (fun _ => bkeep (BQ.below x) u1) (hx x); have s5 := fun x => (fun _ => bkeep (BQ.below x) u2) (hx x); have s6 := fun x => (fun _ => bkeep (BQ.below x) u3) (hx x); have s7 := fun x => (fun _ => bkeep (BQ.below x) u4) (hx x); have s8 := fun x => (fun _ => bkeep (BQ.below x) u5) (hx x); have s9 := fun x => (fun _ => bkeep (BQ.below x) u6) (hx x); have s10 := fun x => (fun _ => bkeep (BQ.below x) u7) (hx x); have s11 := fun x => (fun _ => bkeep (BQ.below x) t0) (hx x); have s12 := fun x => (fun _ => bkeep (BQ.below x) t1) (hx x); have s13 := fun x => (fun _ => bkeep (BQ.below x) t2) (hx x); have s14 := fun x => (fun _ => bkeep (BQ.below x) t3) (hx x); have s15 := fun x => (fun _ => bkeep (BQ.below x) t4) (hx x); have s16 := fun x => (fun _ => bkeep (BQ.below x) t5) (hx x); have s17 := fun x => (fun _ => bkeep (BQ.below x) t6) (hx x); have s18 := fun x => (fun _ => bkeep (BQ.below x) t7) (hx x); go_big_quiet_op; (first | go_big_quiet_on | (refine ⟨_, fun _ => rfl, ?_⟩; go_big_quiet_on)); clear hx inst)
      (refine wpS_quiet rfl rfl ?_; intro K hK inst hx; have s0 := fun x => (fun _ => bkeep (BQ.below x) k0) (hx x); have s1 := fun x => (fun _ => bkeep (BQ.below x) k1) (hx x); have s2 := fun x => (fun _ => bkeep (BQ.below x) k2) (hx x); have s3 := fun x => (fun _ => bkeep (BQ.below x) u0) (hx x); have s4 := fun x => (fun _ => bkeep (BQ.below x) u1) (hx x); have s5 := fun x => (fun _ => bkeep (BQ.below x) u2) (hx x); have s6 := fun x => (fun _ => bkeep (BQ.below x) u3) (hx x); have s7 := fun x => (fun _ => bkeep (BQ.below x) u4) (hx x); have s8 := fun x => (fun _ => bkeep (BQ.below x) u5) (hx x); have s9 := fun x => (fun _ => bkeep (BQ.below x) u6) (hx x); have s10 := fun x => (fun _ => bkeep (BQ.below x) u7) (hx x); have s11 := fun x => (fun _ => bkeep (BQ.below x) t0) (hx x); have s12 := fun x => (fun _ => bkeep (BQ.below x) t1) (hx x); have s13 := fun x => (fun _ => bkeep (BQ.below x) t2) (hx x); have s14 := fun x => (fun _ => bkeep (BQ.below x) t3) (hx x); have s15 := fun x => (fun _ => bkeep (BQ.below x) t4) (hx x); have s16 := fun x => (fun _ => bkeep (BQ.below x) t5) (hx x); have s17 := fun x => (fun _ => bkeep (BQ.below x) t6) (hx x); have s18 := fun x => (fun _ => bkeep (BQ.below x) t7) (hx x); go_big_quiet_op; (first | go_big_quiet_on | (refine ⟨_, fun _ => rfl, ?_⟩; go_big_quiet_on)); clear hx inst)
      (refine wpS_quiet rfl rfl ?_; intro K hK inst hx; have s0 := fun x => (fun _ => bkeep (BQ.below x) k0) (hx x); have s1 := fun x => (fun _ => bkeep (BQ.below x) k1) (hx x); have s2 := fun x => (fun _ => bkeep (BQ.below x) k2) (hx x); have s3 := fun x => (fun _ => bkeep (BQ.below x) u0) (hx x); have s4 := fun x => (fun _ => bkeep (BQ.below x) u1) (hx x); have s5 := fun x => (fun _ => bkeep (BQ.below x) u2) (hx x); have s6 := fun x => (fun _ => bkeep (BQ.below x) u3) (hx x); have s7 := fun x => (fun _ => bkeep (BQ.below x) u4) (hx x); have s8 := fun x => (fun _ => bkeep (BQ.below x) u5) (hx x); have s9 := fun x => (fun _ => bkeep (BQ.below x) u6) (hx x); have s10 := fun x => (fun _ => bkeep (BQ.below x) u7) (hx x); have s11 := fun x => (fun _ => bkeep (BQ.below x) t0) (hx x); have s12 := fun x => (fun _ => bkeep (BQ.below x) t1) (hx x); have s13 := fun x => (fun _ => bkeep (BQ.below x) t2) (hx x); have s14 := fun x => (fun _ => bkeep (BQ.below x) t3) (hx x); have s15 := fun x => (fun _ => bkeep (BQ.below x) t4) (hx x); have s16 := fun x => (fun _ => bkeep (BQ.below x) t5) (hx x); have s17 := fun x => (fun _ => bkeep (BQ.below x) t6) (hx x); have s18 := fun x => (fun _ => bkeep (BQ.below x) t7) (hx x); go_big_quiet_op; (first | go_big_quiet_on | (refine ⟨_, fun _ => rfl, ?_⟩; go_big_quiet_on)); clear hx inst)
      (refine wpS_quiet rfl rfl ?_; intro K hK inst hx; have s0 := fun x => (fun _ => bkeep (BQ.below x) k0) (hx x); have s1 := fun x => (fun _ => bkeep (BQ.below x) k1) (hx x); have s2 := fun x => (fun _ => bkeep (BQ.below x) k2) (hx x); have s3 := fun x => (fun _ => bkeep (BQ.below x) u0) (hx x); have s4 := fun x => (fun _ => bkeep (BQ.below x) u1) (hx x); have s5 := fun x => (fun _ => bkeep (BQ.below x) u2) (hx x); have s6 := fun x => (fun _ => bkeep (BQ.below x) u3) (hx x); have s7 := fun x => (fun _ => bkeep (BQ.below x) u4) (hx x); have s8 := fun x => (fun _ => bkeep (BQ.below x) u5) (hx x); have s9 := fun x => (fun _ => bkeep (BQ.below x) u6) (hx x); have s10 := fun x => (fun _ => bkeep (BQ.below x) u7) (hx x); have s11 := fun x => (fun _ => bkeep (BQ.below x) t0) (hx x); have s12 := fun x => (fun _ => bkeep (BQ.below x) t1) (hx x); have s13 := fun x => (fun _ => bkeep (BQ.below x) t2) (hx x); have s14 := fun x => (fun _ => bkeep (BQ.below x) t3) (hx x); have s15 := fun x => (fun _ => bkeep (BQ.below x) t4) (hx x); have s16 := fun x => (fun _ => bkeep (BQ.below x) t5) (hx x); have s17 := fun x => (fun _ => bkeep (BQ.below x) t6) (hx x); have s18 := fun x => (fun _ => bkeep (BQ.below x) t7) (hx x); go_big_quiet_op; (first | go_big_quiet_on | (refine ⟨_, fun _ => rfl, ?_⟩; go_big_quiet_on)); clear hx inst)
      (refine wpS_quiet rfl rfl ?_; intro K hK inst hx; have s0 := fun x => (fun _ => bkeep (BQ.below x) k0) (hx x); have s1 := fun x => (fun _ => bkeep (BQ.below x) k1) (hx x); have s2 := fun x => (fun _ => bkeep (BQ.below x) k2) (hx x); have s3 := fun x => (fun _ => bkeep (BQ.below x) u0) (hx x); have s4 := fun x => (fun _ => bkeep (BQ.below x) u1) (hx x); have s5 := fun x => (fun _ => bkeep (BQ.below x) u2) (hx x); have s6 := fun x => (fun _ => bkeep (BQ.below x) u3) (hx x); have s7 := fun x => (fun _ => bkeep (BQ.below x) u4) (hx x); have s8 := fun x => (fun _ => bkeep (BQ.below x) u5) (hx x); have s9 := fun x => (fun _ => bkeep (BQ.below x) u6) (hx x); have s10 := fun x => (fun _ => bkeep (BQ.below x) u7) (hx x); have s11 := fun x => (fun _ => bkeep (BQ.below x) t0) (hx x); have s12 := fun x => (fun _ => bkeep (BQ.below x) t1) (hx x); have s13 := fun x => (fun _ => bkeep (BQ.below x) t2) (hx x); have s14 := fun x => (fun _ => bkeep (BQ.below x) t3) (hx x); have s15 := fun x => (fun _ => bkeep (BQ.below x) t4) (hx x); have s16 := fun x => (fun _ => bkeep (BQ.below x) t5) (hx x); have s17 := fun x => (fun _ => bkeep (BQ.below x) t6) (hx x); have s18 := fun x => (fun _ => bkeep (BQ.below x) t7) (hx x); go_big_quiet_op; (first | go_big_quiet_on | (refine ⟨_, fun _ => rfl, ?_⟩; go_big_quiet_on)); clear hx inst)
      (refine wpS_quiet rfl rfl ?_; intro K hK inst hx; have s0 := fun x => (fun _ => bkeep (BQ.below x) k0) (hx x); have s1 := fun x => (fun _ => bkeep (BQ.below x) k1) (hx x); have s2 := fun x => (fun _ => bkeep (BQ.below x) k2) (hx x); have s3 := fun x => (fun _ => bkeep (BQ.below x) u0) (hx x); have s4 := fun x => (fun _ => bkeep (BQ.below x) u1) (hx x); have s5 := fun x => (fun _ => bkeep (BQ.below x) u2) (hx x); have s6 := fun x => (fun _ => bkeep (BQ.below x) u3) (hx x); have s7 := fun x => (fun _ => bkeep (BQ.below x) u4) (hx x); have s8 := fun x => (fun _ => bkeep (BQ.below x) u5) (hx x); have s9 := fun x => (fun _ => bkeep (BQ.below x) u6) (hx x); have s10 := fun x => (fun _ => bkeep (BQ.below x) u7) (hx x); have s11 := fun x => (fun _ => bkeep (BQ.below x) t0) (hx x); have s12 := fun x => (fun _ => bkeep (BQ.below x) t1) (hx x); have s13 := fun x => (fun _ => bkeep (BQ.below x) t2) (hx x); have s14 := fun x => (fun _ => bkeep (BQ.below x) t3) (hx x); have s15 := fun x => (fun _ => bkeep (BQ.below x) t4) (hx x); have s16 := fun x => (fun _ => bkeep (BQ.below x) t5) (hx x); have s17 := fun x => (fun _ => bkeep (BQ.below x) t6) (hx x); have s18 := fun x => (fun _ => bkeep (BQ.below x) t7) (hx x); go_big_quiet_op; (first | go_big_quiet_on | (refine ⟨_, fun _ => rfl, ?_⟩; go_big_quiet_on)); clear hx inst)
      refine wpS_nil ?_
      intro v6 hall
      have hb := hall.1
      clear hall
      have ho6 := owns_below ho4 hb
      have hb6 := hb4.trans (hb.mono hb4.size)
      clear hb ho4 hb4 hrw k0 k1 k2 u0 t0 u1 t1 u2 t2 u3 t3 u4 t4 u5 t5 u6 t6 u7 t7
      refine wpAny_ready (rs := [14]) (by kernel_rfl) (by simp) ?_
      refine AllReady.cons rfl (fun K hK => ?_) AllReady.nil
      go_simp
      refine hK _ _ ?_; clear hK K
      obtain ⟨z0, p0⟩ := own_at ho6 (o := c * 8) (by rw [HN.out]; omega); have f0' := owns_frozen ho6 rfl (c * 8)
      obtain ⟨z1, p1⟩ := own_at ho6 (o := c * 8 + 1) (by rw [HN.out]; omega); have f1' := owns_frozen ho6 rfl (c * 8 + 1)
      obtain ⟨z2, p2⟩ := own_at ho6 (o := c * 8 + 2) (by rw [HN.out]; omega); have f2' := owns_frozen ho6 rfl (c * 8 + 2)
      obtain ⟨z3, p3⟩ := own_at ho6 (o := c * 8 + 3) (by rw [HN.out]; omega); have f3' := owns_frozen ho6 rfl (c * 8 + 3)
      obtain ⟨z4, p4⟩ := own_at ho6 (o := c * 8 + 4) (by rw [HN.out]; omega); have f4' := owns_frozen ho6 rfl (c * 8 + 4)
      obtain ⟨z5, p5⟩ := own_at ho6 (o := c * 8 + 5) (by rw [HN.out]; omega); have f5' := owns_frozen ho6 rfl (c * 8 + 5)
      obtain ⟨z6, p6⟩ := own_at ho6 (o := c * 8 + 6) (by rw [HN.out]; omega); have f6' := owns_frozen ho6 rfl (c * 8 + 6)
      obtain ⟨z7, p7⟩ := own_at ho6 (o := c * 8 + 7) (by rw [HN.out]; omega); have f7' := owns_frozen ho6 rfl (c * 8 + 7)
      refine wpAny_ready (rs := [15]) (by kernel_rfl) (by simp) ?_
      refine AllReady.cons rfl (fun K hK => ?_) AllReady.nil
      go_simp
      refine hK _ _ ?_; clear hK K
      have ho7 := own_putG (s := y) (k := c) ho6 (by rw [HN.out]; omega)
      have hb7 : Below v2.heap.size v2 (putG8 v6 g (c * 8) y) := putG_below hb6 hge
      clear ho6 hb6 p0 f0' p1 f1' p2 f2' p3 f3' p4 f4' p5 f5' p6 f6' p7 f7'
      dsimp only [putG8] at ho7 hb7
      generalize (World.setCell _ _ _ : World) = v7 at *
      refine wpAny_ready (rs := [16]) (by kernel_rfl) (by simp) ?_
      refine AllReady.cons rfl (fun K hK => ?_) AllReady.nil
      go_simp
      refine hK _ _ ?_; clear hK K
      obtain ⟨z0, p0⟩ := own_at ho7 (o := d * 8) (by rw [List.length_set, HN.out]; omega); have f0' := owns_frozen ho7 rfl (d * 8)
      obtain ⟨z1, p1⟩ := own_at ho7 (o := d * 8 + 1) (by rw [List.length_set, HN.out]; omega); have f1' := owns_frozen ho7 rfl (d * 8 + 1)
      obtain ⟨z2, p2⟩ := own_at ho7 (o := d * 8 + 2) (by rw [List.length_set, HN.out]; omega); have f2' := owns_frozen ho7 rfl (d * 8 + 2)
      obtain ⟨z3, p3⟩ := own_at ho7 (o := d * 8 + 3) (by rw [List.length_set, HN.out]; omega); have f3' := owns_frozen ho7 rfl (d * 8 + 3)
      obtain ⟨z4, p4⟩ := own_at ho7 (o := d * 8 + 4) (by rw [List.length_set, HN.out]; omega); have f4' := owns_frozen ho7 rfl (d * 8 + 4)
      obtain ⟨z5, p5⟩ := own_at ho7 (o := d * 8 + 5) (by rw [List.length_set, HN.out]; omega); have f5' := owns_frozen ho7 rfl (d * 8 + 5)
      obtain ⟨z6, p6⟩ := own_at ho7 (o := d * 8 + 6) (by rw [List.length_set, HN.out]; omega); have f6' := owns_frozen ho7 rfl (d * 8 + 6)
      obtain ⟨z7, p7⟩ := own_at ho7 (o := d * 8 + 7) (by rw [List.length_set, HN.out]; omega); have f7' := owns_frozen ho7 rfl (d * 8 + 7)
      refine wpAny_ready (rs := [17]) (by kernel_rfl) (by simp) ?_
      refine AllReady.cons rfl (fun K hK => ?_) AllReady.nil
      go_simp
      refine hK _ _ ?_; clear hK K
      have ho6 := own_putG (s := x) (k := d) ho7 (by rw [List.length_set, HN.out]; omega)
      have hb6 : Below v2.heap.size v2 (putG8 v7 g (d * 8) x) := putG_below hb7 hge
      clear ho7 hb7 p0 f0' p1 f1' p2 f2' p3 f3' p4 f4' p5 f5' p6 f6' p7 f7'
      dsimp only [putG8] at ho6 hb6
      generalize (World.setCell _ _ _ : World) = w6 at *
      refine wpAny_done (by kernel_rfl) ?_ _
      refine ⟨rfl, ?_⟩
      have g3 := bkeep hb6 q3; have g4 := bkeep hb6 q4; have g5 := bkeep hb6 q5; have e3 := bfree hb6 q3 f3; have e4 := bfree hb6 q4 f4; have e5 := bfree hb6 q5 f5; have k0 := bkeep hb6 q0; have k1 := bkeep hb6 q1; have k2 := bkeep hb6 q2
      have y1 : CellsAt w6 (w.heap.size + 1) [.int .i64 0, .int .i64 0, .slice none 0 0] := (fun o u hu => by match o, hu with | 0, hu => (injection hu with hu; subst hu; exact ⟨g3, e3⟩) | 1, hu => (injection hu with hu; subst hu; exact ⟨g4, e4⟩) | 2, hu => (injection hu with hu; subst hu; exact ⟨g5, e5⟩) | o + 3, hu => simp at hu)
      have hB6 := bnext (w := w) hb0 hb6
      clear hb6 q0 q1 q2 q3 q4 q5 f3 f4 f5 hB hb0
      go_wp2_with fail
      have z1 := cells_store (o := 2) (u := .slice (some ⟨g, 0, none⟩) n gc) (cells_store (o := 1) (u := .int .i64 hi) (cells_store (o := 0) (u := .int .i64 lo) y1))
      have hB9 : Below w.heap.size w _ := ((hB6.setCell (p := ⟨w.heap.size + 1, 0, none⟩) (Nat.le_succ _) (.int .i64 lo)).setCell (p := ⟨w.heap.size + 1, 1, none⟩) (Nat.le_succ _) (.int .i64 hi)).setCell (p := ⟨w.heap.size + 1, 2, none⟩) (Nat.le_succ _) (.slice (some ⟨g, 0, none⟩) n gc)
      have o9 := own_set (o := 2) (b := w.heap.size + 1) (u := .slice (some ⟨g, 0, none⟩) n gc) (own_set (o := 1) (b := w.heap.size + 1) (u := .int .i64 hi) (own_set (o := 0) (b := w.heap.size + 1) (u := .int .i64 lo) ho6 hz2v) hz2v) hz2v
      have r9 := rows_of_owns (l := (l.set c y).set d x) (by rw [List.length_set, List.length_set, HN.out]; exact o9) (fun s hs => by rcases List.mem_or_eq_of_mem_set hs with h | h; (rcases List.mem_or_eq_of_mem_set h with h | h; exact HI64.out s h; subst h; exact HI64.out _ (List.mem_of_getElem? HY.out)); subst h; exact HI64.out _ (List.mem_of_getElem? HX.out))
      clear o9 y1
      have d0 := (z1 0 _ rfl).1; have d1 := (z1 1 _ rfl).1; have d2 := (z1 2 _ rfl).1
      exact bodyPost_ret (v := .tuple #[.agg #[.int .i64 lo, .int .i64 hi, .slice (some ⟨g, 0, none⟩) n gc], .int .i64 0]) (by simp [results, Try.results52, go_sem, *]) rfl ⟨_, rfl, hB9, by simpa using r9⟩

end Go.Proofs.Ytnchhleokdkejaa

/- Valid lists of saggars that others make: exchanged, without one, with one narrower; chosen weights. -/
namespace Go.Pb.Bung
open Go Go.Pb Go.Pb.Ware Go.RowKit
set_option linter.unusedVariables false
set_option linter.unusedSimpArgs false
theorem idxOk_of {zs : List Int} {n : Nat} (hz : ∀ z ∈ zs, 0 ≤ z ∧ z < (n : Int)) (hd : zs.Pairwise (· ≠ ·)) : idxOk zs n = true := by
  have key : ∀ k, k ≤ zs.length → idxUp zs n k = true := by
    intro k
    induction k with
    | zero => intro _; rfl
    | succ k ih =>
      intro hk
      have hk2 : k < zs.length := hk
      refine idxUp_next (ih (by omega)) (List.getElem?_eq_getElem hk2) (btw_iff.2 ?_) ?_
      · have := hz _ (List.getElem_mem hk2); omega
      · intro hm
        obtain ⟨j, hj, hj2⟩ := List.mem_take_iff_getElem.1 hm
        exact List.pairwise_iff_getElem.1 hd j k (by omega) hk2 (by omega) hj2
  exact key _ (Nat.le_refl _)
theorem listOk_perm {l m : List Sg} (hp : m.Perm l) (h : listOk l = true) : listOk m = true := by
  rw [listOk_iff] at h ⊢
  refine ⟨by rw [hp.length_eq]; exact h.1, fun s hs => h.2.1 s (hp.mem_iff.1 hs), ?_⟩
  have h3 := h.2.2
  unfold IdsN at h3 ⊢
  exact ((hp.map (·.id)).pairwise_iff (fun h e => h e.symm)).2 h3
theorem swap_perm : ∀ {l : List Sg} {c : Nat} {x y : Sg}, l[c]? = some x → l[c + 1]? = some y → ((l.set c y).set (c + 1) x).Perm l
  | [], c, x, y, h0, _ => by simp at h0
  | s :: [], 0, x, y, _, h1 => by simp at h1
  | s :: t :: l, 0, x, y, h0, h1 => by
    obtain rfl : s = x := by simpa using h0
    obtain rfl : t = y := by simpa using h1
    simp only [List.set_cons_zero, List.set_cons_succ]
    exact List.Perm.swap _ _ _
  | s :: l, c + 1, x, y, h0, h1 => by
    rw [List.set_cons_succ, List.set_cons_succ]
    exact (swap_perm (by simpa using h0) (by simpa using h1)).cons s
/-- What a valid saggar's numbers are. -/
theorem sg_facts {s : Sg} (h : sgOk s = true) : ((0 ≤ s.wl ∧ s.wl ≤ s.wh) ∧ s.wh ≤ 10000000) ∧ ((0 ≤ s.bl ∧ s.bl ≤ s.bh) ∧ s.bh ≤ 10000000) ∧ ((1 ≤ s.hl ∧ s.hl ≤ s.hh) ∧ s.hh ≤ 10000) ∧ (0 ≤ s.ti ∧ s.ti ≤ 200) ∧ 1 ≤ s.id ∧ s.id ≤ 999 := by
  unfold sgOk at h
  simp only [Bool.and_eq_true, btw_iff, rgOk_iff] at h
  omega
theorem listOk_wt {l : List Sg} (h : listOk l = true) : Wt l := fun s hs => by
  have := sg_facts ((listOk_iff.1 h).2.1 s hs)
  omega
theorem bungOk_parts {lo hi : Int} {l : List Sg} (h : bungOk lo hi l = true) : wadOk lo hi = true ∧ l ≠ [] ∧ listOk l = true := by
  unfold bungOk at h
  simp only [Bool.and_eq_true, decide_eq_true_eq] at h
  exact ⟨h.1.1, h.1.2, h.2⟩
theorem bungOk_mk {lo hi : Int} {l : List Sg} (h1 : wadOk lo hi = true) (h2 : l.length ≠ 0) (h3 : listOk l = true) : bungOk lo hi l = true := by
  unfold bungOk
  rw [h1, h3, decide_eq_true (show l ≠ [] by rintro rfl; exact h2 rfl)]; rfl
/-! Weights that numbers choose. -/
/-- Of the saggars above a course the k lower ones weigh ws. -/
def ChoseW (l : List Sg) (ws : List Int) : Prop := ws.length ≤ l.length ∧ ∀ (j : Nat) (z : Int) (s : Sg), ws[j]? = some z → l[j]? = some s → s.wl ≤ z ∧ z ≤ s.wh
theorem ChoseW.nil (l : List Sg) : ChoseW l [] := ⟨Nat.zero_le _, fun j z s h => by simp at h⟩
theorem ChoseW.snoc {l : List Sg} {ws : List Int} {z : Int} {s : Sg} (h : ChoseW l ws) (hs : l[ws.length]? = some s) (h1 : s.wl ≤ z) (h2 : z ≤ s.wh) : ChoseW l (ws ++ [z]) := by
  refine ⟨by have := (List.getElem?_eq_some_iff.1 hs).1; simp; omega, fun j y t hy ht => ?_⟩
  rcases Nat.lt_or_ge j ws.length with hj | hj
  · rw [List.getElem?_append_left hj] at hy; exact h.2 j y t hy ht
  · rw [List.getElem?_append_right hj] at hy
    obtain rfl : j = ws.length := by
      rcases Nat.lt_or_ge ws.length j with h3 | h3
      · rw [List.getElem?_eq_none (by simp; omega)] at hy; cases hy
      · omega
    simp at hy
    subst hy
    rw [hs] at ht
    obtain rfl := Option.some.inj ht
    exact ⟨h1, h2⟩
theorem choseW_sum : ∀ {l : List Sg} {ws : List Int}, ChoseW l ws → ws.length = l.length → sumL l ≤ ws.sum ∧ ws.sum ≤ sumW l
  | [], [], _, _ => by simp [sumL, sumW]
  | s :: l, z :: ws, h, hl => by
    have h0 := h.2 0 z s rfl rfl
    have ih := choseW_sum (l := l) (ws := ws) ⟨by simp at hl; omega, fun j y t hy ht => h.2 (j + 1) y t (by simpa using hy) (by simpa using ht)⟩ (by simpa using hl)
    rw [sumL_cons, sumW_cons, List.sum_cons]
    omega
  | [], z :: ws, _, hl => by simp at hl
  | s :: l, [], _, hl => by simp at hl
theorem choseW_small {l : List Sg} (hl : listOk l = true) {m : List Sg} (hm : ∀ s ∈ m, s ∈ l) : ∀ {ws : List Int}, ChoseW m ws → 0 ≤ ws.sum ∧ ws.sum ≤ 10000000 * (ws.length : Int)
  | ws, h => by
    have key : ∀ z ∈ ws, 0 ≤ z ∧ z ≤ 10000000 := by
      intro z hz
      obtain ⟨j, hj⟩ := List.getElem?_of_mem hz
      have hjl := (List.getElem?_eq_some_iff.1 hj).1
      have hs : m[j]? = some (m[j]'(by have := h.1; omega)) := List.getElem?_eq_getElem _
      have h1 := h.2 j z _ hj hs
      have h2 := sg_facts ((listOk_iff.1 hl).2.1 _ (hm _ (List.mem_of_getElem? hs)))
      omega
    clear h
    induction ws with
    | nil => simp
    | cons z ws ih =>
      have h1 := key z (List.mem_cons_self ..)
      have h2 := ih fun x hx => key x (List.mem_cons_of_mem _ hx)
      rw [List.sum_cons, List.length_cons]
      omega
end Go.Pb.Bung

/- BungSetter returns true. -/
namespace Go.Proofs.Ytnchhleokdkejaa
open Go.RowKit Go.Pb Go.Pb.Ware Go.Pb.Sag
set_option linter.unusedVariables false
set_option linter.unusedSimpArgs false

open Go.Proofs Go.Pb.Bung
theorem set_ruled {lo hi : Int} {l : List Sg} (h : bungOk lo hi l = true) : setA lo hi l (ruleL l) = (((lo, hi), ruledL l), 0) := by
  obtain ⟨h1, h2, h3⟩ := bungOk_parts h
  have hne : ruleL l ≠ [] := by
    intro e
    have := ruleL_length l
    rw [e] at this
    exact h2 (List.length_eq_zero_iff.1 this.symm)
  unfold setA
  rw [if_pos h1, if_pos h3, if_pos ⟨hne, idxOk_of (ruleL_in l) (ruleL_apart l)⟩]
  rfl
theorem ruled_ok {lo hi : Int} {l : List Sg} (h : bungOk lo hi l = true) : bungOk lo hi (ruledL l) = true := by
  obtain ⟨h1, h2, h3⟩ := bungOk_parts h
  exact bungOk_mk h1 (by rw [ruledL_length]; intro e; exact h2 (List.length_eq_zero_iff.1 e)) (listOk_ruled h3)
theorem swapL_is {l : List Sg} {c : Nat} {x y : Sg} (hx : l[c]? = some x) (hy : l[c + 1]? = some y) : swapL l c = (l.set c y).set (c + 1) x := by unfold swapL; rw [getD_of hx, getD_of hy]
theorem swap_ok {lo hi : Int} {l : List Sg} {c : Nat} {x y : Sg} (h : bungOk lo hi l = true) (hx : l[c]? = some x) (hy : l[c + 1]? = some y) : bungOk lo hi (swapL l c) = true ∧ swpA lo hi l (c : Int) = (((lo, hi), swapL l c), 0) := by
  obtain ⟨h1, h2, h3⟩ := bungOk_parts h
  have hc := (List.getElem?_eq_some_iff.1 hy).1
  constructor
  · rw [swapL_is hx hy]
    exact bungOk_mk h1 (by rw [List.length_set, List.length_set]; omega) (listOk_perm (swap_perm hx hy) h3)
  · unfold swpA
    rw [if_pos h, if_pos (btw_iff.2 (by omega)), Int.toNat_natCast]
theorem stA_swap {l : List Sg} {c : Nat} {x y : Sg} (hl : listOk l = true) (hx : l[c]? = some x) (hy : l[c + 1]? = some y) (hk : x.wh + x.bl ≤ y.wh + y.bl) (h : stA l = 1) : stA (swapL l c) = 1 := by
  rw [stA_one] at *
  rw [swapL_is hx hy]
  exact standsP_swap hx hy hk (listOk_wt hl) h

set_option maxRecDepth 100000 in
set_option maxHeartbeats 1000000 in
theorem bungSetter_walk {w : World} {v u : Value} {rows : List (List Int)} {zs : List Int} {n0 n1 : Int} (h : RowsAt 7 w v rows) (ho : NumsAt w u zs) :
    Calls Try.prog 14 #[.agg #[v, u, .int .i64 n0, .int .i64 n1]] w (Ret w (.bool true)) := by
  unfold Ret
  obtain ⟨ra, rc, rfl, hrl⟩ := h.shape
  obtain ⟨oa, oc, rfl, ho1, ho2⟩ := ho.shape
  obtain ⟨rn, hrn⟩ : ∃ n, rows.length = n := ⟨_, rfl⟩
  obtain ⟨on, hon⟩ : ∃ n, zs.length = n := ⟨_, rfl⟩
  rw [hrn] at h hrl ⊢
  rw [hon] at ho ⊢
  clear hrn hon ho1
  go_enter Try.func14, Try.ntmps14
  go_upto_region 1 with fail
  generalize hW : World.alloc w _ = w1
  have y0 : CellsAt w1 w.heap.size [.slice ra rn rc, .slice oa on oc, .int .i64 n0, .int .i64 n1] := by rw [← hW]; exact CellsAt.new w [.slice ra rn rc, .slice oa on oc, .int .i64 n0, .int .i64 n1] 92
  have hB : Below w.heap.size w w1 := by rw [← hW]; exact (Below.refl _ w).alloc (Nat.le_refl _) _
  clear hW
  have y0_0 := (y0 0 _ rfl).1
  have y0_1 := (y0 1 _ rfl).1
  have y0_2 := (y0 2 _ rfl).1
  have y0_3 := (y0 3 _ rfl).1
  go_wp2_with fail
  refine (sane_any).mono ?_
  rintro e w1 ⟨rfl, hb⟩
  clear y0_0 y0_1 y0_2 y0_3
  replace y0 := y0.below hb
  replace hB := bnext (w := w) hB hb
  clear hb
  (try dsimp only)
  have y0_0 := (y0 0 _ rfl).1
  have y0_1 := (y0 1 _ rfl).1
  have y0_2 := (y0 2 _ rfl).1
  have y0_3 := (y0 3 _ rfl).1
  go_wp2_with fail
  refine (stack_any (h.below hB) (ho.below hB)).mono ?_
  rintro e w1 ⟨lo, hi, l, sv, rfl, hb, hl, hok, hl12⟩
  clear y0_0 y0_1 y0_2 y0_3
  replace y0 := y0.below hb
  replace hB := bnext (w := w) hB hb
  clear hb
  (try dsimp only)
  have y0_0 := (y0 0 _ rfl).1
  have y0_1 := (y0 1 _ rfl).1
  have y0_2 := (y0 2 _ rfl).1
  have y0_3 := (y0 3 _ rfl).1
  obtain ⟨sa, sc, rfl, hsl⟩ := hl.shape
  simp only [List.length_map] at hl hsl ⊢
  obtain ⟨N, hN⟩ : ∃ N, l.length = N := ⟨_, rfl⟩
  have HN := hid hN
  rw [hN] at hl hsl hl12 ⊢
  have HOK := hid hok; have HLK := hid (bungOk_parts hok).2.2
  have hN1 : 1 ≤ N := by have h9 := (bungOk_parts hok).2.1; rcases Nat.eq_zero_or_pos N with h8 | h8; exact absurd (List.length_eq_zero_iff.1 (hN.trans h8)) h9; exact h8
  clear hN hok
  obtain ⟨vA, hv9⟩ : ∃ v, v = w1 := ⟨_, rfl⟩
  subst hv9
  go_upto_region 3 with fail
  generalize hW : World.alloc vA _ = vB
  have y1 : CellsAt vB vA.heap.size [.int .i64 lo, .int .i64 hi, .slice sa N sc] := by rw [← hW]; exact CellsAt.new vA [.int .i64 lo, .int .i64 hi, .slice sa N sc] 26
  have hb : Below vA.heap.size vA vB := by rw [← hW]; exact (Below.refl _ _).alloc (Nat.le_refl _) _
  clear y0_0 y0_1 y0_2 y0_3
  replace y0 := y0.below hb
  replace hl := hl.below hb
  replace hB := bnext (w := w) hB hb
  clear hW hb
  have y0_0 := (y0 0 _ rfl).1
  have y0_1 := (y0 1 _ rfl).1
  have y0_2 := (y0 2 _ rfl).1
  have y0_3 := (y0 3 _ rfl).1
  have y1_0 := (y1 0 _ rfl).1
  have y1_1 := (y1 1 _ rfl).1
  have y1_2 := (y1 2 _ rfl).1
  clear y0_0 y0_1 y0_2 y0_3
  clear y0
  obtain ⟨z1, hz1⟩ : ∃ z, stA l = z := ⟨_, rfl⟩
  have HR1 : Hid ((if bungOk lo hi l = true then (stA l, 0) else (0, 31)) = ((z1, 0) : Int × Int)) := hid (by rw [if_pos HOK.out, hz1])
  obtain ⟨z2, hz2⟩ : ∃ z, stA (ruledL l) = z := ⟨_, rfl⟩
  have HR2 : Hid ((if bungOk lo hi (ruledL l) = true then (stA (ruledL l), 0) else (0, 31)) = ((z2, 0) : Int × Int)) := hid (by rw [if_pos (ruled_ok HOK.out), hz2])
  obtain ⟨can, hcan⟩ : ∃ b, csB l = b := ⟨_, rfl⟩
  have hcz : can = decide (z2 = 1) := by rw [← hcan, ← hz2]; rfl
  have hz12 : z1 = 1 → z2 = 1 := fun e => by rw [← hz2]; exact stA_perm_ruled (List.Perm.refl l) (listOk_wt HLK.out) (hz1.trans e)
  have HU : Hid (ruA l = (ruleL l, 0)) := hid (by unfold ruA; rw [if_pos HLK.out])
  have HCS : Hid (csA l = (can, 0)) := hid (by unfold csA; rw [if_pos HLK.out, hcan])
  have HZ1 := hid hz1; clear hz1 hz2 hcan
  go_wp2_with fail
  refine (Stands_any hl HR1.out).mono ?_
  rintro e w1 ⟨rfl, hb⟩
  clear y1_0 y1_1 y1_2
  replace y1 := y1.below hb
  replace hl := hl.below hb
  replace hB := bnext (w := w) hB hb
  clear hb
  (try dsimp only)
  have y1_0 := (y1 0 _ rfl).1
  have y1_1 := (y1 1 _ rfl).1
  have y1_2 := (y1 2 _ rfl).1
  go_wp2_with fail
  refine (ruleP hl HU.out).mono ?_
  rintro e w1 ⟨uv, rfl, hb, hu⟩
  clear y1_0 y1_1 y1_2
  replace y1 := y1.below hb
  replace hl := hl.below hb
  replace hB := bnext (w := w) hB hb
  clear hb
  (try dsimp only)
  dsimp only at hu
  have y1_0 := (y1 0 _ rfl).1
  have y1_1 := (y1 1 _ rfl).1
  have y1_2 := (y1 2 _ rfl).1
  obtain ⟨ua, uc, rfl, hu1, hu2⟩ := hu.shape
  go_wp2_with fail
  refine (canP hl HCS.out).mono ?_
  rintro e w1 ⟨rfl, hb⟩
  clear y1_0 y1_1 y1_2
  replace y1 := y1.below hb
  replace hl := hl.below hb
  replace hu := hu.below hb
  replace hB := bnext (w := w) hB hb
  clear hb
  (try dsimp only)
  have y1_0 := (y1 0 _ rfl).1
  have y1_1 := (y1 1 _ rfl).1
  have y1_2 := (y1 2 _ rfl).1
  go_wp2_with fail
  refine (setP hl hu (set_ruled HOK.out)).mono ?_
  rintro e w1 ⟨cv, rfl, hb, hc⟩
  clear y1_0 y1_1 y1_2
  replace y1 := y1.below hb
  replace hl := hl.below hb
  replace hu := hu.below hb
  replace hB := bnext (w := w) hB hb
  clear hb
  (try dsimp only)
  dsimp only at hc
  have y1_0 := (y1 0 _ rfl).1
  have y1_1 := (y1 1 _ rfl).1
  have y1_2 := (y1 2 _ rfl).1
  obtain ⟨ca, cc, rfl, hcl⟩ := hc.shape
  rw [List.length_map] at hc ⊢
  obtain ⟨vC, hv9⟩ : ∃ v, v = w1 := ⟨_, rfl⟩
  subst hv9
  go_upto_region 7 with fail
  generalize hW : World.alloc vC _ = vD
  have y2 : CellsAt vD vC.heap.size [.int .i64 lo, .int .i64 hi, .slice ca (ruledL l).length cc] := by rw [← hW]; exact CellsAt.new vC [.int .i64 lo, .int .i64 hi, .slice ca (ruledL l).length cc] 26
  have hb : Below vC.heap.size vC vD := by rw [← hW]; exact (Below.refl _ _).alloc (Nat.le_refl _) _
  clear y1_0 y1_1 y1_2
  replace y1 := y1.below hb
  replace hl := hl.below hb
  replace hu := hu.below hb
  replace hc := hc.below hb
  replace hB := bnext (w := w) hB hb
  clear hW hb
  have y1_0 := (y1 0 _ rfl).1
  have y1_1 := (y1 1 _ rfl).1
  have y1_2 := (y1 2 _ rfl).1
  have y2_0 := (y2 0 _ rfl).1
  have y2_1 := (y2 1 _ rfl).1
  have y2_2 := (y2 2 _ rfl).1
  go_wp2_with fail
  refine (Stands_any hc HR2.out).mono ?_
  rintro e w1 ⟨rfl, hb⟩
  clear y1_0 y1_1 y1_2 y2_0 y2_1 y2_2
  replace y1 := y1.below hb
  replace y2 := y2.below hb
  replace hl := hl.below hb
  replace hu := hu.below hb
  replace hc := hc.below hb
  replace hB := bnext (w := w) hB hb
  clear hb
  (try dsimp only)
  have y1_0 := (y1 0 _ rfl).1
  have y1_1 := (y1 1 _ rfl).1
  have y1_2 := (y1 2 _ rfl).1
  have y2_0 := (y2 0 _ rfl).1
  have y2_1 := (y2 1 _ rfl).1
  have y2_2 := (y2 2 _ rfl).1
  clear HR2 HCS HU
  obtain ⟨v9, hv9⟩ : ∃ v, v = w1 := ⟨_, rfl⟩
  subst hv9
  go_upto_region 8 with fail
  go_cut [96] from 61 to 95 (fun cv wc => cv = .bool false ∧ wc = v9)
  case first =>
    by_cases h1 : z1 = 1
    · obtain rfl : z2 = 1 := hz12 h1
      subst h1
      obtain rfl : can = true := hcz
      (try clear hcz)
      (try clear hz12)
      go_wp2_with fail
      go_meet
      exact ⟨rfl, rfl⟩
    · have h1b : (z1 == 1) = false := beq_eq_false_iff_ne.mpr h1
      by_cases h2 : z2 = 1
      · subst h2
        obtain rfl : can = true := hcz
        (try clear hcz)
        (try clear hz12)
        go_wp2_with fail
        go_meet
        exact ⟨rfl, rfl⟩
      · have h2b : (z2 == 1) = false := beq_eq_false_iff_ne.mpr h2
        obtain rfl : can = false := hcz.trans (decide_eq_false h2)
        (try clear hcz)
        (try clear hz12)
        go_wp2_with fail
        go_meet
        exact ⟨rfl, rfl⟩
  case rest =>
    obtain ⟨rfl, rfl⟩ := hcut
    clear hcz hz12
    clear y2_0 y2_1 y2_2
    clear y2 hc hu
    clear y1_0 y1_1 y1_2
    go_wp2_with fail
    go_loopg [15] N (fun gk iv wr => ∃ k : Nat, k + 1 ≤ N ∧ gk = N - k ∧ iv = .int .i64 k ∧ Below wc.heap.size wc wr)
    case atStart => exact ⟨0, hN1, rfl, rfl, Below.refl _ _⟩
    case round =>
      obtain ⟨k, hk, hgk, rfl, hK⟩ := hrel
      have HGK := hid hgk; clear hgk
      replace y1 := y1.below hK; replace hl := hl.below hK; replace hB := bnext (w := w) hB hK
      obtain ⟨D, hD⟩ : ∃ D, k + 1 = D := ⟨_, rfl⟩
      have HD := hid hD
      have hwk : IntKind.i64.wrap ((k : Int) + 1) = (D : Int) := (IntWalk.i64_in _ (by omega)).trans (by omega)
      have hDN : D ≤ N := by omega
      have hkD : k < D := by omega
      clear hD
      have y1_0 := (y1 0 _ rfl).1
      have y1_1 := (y1 1 _ rfl).1
      have y1_2 := (y1 2 _ rfl).1
      by_cases hlt : D < N
      · have hki : (k : Int) < (N : Int) := by omega
        have hDi : (D : Int) < (N : Int) := by omega
        have hk0 : (0 : Int) ≤ (k : Int) := by omega
        have hD0 : (0 : Int) ≤ (D : Int) := by omega
        obtain ⟨x, hx⟩ : ∃ s, l[k]? = some s := ⟨_, List.getElem?_eq_getElem (by rw [HN.out]; omega)⟩
        obtain ⟨y, hy⟩ : ∃ s, l[D]? = some s := ⟨_, List.getElem?_eq_getElem (by rw [HN.out]; omega)⟩
        have hsw := swap_ok HOK.out hx (by rw [HD.out]; exact hy)
        have HSW := hid hsw.2; have HSK := hid hsw.1
        obtain ⟨z3, hz3⟩ : ∃ z, stA (swapL l k) = z := ⟨_, rfl⟩
        have HR3 : Hid ((if bungOk lo hi (swapL l k) = true then (stA (swapL l k), 0) else (0, 31)) = ((z3, 0) : Int × Int)) := hid (by rw [if_pos hsw.1, hz3])
        have hz13 : x.wh + x.bl ≤ y.wh + y.bl → z1 = 1 → z3 = 1 := fun e1 e2 => by rw [← hz3]; exact stA_swap HLK.out hx (by rw [HD.out]; exact hy) e1 (HZ1.out.trans e2)
        have hxf := sg_facts ((listOk_iff.1 HLK.out).2.1 x (List.mem_of_getElem? hx)); have hyf := sg_facts ((listOk_iff.1 HLK.out).2.1 y (List.mem_of_getElem? hy))
        obtain ⟨a', ha, p0, hpc, -⟩ := sg_row (show RowsAt 8 wr (.slice sa l.length sc) (l.map rowG) by rw [HN.out]; exact hl) hx
        subst ha
        obtain ⟨b', hb', r0, hrc, -⟩ := sg_row (show RowsAt 8 wr (.slice (some a') l.length sc) (l.map rowG) by rw [HN.out]; exact hl) hy
        obtain rfl : a' = b' := by injection hb'
        obtain ⟨xid, xwl, xwh, xbl, xbh, xhl, xhh, xti⟩ := x
        obtain ⟨yid, ywl, ywh, ybl, ybh, yhl, yhh, yti⟩ := y
        dsimp only at p0 r0 hz13 hxf hyf
        have p1 := hpc 1 _ (by decide) rfl; have r1 := hrc 1 _ (by decide) rfl
        have p2 := hpc 2 _ (by decide) rfl; have r2 := hrc 2 _ (by decide) rfl
        have p3 := hpc 3 _ (by decide) rfl; have r3 := hrc 3 _ (by decide) rfl
        have p4 := hpc 4 _ (by decide) rfl; have r4 := hrc 4 _ (by decide) rfl
        have p5 := hpc 5 _ (by decide) rfl; have r5 := hrc 5 _ (by decide) rfl
        have p6 := hpc 6 _ (by decide) rfl; have r6 := hrc 6 _ (by decide) rfl
        have p7 := hpc 7 _ (by decide) rfl; have r7 := hrc 7 _ (by decide) rfl
        dsimp only at p1 r1 p2 r2 p3 r3 p4 r4 p5 r5 p6 r6 p7 r7
        clear hpc hrc hb' hsw hz3 hx hy
        have hwx : IntKind.i64.wrap (xwh + xbl) = xwh + xbl := IntWalk.i64_in _ (by omega)
        have hwy : IntKind.i64.wrap (ywh + ybl) = ywh + ybl := IntWalk.i64_in _ (by omega)
        go_upto_region 14 with fail
        obtain ⟨vE, hvE⟩ : ∃ v, v = wr := ⟨_, rfl⟩
        subst hvE
        generalize hW : World.alloc vE _ = vF
        have y3 : CellsAt vF vE.heap.size [.int .i64 xid, .int .i64 xwl, .int .i64 xwh, .int .i64 xbl, .int .i64 xbh, .int .i64 xhl, .int .i64 xhh, .int .i64 xti] := by rw [← hW]; exact CellsAt.new vE [.int .i64 xid, .int .i64 xwl, .int .i64 xwh, .int .i64 xbl, .int .i64 xbh, .int .i64 xhl, .int .i64 xhh, .int .i64 xti] 33
        have hb : Below vE.heap.size vE vF := by rw [← hW]; exact (Below.refl _ _).alloc (Nat.le_refl _) _
        replace r0 := bkeep hb r0
        replace r1 := bkeep hb r1
        replace r2 := bkeep hb r2
        replace r3 := bkeep hb r3
        replace r4 := bkeep hb r4
        replace r5 := bkeep hb r5
        replace r6 := bkeep hb r6
        replace r7 := bkeep hb r7
        clear y1_0 y1_1 y1_2
        replace y1 := y1.below hb
        replace hl := hl.below hb
        replace hB := bnext (w := w) hB hb
        replace hK := bnext (w := wc) hK hb
        clear hW hb p0 p1 p2 p3 p4 p5 p6 p7
        have y1_0 := (y1 0 _ rfl).1
        have y1_1 := (y1 1 _ rfl).1
        have y1_2 := (y1 2 _ rfl).1
        have y3_0 := (y3 0 _ rfl).1
        have y3_1 := (y3 1 _ rfl).1
        have y3_2 := (y3 2 _ rfl).1
        have y3_3 := (y3 3 _ rfl).1
        have y3_4 := (y3 4 _ rfl).1
        have y3_5 := (y3 5 _ rfl).1
        have y3_6 := (y3 6 _ rfl).1
        have y3_7 := (y3 7 _ rfl).1
        go_upto_region 15 with fail
        generalize hW : World.alloc vF _ = vG
        have y4 : CellsAt vG vF.heap.size [.int .i64 yid, .int .i64 ywl, .int .i64 ywh, .int .i64 ybl, .int .i64 ybh, .int .i64 yhl, .int .i64 yhh, .int .i64 yti] := by rw [← hW]; exact CellsAt.new vF [.int .i64 yid, .int .i64 ywl, .int .i64 ywh, .int .i64 ybl, .int .i64 ybh, .int .i64 yhl, .int .i64 yhh, .int .i64 yti] 33
        have hb : Below vF.heap.size vF vG := by rw [← hW]; exact (Below.refl _ _).alloc (Nat.le_refl _) _
        clear y1_0 y1_1 y1_2 y3_0 y3_1 y3_2 y3_3 y3_4 y3_5 y3_6 y3_7
        replace y1 := y1.below hb
        replace y3 := y3.below hb
        replace hl := hl.below hb
        replace hB := bnext (w := w) hB hb
        replace hK := bnext (w := wc) hK hb
        clear hW hb r0 r1 r2 r3 r4 r5 r6 r7
        have y1_0 := (y1 0 _ rfl).1
        have y1_1 := (y1 1 _ rfl).1
        have y1_2 := (y1 2 _ rfl).1
        have y3_0 := (y3 0 _ rfl).1
        have y3_1 := (y3 1 _ rfl).1
        have y3_2 := (y3 2 _ rfl).1
        have y3_3 := (y3 3 _ rfl).1
        have y3_4 := (y3 4 _ rfl).1
        have y3_5 := (y3 5 _ rfl).1
        have y3_6 := (y3 6 _ rfl).1
        have y3_7 := (y3 7 _ rfl).1
        have y4_0 := (y4 0 _ rfl).1
        have y4_1 := (y4 1 _ rfl).1
        have y4_2 := (y4 2 _ rfl).1
        have y4_3 := (y4 3 _ rfl).1
        have y4_4 := (y4 4 _ rfl).1
        have y4_5 := (y4 5 _ rfl).1
        have y4_6 := (y4 6 _ rfl).1
        have y4_7 := (y4 7 _ rfl).1
        go_wp2_with fail
        refine (swapP hl HSW.out).mono ?_
        rintro e w1 ⟨tv, rfl, hb, ht⟩
        clear y1_0 y1_1 y1_2 y3_0 y3_1 y3_2 y3_3 y3_4 y3_5 y3_6 y3_7 y4_0 y4_1 y4_2 y4_3 y4_4 y4_5 y4_6 y4_7
        replace y1 := y1.below hb
        replace y3 := y3.below hb
        replace y4 := y4.below hb
        replace hl := hl.below hb
        replace hB := bnext (w := w) hB hb
        replace hK := bnext (w := wc) hK hb
        clear hb
        (try dsimp only)
        dsimp only at ht
        have y1_0 := (y1 0 _ rfl).1
        have y1_1 := (y1 1 _ rfl).1
        have y1_2 := (y1 2 _ rfl).1
        have y3_0 := (y3 0 _ rfl).1
        have y3_1 := (y3 1 _ rfl).1
        have y3_2 := (y3 2 _ rfl).1
        have y3_3 := (y3 3 _ rfl).1
        have y3_4 := (y3 4 _ rfl).1
        have y3_5 := (y3 5 _ rfl).1
        have y3_6 := (y3 6 _ rfl).1
        have y3_7 := (y3 7 _ rfl).1
        have y4_0 := (y4 0 _ rfl).1
        have y4_1 := (y4 1 _ rfl).1
        have y4_2 := (y4 2 _ rfl).1
        have y4_3 := (y4 3 _ rfl).1
        have y4_4 := (y4 4 _ rfl).1
        have y4_5 := (y4 5 _ rfl).1
        have y4_6 := (y4 6 _ rfl).1
        have y4_7 := (y4 7 _ rfl).1
        obtain ⟨ta, tc, rfl, htl⟩ := ht.shape
        rw [List.length_map] at ht ⊢
        obtain ⟨vH, hv9⟩ : ∃ v, v = w1 := ⟨_, rfl⟩
        subst hv9
        go_upto_region 16 with fail
        generalize hW : World.alloc vH _ = vI
        have y5 : CellsAt vI vH.heap.size [.int .i64 lo, .int .i64 hi, .slice ta (swapL l k).length tc] := by rw [← hW]; exact CellsAt.new vH [.int .i64 lo, .int .i64 hi, .slice ta (swapL l k).length tc] 26
        have hb : Below vH.heap.size vH vI := by rw [← hW]; exact (Below.refl _ _).alloc (Nat.le_refl _) _
        clear y1_0 y1_1 y1_2 y3_0 y3_1 y3_2 y3_3 y3_4 y3_5 y3_6 y3_7 y4_0 y4_1 y4_2 y4_3 y4_4 y4_5 y4_6 y4_7
        replace y1 := y1.below hb
        replace y3 := y3.below hb
        replace y4 := y4.below hb
        replace hl := hl.below hb
        replace ht := ht.below hb
        replace hB := bnext (w := w) hB hb
        replace hK := bnext (w := wc) hK hb
        clear hW hb
        have y1_0 := (y1 0 _ rfl).1
        have y1_1 := (y1 1 _ rfl).1
        have y1_2 := (y1 2 _ rfl).1
        have y3_0 := (y3 0 _ rfl).1
        have y3_1 := (y3 1 _ rfl).1
        have y3_2 := (y3 2 _ rfl).1
        have y3_3 := (y3 3 _ rfl).1
        have y3_4 := (y3 4 _ rfl).1
        have y3_5 := (y3 5 _ rfl).1
        have y3_6 := (y3 6 _ rfl).1
        have y3_7 := (y3 7 _ rfl).1
        have y4_0 := (y4 0 _ rfl).1
        have y4_1 := (y4 1 _ rfl).1
        have y4_2 := (y4 2 _ rfl).1
        have y4_3 := (y4 3 _ rfl).1
        have y4_4 := (y4 4 _ rfl).1
        have y4_5 := (y4 5 _ rfl).1
        have y4_6 := (y4 6 _ rfl).1
        have y4_7 := (y4 7 _ rfl).1
        have y5_0 := (y5 0 _ rfl).1
        have y5_1 := (y5 1 _ rfl).1
        have y5_2 := (y5 2 _ rfl).1
        go_wp2_with fail
        refine (Stands_any ht HR3.out).mono ?_
        rintro e w1 ⟨rfl, hb⟩
        clear y1_0 y1_1 y1_2 y3_0 y3_1 y3_2 y3_3 y3_4 y3_5 y3_6 y3_7 y4_0 y4_1 y4_2 y4_3 y4_4 y4_5 y4_6 y4_7 y5_0 y5_1 y5_2
        replace y1 := y1.below hb
        replace y3 := y3.below hb
        replace y4 := y4.below hb
        replace y5 := y5.below hb
        replace hl := hl.below hb
        replace ht := ht.below hb
        replace hB := bnext (w := w) hB hb
        replace hK := bnext (w := wc) hK hb
        clear hb
        (try dsimp only)
        have y1_0 := (y1 0 _ rfl).1
        have y1_1 := (y1 1 _ rfl).1
        have y1_2 := (y1 2 _ rfl).1
        have y3_0 := (y3 0 _ rfl).1
        have y3_1 := (y3 1 _ rfl).1
        have y3_2 := (y3 2 _ rfl).1
        have y3_3 := (y3 3 _ rfl).1
        have y3_4 := (y3 4 _ rfl).1
        have y3_5 := (y3 5 _ rfl).1
        have y3_6 := (y3 6 _ rfl).1
        have y3_7 := (y3 7 _ rfl).1
        have y4_0 := (y4 0 _ rfl).1
        have y4_1 := (y4 1 _ rfl).1
        have y4_2 := (y4 2 _ rfl).1
        have y4_3 := (y4 3 _ rfl).1
        have y4_4 := (y4 4 _ rfl).1
        have y4_5 := (y4 5 _ rfl).1
        have y4_6 := (y4 6 _ rfl).1
        have y4_7 := (y4 7 _ rfl).1
        have y5_0 := (y5 0 _ rfl).1
        have y5_1 := (y5 1 _ rfl).1
        have y5_2 := (y5 2 _ rfl).1
        clear HR3 HSW HSK
        by_cases hle : xwh + xbl ≤ ywh + ybl
        · by_cases h1 : z1 = 1
          · obtain rfl : z3 = 1 := hz13 hle h1
            subst h1
            clear hz13
            go_wp2_with fail
            go_roundg (N - (k + 1))
            case measure => have h := HGK.out; omega
            case rel => have h9 : k + 1 = D := HD.out; exact ⟨k + 1, by omega, rfl, by go_num, hK⟩
          · have h1b : (z1 == 1) = false := beq_eq_false_iff_ne.mpr h1
            clear hz13
            go_wp2_with fail
            go_roundg (N - (k + 1))
            case measure => have h := HGK.out; omega
            case rel => have h9 : k + 1 = D := HD.out; exact ⟨k + 1, by omega, rfl, by go_num, hK⟩
        · clear hz13
          go_wp2_with fail
          go_roundg (N - (k + 1))
          case measure => have h := HGK.out; omega
          case rel => have h9 : k + 1 = D := HD.out; exact ⟨k + 1, by omega, rfl, by go_num, hK⟩
      · obtain rfl : D = N := by omega
        have hDD : ¬ (D : Int) < (D : Int) := by omega
        go_wp2_with fail
        go_ret
        exact ⟨rfl, hB⟩

end Go.Proofs.Ytnchhleokdkejaa

/- BungStands returns true. -/
namespace Go.Proofs.Ytnchhleokdkejaa
open Go.RowKit Go.Pb Go.Pb.Ware Go.Pb.Sag
set_option linter.unusedVariables false
set_option linter.unusedSimpArgs false

open Go.Proofs Go.Pb.Bung
theorem first_neg {l : List Sg} (h : firstN (ansAll l) = -1) : stA l = 1 := by
  rw [stA_one, standsP_iff]
  intro i s hs
  rw [← ansL_one hs]
  have hi := (List.getElem?_eq_some_iff.1 hs).1
  unfold firstN at h
  split at h
  · omega
  · rename_i h2
    rw [List.findIdx?_eq_none_iff] at h2
    have h3 := h2 _ (List.mem_of_getElem? (ansAll_at hi))
    simpa using h3
theorem first_pos {l : List Sg} {m : Nat} (hm : m < l.length) (h : ansL l m ≠ 1) : stA l ≠ 1 := by
  intro e
  rw [stA_one, standsP_iff] at e
  have hs := List.getElem?_eq_getElem hm
  exact h ((ansL_one hs).2 (e m _ hs))
theorem ck_val {lo hi : Int} {l : List Sg} {k : Nat} {be : Int} {ws : List Int} {s : Sg} (hok : bungOk lo hi l = true) (hs : l[k]? = some s) (h1 : s.bl ≤ be) (h2 : be ≤ s.bh) (hw : ChoseW (l.drop (k + 1)) ws) (hl : ws.length + (k + 1) = l.length) : ckBr lo hi l (k : Int) be ws = if be < ws.sum then 0 else 35 := by
  unfold ckBr
  rw [if_pos hok, brB_end hl hs (btw_iff.2 ⟨h1, h2⟩) (fun j hj => ?_)]
  · by_cases h : be < ws.sum
    · rw [if_pos (decide_eq_true h), if_pos h]
    · rw [if_neg (by simp [h]), if_neg h]
  · obtain ⟨t, ht⟩ : ∃ t, l[k + 1 + j]? = some t := ⟨_, List.getElem?_eq_getElem (by omega)⟩
    have hz := List.getElem?_eq_getElem hj
    rw [brAt_of ht hz, btw_iff]
    exact hw.2 j _ t hz (by rw [List.getElem?_drop]; exact ht)
theorem brk_good {lo hi : Int} {l : List Sg} {m : Nat} {s : Sg} (hok : bungOk lo hi l = true) (hs : l[m]? = some s) (h1 : ansL l m ≠ 1) : ckBr lo hi l (m : Int) s.bl ((l.drop (m + 1)).map (·.wh)) = 0 := by
  have hl := (bungOk_parts hok).2.2
  have hf := sg_facts ((listOk_iff.1 hl).2.1 s (List.mem_of_getElem? hs))
  have hm := (List.getElem?_eq_some_iff.1 hs).1
  have hc : ChoseW (l.drop (m + 1)) ((l.drop (m + 1)).map (·.wh)) := by
    refine ⟨by rw [List.length_map]; exact Nat.le_refl _, fun j z t hz ht => ?_⟩
    rw [List.getElem?_map, ht] at hz
    obtain rfl := Option.some.inj hz
    have := sg_facts ((listOk_iff.1 hl).2.1 t (List.mem_of_mem_drop (List.mem_of_getElem? ht)))
    show t.wl ≤ t.wh ∧ t.wh ≤ t.wh
    omega
  rw [ck_val hok hs (Int.le_refl _) hf.2.1.1.2 hc (by rw [List.length_map, List.length_drop]; omega), if_pos]
  rw [Ne, ansL_one hs] at h1
  have e : loadH l m = ((l.drop (m + 1)).map (·.wh)).sum := rfl
  omega
theorem brk_at {lo hi : Int} {l : List Sg} {m : Nat} {s : Sg} (hok : bungOk lo hi l = true) (hs : l[m]? = some s) (hf : firstN (ansAll l) = (m : Int)) : brkA lo hi l = ((((m : Int), s.bl), (l.drop (m + 1)).map (·.wh)), 0) := by
  unfold brkA
  rw [if_pos hok, hf, if_neg (by omega), Int.toNat_natCast, getD_of hs]
theorem brk_none {lo hi : Int} {l : List Sg} (hok : bungOk lo hi l = true) (hf : firstN (ansAll l) = -1) : brkA lo hi l = (((0, 0), []), 34) := by
  unfold brkA
  rw [if_pos hok, hf, if_pos (by decide)]
/-- What the first k courses told. -/
def ToldK (l : List Sg) (z : Int) (k : Nat) (b : Bool) : Prop := (z = 1 → b = false) ∧ ∀ (i : Nat) (s : Sg), i < k → l[i]? = some s → s.bh < loadL l i → b = true
theorem told_yes {l : List Sg} {k : Nat} {b : Bool} {be z : Int} {ws : List Int} {s : Sg} (hz : stA l = z) (h : ToldK l z k b) (hs : l[k]? = some s) (h1 : s.bl ≤ be) (hw : ChoseW (l.drop (k + 1)) ws) (hl : ws.length + (k + 1) = l.length) (hgt : be < ws.sum) : ToldK l z (k + 1) true := by
  subst hz
  refine ⟨fun e => ?_, fun _ _ _ _ _ => rfl⟩
  exfalso
  rw [stA_one, standsP_iff] at e
  have h3 := e k s hs
  have h4 := (choseW_sum hw (by rw [List.length_drop]; omega)).2
  have h5 : loadH l k = sumW (l.drop (k + 1)) := rfl
  omega
theorem told_no {l : List Sg} {k : Nat} {b : Bool} {be z : Int} {ws : List Int} {s : Sg} (hz : stA l = z) (h : ToldK l z k b) (hs : l[k]? = some s) (h2 : be ≤ s.bh) (hw : ChoseW (l.drop (k + 1)) ws) (hl : ws.length + (k + 1) = l.length) (hgt : ¬ be < ws.sum) : ToldK l z (k + 1) b := by
  subst hz
  refine ⟨h.1, fun i t hi ht hlt => ?_⟩
  by_cases e : i = k
  · subst e
    rw [hs] at ht
    obtain rfl := Option.some.inj ht
    have h4 := (choseW_sum hw (by rw [List.length_drop]; omega)).1
    have h5 : loadL l i = Go.Pb.Bung.sumL (l.drop (i + 1)) := rfl
    omega
  · exact h.2 i t (by omega) ht hlt
theorem choseW_i64 {l m : List Sg} {ws : List Int} (hl : listOk l = true) (hm : ∀ s ∈ m, s ∈ l) (h : ChoseW m ws) : ∀ z ∈ ws, I64 z := by
  intro z hz
  obtain ⟨j, hj⟩ := List.getElem?_of_mem hz
  have hjl := (List.getElem?_eq_some_iff.1 hj).1
  have hs : m[j]? = some (m[j]'(by have := h.1; omega)) := List.getElem?_eq_getElem _
  have h1 := h.2 j z _ hj hs
  have h2 := sg_facts ((listOk_iff.1 hl).2.1 _ (hm _ (List.mem_of_getElem? hs)))
  exact I64.mk (by omega) (by omega)
theorem told_end {l : List Sg} {b : Bool} (h : ToldK l (stA l) l.length b) (h0 : stA l = 0) : b = true := by
  obtain ⟨i, s, hs, _, h2⟩ := stA_zero.1 h0
  exact h.2 i s (List.getElem?_eq_some_iff.1 hs).1 hs h2

set_option maxRecDepth 100000 in
set_option maxHeartbeats 1000000 in
theorem bungStands_walk {w : World} {v u pv : Value} {rows : List (List Int)} {zs ps : List Int} {n0 n1 : Int} (h : RowsAt 7 w v rows) (ho : NumsAt w u zs) (hp : NumsAt w pv ps) :
    Calls Try.prog 13 #[.agg #[v, u, .int .i64 n0, .int .i64 n1], pv] w (Ret w (.bool true)) := by
  unfold Ret
  obtain ⟨i1, hj, hy0, hy1, hy2⟩ := info_parts Try.infoInt
  obtain ⟨pa, pc, rfl, hp1, hp2⟩ := hp.shape
  obtain ⟨pn, hpn⟩ : ∃ n, ps.length = n := ⟨_, rfl⟩
  have HPN := hid hpn
  rw [hpn] at hp hp1 ⊢
  clear hpn
  obtain ⟨ra, rc, rfl, hrl⟩ := h.shape
  obtain ⟨oa, oc, rfl, ho1, ho2⟩ := ho.shape
  obtain ⟨rn, hrn⟩ : ∃ n, rows.length = n := ⟨_, rfl⟩
  obtain ⟨on, hon⟩ : ∃ n, zs.length = n := ⟨_, rfl⟩
  rw [hrn] at h hrl ⊢
  rw [hon] at ho ⊢
  clear hrn hon ho1
  go_enter Try.func13, Try.ntmps13
  go_upto_region 1 with fail
  generalize hW : World.alloc w _ = w1
  have y0 : CellsAt w1 w.heap.size [.slice ra rn rc, .slice oa on oc, .int .i64 n0, .int .i64 n1] := by rw [← hW]; exact CellsAt.new w [.slice ra rn rc, .slice oa on oc, .int .i64 n0, .int .i64 n1] 92
  have hB : Below w.heap.size w w1 := by rw [← hW]; exact (Below.refl _ w).alloc (Nat.le_refl _) _
  clear hW
  have y0_0 := (y0 0 _ rfl).1
  have y0_1 := (y0 1 _ rfl).1
  have y0_2 := (y0 2 _ rfl).1
  have y0_3 := (y0 3 _ rfl).1
  go_wp2_with fail
  refine (sane_any).mono ?_
  rintro e w1 ⟨rfl, hb⟩
  clear y0_0 y0_1 y0_2 y0_3
  replace y0 := y0.below hb
  replace hB := bnext (w := w) hB hb
  clear hb
  (try dsimp only)
  have y0_0 := (y0 0 _ rfl).1
  have y0_1 := (y0 1 _ rfl).1
  have y0_2 := (y0 2 _ rfl).1
  have y0_3 := (y0 3 _ rfl).1
  go_wp2_with fail
  refine (stack_any (h.below hB) (ho.below hB)).mono ?_
  rintro e w1 ⟨lo, hi, l, sv, rfl, hb, hl, hok, hl12⟩
  clear y0_0 y0_1 y0_2 y0_3
  replace y0 := y0.below hb
  replace hB := bnext (w := w) hB hb
  clear hb
  (try dsimp only)
  have y0_0 := (y0 0 _ rfl).1
  have y0_1 := (y0 1 _ rfl).1
  have y0_2 := (y0 2 _ rfl).1
  have y0_3 := (y0 3 _ rfl).1
  obtain ⟨sa, sc, rfl, hsl⟩ := hl.shape
  simp only [List.length_map] at hl hsl ⊢
  obtain ⟨N, hN⟩ : ∃ N, l.length = N := ⟨_, rfl⟩
  have HN := hid hN
  rw [hN] at hl hsl hl12 ⊢
  have HOK := hid hok; have HLK := hid (bungOk_parts hok).2.2
  have hN1 : 1 ≤ N := by have h9 := (bungOk_parts hok).2.1; rcases Nat.eq_zero_or_pos N with h8 | h8; exact absurd (List.length_eq_zero_iff.1 (hN.trans h8)) h9; exact h8
  clear hN hok
  obtain ⟨vA, hv9⟩ : ∃ v, v = w1 := ⟨_, rfl⟩
  subst hv9
  go_upto_region 3 with fail
  generalize hW : World.alloc vA _ = vB
  have y1 : CellsAt vB vA.heap.size [.int .i64 lo, .int .i64 hi, .slice sa N sc] := by rw [← hW]; exact CellsAt.new vA [.int .i64 lo, .int .i64 hi, .slice sa N sc] 26
  have hb : Below vA.heap.size vA vB := by rw [← hW]; exact (Below.refl _ _).alloc (Nat.le_refl _) _
  clear y0_0 y0_1 y0_2 y0_3
  replace y0 := y0.below hb
  replace hl := hl.below hb
  replace hB := bnext (w := w) hB hb
  clear hW hb
  have y0_0 := (y0 0 _ rfl).1
  have y0_1 := (y0 1 _ rfl).1
  have y0_2 := (y0 2 _ rfl).1
  have y0_3 := (y0 3 _ rfl).1
  have y1_0 := (y1 0 _ rfl).1
  have y1_1 := (y1 1 _ rfl).1
  have y1_2 := (y1 2 _ rfl).1
  clear y0_0 y0_1 y0_2 y0_3
  clear y0
  obtain ⟨z1, hz1⟩ : ∃ z, stA l = z := ⟨_, rfl⟩
  have HR1 : Hid ((if bungOk lo hi l = true then (stA l, 0) else (0, 31)) = ((z1, 0) : Int × Int)) := hid (by rw [if_pos HOK.out, hz1])
  have HZ1 := hid hz1
  go_wp2_with fail
  refine (Stands_any hl HR1.out).mono ?_
  rintro e w1 ⟨rfl, hb⟩
  clear y1_0 y1_1 y1_2
  replace y1 := y1.below hb
  replace hl := hl.below hb
  replace hB := bnext (w := w) hB hb
  clear hb
  (try dsimp only)
  have y1_0 := (y1 0 _ rfl).1
  have y1_1 := (y1 1 _ rfl).1
  have y1_2 := (y1 2 _ rfl).1
  rcases first_two l with hf | ⟨m, hm, hm1, hf⟩
  · have hz : z1 = 1 := by rw [← HZ1.out]; exact first_neg hf
    have HZ := hid hz; have HF := hid hf; clear hf hz
    go_wp2_with fail
    refine (breaksP hl (brk_none HOK.out HF.out)).mono ?_
    rintro e w1 ⟨xv, rfl, hb, hx⟩
    clear y1_0 y1_1 y1_2
    replace y1 := y1.below hb
    replace hl := hl.below hb
    replace hB := bnext (w := w) hB hb
    clear hb
    (try dsimp only)
    dsimp only at hx
    have y1_0 := (y1 0 _ rfl).1
    have y1_1 := (y1 1 _ rfl).1
    have y1_2 := (y1 2 _ rfl).1
    obtain ⟨xa, xc, rfl, hx1, hx2⟩ := hx.shape
    obtain ⟨vC, hv9⟩ : ∃ v, v = w1 := ⟨_, rfl⟩
    subst hv9
    go_upto_region 5 with fail
    generalize hW : World.alloc vC _ = vD
    have yx : CellsAt vD vC.heap.size [.int .i64 0, .int .i64 0, .slice xa 0 xc] := by rw [← hW]; exact CellsAt.new vC [.int .i64 0, .int .i64 0, .slice xa 0 xc] 54
    have hb : Below vC.heap.size vC vD := by rw [← hW]; exact (Below.refl _ _).alloc (Nat.le_refl _) _
    clear y1_0 y1_1 y1_2
    replace y1 := y1.below hb
    replace hl := hl.below hb
    replace hx := hx.below hb
    replace hB := bnext (w := w) hB hb
    clear hW hb
    have y1_0 := (y1 0 _ rfl).1
    have y1_1 := (y1 1 _ rfl).1
    have y1_2 := (y1 2 _ rfl).1
    have yx_0 := (yx 0 _ rfl).1
    have yx_1 := (yx 1 _ rfl).1
    have yx_2 := (yx 2 _ rfl).1
    clear yx_0 yx_1 yx_2
    clear yx hx
    have hzz : z1 = 1 := HZ.out
    subst hzz
    skip
    obtain ⟨w1, hw1⟩ : ∃ v, v = vD := ⟨_, rfl⟩
    subst hw1
    clear y1_0 y1_1 y1_2
    clear HR1
    obtain ⟨v9, hv9⟩ : ∃ v, v = w1 := ⟨_, rfl⟩
    subst hv9
    have y1_0 := (y1 0 _ rfl).1
    have y1_1 := (y1 1 _ rfl).1
    have y1_2 := (y1 2 _ rfl).1
    go_upto_region 9 with fail
    clear y1_0 y1_1 y1_2
    have hTD : Hid (ToldK l 1 0 false) := hid ⟨fun _ => rfl, fun i s h => by omega⟩
    go_wp2_with fail
    go_loopg [11, 13] N (fun gk bv iv wr => ∃ (k : Nat) (b : Bool), k ≤ N ∧ gk = N - k ∧ bv = .bool b ∧ iv = .int .i64 k ∧ Hid (ToldK l 1 k b) ∧ Below v9.heap.size v9 wr)
    case atStart => exact ⟨0, false, Nat.zero_le _, rfl, rfl, rfl, hTD, Below.refl _ _⟩
    case round =>
      obtain ⟨k, b, hk, hgk, rfl, rfl, HT, hK9⟩ := hrel
      have HGK := hid hgk; clear hgk
      replace y1 := y1.below hK9; replace hl := hl.below hK9; replace hB := bnext (w := w) hB hK9
      by_cases hlt : k < N
      · have y1_0 := (y1 0 _ rfl).1
        have y1_1 := (y1 1 _ rfl).1
        have y1_2 := (y1 2 _ rfl).1
        have hki : (k : Int) < (N : Int) := by omega
        have hk0 : (0 : Int) ≤ (k : Int) := by omega
        obtain ⟨s, hs⟩ : ∃ s, l[k]? = some s := ⟨_, List.getElem?_eq_getElem (by rw [HN.out]; omega)⟩
        have hsf := sg_facts ((listOk_iff.1 HLK.out).2.1 s (List.mem_of_getElem? hs))
        have HS : Hid (l[k]? = some s) := hid hs
        obtain ⟨a', ha, p0, hpc, -⟩ := sg_row (show RowsAt 8 wr (.slice sa l.length sc) (l.map rowG) by rw [HN.out]; exact hl) hs
        subst ha
        obtain ⟨sid, swl, swh, sbl, sbh, shl, shh, sti⟩ := s
        dsimp only at hsf
        have p3 := hpc 3 _ (by decide) rfl; have p4 := hpc 4 _ (by decide) rfl
        dsimp only at p3 p4
        clear hpc p0 hs
        have hwnk : IntKind.i64.wrap ((N : Int) + (k : Int)) = ((N + k : Nat) : Int) := (IntWalk.i64_in _ (by omega)).trans (by omega)
        obtain ⟨NK, hNK⟩ : ∃ m, N + k = m := ⟨_, rfl⟩
        rw [hNK] at hwnk
        have hNKb : NK ≤ 1000000 := by omega
        clear hNK
        have hpk := hp.below hB
        obtain ⟨GK, rfl⟩ : ∃ GK, GK = gk := ⟨_, rfl⟩
        obtain ⟨vr, hvr⟩ : ∃ v, v = wr := ⟨_, rfl⟩
        subst hvr
        go_upto_region 12 with fail
        refine wp_region_Rs [(11, IsI64), (12, InRg sbl sbh), (14, NewCells vr.heap.size [.int .i64 0, .int .i64 0, .slice none 0 0])] [0, 1, 2, 3, 4, 5, 6, 7, 8, 9, 10, 11, 12, 13, 14] 1 (by kernel_rfl) rfl (by simp only [List.forall_mem_cons]; exact ⟨keeps_isI64, keeps_inRg, keeps_new, fun _ h => by cases h⟩) (by kernel_rfl) ?_
        simp only [numbered, List.filterMap_cons, List.filterMap_nil, List.getElem?_toArray, List.getElem?_cons_succ, List.getElem?_cons_zero, Option.map_some]
        show wpS _ _ _ _ _ _ _ [(_, _), (_, _), (_, _), (_, _), (_, _), (_, _), (_, _), (_, _), (_, _), (_, _), (_, _), (_, _), (_, _), (_, _), (_, _)] _ _
        (refine wpS_quiet rfl rfl ?_; intro K hK inst hx; have s0 := fun x => (fun _ => bkeep (BQ.below x) y1_2) (hx x); have s1 := fun x => (fun _ => bkeep (BQ.below x) p3) (hx x); have s2 := fun x => (fun _ => bkeep (BQ.below x) p4) (hx x); go_big_quiet_op; (first | go_big_quiet_on | (refine ⟨_, fun _ => rfl, ?_⟩; go_big_quiet_on)); clear hx inst)
        (refine wpS_quiet rfl rfl ?_; intro K hK inst hx; have s0 := fun x => (fun _ => bkeep (BQ.below x) y1_2) (hx x); have s1 := fun x => (fun _ => bkeep (BQ.below x) p3) (hx x); have s2 := fun x => (fun _ => bkeep (BQ.below x) p4) (hx x); go_big_quiet_op; (first | go_big_quiet_on | (refine ⟨_, fun _ => rfl, ?_⟩; go_big_quiet_on)); clear hx inst)
        (refine wpS_quiet rfl rfl ?_; intro K hK inst hx; have s0 := fun x => (fun _ => bkeep (BQ.below x) y1_2) (hx x); have s1 := fun x => (fun _ => bkeep (BQ.below x) p3) (hx x); have s2 := fun x => (fun _ => bkeep (BQ.below x) p4) (hx x); go_big_quiet_op; (first | go_big_quiet_on | (refine ⟨_, fun _ => rfl, ?_⟩; go_big_quiet_on)); clear hx inst)
        (refine wpS_quiet rfl rfl ?_; intro K hK inst hx; have s0 := fun x => (fun _ => bkeep (BQ.below x) y1_2) (hx x); have s1 := fun x => (fun _ => bkeep (BQ.below x) p3) (hx x); have s2 := fun x => (fun _ => bkeep (BQ.below x) p4) (hx x); go_big_quiet_op; (first | go_big_quiet_on | (refine ⟨_, fun _ => rfl, ?_⟩; go_big_quiet_on)); clear hx inst)
        (refine wpS_quiet rfl rfl ?_; intro K hK inst hx; have s0 := fun x => (fun _ => bkeep (BQ.below x) y1_2) (hx x); have s1 := fun x => (fun _ => bkeep (BQ.below x) p3) (hx x); have s2 := fun x => (fun _ => bkeep (BQ.below x) p4) (hx x); go_big_quiet_op; (first | go_big_quiet_on | (refine ⟨_, fun _ => rfl, ?_⟩; go_big_quiet_on)); clear hx inst)
        (refine wpS_quiet rfl rfl ?_; intro K hK inst hx; have s0 := fun x => (fun _ => bkeep (BQ.below x) y1_2) (hx x); have s1 := fun x => (fun _ => bkeep (BQ.below x) p3) (hx x); have s2 := fun x => (fun _ => bkeep (BQ.below x) p4) (hx x); go_big_quiet_op; (first | go_big_quiet_on | (refine ⟨_, fun _ => rfl, ?_⟩; go_big_quiet_on)); clear hx inst)
        (refine wpS_quiet rfl rfl ?_; intro K hK inst hx; have s0 := fun x => (fun _ => bkeep (BQ.below x) y1_2) (hx x); have s1 := fun x => (fun _ => bkeep (BQ.below x) p3) (hx x); have s2 := fun x => (fun _ => bkeep (BQ.below x) p4) (hx x); go_big_quiet_op; (first | go_big_quiet_on | (refine ⟨_, fun _ => rfl, ?_⟩; go_big_quiet_on)); clear hx inst)
        (refine wpS_quiet rfl rfl ?_; intro K hK inst hx; have s0 := fun x => (fun _ => bkeep (BQ.below x) y1_2) (hx x); have s1 := fun x => (fun _ => bkeep (BQ.below x) p3) (hx x); have s2 := fun x => (fun _ => bkeep (BQ.below x) p4) (hx x); go_big_quiet_op; (first | go_big_quiet_on | (refine ⟨_, fun _ => rfl, ?_⟩; go_big_quiet_on)); clear hx inst)
        (refine wpS_quiet rfl rfl ?_; intro K hK inst hx; have s0 := fun x => (fun _ => bkeep (BQ.below x) y1_2) (hx x); have s1 := fun x => (fun _ => bkeep (BQ.below x) p3) (hx x); have s2 := fun x => (fun _ => bkeep (BQ.below x) p4) (hx x); go_big_quiet_op; (first | go_big_quiet_on | (refine ⟨_, fun _ => rfl, ?_⟩; go_big_quiet_on)); clear hx inst)
        (refine wpS_quiet rfl rfl ?_; intro K hK inst hx; have s0 := fun x => (fun _ => bkeep (BQ.below x) y1_2) (hx x); have s1 := fun x => (fun _ => bkeep (BQ.below x) p3) (hx x); have s2 := fun x => (fun _ => bkeep (BQ.below x) p4) (hx x); go_big_quiet_op; (first | go_big_quiet_on | (refine ⟨_, fun _ => rfl, ?_⟩; go_big_quiet_on)); clear hx inst)
        (refine wpS_quiet rfl rfl ?_; intro K hK inst hx; have s0 := fun x => (fun _ => bkeep (BQ.below x) y1_2) (hx x); have s1 := fun x => (fun _ => bkeep (BQ.below x) p3) (hx x); have s2 := fun x => (fun _ => bkeep (BQ.below x) p4) (hx x); go_big_quiet_op; (first | go_big_quiet_on | (refine ⟨_, fun _ => rfl, ?_⟩; go_big_quiet_on)); clear hx inst)
        refine wpS_fresh rfl rfl (fun w' hb hF => ?_) ?_
        · change freshAt _ _ _ (IsI64) _; unfold freshAt; go_simp; exact at_any (hpk.below hb) hNKb
        intro v W hv; simp only [pOf, List.lookup_cons, Nat.reduceBEq, beq_self_eq_true] at hv; obtain ⟨pz, rfl, -⟩ := hv
        simp only [Act.put, List.setIfInBounds_toArray, List.set_cons_succ, List.set_cons_zero]
        refine wpS_fresh rfl rfl (fun w' hb hF => ?_) ?_
        · change freshAt _ _ _ (InRg sbl sbh) _; unfold freshAt; go_simp; exact one_any (by omega) (by omega) (by omega)
        intro v W hv; simp only [pOf, List.lookup_cons, Nat.reduceBEq, beq_self_eq_true] at hv; obtain ⟨be, rfl, hbe1, hbe2⟩ := hv
        simp only [Act.put, List.setIfInBounds_toArray, List.set_cons_succ, List.set_cons_zero]
        (refine wpS_quiet rfl rfl ?_; intro K hK inst hx; have s0 := fun x => (fun _ => bkeep (BQ.below x) y1_2) (hx x); have s1 := fun x => (fun _ => bkeep (BQ.below x) p3) (hx x); have s2 := fun x => (fun _ => bkeep (BQ.below x) p4) (hx x); go_big_quiet_op; (first | go_big_quiet_on | (refine ⟨_, fun _ => rfl, ?_⟩; go_big_quiet_on)); clear hx inst)
        refine wpS_fresh rfl rfl (fun w' hb hF => ?_) ?_
        · change freshAt _ _ _ (NewCells vr.heap.size [.int .i64 0, .int .i64 0, .slice none 0 0]) _; unfold freshAt; go_simp; exact new_of hb
        intro v W hv; simp only [pOf, List.lookup_cons, Nat.reduceBEq, beq_self_eq_true] at hv; obtain ⟨B14, hB14, rfl, -⟩ := hv
        simp only [Act.put, List.setIfInBounds_toArray, List.set_cons_succ, List.set_cons_zero]
        refine wpS_nil ?_
        intro w2 hall
        have hb := hall.1
        have hN : NewCells vr.heap.size [.int .i64 0, .int .i64 0, .slice none 0 0] _ w2 := hall.2 14 _ rfl
        obtain ⟨B', hB', hv', hn⟩ := hN
        obtain rfl : B14 = B' := by simpa using hv'
        have n0 := (hn 0 _ rfl).1; have n1 := (hn 1 _ rfl).1; have n2 := (hn 2 _ rfl).1; have m0 := (hn 0 _ rfl).2; have m1 := (hn 1 _ rfl).2; have m2 := (hn 2 _ rfl).2
        clear hall p3 p4 hv'
        clear y1_0 y1_1 y1_2
        clear hpk
        refine wpAny_ready (rs := [15]) (by kernel_rfl) (by simp) ?_
        refine AllReady.cons rfl (fun K hK => ?_) AllReady.nil
        go_simp
        refine hK _ _ ?_; clear hK K
        refine wpAny_done (by kernel_rfl) ?_ _
        have yx := cells_store (o := 2) (u := .slice none 0 0) (cells_store (o := 1) (u := .int .i64 be) (cells_store (o := 0) (u := .int .i64 (k : Int)) (show CellsAt w2 B14 [.int .i64 0, .int .i64 0, .slice none 0 0] from hn)))
        have hK5 := ((hb.setCell (p := ⟨B14, 0, none⟩) hB14 (.int .i64 (k : Int))).setCell (p := ⟨B14, 1, none⟩) hB14 (.int .i64 be)).setCell (p := ⟨B14, 2, none⟩) hB14 (.slice none 0 0)
        have hz0 : B14 < w2.heap.size := World.block_lt_of_cell? w2 ⟨B14, 0, none⟩ n0
        have hz1 : w2.heap.size = (((w2.setCell ⟨B14, 0, none⟩ (.int .i64 (k : Int))).setCell ⟨B14, 1, none⟩ (.int .i64 be)).setCell ⟨B14, 2, none⟩ (.slice none 0 0)).heap.size := by simp
        clear hn n0 n1 n2 m0 m1 m2 hb hB'
        generalize (World.setCell _ _ _ : World) = v5 at *
        rw [hz1] at hz0
        clear hz1
        have hwk : IntKind.i64.wrap ((k : Int) + 1) = ((k + 1 : Nat) : Int) := (IntWalk.i64_in _ (by omega)).trans (by omega)
        obtain ⟨K1, hK1⟩ : ∃ K1, k + 1 = K1 := ⟨_, rfl⟩
        rw [hK1] at hwk
        have HK1 : Hid (k + 1 = K1) := hK1
        have hKn : K1 ≤ N := by omega
        clear hK1
        go_wp2_with fail
        clear hwk
        go_loopg [15, 16] (N - K1) (fun gk lv pv wr => ∃ (p : Nat) (ws : List Int) (u0 : Value), K1 ≤ p ∧ p ≤ N ∧ gk = N - p ∧ lv = .int .i64 ws.sum ∧ pv = .int .i64 p ∧ ws.length + K1 = p ∧ Hid (ChoseW (l.drop K1) ws) ∧ CellsAt wr B14 [.int .i64 (k : Int), .int .i64 be, u0] ∧ wr.ownsRow v5.heap.size 3 1 u0 ws.length (ws.map (Value.int .i64)) ∧ Below vr.heap.size vr wr ∧ v5.heap.size ≤ wr.heap.size)
        case atStart => exact ⟨K1, [], _, Nat.le_refl _, hKn, rfl, rfl, rfl, by simp, hid (ChoseW.nil _), yx, World.ownsRow_nil _ _ _ _, hK5, Nat.le_refl _⟩
        case round =>
          clear yx hK5
          obtain ⟨p, ws, u0, hKp, hpN, hgp, rfl, rfl, hwl, HW, yx, ho, hK5, hzr⟩ := hrel
          have HGP := hid hgp; clear hgp
          obtain ⟨x, hx⟩ : ∃ x, ws.sum = x := ⟨_, rfl⟩
          have hxb := choseW_small HLK.out (fun s hs => List.mem_of_mem_drop hs) HW.out
          obtain ⟨M, hM⟩ : ∃ M, ws.length = M := ⟨_, rfl⟩
          have HM := hid hM; have HX := hid hx
          rw [hx, hM] at hxb
          rw [hx]
          rw [hM] at ho hwl
          clear hM hx
          obtain ⟨ua, uc, rfl, hul⟩ := owns_shape ho
          have y1r := y1.below hK5; have hlr := hl.below hK5; have hBr := bnext (w := w) hB hK5
          have q0 := (y1r 0 _ rfl).1; have q1 := (y1r 1 _ rfl).1; have q2 := (y1r 2 _ rfl).1
          by_cases hpl : p < N
          · have hpi : (p : Int) < (N : Int) := by omega
            have hp0 : (0 : Int) ≤ (p : Int) := by omega
            obtain ⟨t, ht⟩ : ∃ s, l[p]? = some s := ⟨_, List.getElem?_eq_getElem (by rw [HN.out]; omega)⟩
            have htf := sg_facts ((listOk_iff.1 HLK.out).2.1 t (List.mem_of_getElem? ht))
            have HT2 : Hid ((l.drop K1)[ws.length]? = some t) := hid (by rw [List.getElem?_drop, HM.out, show K1 + M = p by omega]; exact ht)
            obtain ⟨a2, ha2, r0, hrc, -⟩ := sg_row (show RowsAt 8 wr (.slice (some a') l.length sc) (l.map rowG) by rw [HN.out]; exact hlr) ht
            injection ha2 with ha2
            subst ha2
            obtain ⟨tid, twl, twh, tbl, tbh, thl, thh, tti⟩ := t
            dsimp only at htf
            have r1 := hrc 1 _ (by decide) rfl; have r2 := hrc 2 _ (by decide) rfl
            dsimp only at r1 r2
            clear hrc r0 ht
            have hpk := hp.below hBr
            go_upto_region 17 with fail
            refine wp_region_Rs [(8, IsI64), (9, InRg twl twh)] [0, 1, 2, 3, 4, 5, 6, 7, 8, 9, 10] 0 (by kernel_rfl) rfl (by simp only [List.forall_mem_cons]; exact ⟨keeps_isI64, keeps_inRg, fun _ h => by cases h⟩) (by kernel_rfl) ?_
            simp only [numbered, List.filterMap_cons, List.filterMap_nil, List.getElem?_toArray, List.getElem?_cons_succ, List.getElem?_cons_zero, Option.map_some]
            show wpS _ _ _ _ _ _ _ [(_, _), (_, _), (_, _), (_, _), (_, _), (_, _), (_, _), (_, _), (_, _), (_, _), (_, _)] _ _
            (refine wpS_quiet rfl rfl ?_; intro K hK inst hx; have s0 := fun x => (fun _ => bkeep (BQ.below x) q2) (hx x); have s1 := fun x => (fun _ => bkeep (BQ.below x) r1) (hx x); have s2 := fun x => (fun _ => bkeep (BQ.below x) r2) (hx x); go_big_quiet_op; (first | go_big_quiet_on | (refine ⟨_, fun _ => rfl, ?_⟩; go_big_quiet_on)); clear hx inst)
            (refine wpS_quiet rfl rfl ?_; intro K hK inst hx; have s0 := fun x => (fun _ => bkeep (BQ.below x) q2) (hx x); have s1 := fun x => (fun _ => bkeep (BQ.below x) r1) (hx x); have s2 := fun x => (fun _ => bkeep (BQ.below x) r2) (hx x); go_big_quiet_op; (first | go_big_quiet_on | (refine ⟨_, fun _ => rfl, ?_⟩; go_big_quiet_on)); clear hx inst)
            (refine wpS_quiet rfl rfl ?_; intro K hK inst hx; have s0 := fun x => (fun _ => bkeep (BQ.below x) q2) (hx x); have s1 := fun x => (fun _ => bkeep (BQ.below x) r1) (hx x); have s2 := fun x => (fun _ => bkeep (BQ.below x) r2) (hx x); go_big_quiet_op; (first | go_big_quiet_on | (refine ⟨_, fun _ => rfl, ?_⟩; go_big_quiet_on)); clear hx inst)
            (refine wpS_quiet rfl rfl ?_; intro K hK inst hx; have s0 := fun x => (fun _ => bkeep (BQ.below x) q2) (hx x); have s1 := fun x => (fun _ => bkeep (BQ.below x) r1) (hx x); have s2 := fun x => (fun _ => bkeep (BQ.below x) r2) (hx x); go_big_quiet_op; (first | go_big_quiet_on | (refine ⟨_, fun _ => rfl, ?_⟩; go_big_quiet_on)); clear hx inst)
            (refine wpS_quiet rfl rfl ?_; intro K hK inst hx; have s0 := fun x => (fun _ => bkeep (BQ.below x) q2) (hx x); have s1 := fun x => (fun _ => bkeep (BQ.below x) r1) (hx x); have s2 := fun x => (fun _ => bkeep (BQ.below x) r2) (hx x); go_big_quiet_op; (first | go_big_quiet_on | (refine ⟨_, fun _ => rfl, ?_⟩; go_big_quiet_on)); clear hx inst)
            (refine wpS_quiet rfl rfl ?_; intro K hK inst hx; have s0 := fun x => (fun _ => bkeep (BQ.below x) q2) (hx x); have s1 := fun x => (fun _ => bkeep (BQ.below x) r1) (hx x); have s2 := fun x => (fun _ => bkeep (BQ.below x) r2) (hx x); go_big_quiet_op; (first | go_big_quiet_on | (refine ⟨_, fun _ => rfl, ?_⟩; go_big_quiet_on)); clear hx inst)
            (refine wpS_quiet rfl rfl ?_; intro K hK inst hx; have s0 := fun x => (fun _ => bkeep (BQ.below x) q2) (hx x); have s1 := fun x => (fun _ => bkeep (BQ.below x) r1) (hx x); have s2 := fun x => (fun _ => bkeep (BQ.below x) r2) (hx x); go_big_quiet_op; (first | go_big_quiet_on | (refine ⟨_, fun _ => rfl, ?_⟩; go_big_quiet_on)); clear hx inst)
            (refine wpS_quiet rfl rfl ?_; intro K hK inst hx; have s0 := fun x => (fun _ => bkeep (BQ.below x) q2) (hx x); have s1 := fun x => (fun _ => bkeep (BQ.below x) r1) (hx x); have s2 := fun x => (fun _ => bkeep (BQ.below x) r2) (hx x); go_big_quiet_op; (first | go_big_quiet_on | (refine ⟨_, fun _ => rfl, ?_⟩; go_big_quiet_on)); clear hx inst)
            refine wpS_fresh rfl rfl (fun w' hb hF => ?_) ?_
            · change freshAt _ _ _ (IsI64) _; unfold freshAt; go_simp; exact at_any (hpk.below hb) (by omega)
            intro v W hv; simp only [pOf, List.lookup_cons, Nat.reduceBEq, beq_self_eq_true] at hv; obtain ⟨pz, rfl, -⟩ := hv
            simp only [Act.put, List.setIfInBounds_toArray, List.set_cons_succ, List.set_cons_zero]
            refine wpS_fresh rfl rfl (fun w' hb hF => ?_) ?_
            · change freshAt _ _ _ (InRg twl twh) _; unfold freshAt; go_simp; exact one_any (by omega) (by omega) (by omega)
            intro v W hv; simp only [pOf, List.lookup_cons, Nat.reduceBEq, beq_self_eq_true] at hv; obtain ⟨z, rfl, hzl, hzh⟩ := hv
            simp only [Act.put, List.setIfInBounds_toArray, List.set_cons_succ, List.set_cons_zero]
            (refine wpS_quiet rfl rfl ?_; intro K hK inst hx; have s0 := fun x => (fun _ => bkeep (BQ.below x) q2) (hx x); have s1 := fun x => (fun _ => bkeep (BQ.below x) r1) (hx x); have s2 := fun x => (fun _ => bkeep (BQ.below x) r2) (hx x); go_big_quiet_op; (first | go_big_quiet_on | (refine ⟨_, fun _ => rfl, ?_⟩; go_big_quiet_on)); clear hx inst)
            refine wpS_nil ?_
            intro w3 hall
            have hb := hall.1
            clear hall r1 r2 hpk q0 q1 q2 y1r hlr hBr
            refine wpAny_done (by kernel_rfl) ?_ _
            have yx3 := yx.below hb; have ho3 := owns_below ho hb; have hK3 := bnext (w := vr) hK5 hb
            have hz3 := Nat.le_trans hzr hb.size
            have e2 := (yx3 2 _ rfl).1
            clear hb yx ho hK5
            go_upto_region 19 with (at_builtin; go_must (refine wpList_append_own _ rfl _ _ 41 rfl v5.heap.size 3 i1 (.int .i64 0) 1 8 Try.underlying41 hj hy0 hy1 hy2 rfl (by decide) (.slice ua M uc) M _ rfl (ho3.alloc _) ⟨w3.heap.size, 0, none⟩ 1 1 [.int .i64 z] rfl rfl (new_cellsZ w3 _ _ _ rfl) (fun u hu => by simp only [List.mem_cons, List.not_mem_nil, or_false] at hu; rcases hu with rfl; rfl) (by unfold maxLen; omega) (by omega) (by simp; omega) ?_; intro v' w4 ho4 hg4 hnil; have hb4 := Pb.below_grown ((Below.refl v5.heap.size w3).alloc (by omega) _) hg4 (ho3.alloc _) (by simp; omega) (Nat.le_refl _); have yx4 := cells_low yx3 hb4 (by omega); have e2' := (yx4 2 _ rfl).1; have f2' := (yx4 2 _ rfl).2; obtain ⟨xa2, xc2, rfl, -⟩ := owns_shape ho4; clear hg4 hnil))
            have z9 := cells_store (o := 2) (u := .slice xa2 (M + 1) xc2) yx4
            have o9 := own_set (o := 2) (u := .slice xa2 (M + 1) xc2) ho4 (show B14 < v5.heap.size by omega)
            have hK9 := (hK3.trans (hb4.mono (by have := hB14; omega))).setCell (p := ⟨B14, 2, none⟩) hB14 (.slice xa2 (M + 1) xc2)
            have hz9 : v5.heap.size ≤ (w4.setCell ⟨B14, 2, none⟩ (.slice xa2 (M + 1) xc2)).heap.size := by have := hb4.size; simp; omega
            clear yx3 ho3 hK3 hb4 yx4 e2 e2' f2' ho4
            generalize World.setCell _ _ _ = w9 at *
            have hwz : IntKind.i64.wrap (x + z) = x + z := IntWalk.i64_in _ (by omega)
            go_wp2_with fail
            go_roundg (N - (p + 1))
            case measure => have h := HGP.out; omega
            case rel =>
              refine ⟨p + 1, ws ++ [z], .slice xa2 (M + 1) xc2, by omega, by omega, rfl, ?_, by go_num, ?_, hid (HW.out.snoc HT2.out hzl hzh), z9, ?_, hK9, hz9⟩
              · rw [List.sum_append, HX.out]; simp
              · rw [List.length_append, HM.out]; simp; omega
              · rw [List.length_append, HM.out, List.map_append]; exact o9
          · obtain rfl : p = N := by omega
            have hpp : ¬ (p : Int) < (p : Int) := by omega
            have hW := HW.out
            rw [← HK1.out] at hW
            have hu : NumsAt wr (.slice ua M uc) ws := numsAt_of_owns (choseW_i64 HLK.out (fun s hs => List.mem_of_mem_drop hs) HW.out) (by rw [HM.out]; exact ho)
            have hcv := ck_val HOK.out HS.out hbe1 hbe2 hW (by rw [HN.out, HM.out]; have h9 : k + 1 = K1 := HK1.out; omega)
            have hlw : ws.length + (k + 1) = l.length := by rw [HN.out, HM.out]; have h9 : k + 1 = K1 := HK1.out; omega
            have HW2 := hid hW; have HLW := hid hlw; rw [HX.out] at hcv; have HCV := hid hcv; clear hW hlw hcv
            have x0 := (yx 0 _ rfl).1; have x1 := (yx 1 _ rfl).1; have x2 := (yx 2 _ rfl).1
            by_cases hgt : be < x
            · have HC9 : Hid (ckBr lo hi l (k : Int) be ws = 0) := hid (HCV.out.trans (if_pos hgt))
              have HT9 := hid (told_yes HZ1.out HT.out HS.out hbe1 HW2.out HLW.out (by rw [HX.out]; exact hgt))
              clear HCV
              go_upto_region 22 with fail
              refine wp_region_Rs [(2, fun v _ => v = .int .i64 0)] [0, 1, 2, 3, 4, 5, 6, 7, 8] 0 (by kernel_rfl) rfl (by simp only [List.forall_mem_cons]; exact ⟨keeps_eq, fun _ h => by cases h⟩) (by kernel_rfl) ?_
              simp only [numbered, List.filterMap_cons, List.filterMap_nil, List.getElem?_toArray, List.getElem?_cons_succ, List.getElem?_cons_zero, Option.map_some]
              show wpS _ _ _ _ _ _ _ [(_, _), (_, _), (_, _), (_, _), (_, _), (_, _), (_, _), (_, _), (_, _)] _ _
              (refine wpS_quiet rfl rfl ?_; intro K hK inst hx; have s0 := fun x => (fun _ => bkeep (BQ.below x) q0) (hx x); have s1 := fun x => (fun _ => bkeep (BQ.below x) q1) (hx x); have s2 := fun x => (fun _ => bkeep (BQ.below x) q2) (hx x); have s3 := fun x => (fun _ => bkeep (BQ.below x) x0) (hx x); have s4 := fun x => (fun _ => bkeep (BQ.below x) x1) (hx x); have s5 := fun x => (fun _ => bkeep (BQ.below x) x2) (hx x); go_big_quiet_op; (first | go_big_quiet_on | (refine ⟨_, fun _ => rfl, ?_⟩; go_big_quiet_on)); clear hx inst)
              (refine wpS_quiet rfl rfl ?_; intro K hK inst hx; have s0 := fun x => (fun _ => bkeep (BQ.below x) q0) (hx x); have s1 := fun x => (fun _ => bkeep (BQ.below x) q1) (hx x); have s2 := fun x => (fun _ => bkeep (BQ.below x) q2) (hx x); have s3 := fun x => (fun _ => bkeep (BQ.below x) x0) (hx x); have s4 := fun x => (fun _ => bkeep (BQ.below x) x1) (hx x); have s5 := fun x => (fun _ => bkeep (BQ.below x) x2) (hx x); go_big_quiet_op; (first | go_big_quiet_on | (refine ⟨_, fun _ => rfl, ?_⟩; go_big_quiet_on)); clear hx inst)
              refine wpS_fresh rfl rfl (fun w' hb hF => ?_) ?_
              · change freshAt _ _ _ (fun v _ => v = .int .i64 0) _; unfold freshAt; go_simp; exact ckBr_any (hlr.below hb) (hu.below hb) HC9.out
              intro v W hv; simp only [pOf, List.lookup_cons, Nat.reduceBEq, beq_self_eq_true] at hv; subst hv
              simp only [Act.put, List.setIfInBounds_toArray, List.set_cons_succ, List.set_cons_zero]
              (refine wpS_quiet rfl rfl ?_; intro K hK inst hx; have s0 := fun x => (fun _ => bkeep (BQ.below x) q0) (hx x); have s1 := fun x => (fun _ => bkeep (BQ.below x) q1) (hx x); have s2 := fun x => (fun _ => bkeep (BQ.below x) q2) (hx x); have s3 := fun x => (fun _ => bkeep (BQ.below x) x0) (hx x); have s4 := fun x => (fun _ => bkeep (BQ.below x) x1) (hx x); have s5 := fun x => (fun _ => bkeep (BQ.below x) x2) (hx x); go_big_quiet_op; (first | go_big_quiet_on | (refine ⟨_, fun _ => rfl, ?_⟩; go_big_quiet_on)); clear hx inst)
              (refine wpS_quiet rfl rfl ?_; intro K hK inst hx; have s0 := fun x => (fun _ => bkeep (BQ.below x) q0) (hx x); have s1 := fun x => (fun _ => bkeep (BQ.below x) q1) (hx x); have s2 := fun x => (fun _ => bkeep (BQ.below x) q2) (hx x); have s3 := fun x => (fun _ => bkeep (BQ.below x) x0) (hx x); have s4 := fun x => (fun _ => bkeep (BQ.below x) x1) (hx x); have s5 := fun x => (fun _ => bkeep (BQ.below x) x2) (hx x); go_big_quiet_op; (first | go_big_quiet_on | (refine ⟨_, fun _ => rfl, ?_⟩; go_big_quiet_on)); clear hx inst)
              (refine wpS_quiet rfl rfl ?_; intro K hK inst hx; have s0 := fun x => (fun _ => bkeep (BQ.below x) q0) (hx x); have s1 := fun x => (fun _ => bkeep (BQ.below x) q1) (hx x); have s2 := fun x => (fun _ => bkeep (BQ.below x) q2) (hx x); have s3 := fun x => (fun _ => bkeep (BQ.below x) x0) (hx x); have s4 := fun x => (fun _ => bkeep (BQ.below x) x1) (hx x); have s5 := fun x => (fun _ => bkeep (BQ.below x) x2) (hx x); go_big_quiet_op; (first | go_big_quiet_on | (refine ⟨_, fun _ => rfl, ?_⟩; go_big_quiet_on)); clear hx inst)
              (refine wpS_quiet rfl rfl ?_; intro K hK inst hx; have s0 := fun x => (fun _ => bkeep (BQ.below x) q0) (hx x); have s1 := fun x => (fun _ => bkeep (BQ.below x) q1) (hx x); have s2 := fun x => (fun _ => bkeep (BQ.below x) q2) (hx x); have s3 := fun x => (fun _ => bkeep (BQ.below x) x0) (hx x); have s4 := fun x => (fun _ => bkeep (BQ.below x) x1) (hx x); have s5 := fun x => (fun _ => bkeep (BQ.below x) x2) (hx x); go_big_quiet_op; (first | go_big_quiet_on | (refine ⟨_, fun _ => rfl, ?_⟩; go_big_quiet_on)); clear hx inst)
              (refine wpS_quiet rfl rfl ?_; intro K hK inst hx; have s0 := fun x => (fun _ => bkeep (BQ.below x) q0) (hx x); have s1 := fun x => (fun _ => bkeep (BQ.below x) q1) (hx x); have s2 := fun x => (fun _ => bkeep (BQ.below x) q2) (hx x); have s3 := fun x => (fun _ => bkeep (BQ.below x) x0) (hx x); have s4 := fun x => (fun _ => bkeep (BQ.below x) x1) (hx x); have s5 := fun x => (fun _ => bkeep (BQ.below x) x2) (hx x); go_big_quiet_op; (first | go_big_quiet_on | (refine ⟨_, fun _ => rfl, ?_⟩; go_big_quiet_on)); clear hx inst)
              (refine wpS_quiet rfl rfl ?_; intro K hK inst hx; have s0 := fun x => (fun _ => bkeep (BQ.below x) q0) (hx x); have s1 := fun x => (fun _ => bkeep (BQ.below x) q1) (hx x); have s2 := fun x => (fun _ => bkeep (BQ.below x) q2) (hx x); have s3 := fun x => (fun _ => bkeep (BQ.below x) x0) (hx x); have s4 := fun x => (fun _ => bkeep (BQ.below x) x1) (hx x); have s5 := fun x => (fun _ => bkeep (BQ.below x) x2) (hx x); go_big_quiet_op; (first | go_big_quiet_on | (refine ⟨_, fun _ => rfl, ?_⟩; go_big_quiet_on)); clear hx inst)
              refine wpS_nil ?_
              intro w3 hall
              have hb := hall.1
              skip
              have hb5 := bnext (w := vr) hK5 hb
              have hb6 := bnext (w := v9) hK9 hb5
              clear hall hb5 hb x0 x1 x2 q0 q1 q2
              refine wpAny_done (by kernel_rfl) ?_ _
              go_wp2_with fail
              go_roundg (p - (k + 1))
              case measure => have h := HGK.out; omega
              case rel => exact ⟨k + 1, true, by omega, rfl, rfl, by go_num, HT9, hb6⟩
            · have HC9 : Hid (ckBr lo hi l (k : Int) be ws = 35) := hid (HCV.out.trans (if_neg hgt))
              have HT9 := hid (told_no HZ1.out HT.out HS.out hbe2 HW2.out HLW.out (by rw [HX.out]; exact hgt))
              clear HCV
              go_upto_region 22 with fail
              refine wp_region_Rs [(2, fun v _ => v = .int .i64 35)] [0, 1, 2, 3, 4, 5, 6, 7, 8] 0 (by kernel_rfl) rfl (by simp only [List.forall_mem_cons]; exact ⟨keeps_eq, fun _ h => by cases h⟩) (by kernel_rfl) ?_
              simp only [numbered, List.filterMap_cons, List.filterMap_nil, List.getElem?_toArray, List.getElem?_cons_succ, List.getElem?_cons_zero, Option.map_some]
              show wpS _ _ _ _ _ _ _ [(_, _), (_, _), (_, _), (_, _), (_, _), (_, _), (_, _), (_, _), (_, _)] _ _
              (refine wpS_quiet rfl rfl ?_; intro K hK inst hx; have s0 := fun x => (fun _ => bkeep (BQ.below x) q0) (hx x); have s1 := fun x => (fun _ => bkeep (BQ.below x) q1) (hx x); have s2 := fun x => (fun _ => bkeep (BQ.below x) q2) (hx x); have s3 := fun x => (fun _ => bkeep (BQ.below x) x0) (hx x); have s4 := fun x => (fun _ => bkeep (BQ.below x) x1) (hx x); have s5 := fun x => (fun _ => bkeep (BQ.below x) x2) (hx x); go_big_quiet_op; (first | go_big_quiet_on | (refine ⟨_, fun _ => rfl, ?_⟩; go_big_quiet_on)); clear hx inst)
              (refine wpS_quiet rfl rfl ?_; intro K hK inst hx; have s0 := fun x => (fun _ => bkeep (BQ.below x) q0) (hx x); have s1 := fun x => (fun _ => bkeep (BQ.below x) q1) (hx x); have s2 := fun x => (fun _ => bkeep (BQ.below x) q2) (hx x); have s3 := fun x => (fun _ => bkeep (BQ.below x) x0) (hx x); have s4 := fun x => (fun _ => bkeep (BQ.below x) x1) (hx x); have s5 := fun x => (fun _ => bkeep (BQ.below x) x2) (hx x); go_big_quiet_op; (first | go_big_quiet_on | (refine ⟨_, fun _ => rfl, ?_⟩; go_big_quiet_on)); clear hx inst)
              refine wpS_fresh rfl rfl (fun w' hb hF => ?_) ?_
              · change freshAt _ _ _ (fun v _ => v = .int .i64 35) _; unfold freshAt; go_simp; exact ckBr_any (hlr.below hb) (hu.below hb) HC9.out
              intro v W hv; simp only [pOf, List.lookup_cons, Nat.reduceBEq, beq_self_eq_true] at hv; subst hv
              simp only [Act.put, List.setIfInBounds_toArray, List.set_cons_succ, List.set_cons_zero]
              (refine wpS_quiet rfl rfl ?_; intro K hK inst hx; have s0 := fun x => (fun _ => bkeep (BQ.below x) q0) (hx x); have s1 := fun x => (fun _ => bkeep (BQ.below x) q1) (hx x); have s2 := fun x => (fun _ => bkeep (BQ.below x) q2) (hx x); have s3 := fun x => (fun _ => bkeep (BQ.below x) x0) (hx x); have s4 := fun x => (fun _ => bkeep (BQ.below x) x1) (hx x); have s5 := fun x => (fun _ => bkeep (BQ.below x) x2) (hx x); go_big_quiet_op; (first | go_big_quiet_on | (refine ⟨_, fun _ => rfl, ?_⟩; go_big_quiet_on)); clear hx inst)
              (refine wpS_quiet rfl rfl ?_; intro K hK inst hx; have s0 := fun x => (fun _ => bkeep (BQ.below x) q0) (hx x); have s1 := fun x => (fun _ => bkeep (BQ.below x) q1) (hx x); have s2 := fun x => (fun _ => bkeep (BQ.below x) q2) (hx x); have s3 := fun x => (fun _ => bkeep (BQ.below x) x0) (hx x); have s4 := fun x => (fun _ => bkeep (BQ.below x) x1) (hx x); have s5 := fun x => (fun _ => bkeep (BQ.below x) x2) (hx x); go_big_quiet_op; (first | go_big_quiet_on | (refine ⟨_, fun _ => rfl, ?_⟩; go_big_quiet_on)); clear hx inst)
              (refine wpS_quiet rfl rfl ?_; intro K hK inst hx; have s0 := fun x => (fun _ => bkeep (BQ.below x) q0) (hx x); have s1 := fun x => (fun _ => bkeep (BQ.below x) q1) (hx x); have s2 := fun x => (fun _ => bkeep (BQ.below x) q2) (hx x); have s3 := fun x => (fun _ => bkeep (BQ.below x) x0) (hx x); have s4 := fun x => (fun _ => bkeep (BQ.below x) x1) (hx x); have s5 := fun x => (fun _ => bkeep (BQ.below x) x2) (hx x); go_big_quiet_op; (first | go_big_quiet_on | (refine ⟨_, fun _ => rfl, ?_⟩; go_big_quiet_on)); clear hx inst)
              (refine wpS_quiet rfl rfl ?_; intro K hK inst hx; have s0 := fun x => (fun _ => bkeep (BQ.below x) q0) (hx x); have s1 := fun x => (fun _ => bkeep (BQ.below x) q1) (hx x); have s2 := fun x => (fun _ => bkeep (BQ.below x) q2) (hx x); have s3 := fun x => (fun _ => bkeep (BQ.below x) x0) (hx x); have s4 := fun x => (fun _ => bkeep (BQ.below x) x1) (hx x); have s5 := fun x => (fun _ => bkeep (BQ.below x) x2) (hx x); go_big_quiet_op; (first | go_big_quiet_on | (refine ⟨_, fun _ => rfl, ?_⟩; go_big_quiet_on)); clear hx inst)
              (refine wpS_quiet rfl rfl ?_; intro K hK inst hx; have s0 := fun x => (fun _ => bkeep (BQ.below x) q0) (hx x); have s1 := fun x => (fun _ => bkeep (BQ.below x) q1) (hx x); have s2 := fun x => (fun _ => bkeep (BQ.below x) q2) (hx x); have s3 := fun x => (fun _ => bkeep (BQ.below x) x0) (hx x); have s4 := fun x => (fun _ => bkeep (BQ.below x) x1) (hx x); have s5 := fun x => (fun _ => bkeep (BQ.below x) x2) (hx x); go_big_quiet_op; (first | go_big_quiet_on | (refine ⟨_, fun _ => rfl, ?_⟩; go_big_quiet_on)); clear hx inst)
              (refine wpS_quiet rfl rfl ?_; intro K hK inst hx; have s0 := fun x => (fun _ => bkeep (BQ.below x) q0) (hx x); have s1 := fun x => (fun _ => bkeep (BQ.below x) q1) (hx x); have s2 := fun x => (fun _ => bkeep (BQ.below x) q2) (hx x); have s3 := fun x => (fun _ => bkeep (BQ.below x) x0) (hx x); have s4 := fun x => (fun _ => bkeep (BQ.below x) x1) (hx x); have s5 := fun x => (fun _ => bkeep (BQ.below x) x2) (hx x); go_big_quiet_op; (first | go_big_quiet_on | (refine ⟨_, fun _ => rfl, ?_⟩; go_big_quiet_on)); clear hx inst)
              refine wpS_nil ?_
              intro w3 hall
              have hb := hall.1
              skip
              have hb5 := bnext (w := vr) hK5 hb
              have hb6 := bnext (w := v9) hK9 hb5
              clear hall hb5 hb x0 x1 x2 q0 q1 q2
              refine wpAny_done (by kernel_rfl) ?_ _
              go_wp2_with fail
              go_roundg (p - (k + 1))
              case measure => have h := HGK.out; omega
              case rel => exact ⟨k + 1, b, by omega, rfl, rfl, by go_num, HT9, hb6⟩
      · obtain rfl : k = N := by omega
        have hkk : ¬ (k : Int) < (k : Int) := by omega
        obtain rfl : b = false := HT.out.1 rfl
        go_wp2_with fail
        go_ret
        exact ⟨rfl, hB⟩
  · obtain ⟨sm, hsm⟩ : ∃ s, l[m]? = some s := ⟨_, List.getElem?_eq_getElem hm⟩
    have HSM := hid hsm; have HF := hid hf; have HM1 := hid hm1
    have hz : z1 ≠ 1 := by rw [← HZ1.out]; exact first_pos hm hm1
    have hzb : (z1 == 1) = false := beq_eq_false_iff_ne.mpr hz
    have HBG := hid (brk_good HOK.out hsm hm1)
    have HZN := hid hz
    clear hf hsm hm1 hz
    go_wp2_with fail
    refine (breaksP hl (brk_at HOK.out HSM.out HF.out)).mono ?_
    rintro e w1 ⟨xv, rfl, hb, hx⟩
    clear y1_0 y1_1 y1_2
    replace y1 := y1.below hb
    replace hl := hl.below hb
    replace hB := bnext (w := w) hB hb
    clear hb
    (try dsimp only)
    dsimp only at hx
    have y1_0 := (y1 0 _ rfl).1
    have y1_1 := (y1 1 _ rfl).1
    have y1_2 := (y1 2 _ rfl).1
    obtain ⟨xa, xc, rfl, hx1, hx2⟩ := hx.shape
    obtain ⟨xn, hxn⟩ : ∃ n, ((l.drop (m + 1)).map (·.wh)).length = n := ⟨_, rfl⟩
    rw [hxn] at hx hx1 ⊢
    clear hxn
    obtain ⟨vC, hv9⟩ : ∃ v, v = w1 := ⟨_, rfl⟩
    subst hv9
    go_upto_region 5 with fail
    generalize hW : World.alloc vC _ = vD
    have yx : CellsAt vD vC.heap.size [.int .i64 (m : Int), .int .i64 sm.bl, .slice xa xn xc] := by rw [← hW]; exact CellsAt.new vC [.int .i64 (m : Int), .int .i64 sm.bl, .slice xa xn xc] 54
    have hb : Below vC.heap.size vC vD := by rw [← hW]; exact (Below.refl _ _).alloc (Nat.le_refl _) _
    clear y1_0 y1_1 y1_2
    replace y1 := y1.below hb
    replace hl := hl.below hb
    replace hx := hx.below hb
    replace hB := bnext (w := w) hB hb
    clear hW hb
    have y1_0 := (y1 0 _ rfl).1
    have y1_1 := (y1 1 _ rfl).1
    have y1_2 := (y1 2 _ rfl).1
    have yx_0 := (yx 0 _ rfl).1
    have yx_1 := (yx 1 _ rfl).1
    have yx_2 := (yx 2 _ rfl).1
    go_wp2_with fail
    refine (ckBr_any hl hx HBG.out).mono ?_
    rintro e w1 ⟨rfl, hb⟩
    clear y1_0 y1_1 y1_2 yx_0 yx_1 yx_2
    replace y1 := y1.below hb
    replace yx := yx.below hb
    replace hl := hl.below hb
    replace hx := hx.below hb
    replace hB := bnext (w := w) hB hb
    clear hb
    (try dsimp only)
    have y1_0 := (y1 0 _ rfl).1
    have y1_1 := (y1 1 _ rfl).1
    have y1_2 := (y1 2 _ rfl).1
    have yx_0 := (yx 0 _ rfl).1
    have yx_1 := (yx 1 _ rfl).1
    have yx_2 := (yx 2 _ rfl).1
    clear yx_0 yx_1 yx_2
    clear yx hx
    clear HBG HF HSM HM1
    clear y1_0 y1_1 y1_2
    clear HR1
    obtain ⟨v9, hv9⟩ : ∃ v, v = w1 := ⟨_, rfl⟩
    subst hv9
    have y1_0 := (y1 0 _ rfl).1
    have y1_1 := (y1 1 _ rfl).1
    have y1_2 := (y1 2 _ rfl).1
    go_upto_region 9 with fail
    clear y1_0 y1_1 y1_2
    have hTD : Hid (ToldK l z1 0 false) := hid ⟨fun _ => rfl, fun i s h => by omega⟩
    go_wp2_with fail
    go_loopg [11, 13] N (fun gk bv iv wr => ∃ (k : Nat) (b : Bool), k ≤ N ∧ gk = N - k ∧ bv = .bool b ∧ iv = .int .i64 k ∧ Hid (ToldK l z1 k b) ∧ Below v9.heap.size v9 wr)
    case atStart => exact ⟨0, false, Nat.zero_le _, rfl, rfl, rfl, hTD, Below.refl _ _⟩
    case round =>
      obtain ⟨k, b, hk, hgk, rfl, rfl, HT, hK9⟩ := hrel
      have HGK := hid hgk; clear hgk
      replace y1 := y1.below hK9; replace hl := hl.below hK9; replace hB := bnext (w := w) hB hK9
      by_cases hlt : k < N
      · have y1_0 := (y1 0 _ rfl).1
        have y1_1 := (y1 1 _ rfl).1
        have y1_2 := (y1 2 _ rfl).1
        have hki : (k : Int) < (N : Int) := by omega
        have hk0 : (0 : Int) ≤ (k : Int) := by omega
        obtain ⟨s, hs⟩ : ∃ s, l[k]? = some s := ⟨_, List.getElem?_eq_getElem (by rw [HN.out]; omega)⟩
        have hsf := sg_facts ((listOk_iff.1 HLK.out).2.1 s (List.mem_of_getElem? hs))
        have HS : Hid (l[k]? = some s) := hid hs
        obtain ⟨a', ha, p0, hpc, -⟩ := sg_row (show RowsAt 8 wr (.slice sa l.length sc) (l.map rowG) by rw [HN.out]; exact hl) hs
        subst ha
        obtain ⟨sid, swl, swh, sbl, sbh, shl, shh, sti⟩ := s
        dsimp only at hsf
        have p3 := hpc 3 _ (by decide) rfl; have p4 := hpc 4 _ (by decide) rfl
        dsimp only at p3 p4
        clear hpc p0 hs
        have hwnk : IntKind.i64.wrap ((N : Int) + (k : Int)) = ((N + k : Nat) : Int) := (IntWalk.i64_in _ (by omega)).trans (by omega)
        obtain ⟨NK, hNK⟩ : ∃ m, N + k = m := ⟨_, rfl⟩
        rw [hNK] at hwnk
        have hNKb : NK ≤ 1000000 := by omega
        clear hNK
        have hpk := hp.below hB
        obtain ⟨GK, rfl⟩ : ∃ GK, GK = gk := ⟨_, rfl⟩
        obtain ⟨vr, hvr⟩ : ∃ v, v = wr := ⟨_, rfl⟩
        subst hvr
        go_upto_region 12 with fail
        refine wp_region_Rs [(11, IsI64), (12, InRg sbl sbh), (14, NewCells vr.heap.size [.int .i64 0, .int .i64 0, .slice none 0 0])] [0, 1, 2, 3, 4, 5, 6, 7, 8, 9, 10, 11, 12, 13, 14] 1 (by kernel_rfl) rfl (by simp only [List.forall_mem_cons]; exact ⟨keeps_isI64, keeps_inRg, keeps_new, fun _ h => by cases h⟩) (by kernel_rfl) ?_
        simp only [numbered, List.filterMap_cons, List.filterMap_nil, List.getElem?_toArray, List.getElem?_cons_succ, List.getElem?_cons_zero, Option.map_some]
        show wpS _ _ _ _ _ _ _ [(_, _), (_, _), (_, _), (_, _), (_, _), (_, _), (_, _), (_, _), (_, _), (_, _), (_, _), (_, _), (_, _), (_, _), (_, _)] _ _
        (refine wpS_quiet rfl rfl ?_; intro K hK inst hx; have s0 := fun x => (fun _ => bkeep (BQ.below x) y1_2) (hx x); have s1 := fun x => (fun _ => bkeep (BQ.below x) p3) (hx x); have s2 := fun x => (fun _ => bkeep (BQ.below x) p4) (hx x); go_big_quiet_op; (first | go_big_quiet_on | (refine ⟨_, fun _ => rfl, ?_⟩; go_big_quiet_on)); clear hx inst)
        (refine wpS_quiet rfl rfl ?_; intro K hK inst hx; have s0 := fun x => (fun _ => bkeep (BQ.below x) y1_2) (hx x); have s1 := fun x => (fun _ => bkeep (BQ.below x) p3) (hx x); have s2 := fun x => (fun _ => bkeep (BQ.below x) p4) (hx x); go_big_quiet_op; (first | go_big_quiet_on | (refine ⟨_, fun _ => rfl, ?_⟩; go_big_quiet_on)); clear hx inst)
        (refine wpS_quiet rfl rfl ?_; intro K hK inst hx; have s0 := fun x => (fun _ => bkeep (BQ.below x) y1_2) (hx x); have s1 := fun x => (fun _ => bkeep (BQ.below x) p3) (hx x); have s2 := fun x => (fun _ => bkeep (BQ.below x) p4) (hx x); go_big_quiet_op; (first | go_big_quiet_on | (refine ⟨_, fun _ => rfl, ?_⟩; go_big_quiet_on)); clear hx inst)
        (refine wpS_quiet rfl rfl ?_; intro K hK inst hx; have s0 := fun x => (fun _ => bkeep (BQ.below x) y1_2) (hx x); have s1 := fun x => (fun _ => bkeep (BQ.below x) p3) (hx x); have s2 := fun x => (fun _ => bkeep (BQ.below x) p4) (hx x); go_big_quiet_op; (first | go_big_quiet_on | (refine ⟨_, fun _ => rfl, ?_⟩; go_big_quiet_on)); clear hx inst)
        (refine wpS_quiet rfl rfl ?_; intro K hK inst hx; have s0 := fun x => (fun _ => bkeep (BQ.below x) y1_2) (hx x); have s1 := fun x => (fun _ => bkeep (BQ.below x) p3) (hx x); have s2 := fun x => (fun _ => bkeep (BQ.below x) p4) (hx x); go_big_quiet_op; (first | go_big_quiet_on | (refine ⟨_, fun _ => rfl, ?_⟩; go_big_quiet_on)); clear hx inst)
        (refine wpS_quiet rfl rfl ?_; intro K hK inst hx; have s0 := fun x => (fun _ => bkeep (BQ.below x) y1_2) (hx x); have s1 := fun x => (fun _ => bkeep (BQ.below x) p3) (hx x); have s2 := fun x => (fun _ => bkeep (BQ.below x) p4) (hx x); go_big_quiet_op; (first | go_big_quiet_on | (refine ⟨_, fun _ => rfl, ?_⟩; go_big_quiet_on)); clear hx inst)
        (refine wpS_quiet rfl rfl ?_; intro K hK inst hx; have s0 := fun x => (fun _ => bkeep (BQ.below x) y1_2) (hx x); have s1 := fun x => (fun _ => bkeep (BQ.below x) p3) (hx x); have s2 := fun x => (fun _ => bkeep (BQ.below x) p4) (hx x); go_big_quiet_op; (first | go_big_quiet_on | (refine ⟨_, fun _ => rfl, ?_⟩; go_big_quiet_on)); clear hx inst)
        (refine wpS_quiet rfl rfl ?_; intro K hK inst hx; have s0 := fun x => (fun _ => bkeep (BQ.below x) y1_2) (hx x); have s1 := fun x => (fun _ => bkeep (BQ.below x) p3) (hx x); have s2 := fun x => (fun _ => bkeep (BQ.below x) p4) (hx x); go_big_quiet_op; (first | go_big_quiet_on | (refine ⟨_, fun _ => rfl, ?_⟩; go_big_quiet_on)); clear hx inst)
        (refine wpS_quiet rfl rfl ?_; intro K hK inst hx; have s0 := fun x => (fun _ => bkeep (BQ.below x) y1_2) (hx x); have s1 := fun x => (fun _ => bkeep (BQ.below x) p3) (hx x); have s2 := fun x => (fun _ => bkeep (BQ.below x) p4) (hx x); go_big_quiet_op; (first | go_big_quiet_on | (refine ⟨_, fun _ => rfl, ?_⟩; go_big_quiet_on)); clear hx inst)
        (refine wpS_quiet rfl rfl ?_; intro K hK inst hx; have s0 := fun x => (fun _ => bkeep (BQ.below x) y1_2) (hx x); have s1 := fun x => (fun _ => bkeep (BQ.below x) p3) (hx x); have s2 := fun x => (fun _ => bkeep (BQ.below x) p4) (hx x); go_big_quiet_op; (first | go_big_quiet_on | (refine ⟨_, fun _ => rfl, ?_⟩; go_big_quiet_on)); clear hx inst)
        (refine wpS_quiet rfl rfl ?_; intro K hK inst hx; have s0 := fun x => (fun _ => bkeep (BQ.below x) y1_2) (hx x); have s1 := fun x => (fun _ => bkeep (BQ.below x) p3) (hx x); have s2 := fun x => (fun _ => bkeep (BQ.below x) p4) (hx x); go_big_quiet_op; (first | go_big_quiet_on | (refine ⟨_, fun _ => rfl, ?_⟩; go_big_quiet_on)); clear hx inst)
        refine wpS_fresh rfl rfl (fun w' hb hF => ?_) ?_
        · change freshAt _ _ _ (IsI64) _; unfold freshAt; go_simp; exact at_any (hpk.below hb) hNKb
        intro v W hv; simp only [pOf, List.lookup_cons, Nat.reduceBEq, beq_self_eq_true] at hv; obtain ⟨pz, rfl, -⟩ := hv
        simp only [Act.put, List.setIfInBounds_toArray, List.set_cons_succ, List.set_cons_zero]
        refine wpS_fresh rfl rfl (fun w' hb hF => ?_) ?_
        · change freshAt _ _ _ (InRg sbl sbh) _; unfold freshAt; go_simp; exact one_any (by omega) (by omega) (by omega)
        intro v W hv; simp only [pOf, List.lookup_cons, Nat.reduceBEq, beq_self_eq_true] at hv; obtain ⟨be, rfl, hbe1, hbe2⟩ := hv
        simp only [Act.put, List.setIfInBounds_toArray, List.set_cons_succ, List.set_cons_zero]
        (refine wpS_quiet rfl rfl ?_; intro K hK inst hx; have s0 := fun x => (fun _ => bkeep (BQ.below x) y1_2) (hx x); have s1 := fun x => (fun _ => bkeep (BQ.below x) p3) (hx x); have s2 := fun x => (fun _ => bkeep (BQ.below x) p4) (hx x); go_big_quiet_op; (first | go_big_quiet_on | (refine ⟨_, fun _ => rfl, ?_⟩; go_big_quiet_on)); clear hx inst)
        refine wpS_fresh rfl rfl (fun w' hb hF => ?_) ?_
        · change freshAt _ _ _ (NewCells vr.heap.size [.int .i64 0, .int .i64 0, .slice none 0 0]) _; unfold freshAt; go_simp; exact new_of hb
        intro v W hv; simp only [pOf, List.lookup_cons, Nat.reduceBEq, beq_self_eq_true] at hv; obtain ⟨B14, hB14, rfl, -⟩ := hv
        simp only [Act.put, List.setIfInBounds_toArray, List.set_cons_succ, List.set_cons_zero]
        refine wpS_nil ?_
        intro w2 hall
        have hb := hall.1
        have hN : NewCells vr.heap.size [.int .i64 0, .int .i64 0, .slice none 0 0] _ w2 := hall.2 14 _ rfl
        obtain ⟨B', hB', hv', hn⟩ := hN
        obtain rfl : B14 = B' := by simpa using hv'
        have n0 := (hn 0 _ rfl).1; have n1 := (hn 1 _ rfl).1; have n2 := (hn 2 _ rfl).1; have m0 := (hn 0 _ rfl).2; have m1 := (hn 1 _ rfl).2; have m2 := (hn 2 _ rfl).2
        clear hall p3 p4 hv'
        clear y1_0 y1_1 y1_2
        clear hpk
        refine wpAny_ready (rs := [15]) (by kernel_rfl) (by simp) ?_
        refine AllReady.cons rfl (fun K hK => ?_) AllReady.nil
        go_simp
        refine hK _ _ ?_; clear hK K
        refine wpAny_done (by kernel_rfl) ?_ _
        have yx := cells_store (o := 2) (u := .slice none 0 0) (cells_store (o := 1) (u := .int .i64 be) (cells_store (o := 0) (u := .int .i64 (k : Int)) (show CellsAt w2 B14 [.int .i64 0, .int .i64 0, .slice none 0 0] from hn)))
        have hK5 := ((hb.setCell (p := ⟨B14, 0, none⟩) hB14 (.int .i64 (k : Int))).setCell (p := ⟨B14, 1, none⟩) hB14 (.int .i64 be)).setCell (p := ⟨B14, 2, none⟩) hB14 (.slice none 0 0)
        have hz0 : B14 < w2.heap.size := World.block_lt_of_cell? w2 ⟨B14, 0, none⟩ n0
        have hz1 : w2.heap.size = (((w2.setCell ⟨B14, 0, none⟩ (.int .i64 (k : Int))).setCell ⟨B14, 1, none⟩ (.int .i64 be)).setCell ⟨B14, 2, none⟩ (.slice none 0 0)).heap.size := by simp
        clear hn n0 n1 n2 m0 m1 m2 hb hB'
        generalize (World.setCell _ _ _ : World) = v5 at *
        rw [hz1] at hz0
        clear hz1
        have hwk : IntKind.i64.wrap ((k : Int) + 1) = ((k + 1 : Nat) : Int) := (IntWalk.i64_in _ (by omega)).trans (by omega)
        obtain ⟨K1, hK1⟩ : ∃ K1, k + 1 = K1 := ⟨_, rfl⟩
        rw [hK1] at hwk
        have HK1 : Hid (k + 1 = K1) := hK1
        have hKn : K1 ≤ N := by omega
        clear hK1
        go_wp2_with fail
        clear hwk
        go_loopg [15, 16] (N - K1) (fun gk lv pv wr => ∃ (p : Nat) (ws : List Int) (u0 : Value), K1 ≤ p ∧ p ≤ N ∧ gk = N - p ∧ lv = .int .i64 ws.sum ∧ pv = .int .i64 p ∧ ws.length + K1 = p ∧ Hid (ChoseW (l.drop K1) ws) ∧ CellsAt wr B14 [.int .i64 (k : Int), .int .i64 be, u0] ∧ wr.ownsRow v5.heap.size 3 1 u0 ws.length (ws.map (Value.int .i64)) ∧ Below vr.heap.size vr wr ∧ v5.heap.size ≤ wr.heap.size)
        case atStart => exact ⟨K1, [], _, Nat.le_refl _, hKn, rfl, rfl, rfl, by simp, hid (ChoseW.nil _), yx, World.ownsRow_nil _ _ _ _, hK5, Nat.le_refl _⟩
        case round =>
          clear yx hK5
          obtain ⟨p, ws, u0, hKp, hpN, hgp, rfl, rfl, hwl, HW, yx, ho, hK5, hzr⟩ := hrel
          have HGP := hid hgp; clear hgp
          obtain ⟨x, hx⟩ : ∃ x, ws.sum = x := ⟨_, rfl⟩
          have hxb := choseW_small HLK.out (fun s hs => List.mem_of_mem_drop hs) HW.out
          obtain ⟨M, hM⟩ : ∃ M, ws.length = M := ⟨_, rfl⟩
          have HM := hid hM; have HX := hid hx
          rw [hx, hM] at hxb
          rw [hx]
          rw [hM] at ho hwl
          clear hM hx
          obtain ⟨ua, uc, rfl, hul⟩ := owns_shape ho
          have y1r := y1.below hK5; have hlr := hl.below hK5; have hBr := bnext (w := w) hB hK5
          have q0 := (y1r 0 _ rfl).1; have q1 := (y1r 1 _ rfl).1; have q2 := (y1r 2 _ rfl).1
          by_cases hpl : p < N
          · have hpi : (p : Int) < (N : Int) := by omega
            have hp0 : (0 : Int) ≤ (p : Int) := by omega
            obtain ⟨t, ht⟩ : ∃ s, l[p]? = some s := ⟨_, List.getElem?_eq_getElem (by rw [HN.out]; omega)⟩
            have htf := sg_facts ((listOk_iff.1 HLK.out).2.1 t (List.mem_of_getElem? ht))
            have HT2 : Hid ((l.drop K1)[ws.length]? = some t) := hid (by rw [List.getElem?_drop, HM.out, show K1 + M = p by omega]; exact ht)
            obtain ⟨a2, ha2, r0, hrc, -⟩ := sg_row (show RowsAt 8 wr (.slice (some a') l.length sc) (l.map rowG) by rw [HN.out]; exact hlr) ht
            injection ha2 with ha2
            subst ha2
            obtain ⟨tid, twl, twh, tbl, tbh, thl, thh, tti⟩ := t
            dsimp only at htf
            have r1 := hrc 1 _ (by decide) rfl; have r2 := hrc 2 _ (by decide) rfl
            dsimp only at r1 r2
            clear hrc r0 ht
            have hpk := hp.below hBr
            go_upto_region 17 with fail
            refine wp_region_Rs [(8, IsI64), (9, InRg twl twh)] [0, 1, 2, 3, 4, 5, 6, 7, 8, 9, 10] 0 (by kernel_rfl) rfl (by simp only [List.forall_mem_cons]; exact ⟨keeps_isI64, keeps_inRg, fun _ h => by cases h⟩) (by kernel_rfl) ?_
            simp only [numbered, List.filterMap_cons, List.filterMap_nil, List.getElem?_toArray, List.getElem?_cons_succ, List.getElem?_cons_zero, Option.map_some]
            show wpS _ _ _ _ _ _ _ [(_, _), (_, _), (_, _), (_, _), (_, _), (_, _), (_, _), (_, _), (_, _), (_, _), (_, _)] _ _
            (refine wpS_quiet rfl rfl ?_; intro K hK inst hx; have s0 := fun x => (fun _ => bkeep (BQ.below x) q2) (hx x); have s1 := fun x => (fun _ => bkeep (BQ.below x) r1) (hx x); have s2 := fun x => (fun _ => bkeep (BQ.below x) r2) (hx x); go_big_quiet_op; (first | go_big_quiet_on | (refine ⟨_, fun _ => rfl, ?_⟩; go_big_quiet_on)); clear hx inst)
            (refine wpS_quiet rfl rfl ?_; intro K hK inst hx; have s0 := fun x => (fun _ => bkeep (BQ.below x) q2) (hx x); have s1 := fun x => (fun _ => bkeep (BQ.below x) r1) (hx x); have s2 := fun x => (fun _ => bkeep (BQ.below x) r2) (hx x); go_big_quiet_op; (first | go_big_quiet_on | (refine ⟨_, fun _ => rfl, ?_⟩; go_big_quiet_on)); clear hx inst)
            (refine wpS_quiet rfl rfl ?_; intro K hK inst hx; have s0 := fun x => (fun _ => bkeep (BQ.below x) q2) (hx x); have s1 := fun x => (fun _ => bkeep (BQ.below x) r1) (hx x); have s2 := fun x => (fun _ => bkeep (BQ.below x) r2) (hx x); go_big_quiet_op; (first | go_big_quiet_on | (refine ⟨_, fun _ => rfl, ?_⟩; go_big_quiet_on)); clear hx inst)
            (refine wpS_quiet rfl rfl ?_; intro K hK inst hx; have s0 := fun x => (fun _ => bkeep (BQ.below x) q2) (hx x); have s1 := fun x => (fun _ => bkeep (BQ.below x) r1) (hx x); have s2 := fun x => (fun _ => bkeep (BQ.below x) r2) (hx x); go_big_quiet_op; (first | go_big_quiet_on | (refine ⟨_, fun _ => rfl, ?_⟩; go_big_quiet_on)); clear hx inst)
            (refine wpS_quiet rfl rfl ?_; intro K hK inst hx; have s0 := fun x => (fun _ => bkeep (BQ.below x) q2) (hx x); have s1 := fun x => (fun _ => bkeep (BQ.below x) r1) (hx x); have s2 := fun x => (fun _ => bkeep (BQ.below x) r2) (hx x); go_big_quiet_op; (first | go_big_quiet_on | (refine ⟨_, fun _ => rfl, ?_⟩; go_big_quiet_on)); clear hx inst)
            (refine wpS_quiet rfl rfl ?_; intro K hK inst hx; have s0 := fun x => (fun _ => bkeep (BQ.below x) q2) (hx x); have s1 := fun x => (fun _ => bkeep (BQ.below x) r1) (hx x); have s2 := fun x => (fun _ => bkeep (BQ.below x) r2) (hx x); go_big_quiet_op; (first | go_big_quiet_on | (refine ⟨_, fun _ => rfl, ?_⟩; go_big_quiet_on)); clear hx inst)
            (refine wpS_quiet rfl rfl ?_; intro K hK inst hx; have s0 := fun x => (fun _ => bkeep (BQ.below x) q2) (hx x); have s1 := fun x => (fun _ => bkeep (BQ.below x) r1) (hx x); have s2 := fun x => (fun _ => bkeep (BQ.below x) r2) (hx x); go_big_quiet_op; (first | go_big_quiet_on | (refine ⟨_, fun _ => rfl, ?_⟩; go_big_quiet_on)); clear hx inst)
            (refine wpS_quiet rfl rfl ?_; intro K hK inst hx; have s0 := fun x => (fun _ => bkeep (BQ.below x) q2) (hx x); have s1 := fun x => (fun _ => bkeep (BQ.below x) r1) (hx x); have s2 := fun x => (fun _ => bkeep (BQ.below x) r2) (hx x); go_big_quiet_op; (first | go_big_quiet_on | (refine ⟨_, fun _ => rfl, ?_⟩; go_big_quiet_on)); clear hx inst)
            refine wpS_fresh rfl rfl (fun w' hb hF => ?_) ?_
            · change freshAt _ _ _ (IsI64) _; unfold freshAt; go_simp; exact at_any (hpk.below hb) (by omega)
            intro v W hv; simp only [pOf, List.lookup_cons, Nat.reduceBEq, beq_self_eq_true] at hv; obtain ⟨pz, rfl, -⟩ := hv
            simp only [Act.put, List.setIfInBounds_toArray, List.set_cons_succ, List.set_cons_zero]
            refine wpS_fresh rfl rfl (fun w' hb hF => ?_) ?_
            · change freshAt _ _ _ (InRg twl twh) _; unfold freshAt; go_simp; exact one_any (by omega) (by omega) (by omega)
            intro v W hv; simp only [pOf, List.lookup_cons, Nat.reduceBEq, beq_self_eq_true] at hv; obtain ⟨z, rfl, hzl, hzh⟩ := hv
            simp only [Act.put, List.setIfInBounds_toArray, List.set_cons_succ, List.set_cons_zero]
            (refine wpS_quiet rfl rfl ?_; intro K hK inst hx; have s0 := fun x => (fun _ => bkeep (BQ.below x) q2) (hx x); have s1 := fun x => (fun _ => bkeep (BQ.below x) r1) (hx x); have s2 := fun x => (fun _ => bkeep (BQ.below x) r2) (hx x); go_big_quiet_op; (first | go_big_quiet_on | (refine ⟨_, fun _ => rfl, ?_⟩; go_big_quiet_on)); clear hx inst)
            refine wpS_nil ?_
            intro w3 hall
            have hb := hall.1
            clear hall r1 r2 hpk q0 q1 q2 y1r hlr hBr
            refine wpAny_done (by kernel_rfl) ?_ _
            have yx3 := yx.below hb; have ho3 := owns_below ho hb; have hK3 := bnext (w := vr) hK5 hb
            have hz3 := Nat.le_trans hzr hb.size
            have e2 := (yx3 2 _ rfl).1
            clear hb yx ho hK5
            go_upto_region 19 with (at_builtin; go_must (refine wpList_append_own _ rfl _ _ 41 rfl v5.heap.size 3 i1 (.int .i64 0) 1 8 Try.underlying41 hj hy0 hy1 hy2 rfl (by decide) (.slice ua M uc) M _ rfl (ho3.alloc _) ⟨w3.heap.size, 0, none⟩ 1 1 [.int .i64 z] rfl rfl (new_cellsZ w3 _ _ _ rfl) (fun u hu => by simp only [List.mem_cons, List.not_mem_nil, or_false] at hu; rcases hu with rfl; rfl) (by unfold maxLen; omega) (by omega) (by simp; omega) ?_; intro v' w4 ho4 hg4 hnil; have hb4 := Pb.below_grown ((Below.refl v5.heap.size w3).alloc (by omega) _) hg4 (ho3.alloc _) (by simp; omega) (Nat.le_refl _); have yx4 := cells_low yx3 hb4 (by omega); have e2' := (yx4 2 _ rfl).1; have f2' := (yx4 2 _ rfl).2; obtain ⟨xa2, xc2, rfl, -⟩ := owns_shape ho4; clear hg4 hnil))
            have z9 := cells_store (o := 2) (u := .slice xa2 (M + 1) xc2) yx4
            have o9 := own_set (o := 2) (u := .slice xa2 (M + 1) xc2) ho4 (show B14 < v5.heap.size by omega)
            have hK9 := (hK3.trans (hb4.mono (by have := hB14; omega))).setCell (p := ⟨B14, 2, none⟩) hB14 (.slice xa2 (M + 1) xc2)
            have hz9 : v5.heap.size ≤ (w4.setCell ⟨B14, 2, none⟩ (.slice xa2 (M + 1) xc2)).heap.size := by have := hb4.size; simp; omega
            clear yx3 ho3 hK3 hb4 yx4 e2 e2' f2' ho4
            generalize World.setCell _ _ _ = w9 at *
            have hwz : IntKind.i64.wrap (x + z) = x + z := IntWalk.i64_in _ (by omega)
            go_wp2_with fail
            go_roundg (N - (p + 1))
            case measure => have h := HGP.out; omega
            case rel =>
              refine ⟨p + 1, ws ++ [z], .slice xa2 (M + 1) xc2, by omega, by omega, rfl, ?_, by go_num, ?_, hid (HW.out.snoc HT2.out hzl hzh), z9, ?_, hK9, hz9⟩
              · rw [List.sum_append, HX.out]; simp
              · rw [List.length_append, HM.out]; simp; omega
              · rw [List.length_append, HM.out, List.map_append]; exact o9
          · obtain rfl : p = N := by omega
            have hpp : ¬ (p : Int) < (p : Int) := by omega
            have hW := HW.out
            rw [← HK1.out] at hW
            have hu : NumsAt wr (.slice ua M uc) ws := numsAt_of_owns (choseW_i64 HLK.out (fun s hs => List.mem_of_mem_drop hs) HW.out) (by rw [HM.out]; exact ho)
            have hcv := ck_val HOK.out HS.out hbe1 hbe2 hW (by rw [HN.out, HM.out]; have h9 : k + 1 = K1 := HK1.out; omega)
            have hlw : ws.length + (k + 1) = l.length := by rw [HN.out, HM.out]; have h9 : k + 1 = K1 := HK1.out; omega
            have HW2 := hid hW; have HLW := hid hlw; rw [HX.out] at hcv; have HCV := hid hcv; clear hW hlw hcv
            have x0 := (yx 0 _ rfl).1; have x1 := (yx 1 _ rfl).1; have x2 := (yx 2 _ rfl).1
            by_cases hgt : be < x
            · have HC9 : Hid (ckBr lo hi l (k : Int) be ws = 0) := hid (HCV.out.trans (if_pos hgt))
              have HT9 := hid (told_yes HZ1.out HT.out HS.out hbe1 HW2.out HLW.out (by rw [HX.out]; exact hgt))
              clear HCV
              go_upto_region 22 with fail
              refine wp_region_Rs [(2, fun v _ => v = .int .i64 0)] [0, 1, 2, 3, 4, 5, 6, 7, 8] 0 (by kernel_rfl) rfl (by simp only [List.forall_mem_cons]; exact ⟨keeps_eq, fun _ h => by cases h⟩) (by kernel_rfl) ?_
              simp only [numbered, List.filterMap_cons, List.filterMap_nil, List.getElem?_toArray, List.getElem?_cons_succ, List.getElem?_cons_zero, Option.map_some]
              show wpS _ _ _ _ _ _ _ [(_, _), (_, _), (_, _), (_, _), (_, _), (_, _), (_, _), (_, _), (_, _)] _ _
              (refine wpS_quiet rfl rfl ?_; intro K hK inst hx; have s0 := fun x => (fun _ => bkeep (BQ.below x) q0) (hx x); have s1 := fun x => (fun _ => bkeep (BQ.below x) q1) (hx x); have s2 := fun x => (fun _ => bkeep (BQ.below x) q2) (hx x); have s3 := fun x => (fun _ => bkeep (BQ.below x) x0) (hx x); have s4 := fun x => (fun _ => bkeep (BQ.below x) x1) (hx x); have s5 := fun x => (fun _ => bkeep (BQ.below x) x2) (hx x); go_big_quiet_op; (first | go_big_quiet_on | (refine ⟨_, fun _ => rfl, ?_⟩; go_big_quiet_on)); clear hx inst)
              (refine wpS_quiet rfl rfl ?_; intro K hK inst hx; have s0 := fun x => (fun _ => bkeep (BQ.below x) q0) (hx x); have s1 := fun x => (fun _ => bkeep (BQ.below x) q1) (hx x); have s2 := fun x => (fun _ => bkeep (BQ.below x) q2) (hx x); have s3 := fun x => (fun _ => bkeep (BQ.below x) x0) (hx x); have s4 := fun x => (fun _ => bkeep (BQ.below x) x1) (hx x); have s5 := fun x => (fun _ => bkeep (BQ.below x) x2) (hx x); go_big_quiet_op; (first | go_big_quiet_on | (refine ⟨_, fun _ => rfl, ?_⟩; go_big_quiet_on)); clear hx inst)
              refine wpS_fresh rfl rfl (fun w' hb hF => ?_) ?_
              · change freshAt _ _ _ (fun v _ => v = .int .i64 0) _; unfold freshAt; go_simp; exact ckBr_any (hlr.below hb) (hu.below hb) HC9.out
              intro v W hv; simp only [pOf, List.lookup_cons, Nat.reduceBEq, beq_self_eq_true] at hv; subst hv
              simp only [Act.put, List.setIfInBounds_toArray, List.set_cons_succ, List.set_cons_zero]
              (refine wpS_quiet rfl rfl ?_; intro K hK inst hx; have s0 := fun x => (fun _ => bkeep (BQ.below x) q0) (hx x); have s1 := fun x => (fun _ => bkeep (BQ.below x) q1) (hx x); have s2 := fun x => (fun _ => bkeep (BQ.below x) q2) (hx x); have s3 := fun x => (fun _ => bkeep (BQ.below x) x0) (hx x); have s4 := fun x => (fun _ => bkeep (BQ.below x) x1) (hx x); have s5 := fun x => (fun _ => bkeep (BQ.below x) x2) (hx x); go_big_quiet_op; (first | go_big_quiet_on | (refine ⟨_, fun _ => rfl, ?_⟩; go_big_quiet_on)); clear hx inst)
              (refine wpS_quiet rfl rfl ?_; intro K hK inst hx; have s0 := fun x => (fun _ => bkeep (BQ.below x) q0) (hx x); have s1 := fun x => (fun _ => bkeep (BQ.below x) q1) (hx x); have s2 := fun x => (fun _ => bkeep (BQ.below x) q2) (hx x); have s3 := fun x => (fun _ => bkeep (BQ.below x) x0) (hx x); have s4 := fun x => (fun _ => bkeep (BQ.below x) x1) (hx x); have s5 := fun x => (fun _ => bkeep (BQ.below x) x2) (hx x); go_big_quiet_op; (first | go_big_quiet_on | (refine ⟨_, fun _ => rfl, ?_⟩; go_big_quiet_on)); clear hx inst)
              (refine wpS_quiet rfl rfl ?_; intro K hK inst hx; have s0 := fun x => (fun _ => bkeep (BQ.below x) q0) (hx x); have s1 := fun x => (fun _ => bkeep (BQ.below x) q1) (hx x); have s2 := fun x => (fun _ => bkeep (BQ.below x) q2) (hx x); have s3 := fun x => (fun _ => bkeep (BQ.below x) x0) (hx x); have s4 := fun x => (fun _ => bkeep (BQ.below x) x1) (hx x); have s5 := fun x => (fun _ => bkeep (BQ.below x) x2) (hx x); go_big_quiet_op; (first | go_big_quiet_on | (refine ⟨_, fun _ => rfl, ?_⟩; go_big_quiet_on)); clear hx inst)
              (refine wpS_quiet rfl rfl ?_; intro K hK inst hx; have s0 := fun x => (fun _ => bkeep (BQ.below x) q0) (hx x); have s1 := fun x => (fun _ => bkeep (BQ.below x) q1) (hx x); have s2 := fun x => (fun _ => bkeep (BQ.below x) q2) (hx x); have s3 := fun x => (fun _ => bkeep (BQ.below x) x0) (hx x); have s4 := fun x => (fun _ => bkeep (BQ.below x) x1) (hx x); have s5 := fun x => (fun _ => bkeep (BQ.below x) x2) (hx x); go_big_quiet_op; (first | go_big_quiet_on | (refine ⟨_, fun _ => rfl, ?_⟩; go_big_quiet_on)); clear hx inst)
              (refine wpS_quiet rfl rfl ?_; intro K hK inst hx; have s0 := fun x => (fun _ => bkeep (BQ.below x) q0) (hx x); have s1 := fun x => (fun _ => bkeep (BQ.below x) q1) (hx x); have s2 := fun x => (fun _ => bkeep (BQ.below x) q2) (hx x); have s3 := fun x => (fun _ => bkeep (BQ.below x) x0) (hx x); have s4 := fun x => (fun _ => bkeep (BQ.below x) x1) (hx x); have s5 := fun x => (fun _ => bkeep (BQ.below x) x2) (hx x); go_big_quiet_op; (first | go_big_quiet_on | (refine ⟨_, fun _ => rfl, ?_⟩; go_big_quiet_on)); clear hx inst)
              (refine wpS_quiet rfl rfl ?_; intro K hK inst hx; have s0 := fun x => (fun _ => bkeep (BQ.below x) q0) (hx x); have s1 := fun x => (fun _ => bkeep (BQ.below x) q1) (hx x); have s2 := fun x => (fun _ => bkeep (BQ.below x) q2) (hx x); have s3 := fun x => (fun _ => bkeep (BQ.below x) x0) (hx x); have s4 := fun x => (fun _ => bkeep (BQ.below x) x1) (hx x); have s5 := fun x => (fun _ => bkeep (BQ.below x) x2) (hx x); go_big_quiet_op; (first | go_big_quiet_on | (refine ⟨_, fun _ => rfl, ?_⟩; go_big_quiet_on)); clear hx inst)
              refine wpS_nil ?_
              intro w3 hall
              have hb := hall.1
              skip
              have hb5 := bnext (w := vr) hK5 hb
              have hb6 := bnext (w := v9) hK9 hb5
              clear hall hb5 hb x0 x1 x2 q0 q1 q2
              refine wpAny_done (by kernel_rfl) ?_ _
              go_wp2_with fail
              go_roundg (p - (k + 1))
              case measure => have h := HGK.out; omega
              case rel => exact ⟨k + 1, true, by omega, rfl, rfl, by go_num, HT9, hb6⟩
            · have HC9 : Hid (ckBr lo hi l (k : Int) be ws = 35) := hid (HCV.out.trans (if_neg hgt))
              have HT9 := hid (told_no HZ1.out HT.out HS.out hbe2 HW2.out HLW.out (by rw [HX.out]; exact hgt))
              clear HCV
              go_upto_region 22 with fail
              refine wp_region_Rs [(2, fun v _ => v = .int .i64 35)] [0, 1, 2, 3, 4, 5, 6, 7, 8] 0 (by kernel_rfl) rfl (by simp only [List.forall_mem_cons]; exact ⟨keeps_eq, fun _ h => by cases h⟩) (by kernel_rfl) ?_
              simp only [numbered, List.filterMap_cons, List.filterMap_nil, List.getElem?_toArray, List.getElem?_cons_succ, List.getElem?_cons_zero, Option.map_some]
              show wpS _ _ _ _ _ _ _ [(_, _), (_, _), (_, _), (_, _), (_, _), (_, _), (_, _), (_, _), (_, _)] _ _
              (refine wpS_quiet rfl rfl ?_; intro K hK inst hx; have s0 := fun x => (fun _ => bkeep (BQ.below x) q0) (hx x); have s1 := fun x => (fun _ => bkeep (BQ.below x) q1) (hx x); have s2 := fun x => (fun _ => bkeep (BQ.below x) q2) (hx x); have s3 := fun x => (fun _ => bkeep (BQ.below x) x0) (hx x); have s4 := fun x => (fun _ => bkeep (BQ.below x) x1) (hx x); have s5 := fun x => (fun _ => bkeep (BQ.below x) x2) (hx x); go_big_quiet_op; (first | go_big_quiet_on | (refine ⟨_, fun _ => rfl, ?_⟩; go_big_quiet_on)); clear hx inst)
              (refine wpS_quiet rfl rfl ?_; intro K hK inst hx; have s0 := fun x => (fun _ => bkeep (BQ.below x) q0) (hx x); have s1 := fun x => (fun _ => bkeep (BQ.below x) q1) (hx x); have s2 := fun x => (fun _ => bkeep (BQ.below x) q2) (hx x); have s3 := fun x => (fun _ => bkeep (BQ.below x) x0) (hx x); have s4 := fun x => (fun _ => bkeep (BQ.below x) x1) (hx x); have s5 := fun x => (fun _ => bkeep (BQ.below x) x2) (hx x); go_big_quiet_op; (first | go_big_quiet_on | (refine ⟨_, fun _ => rfl, ?_⟩; go_big_quiet_on)); clear hx inst)
              refine wpS_fresh rfl rfl (fun w' hb hF => ?_) ?_
              · change freshAt _ _ _ (fun v _ => v = .int .i64 35) _; unfold freshAt; go_simp; exact ckBr_any (hlr.below hb) (hu.below hb) HC9.out
              intro v W hv; simp only [pOf, List.lookup_cons, Nat.reduceBEq, beq_self_eq_true] at hv; subst hv
              simp only [Act.put, List.setIfInBounds_toArray, List.set_cons_succ, List.set_cons_zero]
              (refine wpS_quiet rfl rfl ?_; intro K hK inst hx; have s0 := fun x => (fun _ => bkeep (BQ.below x) q0) (hx x); have s1 := fun x => (fun _ => bkeep (BQ.below x) q1) (hx x); have s2 := fun x => (fun _ => bkeep (BQ.below x) q2) (hx x); have s3 := fun x => (fun _ => bkeep (BQ.below x) x0) (hx x); have s4 := fun x => (fun _ => bkeep (BQ.below x) x1) (hx x); have s5 := fun x => (fun _ => bkeep (BQ.below x) x2) (hx x); go_big_quiet_op; (first | go_big_quiet_on | (refine ⟨_, fun _ => rfl, ?_⟩; go_big_quiet_on)); clear hx inst)
              (refine wpS_quiet rfl rfl ?_; intro K hK inst hx; have s0 := fun x => (fun _ => bkeep (BQ.below x) q0) (hx x); have s1 := fun x => (fun _ => bkeep (BQ.below x) q1) (hx x); have s2 := fun x => (fun _ => bkeep (BQ.below x) q2) (hx x); have s3 := fun x => (fun _ => bkeep (BQ.below x) x0) (hx x); have s4 := fun x => (fun _ => bkeep (BQ.below x) x1) (hx x); have s5 := fun x => (fun _ => bkeep (BQ.below x) x2) (hx x); go_big_quiet_op; (first | go_big_quiet_on | (refine ⟨_, fun _ => rfl, ?_⟩; go_big_quiet_on)); clear hx inst)
              (refine wpS_quiet rfl rfl ?_; intro K hK inst hx; have s0 := fun x => (fun _ => bkeep (BQ.below x) q0) (hx x); have s1 := fun x => (fun _ => bkeep (BQ.below x) q1) (hx x); have s2 := fun x => (fun _ => bkeep (BQ.below x) q2) (hx x); have s3 := fun x => (fun _ => bkeep (BQ.below x) x0) (hx x); have s4 := fun x => (fun _ => bkeep (BQ.below x) x1) (hx x); have s5 := fun x => (fun _ => bkeep (BQ.below x) x2) (hx x); go_big_quiet_op; (first | go_big_quiet_on | (refine ⟨_, fun _ => rfl, ?_⟩; go_big_quiet_on)); clear hx inst)
              (refine wpS_quiet rfl rfl ?_; intro K hK inst hx; have s0 := fun x => (fun _ => bkeep (BQ.below x) q0) (hx x); have s1 := fun x => (fun _ => bkeep (BQ.below x) q1) (hx x); have s2 := fun x => (fun _ => bkeep (BQ.below x) q2) (hx x); have s3 := fun x => (fun _ => bkeep (BQ.below x) x0) (hx x); have s4 := fun x => (fun _ => bkeep (BQ.below x) x1) (hx x); have s5 := fun x => (fun _ => bkeep (BQ.below x) x2) (hx x); go_big_quiet_op; (first | go_big_quiet_on | (refine ⟨_, fun _ => rfl, ?_⟩; go_big_quiet_on)); clear hx inst)
              (refine wpS_quiet rfl rfl ?_; intro K hK inst hx; have s0 := fun x => (fun _ => bkeep (BQ.below x) q0) (hx x); have s1 := fun x => (fun _ => bkeep (BQ.below x) q1) (hx x); have s2 := fun x => (fun _ => bkeep (BQ.below x) q2) (hx x); have s3 := fun x => (fun _ => bkeep (BQ.below x) x0) (hx x); have s4 := fun x => (fun _ => bkeep (BQ.below x) x1) (hx x); have s5 := fun x => (fun _ => bkeep (BQ.below x) x2) (hx x); go_big_quiet_op; (first | go_big_quiet_on | (refine ⟨_, fun _ => rfl, ?_⟩; go_big_quiet_on)); clear hx inst)
              (refine wpS_quiet rfl rfl ?_; intro K hK inst hx; have s0 := fun x => (fun _ => bkeep (BQ.below x) q0) (hx x); have s1 := fun x => (fun _ => bkeep (BQ.below x) q1) (hx x); have s2 := fun x => (fun _ => bkeep (BQ.below x) q2) (hx x); have s3 := fun x => (fun _ => bkeep (BQ.below x) x0) (hx x); have s4 := fun x => (fun _ => bkeep (BQ.below x) x1) (hx x); have s5 := fun x => (fun _ => bkeep (BQ.below x) x2) (hx x); go_big_quiet_op; (first | go_big_quiet_on | (refine ⟨_, fun _ => rfl, ?_⟩; go_big_quiet_on)); clear hx inst)
              refine wpS_nil ?_
              intro w3 hall
              have hb := hall.1
              skip
              have hb5 := bnext (w := vr) hK5 hb
              have hb6 := bnext (w := v9) hK9 hb5
              clear hall hb5 hb x0 x1 x2 q0 q1 q2
              refine wpAny_done (by kernel_rfl) ?_ _
              go_wp2_with fail
              go_roundg (p - (k + 1))
              case measure => have h := HGK.out; omega
              case rel => exact ⟨k + 1, b, by omega, rfl, rfl, by go_num, HT9, hb6⟩
      · obtain rfl : k = N := by omega
        have hkk : ¬ (k : Int) < (k : Int) := by omega
        have hb0 : z1 = 0 → b = true := fun e => told_end (l := l) (by have h := HT.out; rw [← HZ1.out] at h; rw [HN.out]; exact h) (HZ1.out.trans e)
        have h3 := stA_three l
        rw [HZ1.out] at h3
        rcases h3 with h3 | h3 | h3
        · obtain rfl : b = true := hb0 h3
          clear hb0
          subst h3
          go_wp2_with fail
          go_ret
          exact ⟨rfl, hB⟩
        · exact absurd h3 HZN.out
        · clear hb0
          subst h3
          cases b
          · go_wp2_with fail
            go_ret
            exact ⟨rfl, hB⟩
          · go_wp2_with fail
            go_ret
            exact ⟨rfl, hB⟩

end Go.Proofs.Ytnchhleokdkejaa
