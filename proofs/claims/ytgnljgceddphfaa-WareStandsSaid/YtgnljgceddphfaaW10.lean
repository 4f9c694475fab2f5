/- The law WareMoulds: whatever the arguments, it returns true; below the blocks that were there nothing turns. -/
import Derived.Test.YtgnljgceddphfaaW8
import Derived.Test.YtgnljgceddphfaaM1
import Derived.Test.YtgnljgceddphfaaP2
namespace Go.Proofs.Ytgnljgceddphfaa
open Go.RowKit Go.Pb Go.Pb.Ware
set_option linter.unusedVariables false
set_option linter.unusedSimpArgs false

theorem mould_eq {id sl sh ll lh hl hh a b x y z : Int} {w : World} (h : mould ⟨id, ⟨sl, sh⟩, ⟨ll, lh⟩, ⟨hl, hh⟩⟩ ⟨a, b⟩ = (⟨x, y⟩, z)) :
    Calls Try.prog 27 #[.agg #[.int .i64 id, .int .i64 sl, .int .i64 sh, .int .i64 ll, .int .i64 lh, .int .i64 hl, .int .i64 hh], .agg #[.int .i64 a, .int .i64 b]] w (Ret w (.tuple #[.agg #[.int .i64 x, .int .i64 y], .int .i64 z])) := by
  have := @mould_any id sl sh ll lh hl hh a b w; rw [h] at this; exact this
theorem shrunk_eq {id sl sh ll lh hl hh a b x y z : Int} {w : World} (h : shrunk ⟨id, ⟨sl, sh⟩, ⟨ll, lh⟩, ⟨hl, hh⟩⟩ ⟨a, b⟩ = (⟨x, y⟩, z)) :
    Calls Try.prog 23 #[.agg #[.int .i64 id, .int .i64 sl, .int .i64 sh, .int .i64 ll, .int .i64 lh, .int .i64 hl, .int .i64 hh], .agg #[.int .i64 a, .int .i64 b]] w (Ret w (.tuple #[.agg #[.int .i64 x, .int .i64 y], .int .i64 z])) := by
  have := @shrunk_any id sl sh ll lh hl hh a b w; rw [h] at this; exact this

set_option maxRecDepth 100000 in
set_option maxHeartbeats 8000000 in
theorem wareMoulds_walk {v : Value} {zs : List Int} {d0 d1 n : Int} {w : World} (hs : IntsAt w v zs) :
    Calls Try.prog 8 #[v, .agg #[.int .i64 d0, .int .i64 d1], .int .i64 n] w (Ret w (.bool true)) := by
  unfold Ret
  go_enter Try.func8, Try.ntmps8
  go_wp2_with fail
  refine (madeBody_any (zs := zs) (by first | exact hs | exact hs.below (by go_grown))).mono ?_
  rintro e w1 ⟨sl, sh, ll, lh, hl, hh, rfl, T1, T2, T3, hb⟩
  replace hb0 := bnext (w := w) (by go_grown) hb; have hz := hb.size; (try simp only [World.size_alloc, World.size_setCell] at hz); replace q0 : w1.cell? ⟨w.heap.size, 0, none⟩ = some (.int .i64 d0) := bkeep hb (by first | (with_reducible exact q0) | (with_reducible exact akeep q0) | simp [*, go_sem]); replace q1 : w1.cell? ⟨w.heap.size, 1, none⟩ = some (.int .i64 d1) := bkeep hb (by first | (with_reducible exact q1) | (with_reducible exact akeep q1) | simp [*, go_sem]); clear hb
  obtain ⟨v1, hv1⟩ : ∃ v, v = w1 := ⟨_, rfl⟩
  subst hv1
  go_wp2_with fail
  refine (span_any (by omega) (by omega) (by omega) (by omega) (by omega)).mono ?_
  rintro e w1 ⟨rfl, hb⟩
  replace hb0 := bnext (w := w) (by go_grown) hb; have hz := hb.size; (try simp only [World.size_alloc, World.size_setCell] at hz); replace q0 : w1.cell? ⟨w.heap.size, 0, none⟩ = some (.int .i64 d0) := bkeep hb (by first | (with_reducible exact q0) | (with_reducible exact akeep q0) | simp [*, go_sem]); replace q1 : w1.cell? ⟨w.heap.size, 1, none⟩ = some (.int .i64 d1) := bkeep hb (by first | (with_reducible exact q1) | (with_reducible exact akeep q1) | simp [*, go_sem]); replace q2 : w1.cell? ⟨v1.heap.size, 0, none⟩ = some (.int .i64 1) := bkeep hb (by first | (with_reducible exact q2) | (with_reducible exact akeep q2) | simp [*, go_sem]); replace q3 : w1.cell? ⟨v1.heap.size, 1, none⟩ = some (.int .i64 sl) := bkeep hb (by first | (with_reducible exact q3) | (with_reducible exact akeep q3) | simp [*, go_sem]); replace q4 : w1.cell? ⟨v1.heap.size, 2, none⟩ = some (.int .i64 sh) := bkeep hb (by first | (with_reducible exact q4) | (with_reducible exact akeep q4) | simp [*, go_sem]); replace q5 : w1.cell? ⟨v1.heap.size, 3, none⟩ = some (.int .i64 ll) := bkeep hb (by first | (with_reducible exact q5) | (with_reducible exact akeep q5) | simp [*, go_sem]); replace q6 : w1.cell? ⟨v1.heap.size, 4, none⟩ = some (.int .i64 lh) := bkeep hb (by first | (with_reducible exact q6) | (with_reducible exact akeep q6) | simp [*, go_sem]); replace q7 : w1.cell? ⟨v1.heap.size, 5, none⟩ = some (.int .i64 hl) := bkeep hb (by first | (with_reducible exact q7) | (with_reducible exact akeep q7) | simp [*, go_sem]); replace q8 : w1.cell? ⟨v1.heap.size, 6, none⟩ = some (.int .i64 hh) := bkeep hb (by first | (with_reducible exact q8) | (with_reducible exact akeep q8) | simp [*, go_sem]); clear hb
  obtain ⟨v2, hv2⟩ : ∃ v, v = w1 := ⟨_, rfl⟩
  subst hv2
  have D := span_bd (a := d0) (b := d1) (l0 := 0) (l1 := 60) (l2 := 2000) (by omega) (by omega) (by omega)
  generalize spanLo d0 0 2000 = dl at *
  generalize spanHi d0 d1 0 60 2000 = dh at *
  have hB : boOk ⟨1, ⟨sl, sh⟩, ⟨ll, lh⟩, ⟨hl, hh⟩⟩ = true := boOk_iff.2 (by dsimp only; omega)
  have hR : rgOk ⟨dl, dh⟩ 0 2000 = true := rgOk_iff.2 (by dsimp only; omega)
  by_cases hm : mouldLo ⟨1, ⟨sl, sh⟩, ⟨ll, lh⟩, ⟨hl, hh⟩⟩ ⟨dl, dh⟩ ≤ mouldHi ⟨1, ⟨sl, sh⟩, ⟨ll, lh⟩, ⟨hl, hh⟩⟩ ⟨dl, dh⟩
  · obtain ⟨c1, c2, c3, c4, c5⟩ := mould_some (d := ⟨dl, dh⟩) hB (show (0:Int) ≤ dl by omega) (show dl ≤ dh by omega) (show dh ≤ 2000 by omega)
    have hv : mould ⟨1, ⟨sl, sh⟩, ⟨ll, lh⟩, ⟨hl, hh⟩⟩ ⟨dl, dh⟩ = (⟨mouldLo ⟨1, ⟨sl, sh⟩, ⟨ll, lh⟩, ⟨hl, hh⟩⟩ ⟨dl, dh⟩, mouldHi ⟨1, ⟨sl, sh⟩, ⟨ll, lh⟩, ⟨hl, hh⟩⟩ ⟨dl, dh⟩⟩, 0) := by simp only [mould, hB, hR, hm, if_true]
    generalize mouldLo ⟨1, ⟨sl, sh⟩, ⟨ll, lh⟩, ⟨hl, hh⟩⟩ ⟨dl, dh⟩ = m0 at *
    generalize mouldHi ⟨1, ⟨sl, sh⟩, ⟨ll, lh⟩, ⟨hl, hh⟩⟩ ⟨dl, dh⟩ = m1 at *
    dsimp only at c3 c4 c5
    go_wp2_with fail
    refine (mould_eq hv).mono ?_
    rintro e w1 ⟨rfl, hb⟩
    replace hb0 := bnext (w := w) (by go_grown) hb; have hz := hb.size; (try simp only [World.size_alloc, World.size_setCell] at hz); replace q0 : w1.cell? ⟨w.heap.size, 0, none⟩ = some (.int .i64 d0) := bkeep hb (by first | (with_reducible exact q0) | (with_reducible exact akeep q0) | simp [*, go_sem]); replace q1 : w1.cell? ⟨w.heap.size, 1, none⟩ = some (.int .i64 d1) := bkeep hb (by first | (with_reducible exact q1) | (with_reducible exact akeep q1) | simp [*, go_sem]); replace q2 : w1.cell? ⟨v1.heap.size, 0, none⟩ = some (.int .i64 1) := bkeep hb (by first | (with_reducible exact q2) | (with_reducible exact akeep q2) | simp [*, go_sem]); replace q3 : w1.cell? ⟨v1.heap.size, 1, none⟩ = some (.int .i64 sl) := bkeep hb (by first | (with_reducible exact q3) | (with_reducible exact akeep q3) | simp [*, go_sem]); replace q4 : w1.cell? ⟨v1.heap.size, 2, none⟩ = some (.int .i64 sh) := bkeep hb (by first | (with_reducible exact q4) | (with_reducible exact akeep q4) | simp [*, go_sem]); replace q5 : w1.cell? ⟨v1.heap.size, 3, none⟩ = some (.int .i64 ll) := bkeep hb (by first | (with_reducible exact q5) | (with_reducible exact akeep q5) | simp [*, go_sem]); replace q6 : w1.cell? ⟨v1.heap.size, 4, none⟩ = some (.int .i64 lh) := bkeep hb (by first | (with_reducible exact q6) | (with_reducible exact akeep q6) | simp [*, go_sem]); replace q7 : w1.cell? ⟨v1.heap.size, 5, none⟩ = some (.int .i64 hl) := bkeep hb (by first | (with_reducible exact q7) | (with_reducible exact akeep q7) | simp [*, go_sem]); replace q8 : w1.cell? ⟨v1.heap.size, 6, none⟩ = some (.int .i64 hh) := bkeep hb (by first | (with_reducible exact q8) | (with_reducible exact akeep q8) | simp [*, go_sem]); replace q9 : w1.cell? ⟨v2.heap.size, 0, none⟩ = some (.int .i64 dl) := bkeep hb (by first | (with_reducible exact q9) | (with_reducible exact akeep q9) | simp [*, go_sem]); replace q10 : w1.cell? ⟨v2.heap.size, 1, none⟩ = some (.int .i64 dh) := bkeep hb (by first | (with_reducible exact q10) | (with_reducible exact akeep q10) | simp [*, go_sem]); clear hb
    obtain ⟨v3, hv3⟩ : ∃ v, v = w1 := ⟨_, rfl⟩
    subst hv3
    have y0 := Int.emod_nonneg n (b := m1 - m0 + 1) (by omega)
    have y1 := Int.emod_lt_of_pos n (b := m1 - m0 + 1) (by omega)
    go_upto_region 10 with fail
    refine wp_region_qb (by kernel_rfl) (by kernel_rfl) fun hc => ?_
    repeat (go_big_quiet_step ((go_at_call 55; exact BW.call _ (Ret.of_same (mod_any (by omega) (by omega))))))
    (refine wpQuiet_nil ?_; intro w1 hb; replace hb0 := bnext (w := w) (by go_grown) hb; have hz := hb.size; (try simp only [World.size_alloc, World.size_setCell] at hz); replace q0 : w1.cell? ⟨w.heap.size, 0, none⟩ = some (.int .i64 d0) := bkeep hb (by first | (with_reducible exact q0) | (with_reducible exact akeep q0) | simp [*, go_sem]); replace q1 : w1.cell? ⟨w.heap.size, 1, none⟩ = some (.int .i64 d1) := bkeep hb (by first | (with_reducible exact q1) | (with_reducible exact akeep q1) | simp [*, go_sem]); replace q2 : w1.cell? ⟨v1.heap.size, 0, none⟩ = some (.int .i64 1) := bkeep hb (by first | (with_reducible exact q2) | (with_reducible exact akeep q2) | simp [*, go_sem]); replace q3 : w1.cell? ⟨v1.heap.size, 1, none⟩ = some (.int .i64 sl) := bkeep hb (by first | (with_reducible exact q3) | (with_reducible exact akeep q3) | simp [*, go_sem]); replace q4 : w1.cell? ⟨v1.heap.size, 2, none⟩ = some (.int .i64 sh) := bkeep hb (by first | (with_reducible exact q4) | (with_reducible exact akeep q4) | simp [*, go_sem]); replace q5 : w1.cell? ⟨v1.heap.size, 3, none⟩ = some (.int .i64 ll) := bkeep hb (by first | (with_reducible exact q5) | (with_reducible exact akeep q5) | simp [*, go_sem]); replace q6 : w1.cell? ⟨v1.heap.size, 4, none⟩ = some (.int .i64 lh) := bkeep hb (by first | (with_reducible exact q6) | (with_reducible exact akeep q6) | simp [*, go_sem]); replace q7 : w1.cell? ⟨v1.heap.size, 5, none⟩ = some (.int .i64 hl) := bkeep hb (by first | (with_reducible exact q7) | (with_reducible exact akeep q7) | simp [*, go_sem]); replace q8 : w1.cell? ⟨v1.heap.size, 6, none⟩ = some (.int .i64 hh) := bkeep hb (by first | (with_reducible exact q8) | (with_reducible exact akeep q8) | simp [*, go_sem]); replace q9 : w1.cell? ⟨v2.heap.size, 0, none⟩ = some (.int .i64 dl) := bkeep hb (by first | (with_reducible exact q9) | (with_reducible exact akeep q9) | simp [*, go_sem]); replace q10 : w1.cell? ⟨v2.heap.size, 1, none⟩ = some (.int .i64 dh) := bkeep hb (by first | (with_reducible exact q10) | (with_reducible exact akeep q10) | simp [*, go_sem]); replace q11 : w1.cell? ⟨v3.heap.size, 0, none⟩ = some (.int .i64 m0) := bkeep hb (by first | (with_reducible exact q11) | (with_reducible exact akeep q11) | simp [*, go_sem]); replace q12 : w1.cell? ⟨v3.heap.size, 1, none⟩ = some (.int .i64 m1) := bkeep hb (by first | (with_reducible exact q12) | (with_reducible exact akeep q12) | simp [*, go_sem]); clear hb)
    obtain ⟨v4, hv4⟩ : ∃ v, v = w1 := ⟨_, rfl⟩
    subst hv4
    generalize hx : m0 + n % (m1 - m0 + 1) = x at *
    obtain ⟨r1, r2⟩ := c3 x (by omega) (by omega)
    have hR2 : rgOk ⟨x, x⟩ 0 2000 = true := rgOk_iff.2 (by dsimp only; omega)
    have hv2 : shrunk ⟨1, ⟨sl, sh⟩, ⟨ll, lh⟩, ⟨hl, hh⟩⟩ ⟨x, x⟩ = (⟨(becomes ⟨x, x⟩ ⟨sl, sh⟩).lo, (becomes ⟨x, x⟩ ⟨sl, sh⟩).hi⟩, 0) := by simp only [shrunk, hB, hR2, if_true]
    generalize (becomes ⟨x, x⟩ ⟨sl, sh⟩).lo = s0 at *
    generalize (becomes ⟨x, x⟩ ⟨sl, sh⟩).hi = s1 at *
    go_wp2_with fail
    refine (shrunk_eq hv2).mono ?_
    rintro e w1 ⟨rfl, hb⟩
    replace hb0 := bnext (w := w) (by go_grown) hb; have hz := hb.size; (try simp only [World.size_alloc, World.size_setCell] at hz); replace q0 : w1.cell? ⟨w.heap.size, 0, none⟩ = some (.int .i64 d0) := bkeep hb (by first | (with_reducible exact q0) | (with_reducible exact akeep q0) | simp [*, go_sem]); replace q1 : w1.cell? ⟨w.heap.size, 1, none⟩ = some (.int .i64 d1) := bkeep hb (by first | (with_reducible exact q1) | (with_reducible exact akeep q1) | simp [*, go_sem]); replace q2 : w1.cell? ⟨v1.heap.size, 0, none⟩ = some (.int .i64 1) := bkeep hb (by first | (with_reducible exact q2) | (with_reducible exact akeep q2) | simp [*, go_sem]); replace q3 : w1.cell? ⟨v1.heap.size, 1, none⟩ = some (.int .i64 sl) := bkeep hb (by first | (with_reducible exact q3) | (with_reducible exact akeep q3) | simp [*, go_sem]); replace q4 : w1.cell? ⟨v1.heap.size, 2, none⟩ = some (.int .i64 sh) := bkeep hb (by first | (with_reducible exact q4) | (with_reducible exact akeep q4) | simp [*, go_sem]); replace q5 : w1.cell? ⟨v1.heap.size, 3, none⟩ = some (.int .i64 ll) := bkeep hb (by first | (with_reducible exact q5) | (with_reducible exact akeep q5) | simp [*, go_sem]); replace q6 : w1.cell? ⟨v1.heap.size, 4, none⟩ = some (.int .i64 lh) := bkeep hb (by first | (with_reducible exact q6) | (with_reducible exact akeep q6) | simp [*, go_sem]); replace q7 : w1.cell? ⟨v1.heap.size, 5, none⟩ = some (.int .i64 hl) := bkeep hb (by first | (with_reducible exact q7) | (with_reducible exact akeep q7) | simp [*, go_sem]); replace q8 : w1.cell? ⟨v1.heap.size, 6, none⟩ = some (.int .i64 hh) := bkeep hb (by first | (with_reducible exact q8) | (with_reducible exact akeep q8) | simp [*, go_sem]); replace q9 : w1.cell? ⟨v2.heap.size, 0, none⟩ = some (.int .i64 dl) := bkeep hb (by first | (with_reducible exact q9) | (with_reducible exact akeep q9) | simp [*, go_sem]); replace q10 : w1.cell? ⟨v2.heap.size, 1, none⟩ = some (.int .i64 dh) := bkeep hb (by first | (with_reducible exact q10) | (with_reducible exact akeep q10) | simp [*, go_sem]); replace q11 : w1.cell? ⟨v3.heap.size, 0, none⟩ = some (.int .i64 m0) := bkeep hb (by first | (with_reducible exact q11) | (with_reducible exact akeep q11) | simp [*, go_sem]); replace q12 : w1.cell? ⟨v3.heap.size, 1, none⟩ = some (.int .i64 m1) := bkeep hb (by first | (with_reducible exact q12) | (with_reducible exact akeep q12) | simp [*, go_sem]); clear hb
    obtain ⟨v5, hv5⟩ : ∃ v, v = w1 := ⟨_, rfl⟩
    subst hv5
    clear c3 hv hv2 hx hc hR hR2 hB
    rcases Int.lt_or_le 0 m0 with z0 | z0
    · have p0 := mul_bd (m0 - 1) (1000 - sh) 2000 1000 (by omega) (by omega) (by omega) (by omega)
      by_cases z1 : m1 = 2000
      · go_wp2_with ((go_at_call 22; refine (sane_any).mono ?_; rintro e w1 ⟨rfl, hb⟩; replace hb0 := bnext (w := w) (by go_grown) hb; have hz := hb.size; (try simp only [World.size_alloc, World.size_setCell] at hz); clear hb))
        all_goals go_ret
        all_goals exact ⟨rfl, by go_grown⟩
      · have p1 := mul_bd (m1 + 1) (1000 - sl) 2001 1000 (by omega) (by omega) (by omega) (by omega)
        have c6 : 1000 * dh < (m1 + 1) * (1000 - sl) := by omega
        go_wp2_with ((go_at_call 22; refine (sane_any).mono ?_; rintro e w1 ⟨rfl, hb⟩; replace hb0 := bnext (w := w) (by go_grown) hb; have hz := hb.size; (try simp only [World.size_alloc, World.size_setCell] at hz); clear hb))
        all_goals go_ret
        all_goals exact ⟨rfl, by go_grown⟩
    · have z2 : m0 = 0 := by omega
      by_cases z1 : m1 = 2000
      · go_wp2_with ((go_at_call 22; refine (sane_any).mono ?_; rintro e w1 ⟨rfl, hb⟩; replace hb0 := bnext (w := w) (by go_grown) hb; have hz := hb.size; (try simp only [World.size_alloc, World.size_setCell] at hz); clear hb))
        all_goals go_ret
        all_goals exact ⟨rfl, by go_grown⟩
      · have p1 := mul_bd (m1 + 1) (1000 - sl) 2001 1000 (by omega) (by omega) (by omega) (by omega)
        have c6 : 1000 * dh < (m1 + 1) * (1000 - sl) := by omega
        go_wp2_with ((go_at_call 22; refine (sane_any).mono ?_; rintro e w1 ⟨rfl, hb⟩; replace hb0 := bnext (w := w) (by go_grown) hb; have hz := hb.size; (try simp only [World.size_alloc, World.size_setCell] at hz); clear hb))
        all_goals go_ret
        all_goals exact ⟨rfl, by go_grown⟩
  · have hv : mould ⟨1, ⟨sl, sh⟩, ⟨ll, lh⟩, ⟨hl, hh⟩⟩ ⟨dl, dh⟩ = (⟨0, 0⟩, 3) := by simp only [mould, hB, hR, hm, if_true, if_false, zRg]
    have y0 := Int.emod_nonneg n (b := 2001) (by omega)
    have y1 := Int.emod_lt_of_pos n (b := 2001) (by omega)
    have c3 := mould_none (d := ⟨dl, dh⟩) (x := n % 2001) hB (show (0:Int) ≤ dl by omega) (show dl ≤ dh by omega) (show dh ≤ 2000 by omega) (by omega) (by omega) hm
    have hR2 : rgOk ⟨n % 2001, n % 2001⟩ 0 2000 = true := rgOk_iff.2 (by dsimp only; omega)
    have hv2 : shrunk ⟨1, ⟨sl, sh⟩, ⟨ll, lh⟩, ⟨hl, hh⟩⟩ ⟨n % 2001, n % 2001⟩ = (⟨(becomes ⟨n % 2001, n % 2001⟩ ⟨sl, sh⟩).lo, (becomes ⟨n % 2001, n % 2001⟩ ⟨sl, sh⟩).hi⟩, 0) := by simp only [shrunk, hB, hR2, if_true]
    dsimp only at c3
    generalize (becomes ⟨n % 2001, n % 2001⟩ ⟨sl, sh⟩).lo = s0 at *
    generalize (becomes ⟨n % 2001, n % 2001⟩ ⟨sl, sh⟩).hi = s1 at *
    go_wp2_with fail
    refine (mould_eq hv).mono ?_
    rintro e w1 ⟨rfl, hb⟩
    replace hb0 := bnext (w := w) (by go_grown) hb; have hz := hb.size; (try simp only [World.size_alloc, World.size_setCell] at hz); replace q0 : w1.cell? ⟨w.heap.size, 0, none⟩ = some (.int .i64 d0) := bkeep hb (by first | (with_reducible exact q0) | (with_reducible exact akeep q0) | simp [*, go_sem]); replace q1 : w1.cell? ⟨w.heap.size, 1, none⟩ = some (.int .i64 d1) := bkeep hb (by first | (with_reducible exact q1) | (with_reducible exact akeep q1) | simp [*, go_sem]); replace q2 : w1.cell? ⟨v1.heap.size, 0, none⟩ = some (.int .i64 1) := bkeep hb (by first | (with_reducible exact q2) | (with_reducible exact akeep q2) | simp [*, go_sem]); replace q3 : w1.cell? ⟨v1.heap.size, 1, none⟩ = some (.int .i64 sl) := bkeep hb (by first | (with_reducible exact q3) | (with_reducible exact akeep q3) | simp [*, go_sem]); replace q4 : w1.cell? ⟨v1.heap.size, 2, none⟩ = some (.int .i64 sh) := bkeep hb (by first | (with_reducible exact q4) | (with_reducible exact akeep q4) | simp [*, go_sem]); replace q5 : w1.cell? ⟨v1.heap.size, 3, none⟩ = some (.int .i64 ll) := bkeep hb (by first | (with_reducible exact q5) | (with_reducible exact akeep q5) | simp [*, go_sem]); replace q6 : w1.cell? ⟨v1.heap.size, 4, none⟩ = some (.int .i64 lh) := bkeep hb (by first | (with_reducible exact q6) | (with_reducible exact akeep q6) | simp [*, go_sem]); replace q7 : w1.cell? ⟨v1.heap.size, 5, none⟩ = some (.int .i64 hl) := bkeep hb (by first | (with_reducible exact q7) | (with_reducible exact akeep q7) | simp [*, go_sem]); replace q8 : w1.cell? ⟨v1.heap.size, 6, none⟩ = some (.int .i64 hh) := bkeep hb (by first | (with_reducible exact q8) | (with_reducible exact akeep q8) | simp [*, go_sem]); replace q9 : w1.cell? ⟨v2.heap.size, 0, none⟩ = some (.int .i64 dl) := bkeep hb (by first | (with_reducible exact q9) | (with_reducible exact akeep q9) | simp [*, go_sem]); replace q10 : w1.cell? ⟨v2.heap.size, 1, none⟩ = some (.int .i64 dh) := bkeep hb (by first | (with_reducible exact q10) | (with_reducible exact akeep q10) | simp [*, go_sem]); clear hb
    obtain ⟨v3, hv3⟩ : ∃ v, v = w1 := ⟨_, rfl⟩
    subst hv3
    go_wp2_with fail
    refine (mod_any (by omega) (by omega)).mono ?_
    rintro e w1 ⟨rfl, rfl⟩
    go_wp2_with fail
    refine (shrunk_eq hv2).mono ?_
    rintro e w1 ⟨rfl, hb⟩
    replace hb0 := bnext (w := w) (by go_grown) hb; have hz := hb.size; (try simp only [World.size_alloc, World.size_setCell] at hz); replace q0 : w1.cell? ⟨w.heap.size, 0, none⟩ = some (.int .i64 d0) := bkeep hb (by first | (with_reducible exact q0) | (with_reducible exact akeep q0) | simp [*, go_sem]); replace q1 : w1.cell? ⟨w.heap.size, 1, none⟩ = some (.int .i64 d1) := bkeep hb (by first | (with_reducible exact q1) | (with_reducible exact akeep q1) | simp [*, go_sem]); replace q2 : w1.cell? ⟨v1.heap.size, 0, none⟩ = some (.int .i64 1) := bkeep hb (by first | (with_reducible exact q2) | (with_reducible exact akeep q2) | simp [*, go_sem]); replace q3 : w1.cell? ⟨v1.heap.size, 1, none⟩ = some (.int .i64 sl) := bkeep hb (by first | (with_reducible exact q3) | (with_reducible exact akeep q3) | simp [*, go_sem]); replace q4 : w1.cell? ⟨v1.heap.size, 2, none⟩ = some (.int .i64 sh) := bkeep hb (by first | (with_reducible exact q4) | (with_reducible exact akeep q4) | simp [*, go_sem]); replace q5 : w1.cell? ⟨v1.heap.size, 3, none⟩ = some (.int .i64 ll) := bkeep hb (by first | (with_reducible exact q5) | (with_reducible exact akeep q5) | simp [*, go_sem]); replace q6 : w1.cell? ⟨v1.heap.size, 4, none⟩ = some (.int .i64 lh) := bkeep hb (by first | (with_reducible exact q6) | (with_reducible exact akeep q6) | simp [*, go_sem]); replace q7 : w1.cell? ⟨v1.heap.size, 5, none⟩ = some (.int .i64 hl) := bkeep hb (by first | (with_reducible exact q7) | (with_reducible exact akeep q7) | simp [*, go_sem]); replace q8 : w1.cell? ⟨v1.heap.size, 6, none⟩ = some (.int .i64 hh) := bkeep hb (by first | (with_reducible exact q8) | (with_reducible exact akeep q8) | simp [*, go_sem]); replace q9 : w1.cell? ⟨v2.heap.size, 0, none⟩ = some (.int .i64 dl) := bkeep hb (by first | (with_reducible exact q9) | (with_reducible exact akeep q9) | simp [*, go_sem]); replace q10 : w1.cell? ⟨v2.heap.size, 1, none⟩ = some (.int .i64 dh) := bkeep hb (by first | (with_reducible exact q10) | (with_reducible exact akeep q10) | simp [*, go_sem]); replace q11 : w1.cell? ⟨v3.heap.size, 0, none⟩ = some (.int .i64 0) := bkeep hb (by first | (with_reducible exact q11) | (with_reducible exact akeep q11) | simp [*, go_sem]); replace q12 : w1.cell? ⟨v3.heap.size, 1, none⟩ = some (.int .i64 0) := bkeep hb (by first | (with_reducible exact q12) | (with_reducible exact akeep q12) | simp [*, go_sem]); clear hb
    obtain ⟨v5, hv5⟩ : ∃ v, v = w1 := ⟨_, rfl⟩
    subst hv5
    clear hv hv2 hR hR2 hB hm
    by_cases z0 : s0 < dl
    · go_wp2_with ((go_at_call 22; refine (sane_any).mono ?_; rintro e w1 ⟨rfl, hb⟩; replace hb0 := bnext (w := w) (by go_grown) hb; have hz := hb.size; (try simp only [World.size_alloc, World.size_setCell] at hz); clear hb))
      all_goals go_ret
      all_goals exact ⟨rfl, by go_grown⟩
    · have z1 : dh < s1 := by omega
      go_wp2_with ((go_at_call 22; refine (sane_any).mono ?_; rintro e w1 ⟨rfl, hb⟩; replace hb0 := bnext (w := w) (by go_grown) hb; have hz := hb.size; (try simp only [World.size_alloc, World.size_setCell] at hz); clear hb))
      all_goals go_ret
      all_goals exact ⟨rfl, by go_grown⟩
end Go.Proofs.Ytgnljgceddphfaa
