/- Contracts of Clash and CheckClash of the program; below the blocks that were there nothing turns. -/
import Derived.Test.YtcadbcmldlammaaW27
namespace Go.Proofs.Ytcadbcmldlammaa
open Go.RowKit Go.Pb Go.Pb.Ware
set_option linter.unusedVariables false
set_option linter.unusedSimpArgs false

set_option maxRecDepth 100000 in
set_option maxHeartbeats 4000000 in
theorem clash_bad {w : World} {id sl sh ll lh hl hh c : Int} {v : Value} {rows : List (List Int)} (h : RowsAt 5 w v rows) (hA : ckA ⟨id, ⟨sl, sh⟩, ⟨ll, lh⟩, ⟨hl, hh⟩⟩ rows = c) (hn : (c != 0) = true) :
    Calls Try.prog 11 #[.agg #[.int .i64 id, .int .i64 sl, .int .i64 sh, .int .i64 ll, .int .i64 lh, .int .i64 hl, .int .i64 hh], v] w (Ret w (.tuple #[.slice none 0 0, .int .i64 c])) := by
  unfold Ret
  obtain ⟨a, cap, rfl, hlen⟩ := h.shape
  have C0 := hid hA; clear hA
  go_enter Try.func11, Try.ntmps11
  go_wp2_with (go_at_call 42; refine (checkTold_eq (h.below (by go_grown)) C0.out).mono ?_; rintro e w1 ⟨rfl, hb⟩; replace hb0 := bnext (w := w) (by go_grown) hb; have hz := hb.size; (try simp only [World.size_alloc, World.size_setCell] at hz); replace q0 : w1.cell? ⟨w.heap.size, 0, none⟩ = some (.int .i64 id) := bkeep hb (by first | (with_reducible exact q0) | (with_reducible exact akeep q0) | simp [*, go_sem]); replace q1 : w1.cell? ⟨w.heap.size, 1, none⟩ = some (.int .i64 sl) := bkeep hb (by first | (with_reducible exact q1) | (with_reducible exact akeep q1) | simp [*, go_sem]); replace q2 : w1.cell? ⟨w.heap.size, 2, none⟩ = some (.int .i64 sh) := bkeep hb (by first | (with_reducible exact q2) | (with_reducible exact akeep q2) | simp [*, go_sem]); replace q3 : w1.cell? ⟨w.heap.size, 3, none⟩ = some (.int .i64 ll) := bkeep hb (by first | (with_reducible exact q3) | (with_reducible exact akeep q3) | simp [*, go_sem]); replace q4 : w1.cell? ⟨w.heap.size, 4, none⟩ = some (.int .i64 lh) := bkeep hb (by first | (with_reducible exact q4) | (with_reducible exact akeep q4) | simp [*, go_sem]); replace q5 : w1.cell? ⟨w.heap.size, 5, none⟩ = some (.int .i64 hl) := bkeep hb (by first | (with_reducible exact q5) | (with_reducible exact akeep q5) | simp [*, go_sem]); replace q6 : w1.cell? ⟨w.heap.size, 6, none⟩ = some (.int .i64 hh) := bkeep hb (by first | (with_reducible exact q6) | (with_reducible exact akeep q6) | simp [*, go_sem]); clear hb)
  exact bodyPost_ret (v := .tuple #[.slice none 0 0, .int .i64 c]) (by simp [*, results, Try.results11, go_sem]) rfl ⟨by first | rfl | simp [*], by go_grown⟩

set_option maxRecDepth 100000 in
set_option maxHeartbeats 4000000 in
theorem clash_none {w : World} {id sl sh ll lh hl hh : Int} {v : Value} {ts : List TT} (h : RowsAt 5 w v (ts.map rowT)) (hm : ts.length ≤ 30) (hA : ckA ⟨id, ⟨sl, sh⟩, ⟨ll, lh⟩, ⟨hl, hh⟩⟩ (ts.map rowT) = 0) (hx : clashB ts (srcs ts) ⟨sl, sh⟩ = false) :
    Calls Try.prog 11 #[.agg #[.int .i64 id, .int .i64 sl, .int .i64 sh, .int .i64 ll, .int .i64 lh, .int .i64 hl, .int .i64 hh], v] w (Ret w (.tuple #[.slice none 0 0, .int .i64 3])) := by
  unfold Ret
  obtain ⟨a, cap, rfl, hlen⟩ := h.shape
  simp only [List.length_map] at h hlen ⊢
  have C0 := hid hA; clear hA
  have HX := hid hx; clear hx
  go_enter Try.func11, Try.ntmps11
  go_wp2_with (go_at_call 42; refine (checkTold_eq (h.below (by go_grown)) C0.out).mono ?_; rintro e w2 ⟨rfl, hb⟩; replace hb0 := bnext (w := w) (by go_grown) hb; have hz := hb.size; (try simp only [World.size_alloc, World.size_setCell] at hz); replace q0 : w2.cell? ⟨w.heap.size, 0, none⟩ = some (.int .i64 id) := bkeep hb (by first | (with_reducible exact q0) | (with_reducible exact akeep q0) | simp [*, go_sem]); replace q1 : w2.cell? ⟨w.heap.size, 1, none⟩ = some (.int .i64 sl) := bkeep hb (by first | (with_reducible exact q1) | (with_reducible exact akeep q1) | simp [*, go_sem]); replace q2 : w2.cell? ⟨w.heap.size, 2, none⟩ = some (.int .i64 sh) := bkeep hb (by first | (with_reducible exact q2) | (with_reducible exact akeep q2) | simp [*, go_sem]); replace q3 : w2.cell? ⟨w.heap.size, 3, none⟩ = some (.int .i64 ll) := bkeep hb (by first | (with_reducible exact q3) | (with_reducible exact akeep q3) | simp [*, go_sem]); replace q4 : w2.cell? ⟨w.heap.size, 4, none⟩ = some (.int .i64 lh) := bkeep hb (by first | (with_reducible exact q4) | (with_reducible exact akeep q4) | simp [*, go_sem]); replace q5 : w2.cell? ⟨w.heap.size, 5, none⟩ = some (.int .i64 hl) := bkeep hb (by first | (with_reducible exact q5) | (with_reducible exact akeep q5) | simp [*, go_sem]); replace q6 : w2.cell? ⟨w.heap.size, 6, none⟩ = some (.int .i64 hh) := bkeep hb (by first | (with_reducible exact q6) | (with_reducible exact akeep q6) | simp [*, go_sem]); clear hb)
  refine (sources_any (h.below hb0) hm).mono ?_
  rintro e w3 ⟨us, rfl, hb, hn⟩
  replace hb0 := bnext (w := w) (by go_grown) hb; have hz := hb.size; (try simp only [World.size_alloc, World.size_setCell] at hz); replace q0 : w3.cell? ⟨w.heap.size, 0, none⟩ = some (.int .i64 id) := bkeep hb (by first | (with_reducible exact q0) | (with_reducible exact akeep q0) | simp [*, go_sem]); replace q1 : w3.cell? ⟨w.heap.size, 1, none⟩ = some (.int .i64 sl) := bkeep hb (by first | (with_reducible exact q1) | (with_reducible exact akeep q1) | simp [*, go_sem]); replace q2 : w3.cell? ⟨w.heap.size, 2, none⟩ = some (.int .i64 sh) := bkeep hb (by first | (with_reducible exact q2) | (with_reducible exact akeep q2) | simp [*, go_sem]); replace q3 : w3.cell? ⟨w.heap.size, 3, none⟩ = some (.int .i64 ll) := bkeep hb (by first | (with_reducible exact q3) | (with_reducible exact akeep q3) | simp [*, go_sem]); replace q4 : w3.cell? ⟨w.heap.size, 4, none⟩ = some (.int .i64 lh) := bkeep hb (by first | (with_reducible exact q4) | (with_reducible exact akeep q4) | simp [*, go_sem]); replace q5 : w3.cell? ⟨w.heap.size, 5, none⟩ = some (.int .i64 hl) := bkeep hb (by first | (with_reducible exact q5) | (with_reducible exact akeep q5) | simp [*, go_sem]); replace q6 : w3.cell? ⟨w.heap.size, 6, none⟩ = some (.int .i64 hh) := bkeep hb (by first | (with_reducible exact q6) | (with_reducible exact akeep q6) | simp [*, go_sem]); skip
  clear hb
  obtain ⟨ua, uc, rfl, hul, hul2⟩ := hn.shape
  go_wp2_with fail
  refine (contradict_any (h.below hb0) hn HX.out).mono ?_
  rintro e w4 ⟨rfl, hb⟩
  replace hb0 := bnext (w := w) (by go_grown) hb; have hz := hb.size; (try simp only [World.size_alloc, World.size_setCell] at hz); replace q0 : w4.cell? ⟨w.heap.size, 0, none⟩ = some (.int .i64 id) := bkeep hb (by first | (with_reducible exact q0) | (with_reducible exact akeep q0) | simp [*, go_sem]); replace q1 : w4.cell? ⟨w.heap.size, 1, none⟩ = some (.int .i64 sl) := bkeep hb (by first | (with_reducible exact q1) | (with_reducible exact akeep q1) | simp [*, go_sem]); replace q2 : w4.cell? ⟨w.heap.size, 2, none⟩ = some (.int .i64 sh) := bkeep hb (by first | (with_reducible exact q2) | (with_reducible exact akeep q2) | simp [*, go_sem]); replace q3 : w4.cell? ⟨w.heap.size, 3, none⟩ = some (.int .i64 ll) := bkeep hb (by first | (with_reducible exact q3) | (with_reducible exact akeep q3) | simp [*, go_sem]); replace q4 : w4.cell? ⟨w.heap.size, 4, none⟩ = some (.int .i64 lh) := bkeep hb (by first | (with_reducible exact q4) | (with_reducible exact akeep q4) | simp [*, go_sem]); replace q5 : w4.cell? ⟨w.heap.size, 5, none⟩ = some (.int .i64 hl) := bkeep hb (by first | (with_reducible exact q5) | (with_reducible exact akeep q5) | simp [*, go_sem]); replace q6 : w4.cell? ⟨w.heap.size, 6, none⟩ = some (.int .i64 hh) := bkeep hb (by first | (with_reducible exact q6) | (with_reducible exact akeep q6) | simp [*, go_sem]); skip
  replace hn := hn.below hb
  clear hb
  go_wp2_with fail
  exact bodyPost_ret (v := .tuple #[.slice none 0 0, .int .i64 3]) (by simp [*, results, Try.results11, go_sem]) rfl ⟨by first | rfl | simp [*], by go_grown⟩

set_option maxRecDepth 100000 in
set_option maxRecDepth 100000 in
set_option maxHeartbeats 4000000 in
theorem clash_some {w : World} {id sl sh ll lh hl hh : Int} {v : Value} {ts : List TT} (h : RowsAt 5 w v (ts.map rowT)) (hm : ts.length ≤ 30) (hA : ckA ⟨id, ⟨sl, sh⟩, ⟨ll, lh⟩, ⟨hl, hh⟩⟩ (ts.map rowT) = 0) (hx : clashB ts (srcs ts) ⟨sl, sh⟩ = true) :
    Calls Try.prog 11 #[.agg #[.int .i64 id, .int .i64 sl, .int .i64 sh, .int .i64 ll, .int .i64 lh, .int .i64 hl, .int .i64 hh], v] w (fun e w' => ∃ u, e = .returned (.tuple #[u, .int .i64 0]) ∧ Below w.heap.size w w' ∧ NumsAt w' u (leave (fun b => clashB ts b ⟨sl, sh⟩) (srcs ts).length (srcs ts))) := by
  skip
  obtain ⟨a, cap, rfl, hlen⟩ := h.shape
  simp only [List.length_map] at h hlen ⊢
  have C0 := hid hA; clear hA
  have HX := hid hx; clear hx
  go_enter Try.func11, Try.ntmps11
  go_wp2_with (go_at_call 42; refine (checkTold_eq (h.below (by go_grown)) C0.out).mono ?_; rintro e w2 ⟨rfl, hb⟩; replace hb0 := bnext (w := w) (by go_grown) hb; have hz := hb.size; (try simp only [World.size_alloc, World.size_setCell] at hz); replace q0 : w2.cell? ⟨w.heap.size, 0, none⟩ = some (.int .i64 id) := bkeep hb (by first | (with_reducible exact q0) | (with_reducible exact akeep q0) | simp [*, go_sem]); replace q1 : w2.cell? ⟨w.heap.size, 1, none⟩ = some (.int .i64 sl) := bkeep hb (by first | (with_reducible exact q1) | (with_reducible exact akeep q1) | simp [*, go_sem]); replace q2 : w2.cell? ⟨w.heap.size, 2, none⟩ = some (.int .i64 sh) := bkeep hb (by first | (with_reducible exact q2) | (with_reducible exact akeep q2) | simp [*, go_sem]); replace q3 : w2.cell? ⟨w.heap.size, 3, none⟩ = some (.int .i64 ll) := bkeep hb (by first | (with_reducible exact q3) | (with_reducible exact akeep q3) | simp [*, go_sem]); replace q4 : w2.cell? ⟨w.heap.size, 4, none⟩ = some (.int .i64 lh) := bkeep hb (by first | (with_reducible exact q4) | (with_reducible exact akeep q4) | simp [*, go_sem]); replace q5 : w2.cell? ⟨w.heap.size, 5, none⟩ = some (.int .i64 hl) := bkeep hb (by first | (with_reducible exact q5) | (with_reducible exact akeep q5) | simp [*, go_sem]); replace q6 : w2.cell? ⟨w.heap.size, 6, none⟩ = some (.int .i64 hh) := bkeep hb (by first | (with_reducible exact q6) | (with_reducible exact akeep q6) | simp [*, go_sem]); clear hb)
  refine (sources_any (h.below hb0) hm).mono ?_
  rintro e w3 ⟨us, rfl, hb, hn⟩
  replace hb0 := bnext (w := w) (by go_grown) hb; have hz := hb.size; (try simp only [World.size_alloc, World.size_setCell] at hz); replace q0 : w3.cell? ⟨w.heap.size, 0, none⟩ = some (.int .i64 id) := bkeep hb (by first | (with_reducible exact q0) | (with_reducible exact akeep q0) | simp [*, go_sem]); replace q1 : w3.cell? ⟨w.heap.size, 1, none⟩ = some (.int .i64 sl) := bkeep hb (by first | (with_reducible exact q1) | (with_reducible exact akeep q1) | simp [*, go_sem]); replace q2 : w3.cell? ⟨w.heap.size, 2, none⟩ = some (.int .i64 sh) := bkeep hb (by first | (with_reducible exact q2) | (with_reducible exact akeep q2) | simp [*, go_sem]); replace q3 : w3.cell? ⟨w.heap.size, 3, none⟩ = some (.int .i64 ll) := bkeep hb (by first | (with_reducible exact q3) | (with_reducible exact akeep q3) | simp [*, go_sem]); replace q4 : w3.cell? ⟨w.heap.size, 4, none⟩ = some (.int .i64 lh) := bkeep hb (by first | (with_reducible exact q4) | (with_reducible exact akeep q4) | simp [*, go_sem]); replace q5 : w3.cell? ⟨w.heap.size, 5, none⟩ = some (.int .i64 hl) := bkeep hb (by first | (with_reducible exact q5) | (with_reducible exact akeep q5) | simp [*, go_sem]); replace q6 : w3.cell? ⟨w.heap.size, 6, none⟩ = some (.int .i64 hh) := bkeep hb (by first | (with_reducible exact q6) | (with_reducible exact akeep q6) | simp [*, go_sem]); skip
  clear hb
  obtain ⟨ua, uc, rfl, hul, hul2⟩ := hn.shape
  go_wp2_with fail
  refine (contradict_any (h.below hb0) hn HX.out).mono ?_
  rintro e w4 ⟨rfl, hb⟩
  replace hb0 := bnext (w := w) (by go_grown) hb; have hz := hb.size; (try simp only [World.size_alloc, World.size_setCell] at hz); replace q0 : w4.cell? ⟨w.heap.size, 0, none⟩ = some (.int .i64 id) := bkeep hb (by first | (with_reducible exact q0) | (with_reducible exact akeep q0) | simp [*, go_sem]); replace q1 : w4.cell? ⟨w.heap.size, 1, none⟩ = some (.int .i64 sl) := bkeep hb (by first | (with_reducible exact q1) | (with_reducible exact akeep q1) | simp [*, go_sem]); replace q2 : w4.cell? ⟨w.heap.size, 2, none⟩ = some (.int .i64 sh) := bkeep hb (by first | (with_reducible exact q2) | (with_reducible exact akeep q2) | simp [*, go_sem]); replace q3 : w4.cell? ⟨w.heap.size, 3, none⟩ = some (.int .i64 ll) := bkeep hb (by first | (with_reducible exact q3) | (with_reducible exact akeep q3) | simp [*, go_sem]); replace q4 : w4.cell? ⟨w.heap.size, 4, none⟩ = some (.int .i64 lh) := bkeep hb (by first | (with_reducible exact q4) | (with_reducible exact akeep q4) | simp [*, go_sem]); replace q5 : w4.cell? ⟨w.heap.size, 5, none⟩ = some (.int .i64 hl) := bkeep hb (by first | (with_reducible exact q5) | (with_reducible exact akeep q5) | simp [*, go_sem]); replace q6 : w4.cell? ⟨w.heap.size, 6, none⟩ = some (.int .i64 hh) := bkeep hb (by first | (with_reducible exact q6) | (with_reducible exact akeep q6) | simp [*, go_sem]); skip
  replace hn := hn.below hb
  clear hb
  go_wp2_with fail
  have hsl : (srcs ts).length ≤ 30 := by have := srcs_length ts; omega
  go_loopw [7, 8] (fun bv iv wr => ∃ (i : Nat) (z : Int) (b : List Int), i ≤ b.length ∧ b.length ≤ 30 ∧ iv = .int .i64 z ∧ z = (i : Int) - 1 ∧ NumsAt wr bv b ∧ leave (fun b => clashB ts b ⟨sl, sh⟩) i b = leave (fun b => clashB ts b ⟨sl, sh⟩) (srcs ts).length (srcs ts) ∧ Below w.heap.size w wr ∧ Below w4.heap.size w4 wr) (fun _ iv _ => (intOf iv + 1).toNat)
  case atStart => exact ⟨(srcs ts).length, _, srcs ts, Nat.le_refl _, hsl, rfl, by go_num, hn, rfl, hb0, Below.refl _ _⟩
  case round =>
    obtain ⟨i, z, b, hib, hb30, rfl, hzi, hnb, hK, hb0, hb2⟩ := hrel
    have HK := hid hK; clear hK
    clear hn hul hul2 HX
    replace q0 := bkeep hb2 q0
    replace q1 := bkeep hb2 q1
    replace q2 := bkeep hb2 q2
    replace q3 := bkeep hb2 q3
    replace q4 := bkeep hb2 q4
    replace q5 := bkeep hb2 q5
    replace q6 := bkeep hb2 q6
    have hz0 := hb0.size
    have hz2 := hb2.size
    obtain ⟨ba, bc, rfl, hbl, hbl2⟩ := hnb.shape
    rcases i with _ | j
    · obtain rfl : z = -1 := by omega
      clear hzi
      go_wp2_with fail
      exact bodyPost_ret (v := .tuple #[.slice ba b.length bc, .int .i64 0]) (by simp [*, results, Try.results11, go_sem]) rfl ⟨_, rfl, by go_grown, by have := HK.out; rw [leave] at this; rw [← this]; exact hnb⟩
    · obtain rfl : z = (j : Int) := by omega
      clear hzi
      cases hE : clashB ts (b.eraseIdx j) ⟨sl, sh⟩
      · have HE := hid hE; clear hE
        go_wp2_with fail
        refine (without_any hnb (i := j) (by omega) (by omega)).mono ?_
        rintro e w5 ⟨us, rfl, hb, hnr⟩
        replace hb0 := bnext (w := w) (by go_grown) hb; have hz := hb.size; (try simp only [World.size_alloc, World.size_setCell] at hz); replace q0 : w5.cell? ⟨w.heap.size, 0, none⟩ = some (.int .i64 id) := bkeep hb (by first | (with_reducible exact q0) | (with_reducible exact akeep q0) | simp [*, go_sem]); replace q1 : w5.cell? ⟨w.heap.size, 1, none⟩ = some (.int .i64 sl) := bkeep hb (by first | (with_reducible exact q1) | (with_reducible exact akeep q1) | simp [*, go_sem]); replace q2 : w5.cell? ⟨w.heap.size, 2, none⟩ = some (.int .i64 sh) := bkeep hb (by first | (with_reducible exact q2) | (with_reducible exact akeep q2) | simp [*, go_sem]); replace q3 : w5.cell? ⟨w.heap.size, 3, none⟩ = some (.int .i64 ll) := bkeep hb (by first | (with_reducible exact q3) | (with_reducible exact akeep q3) | simp [*, go_sem]); replace q4 : w5.cell? ⟨w.heap.size, 4, none⟩ = some (.int .i64 lh) := bkeep hb (by first | (with_reducible exact q4) | (with_reducible exact akeep q4) | simp [*, go_sem]); replace q5 : w5.cell? ⟨w.heap.size, 5, none⟩ = some (.int .i64 hl) := bkeep hb (by first | (with_reducible exact q5) | (with_reducible exact akeep q5) | simp [*, go_sem]); replace q6 : w5.cell? ⟨w.heap.size, 6, none⟩ = some (.int .i64 hh) := bkeep hb (by first | (with_reducible exact q6) | (with_reducible exact akeep q6) | simp [*, go_sem]); skip
        replace hnb := hnb.below hb
        replace hb2 := bnext (w := w4) (by omega) hb
        clear hb
        have hz2 := hb2.size
        obtain ⟨ra, rc, rfl, hrl, hrl2⟩ := hnr.shape
        go_wp2_with fail
        refine (contradict_any (h.below hb0) hnr HE.out).mono ?_
        rintro e w6 ⟨rfl, hb⟩
        replace hb0 := bnext (w := w) (by go_grown) hb; have hz := hb.size; (try simp only [World.size_alloc, World.size_setCell] at hz); replace q0 : w6.cell? ⟨w.heap.size, 0, none⟩ = some (.int .i64 id) := bkeep hb (by first | (with_reducible exact q0) | (with_reducible exact akeep q0) | simp [*, go_sem]); replace q1 : w6.cell? ⟨w.heap.size, 1, none⟩ = some (.int .i64 sl) := bkeep hb (by first | (with_reducible exact q1) | (with_reducible exact akeep q1) | simp [*, go_sem]); replace q2 : w6.cell? ⟨w.heap.size, 2, none⟩ = some (.int .i64 sh) := bkeep hb (by first | (with_reducible exact q2) | (with_reducible exact akeep q2) | simp [*, go_sem]); replace q3 : w6.cell? ⟨w.heap.size, 3, none⟩ = some (.int .i64 ll) := bkeep hb (by first | (with_reducible exact q3) | (with_reducible exact akeep q3) | simp [*, go_sem]); replace q4 : w6.cell? ⟨w.heap.size, 4, none⟩ = some (.int .i64 lh) := bkeep hb (by first | (with_reducible exact q4) | (with_reducible exact akeep q4) | simp [*, go_sem]); replace q5 : w6.cell? ⟨w.heap.size, 5, none⟩ = some (.int .i64 hl) := bkeep hb (by first | (with_reducible exact q5) | (with_reducible exact akeep q5) | simp [*, go_sem]); replace q6 : w6.cell? ⟨w.heap.size, 6, none⟩ = some (.int .i64 hh) := bkeep hb (by first | (with_reducible exact q6) | (with_reducible exact akeep q6) | simp [*, go_sem]); skip
        replace hnb := hnb.below hb
        replace hnr := hnr.below hb
        replace hb2 := bnext (w := w4) (by omega) hb
        clear hb
        go_wp2_with fail
        go_roundw
        case rel => exact ⟨j, _, b, by omega, hb30, rfl, by go_num, hnb, by rw [← HK.out]; exact (leave_no HE.out).symm, hb0, hb2⟩
        case measure => first | (simp [intOf]; done) | (simp [intOf]; omega)
      · have HE := hid hE; clear hE
        go_wp2_with fail
        refine (without_any hnb (i := j) (by omega) (by omega)).mono ?_
        rintro e w5 ⟨us, rfl, hb, hnr⟩
        replace hb0 := bnext (w := w) (by go_grown) hb; have hz := hb.size; (try simp only [World.size_alloc, World.size_setCell] at hz); replace q0 : w5.cell? ⟨w.heap.size, 0, none⟩ = some (.int .i64 id) := bkeep hb (by first | (with_reducible exact q0) | (with_reducible exact akeep q0) | simp [*, go_sem]); replace q1 : w5.cell? ⟨w.heap.size, 1, none⟩ = some (.int .i64 sl) := bkeep hb (by first | (with_reducible exact q1) | (with_reducible exact akeep q1) | simp [*, go_sem]); replace q2 : w5.cell? ⟨w.heap.size, 2, none⟩ = some (.int .i64 sh) := bkeep hb (by first | (with_reducible exact q2) | (with_reducible exact akeep q2) | simp [*, go_sem]); replace q3 : w5.cell? ⟨w.heap.size, 3, none⟩ = some (.int .i64 ll) := bkeep hb (by first | (with_reducible exact q3) | (with_reducible exact akeep q3) | simp [*, go_sem]); replace q4 : w5.cell? ⟨w.heap.size, 4, none⟩ = some (.int .i64 lh) := bkeep hb (by first | (with_reducible exact q4) | (with_reducible exact akeep q4) | simp [*, go_sem]); replace q5 : w5.cell? ⟨w.heap.size, 5, none⟩ = some (.int .i64 hl) := bkeep hb (by first | (with_reducible exact q5) | (with_reducible exact akeep q5) | simp [*, go_sem]); replace q6 : w5.cell? ⟨w.heap.size, 6, none⟩ = some (.int .i64 hh) := bkeep hb (by first | (with_reducible exact q6) | (with_reducible exact akeep q6) | simp [*, go_sem]); skip
        replace hnb := hnb.below hb
        replace hb2 := bnext (w := w4) (by omega) hb
        clear hb
        have hz2 := hb2.size
        obtain ⟨ra, rc, rfl, hrl, hrl2⟩ := hnr.shape
        go_wp2_with fail
        refine (contradict_any (h.below hb0) hnr HE.out).mono ?_
        rintro e w6 ⟨rfl, hb⟩
        replace hb0 := bnext (w := w) (by go_grown) hb; have hz := hb.size; (try simp only [World.size_alloc, World.size_setCell] at hz); replace q0 : w6.cell? ⟨w.heap.size, 0, none⟩ = some (.int .i64 id) := bkeep hb (by first | (with_reducible exact q0) | (with_reducible exact akeep q0) | simp [*, go_sem]); replace q1 : w6.cell? ⟨w.heap.size, 1, none⟩ = some (.int .i64 sl) := bkeep hb (by first | (with_reducible exact q1) | (with_reducible exact akeep q1) | simp [*, go_sem]); replace q2 : w6.cell? ⟨w.heap.size, 2, none⟩ = some (.int .i64 sh) := bkeep hb (by first | (with_reducible exact q2) | (with_reducible exact akeep q2) | simp [*, go_sem]); replace q3 : w6.cell? ⟨w.heap.size, 3, none⟩ = some (.int .i64 ll) := bkeep hb (by first | (with_reducible exact q3) | (with_reducible exact akeep q3) | simp [*, go_sem]); replace q4 : w6.cell? ⟨w.heap.size, 4, none⟩ = some (.int .i64 lh) := bkeep hb (by first | (with_reducible exact q4) | (with_reducible exact akeep q4) | simp [*, go_sem]); replace q5 : w6.cell? ⟨w.heap.size, 5, none⟩ = some (.int .i64 hl) := bkeep hb (by first | (with_reducible exact q5) | (with_reducible exact akeep q5) | simp [*, go_sem]); replace q6 : w6.cell? ⟨w.heap.size, 6, none⟩ = some (.int .i64 hh) := bkeep hb (by first | (with_reducible exact q6) | (with_reducible exact akeep q6) | simp [*, go_sem]); skip
        replace hnb := hnb.below hb
        replace hnr := hnr.below hb
        replace hb2 := bnext (w := w4) (by omega) hb
        clear hb
        go_wp2_with fail
        go_roundw
        case rel => exact ⟨j, _, b.eraseIdx j, by rw [List.length_eraseIdx_of_lt (by omega)]; omega, by rw [List.length_eraseIdx_of_lt (by omega)]; omega, rfl, by go_num, hnr, by rw [← HK.out]; exact (leave_yes HE.out).symm, hb0, hb2⟩
        case measure => first | (simp [intOf]; done) | (simp [intOf]; omega)

set_option maxRecDepth 100000 in
set_option maxHeartbeats 4000000 in
theorem checkClash_bad {w : World} {id sl sh ll lh hl hh c : Int} {v : Value} {rows : List (List Int)} (h : RowsAt 5 w v rows) {b : List Int} {bv : Value} (hi : NumsAt w bv b) (hA : ckA ⟨id, ⟨sl, sh⟩, ⟨ll, lh⟩, ⟨hl, hh⟩⟩ rows = c) (hn : (c != 0) = true) :
    Calls Try.prog 13 #[.agg #[.int .i64 id, .int .i64 sl, .int .i64 sh, .int .i64 ll, .int .i64 lh, .int .i64 hl, .int .i64 hh], v, bv] w (Ret w (.int .i64 c)) := by
  unfold Ret
  obtain ⟨a, cap, rfl, hlen⟩ := h.shape
  obtain ⟨ba, bc, rfl, hbl, hbl2⟩ := hi.shape
  have C0 := hid hA; clear hA
  go_enter Try.func13, Try.ntmps13
  go_wp2_with (go_at_call 42; refine (checkTold_eq (h.below (by go_grown)) C0.out).mono ?_; rintro e w2 ⟨rfl, hb⟩; replace hb0 := bnext (w := w) (by go_grown) hb; have hz := hb.size; (try simp only [World.size_alloc, World.size_setCell] at hz); replace q0 : w2.cell? ⟨w.heap.size, 0, none⟩ = some (.int .i64 id) := bkeep hb (by first | (with_reducible exact q0) | (with_reducible exact akeep q0) | simp [*, go_sem]); replace q1 : w2.cell? ⟨w.heap.size, 1, none⟩ = some (.int .i64 sl) := bkeep hb (by first | (with_reducible exact q1) | (with_reducible exact akeep q1) | simp [*, go_sem]); replace q2 : w2.cell? ⟨w.heap.size, 2, none⟩ = some (.int .i64 sh) := bkeep hb (by first | (with_reducible exact q2) | (with_reducible exact akeep q2) | simp [*, go_sem]); replace q3 : w2.cell? ⟨w.heap.size, 3, none⟩ = some (.int .i64 ll) := bkeep hb (by first | (with_reducible exact q3) | (with_reducible exact akeep q3) | simp [*, go_sem]); replace q4 : w2.cell? ⟨w.heap.size, 4, none⟩ = some (.int .i64 lh) := bkeep hb (by first | (with_reducible exact q4) | (with_reducible exact akeep q4) | simp [*, go_sem]); replace q5 : w2.cell? ⟨w.heap.size, 5, none⟩ = some (.int .i64 hl) := bkeep hb (by first | (with_reducible exact q5) | (with_reducible exact akeep q5) | simp [*, go_sem]); replace q6 : w2.cell? ⟨w.heap.size, 6, none⟩ = some (.int .i64 hh) := bkeep hb (by first | (with_reducible exact q6) | (with_reducible exact akeep q6) | simp [*, go_sem]); clear hb)
  go_ret
  exact ⟨rfl, by go_grown⟩

set_option maxRecDepth 100000 in
set_option maxRecDepth 100000 in
set_option maxHeartbeats 4000000 in
theorem checkClash_in {w : World} {id sl sh ll lh hl hh : Int} {v : Value} {ts : List TT} (h : RowsAt 5 w v (ts.map rowT)) {b : List Int} {bv : Value} (hi : NumsAt w bv b) (hm : ts.length ≤ 30) (hA : ckA ⟨id, ⟨sl, sh⟩, ⟨ll, lh⟩, ⟨hl, hh⟩⟩ (ts.map rowT) = 0) :
    Calls Try.prog 13 #[.agg #[.int .i64 id, .int .i64 sl, .int .i64 sh, .int .i64 ll, .int .i64 lh, .int .i64 hl, .int .i64 hh], v, bv] w (Ret w (.int .i64 (ckC (fun b => clashB ts b ⟨sl, sh⟩) (srcs ts) b))) := by
  unfold Ret
  obtain ⟨a, cap, rfl, hlen⟩ := h.shape
  simp only [List.length_map] at h hlen ⊢
  obtain ⟨ba, bc, rfl, hbl, hbl2⟩ := hi.shape
  have C0 := hid hA; clear hA
  obtain ⟨z, hz⟩ : ∃ z, ckC (fun b => clashB ts b ⟨sl, sh⟩) (srcs ts) b = z := ⟨_, rfl⟩
  rw [hz]
  have HZ := hid hz; clear hz
  cases hG : goodB (srcs ts) 0 b
  · have HG := hid hG; clear hG
    go_enter Try.func13, Try.ntmps13
    go_wp2_with (go_at_call 42; refine (checkTold_eq (h.below (by go_grown)) C0.out).mono ?_; rintro e w2 ⟨rfl, hb⟩; replace hb0 := bnext (w := w) (by go_grown) hb; have hz := hb.size; (try simp only [World.size_alloc, World.size_setCell] at hz); replace q0 : w2.cell? ⟨w.heap.size, 0, none⟩ = some (.int .i64 id) := bkeep hb (by first | (with_reducible exact q0) | (with_reducible exact akeep q0) | simp [*, go_sem]); replace q1 : w2.cell? ⟨w.heap.size, 1, none⟩ = some (.int .i64 sl) := bkeep hb (by first | (with_reducible exact q1) | (with_reducible exact akeep q1) | simp [*, go_sem]); replace q2 : w2.cell? ⟨w.heap.size, 2, none⟩ = some (.int .i64 sh) := bkeep hb (by first | (with_reducible exact q2) | (with_reducible exact akeep q2) | simp [*, go_sem]); replace q3 : w2.cell? ⟨w.heap.size, 3, none⟩ = some (.int .i64 ll) := bkeep hb (by first | (with_reducible exact q3) | (with_reducible exact akeep q3) | simp [*, go_sem]); replace q4 : w2.cell? ⟨w.heap.size, 4, none⟩ = some (.int .i64 lh) := bkeep hb (by first | (with_reducible exact q4) | (with_reducible exact akeep q4) | simp [*, go_sem]); replace q5 : w2.cell? ⟨w.heap.size, 5, none⟩ = some (.int .i64 hl) := bkeep hb (by first | (with_reducible exact q5) | (with_reducible exact akeep q5) | simp [*, go_sem]); replace q6 : w2.cell? ⟨w.heap.size, 6, none⟩ = some (.int .i64 hh) := bkeep hb (by first | (with_reducible exact q6) | (with_reducible exact akeep q6) | simp [*, go_sem]); clear hb)
    refine (areSources_any (h.below hb0) (hi.below hb0) hm HG.out).mono ?_
    rintro e w3 ⟨rfl, hb⟩
    replace hb0 := bnext (w := w) (by go_grown) hb; have hz := hb.size; (try simp only [World.size_alloc, World.size_setCell] at hz); replace q0 : w3.cell? ⟨w.heap.size, 0, none⟩ = some (.int .i64 id) := bkeep hb (by first | (with_reducible exact q0) | (with_reducible exact akeep q0) | simp [*, go_sem]); replace q1 : w3.cell? ⟨w.heap.size, 1, none⟩ = some (.int .i64 sl) := bkeep hb (by first | (with_reducible exact q1) | (with_reducible exact akeep q1) | simp [*, go_sem]); replace q2 : w3.cell? ⟨w.heap.size, 2, none⟩ = some (.int .i64 sh) := bkeep hb (by first | (with_reducible exact q2) | (with_reducible exact akeep q2) | simp [*, go_sem]); replace q3 : w3.cell? ⟨w.heap.size, 3, none⟩ = some (.int .i64 ll) := bkeep hb (by first | (with_reducible exact q3) | (with_reducible exact akeep q3) | simp [*, go_sem]); replace q4 : w3.cell? ⟨w.heap.size, 4, none⟩ = some (.int .i64 lh) := bkeep hb (by first | (with_reducible exact q4) | (with_reducible exact akeep q4) | simp [*, go_sem]); replace q5 : w3.cell? ⟨w.heap.size, 5, none⟩ = some (.int .i64 hl) := bkeep hb (by first | (with_reducible exact q5) | (with_reducible exact akeep q5) | simp [*, go_sem]); replace q6 : w3.cell? ⟨w.heap.size, 6, none⟩ = some (.int .i64 hh) := bkeep hb (by first | (with_reducible exact q6) | (with_reducible exact akeep q6) | simp [*, go_sem]); skip
    clear hb
    go_wp2_with fail
    go_ret
    exact ⟨ret_int (ckC_good HZ.out HG.out), by go_grown⟩
  have hgl := good_length hG
  have hsl : (srcs ts).length ≤ 30 := by have := srcs_length ts; omega
  cases hX : clashB ts b ⟨sl, sh⟩
  · have HX := hid hX; clear hX
    have HG := hid hG; clear hG
    go_enter Try.func13, Try.ntmps13
    go_wp2_with (go_at_call 42; refine (checkTold_eq (h.below (by go_grown)) C0.out).mono ?_; rintro e w2 ⟨rfl, hb⟩; replace hb0 := bnext (w := w) (by go_grown) hb; have hz := hb.size; (try simp only [World.size_alloc, World.size_setCell] at hz); replace q0 : w2.cell? ⟨w.heap.size, 0, none⟩ = some (.int .i64 id) := bkeep hb (by first | (with_reducible exact q0) | (with_reducible exact akeep q0) | simp [*, go_sem]); replace q1 : w2.cell? ⟨w.heap.size, 1, none⟩ = some (.int .i64 sl) := bkeep hb (by first | (with_reducible exact q1) | (with_reducible exact akeep q1) | simp [*, go_sem]); replace q2 : w2.cell? ⟨w.heap.size, 2, none⟩ = some (.int .i64 sh) := bkeep hb (by first | (with_reducible exact q2) | (with_reducible exact akeep q2) | simp [*, go_sem]); replace q3 : w2.cell? ⟨w.heap.size, 3, none⟩ = some (.int .i64 ll) := bkeep hb (by first | (with_reducible exact q3) | (with_reducible exact akeep q3) | simp [*, go_sem]); replace q4 : w2.cell? ⟨w.heap.size, 4, none⟩ = some (.int .i64 lh) := bkeep hb (by first | (with_reducible exact q4) | (with_reducible exact akeep q4) | simp [*, go_sem]); replace q5 : w2.cell? ⟨w.heap.size, 5, none⟩ = some (.int .i64 hl) := bkeep hb (by first | (with_reducible exact q5) | (with_reducible exact akeep q5) | simp [*, go_sem]); replace q6 : w2.cell? ⟨w.heap.size, 6, none⟩ = some (.int .i64 hh) := bkeep hb (by first | (with_reducible exact q6) | (with_reducible exact akeep q6) | simp [*, go_sem]); clear hb)
    refine (areSources_any (h.below hb0) (hi.below hb0) hm HG.out).mono ?_
    rintro e w3 ⟨rfl, hb⟩
    replace hb0 := bnext (w := w) (by go_grown) hb; have hz := hb.size; (try simp only [World.size_alloc, World.size_setCell] at hz); replace q0 : w3.cell? ⟨w.heap.size, 0, none⟩ = some (.int .i64 id) := bkeep hb (by first | (with_reducible exact q0) | (with_reducible exact akeep q0) | simp [*, go_sem]); replace q1 : w3.cell? ⟨w.heap.size, 1, none⟩ = some (.int .i64 sl) := bkeep hb (by first | (with_reducible exact q1) | (with_reducible exact akeep q1) | simp [*, go_sem]); replace q2 : w3.cell? ⟨w.heap.size, 2, none⟩ = some (.int .i64 sh) := bkeep hb (by first | (with_reducible exact q2) | (with_reducible exact akeep q2) | simp [*, go_sem]); replace q3 : w3.cell? ⟨w.heap.size, 3, none⟩ = some (.int .i64 ll) := bkeep hb (by first | (with_reducible exact q3) | (with_reducible exact akeep q3) | simp [*, go_sem]); replace q4 : w3.cell? ⟨w.heap.size, 4, none⟩ = some (.int .i64 lh) := bkeep hb (by first | (with_reducible exact q4) | (with_reducible exact akeep q4) | simp [*, go_sem]); replace q5 : w3.cell? ⟨w.heap.size, 5, none⟩ = some (.int .i64 hl) := bkeep hb (by first | (with_reducible exact q5) | (with_reducible exact akeep q5) | simp [*, go_sem]); replace q6 : w3.cell? ⟨w.heap.size, 6, none⟩ = some (.int .i64 hh) := bkeep hb (by first | (with_reducible exact q6) | (with_reducible exact akeep q6) | simp [*, go_sem]); skip
    clear hb
    go_wp2_with fail
    refine (contradict_any (h.below hb0) (hi.below hb0) HX.out).mono ?_
    rintro e w4 ⟨rfl, hb⟩
    replace hb0 := bnext (w := w) (by go_grown) hb; have hz := hb.size; (try simp only [World.size_alloc, World.size_setCell] at hz); replace q0 : w4.cell? ⟨w.heap.size, 0, none⟩ = some (.int .i64 id) := bkeep hb (by first | (with_reducible exact q0) | (with_reducible exact akeep q0) | simp [*, go_sem]); replace q1 : w4.cell? ⟨w.heap.size, 1, none⟩ = some (.int .i64 sl) := bkeep hb (by first | (with_reducible exact q1) | (with_reducible exact akeep q1) | simp [*, go_sem]); replace q2 : w4.cell? ⟨w.heap.size, 2, none⟩ = some (.int .i64 sh) := bkeep hb (by first | (with_reducible exact q2) | (with_reducible exact akeep q2) | simp [*, go_sem]); replace q3 : w4.cell? ⟨w.heap.size, 3, none⟩ = some (.int .i64 ll) := bkeep hb (by first | (with_reducible exact q3) | (with_reducible exact akeep q3) | simp [*, go_sem]); replace q4 : w4.cell? ⟨w.heap.size, 4, none⟩ = some (.int .i64 lh) := bkeep hb (by first | (with_reducible exact q4) | (with_reducible exact akeep q4) | simp [*, go_sem]); replace q5 : w4.cell? ⟨w.heap.size, 5, none⟩ = some (.int .i64 hl) := bkeep hb (by first | (with_reducible exact q5) | (with_reducible exact akeep q5) | simp [*, go_sem]); replace q6 : w4.cell? ⟨w.heap.size, 6, none⟩ = some (.int .i64 hh) := bkeep hb (by first | (with_reducible exact q6) | (with_reducible exact akeep q6) | simp [*, go_sem]); skip
    clear hb
    go_wp2_with fail
    go_ret
    exact ⟨ret_int (ckC_bad HZ.out HX.out), by go_grown⟩
  have HX := hid hX; clear hX
  have HG := hid hG; clear hG
  go_enter Try.func13, Try.ntmps13
  go_wp2_with (go_at_call 42; refine (checkTold_eq (h.below (by go_grown)) C0.out).mono ?_; rintro e w2 ⟨rfl, hb⟩; replace hb0 := bnext (w := w) (by go_grown) hb; have hz := hb.size; (try simp only [World.size_alloc, World.size_setCell] at hz); replace q0 : w2.cell? ⟨w.heap.size, 0, none⟩ = some (.int .i64 id) := bkeep hb (by first | (with_reducible exact q0) | (with_reducible exact akeep q0) | simp [*, go_sem]); replace q1 : w2.cell? ⟨w.heap.size, 1, none⟩ = some (.int .i64 sl) := bkeep hb (by first | (with_reducible exact q1) | (with_reducible exact akeep q1) | simp [*, go_sem]); replace q2 : w2.cell? ⟨w.heap.size, 2, none⟩ = some (.int .i64 sh) := bkeep hb (by first | (with_reducible exact q2) | (with_reducible exact akeep q2) | simp [*, go_sem]); replace q3 : w2.cell? ⟨w.heap.size, 3, none⟩ = some (.int .i64 ll) := bkeep hb (by first | (with_reducible exact q3) | (with_reducible exact akeep q3) | simp [*, go_sem]); replace q4 : w2.cell? ⟨w.heap.size, 4, none⟩ = some (.int .i64 lh) := bkeep hb (by first | (with_reducible exact q4) | (with_reducible exact akeep q4) | simp [*, go_sem]); replace q5 : w2.cell? ⟨w.heap.size, 5, none⟩ = some (.int .i64 hl) := bkeep hb (by first | (with_reducible exact q5) | (with_reducible exact akeep q5) | simp [*, go_sem]); replace q6 : w2.cell? ⟨w.heap.size, 6, none⟩ = some (.int .i64 hh) := bkeep hb (by first | (with_reducible exact q6) | (with_reducible exact akeep q6) | simp [*, go_sem]); clear hb)
  refine (areSources_any (h.below hb0) (hi.below hb0) hm HG.out).mono ?_
  rintro e w3 ⟨rfl, hb⟩
  replace hb0 := bnext (w := w) (by go_grown) hb; have hz := hb.size; (try simp only [World.size_alloc, World.size_setCell] at hz); replace q0 : w3.cell? ⟨w.heap.size, 0, none⟩ = some (.int .i64 id) := bkeep hb (by first | (with_reducible exact q0) | (with_reducible exact akeep q0) | simp [*, go_sem]); replace q1 : w3.cell? ⟨w.heap.size, 1, none⟩ = some (.int .i64 sl) := bkeep hb (by first | (with_reducible exact q1) | (with_reducible exact akeep q1) | simp [*, go_sem]); replace q2 : w3.cell? ⟨w.heap.size, 2, none⟩ = some (.int .i64 sh) := bkeep hb (by first | (with_reducible exact q2) | (with_reducible exact akeep q2) | simp [*, go_sem]); replace q3 : w3.cell? ⟨w.heap.size, 3, none⟩ = some (.int .i64 ll) := bkeep hb (by first | (with_reducible exact q3) | (with_reducible exact akeep q3) | simp [*, go_sem]); replace q4 : w3.cell? ⟨w.heap.size, 4, none⟩ = some (.int .i64 lh) := bkeep hb (by first | (with_reducible exact q4) | (with_reducible exact akeep q4) | simp [*, go_sem]); replace q5 : w3.cell? ⟨w.heap.size, 5, none⟩ = some (.int .i64 hl) := bkeep hb (by first | (with_reducible exact q5) | (with_reducible exact akeep q5) | simp [*, go_sem]); replace q6 : w3.cell? ⟨w.heap.size, 6, none⟩ = some (.int .i64 hh) := bkeep hb (by first | (with_reducible exact q6) | (with_reducible exact akeep q6) | simp [*, go_sem]); skip
  clear hb
  go_wp2_with fail
  refine (contradict_any (h.below hb0) (hi.below hb0) HX.out).mono ?_
  rintro e w4 ⟨rfl, hb⟩
  replace hb0 := bnext (w := w) (by go_grown) hb; have hz := hb.size; (try simp only [World.size_alloc, World.size_setCell] at hz); replace q0 : w4.cell? ⟨w.heap.size, 0, none⟩ = some (.int .i64 id) := bkeep hb (by first | (with_reducible exact q0) | (with_reducible exact akeep q0) | simp [*, go_sem]); replace q1 : w4.cell? ⟨w.heap.size, 1, none⟩ = some (.int .i64 sl) := bkeep hb (by first | (with_reducible exact q1) | (with_reducible exact akeep q1) | simp [*, go_sem]); replace q2 : w4.cell? ⟨w.heap.size, 2, none⟩ = some (.int .i64 sh) := bkeep hb (by first | (with_reducible exact q2) | (with_reducible exact akeep q2) | simp [*, go_sem]); replace q3 : w4.cell? ⟨w.heap.size, 3, none⟩ = some (.int .i64 ll) := bkeep hb (by first | (with_reducible exact q3) | (with_reducible exact akeep q3) | simp [*, go_sem]); replace q4 : w4.cell? ⟨w.heap.size, 4, none⟩ = some (.int .i64 lh) := bkeep hb (by first | (with_reducible exact q4) | (with_reducible exact akeep q4) | simp [*, go_sem]); replace q5 : w4.cell? ⟨w.heap.size, 5, none⟩ = some (.int .i64 hl) := bkeep hb (by first | (with_reducible exact q5) | (with_reducible exact akeep q5) | simp [*, go_sem]); replace q6 : w4.cell? ⟨w.heap.size, 6, none⟩ = some (.int .i64 hh) := bkeep hb (by first | (with_reducible exact q6) | (with_reducible exact akeep q6) | simp [*, go_sem]); skip
  clear hb
  go_wp2_with fail
  go_loopw [28] (fun iv wr => ∃ k : Nat, k ≤ b.length ∧ iv = .int .i64 k ∧ (∀ j, j < k → clashB ts (b.eraseIdx j) ⟨sl, sh⟩ = false) ∧ Below w.heap.size w wr ∧ Below w4.heap.size w4 wr) (fun iv _ => b.length - (intOf iv).toNat)
  case atStart => exact ⟨0, Nat.zero_le _, rfl, fun j hj => by omega, hb0, Below.refl _ _⟩
  case round =>
    obtain ⟨k, hk, rfl, hK, hb0, hb2⟩ := hrel
    have HK := hid hK; clear hK
    skip
    replace q0 := bkeep hb2 q0
    replace q1 := bkeep hb2 q1
    replace q2 := bkeep hb2 q2
    replace q3 := bkeep hb2 q3
    replace q4 := bkeep hb2 q4
    replace q5 := bkeep hb2 q5
    replace q6 := bkeep hb2 q6
    have hz0 := hb0.size
    have hz2 := hb2.size
    by_cases hlt : k < b.length
    · cases hE : clashB ts (b.eraseIdx k) ⟨sl, sh⟩
      · have HE := hid hE; clear hE
        go_upto_region 9 with fail
        refine wp_region_Rs [(4, IsNums (b.eraseIdx k)), (5, fun v _ => v = .bool false)] [0, 1, 2, 3, 4, 5] 0 (by kernel_rfl) rfl (by simp only [List.forall_mem_cons]; exact ⟨keeps_nums, keeps_eq, fun _ h => by cases h⟩) (by kernel_rfl) ?_
        simp only [numbered, List.filterMap_cons, List.filterMap_nil, List.getElem?_toArray, List.getElem?_cons_succ, List.getElem?_cons_zero, Option.map_some]
        show wpS _ _ _ _ _ _ _ [(_, _), (_, _), (_, _), (_, _), (_, _), (_, _)] _ _
        (refine wpS_quiet rfl rfl ?_; intro K hK inst hx; go_big_quiet_op; go_big_quiet_on; clear hx inst)
        (refine wpS_quiet rfl rfl ?_; intro K hK inst hx; go_big_quiet_op; go_big_quiet_on; clear hx inst)
        (refine wpS_quiet rfl rfl ?_; intro K hK inst hx; go_big_quiet_op; go_big_quiet_on; clear hx inst)
        (refine wpS_quiet rfl rfl ?_; intro K hK inst hx; go_big_quiet_op; go_big_quiet_on; clear hx inst)
        refine wpS_fresh rfl rfl (fun w' hb hF => ?_) ?_
        · change freshAt _ _ _ (IsNums (b.eraseIdx k)) _; unfold freshAt; go_simp; exact without_any (hi.below (bnext (by go_grown) hb)) hlt (by omega)
        intro v W hv; simp only [pOf, List.lookup_cons, Nat.reduceBEq, beq_self_eq_true] at hv; have h4 := hv; obtain ⟨ra, rc, rfl, -, -⟩ := hv.shape
        simp only [Act.put, List.setIfInBounds_toArray, List.set_cons_succ, List.set_cons_zero]
        refine wpS_fresh rfl rfl (fun w' hb hF => ?_) ?_
        · change freshAt _ _ _ (fun v _ => v = .bool false) _; have h4 : IsNums (b.eraseIdx k) _ w' := hF 4 _ rfl (by kernel_rfl); unfold freshAt; go_simp; exact contradict_any (h.below (bnext (by go_grown) hb)) h4 HE.out
        intro v W hv; simp only [pOf, List.lookup_cons, Nat.reduceBEq, beq_self_eq_true] at hv; subst hv
        simp only [Act.put, List.setIfInBounds_toArray, List.set_cons_succ, List.set_cons_zero]
        refine wpS_nil ?_
        intro w6 hall
        have hb := hall.1
        clear hall
        refine wpAny_done (by kernel_rfl) ?_ _
        replace hb0 := bnext (w := w) (by omega) hb
        replace hb2 := bnext (w := w4) (by omega) hb
        clear hb
        go_wp2_with fail
        go_roundw
        case rel => exact ⟨k + 1, by omega, by go_num, fun j hj => (Nat.lt_or_ge j k).elim (HK.out j) (fun h => by have e : j = k := (by omega); subst e; exact HE.out), hb0, hb2⟩
        case measure => first | (simp [intOf]; done) | (simp [intOf]; omega)
      · have HE := hid hE; clear hE
        go_upto_region 9 with fail
        refine wp_region_Rs [(4, IsNums (b.eraseIdx k)), (5, fun v _ => v = .bool true)] [0, 1, 2, 3, 4, 5] 0 (by kernel_rfl) rfl (by simp only [List.forall_mem_cons]; exact ⟨keeps_nums, keeps_eq, fun _ h => by cases h⟩) (by kernel_rfl) ?_
        simp only [numbered, List.filterMap_cons, List.filterMap_nil, List.getElem?_toArray, List.getElem?_cons_succ, List.getElem?_cons_zero, Option.map_some]
        show wpS _ _ _ _ _ _ _ [(_, _), (_, _), (_, _), (_, _), (_, _), (_, _)] _ _
        (refine wpS_quiet rfl rfl ?_; intro K hK inst hx; go_big_quiet_op; go_big_quiet_on; clear hx inst)
        (refine wpS_quiet rfl rfl ?_; intro K hK inst hx; go_big_quiet_op; go_big_quiet_on; clear hx inst)
        (refine wpS_quiet rfl rfl ?_; intro K hK inst hx; go_big_quiet_op; go_big_quiet_on; clear hx inst)
        (refine wpS_quiet rfl rfl ?_; intro K hK inst hx; go_big_quiet_op; go_big_quiet_on; clear hx inst)
        refine wpS_fresh rfl rfl (fun w' hb hF => ?_) ?_
        · change freshAt _ _ _ (IsNums (b.eraseIdx k)) _; unfold freshAt; go_simp; exact without_any (hi.below (bnext (by go_grown) hb)) hlt (by omega)
        intro v W hv; simp only [pOf, List.lookup_cons, Nat.reduceBEq, beq_self_eq_true] at hv; have h4 := hv; obtain ⟨ra, rc, rfl, -, -⟩ := hv.shape
        simp only [Act.put, List.setIfInBounds_toArray, List.set_cons_succ, List.set_cons_zero]
        refine wpS_fresh rfl rfl (fun w' hb hF => ?_) ?_
        · change freshAt _ _ _ (fun v _ => v = .bool true) _; have h4 : IsNums (b.eraseIdx k) _ w' := hF 4 _ rfl (by kernel_rfl); unfold freshAt; go_simp; exact contradict_any (h.below (bnext (by go_grown) hb)) h4 HE.out
        intro v W hv; simp only [pOf, List.lookup_cons, Nat.reduceBEq, beq_self_eq_true] at hv; subst hv
        simp only [Act.put, List.setIfInBounds_toArray, List.set_cons_succ, List.set_cons_zero]
        refine wpS_nil ?_
        intro w6 hall
        have hb := hall.1
        clear hall
        refine wpAny_done (by kernel_rfl) ?_ _
        replace hb0 := bnext (w := w) (by omega) hb
        replace hb2 := bnext (w := w4) (by omega) hb
        clear hb
        go_wp2_with fail
        go_ret
        exact ⟨ret_int (ckC_no HZ.out hlt HE.out), by go_grown⟩
    · go_wp2_with fail
      go_ret
      exact ⟨ret_int (ckC_yes HZ.out HG.out HX.out fun j hj => HK.out j (by omega)), by go_grown⟩

end Go.Proofs.Ytcadbcmldlammaa
