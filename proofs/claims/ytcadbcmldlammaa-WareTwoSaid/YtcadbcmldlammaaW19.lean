/- Contracts of CheckTrials, Narrow and Bar; below the blocks that were there nothing turns. -/
import Derived.Test.YtcadbcmldlammaaW18
import Derived.Test.YtcadbcmldlammaaP5
namespace Go.Proofs.Ytcadbcmldlammaa
open Go.RowKit Go.Pb Go.Pb.Ware
set_option linter.unusedVariables false
set_option linter.unusedSimpArgs false

theorem isTrial_eq {a0 a1 a2 a3 a4 : Int} {b : Bool} {w : World} (h : trOk ⟨a0, ⟨a1, a2⟩, ⟨a3, a4⟩⟩ = b) :
    Calls Try.prog 81 #[.agg #[.int .i64 a0, .int .i64 a1, .int .i64 a2, .int .i64 a3, .int .i64 a4]] w (Ret w (.bool b)) := by subst h; exact isTrial_any
theorem rcheckTrial_eq {a0 a1 a2 a3 a4 c : Int} {w : World} (h : ckT ⟨a0, ⟨a1, a2⟩, ⟨a3, a4⟩⟩ = c) :
    Calls Try.prog 34 #[.agg #[.int .i64 a0, .int .i64 a1, .int .i64 a2, .int .i64 a3, .int .i64 a4]] w (Ret w (.int .i64 c)) := by subst h; exact rcheckTrial_any
theorem checkBody_eq {id sl sh ll lh hl hh c : Int} {w : World} (h : ckB ⟨id, ⟨sl, sh⟩, ⟨ll, lh⟩, ⟨hl, hh⟩⟩ = c) :
    Calls Try.prog 75 #[.agg #[.int .i64 id, .int .i64 sl, .int .i64 sh, .int .i64 ll, .int .i64 lh, .int .i64 hl, .int .i64 hh]] w (Ret w (.int .i64 c)) := by subst h; exact checkBody
set_option maxRecDepth 100000 in
set_option maxHeartbeats 4000000 in
theorem checkTrials {w : World} {v : Value} {rows : List (List Int)} (h : RowsAt 5 w v rows) :
    Calls Try.prog 85 #[v] w (Ret w (.int .i64 (ckTs rows))) := by
  unfold Ret
  obtain ⟨a, cap, rfl, hlen⟩ := h.shape
  by_cases hm : 30 < (rows.length : Int)
  · rw [ckTs_long hm]
    go_enter Try.func85, Try.ntmps85
    go_wp2
    go_ret
    exact ⟨rfl, by go_grown⟩
  · have hm2 : (rows.length : Int) ≤ 30 := by omega
    go_enter Try.func85, Try.ntmps85
    go_wp2_with fail
    go_loopw [10] (fun i wr => ∃ (k : Nat), k ≤ rows.length ∧ i = .int .i64 k ∧ rows.all okT = (rows.drop k).all okT ∧ Below w.heap.size w wr) (fun i _ => rows.length - (intOf i).toNat)
    case atStart => exact ⟨0, by omega, rfl, rfl, by go_grown⟩
    case round =>
      obtain ⟨k, hk, rfl, hK, hb0⟩ := hrel
      have HK := hid hK; clear hK
      have hz0 := hb0.size
      by_cases hlt : k < rows.length
      · obtain ⟨a', ha, hl, hc0, hc⟩ := (h.below hb0).row hlt
        subst ha
        obtain ⟨a0, a1, a2, a3, a4, hr⟩ := len5 hl
        rw [hr] at hc hc0
        have r0 := hc0 _ rfl
        have r1 := hc 1 _ (by decide) rfl
        have r2 := hc 2 _ (by decide) rfl
        have r3 := hc 3 _ (by decide) rfl
        have r4 := hc 4 _ (by decide) rfl
        clear hc hc0
        have HR := hid hr; clear hr
        cases hv : trOk ⟨a0, ⟨a1, a2⟩, ⟨a3, a4⟩⟩
        · have V0 := hid hv; clear hv
          go_wp2_with (go_at_call 81; refine (isTrial_eq V0.out).mono ?_; rintro e w1 ⟨rfl, hb⟩; replace hb0 := bnext (w := w) (by go_grown) hb; have hz := hb.size; (try simp only [World.size_alloc, World.size_setCell] at hz); clear hb)
          go_ret
          exact ⟨ret_int (by rw [ckTs_all hm2 false (by rw [HK.out, all_drop hlt, HR.out, show okT [a0, a1, a2, a3, a4] = trOk ⟨a0, ⟨a1, a2⟩, ⟨a3, a4⟩⟩ from rfl, V0.out]; rfl)]; rfl), by go_grown⟩
        · have V0 := hid hv; clear hv
          go_wp2_with (go_at_call 81; refine (isTrial_eq V0.out).mono ?_; rintro e w1 ⟨rfl, hb⟩; replace hb0 := bnext (w := w) (by go_grown) hb; have hz := hb.size; (try simp only [World.size_alloc, World.size_setCell] at hz); clear hb)
          go_roundw
          case rel => exact ⟨k + 1, by omega, by go_num, by rw [HK.out, all_drop hlt, HR.out, show okT [a0, a1, a2, a3, a4] = trOk ⟨a0, ⟨a1, a2⟩, ⟨a3, a4⟩⟩ from rfl, V0.out]; rfl, hb0⟩
          case measure => first | (simp [intOf]; done) | (simp [intOf]; omega)
      · go_wp2_with fail
        go_ret
        exact ⟨ret_int (by rw [ckTs_all hm2 true (by rw [HK.out, List.drop_eq_nil_of_le (by omega)]; rfl)]; rfl), by go_grown⟩

theorem checkTrials_eq {w : World} {c : Int} {v : Value} {rows : List (List Int)} (h : RowsAt 5 w v rows) (hc : ckTs rows = c) :
    Calls Try.prog 85 #[v] w (Ret w (.int .i64 c)) := by subst hc; exact checkTrials h

set_option maxRecDepth 100000 in
set_option maxHeartbeats 4000000 in
theorem rCheckTrials {w : World} {v : Value} {rows : List (List Int)} (h : RowsAt 5 w v rows) :
    Calls Try.prog 9 #[v] w (Ret w (.int .i64 (ckTs rows))) := by
  unfold Ret
  obtain ⟨a, cap, rfl, hlen⟩ := h.shape
  by_cases hm : 30 < (rows.length : Int)
  · rw [ckTs_long hm]
    go_enter Try.func9, Try.ntmps9
    go_wp2
    go_ret
    exact ⟨rfl, by go_grown⟩
  · have hm2 : (rows.length : Int) ≤ 30 := by omega
    go_enter Try.func9, Try.ntmps9
    go_wp2_with fail
    go_loopw [3] (fun i wr => ∃ (k : Nat), k ≤ rows.length ∧ i = .int .i64 k ∧ rows.all okT = (rows.drop k).all okT ∧ Below w.heap.size w wr) (fun i _ => rows.length - (intOf i).toNat)
    case atStart => exact ⟨0, by omega, rfl, rfl, by go_grown⟩
    case round =>
      obtain ⟨k, hk, rfl, hK, hb0⟩ := hrel
      have HK := hid hK; clear hK
      have hz0 := hb0.size
      by_cases hlt : k < rows.length
      · obtain ⟨a', ha, hl, hc0, hc⟩ := (h.below hb0).row hlt
        subst ha
        obtain ⟨a0, a1, a2, a3, a4, hr⟩ := len5 hl
        rw [hr] at hc hc0
        have r0 := hc0 _ rfl
        have r1 := hc 1 _ (by decide) rfl
        have r2 := hc 2 _ (by decide) rfl
        have r3 := hc 3 _ (by decide) rfl
        have r4 := hc 4 _ (by decide) rfl
        clear hc hc0
        have HR := hid hr; clear hr
        cases hv : trOk ⟨a0, ⟨a1, a2⟩, ⟨a3, a4⟩⟩
        · have c0 : ckT ⟨a0, ⟨a1, a2⟩, ⟨a3, a4⟩⟩ = 13 := by simp [ckT, hv]
          have C0 := hid c0; clear c0
          have V0 := hid hv; clear hv
          go_wp2_with (go_at_call 34; refine (rcheckTrial_eq (c := 13) C0.out).mono ?_; rintro e w1 ⟨rfl, hb⟩; replace hb0 := bnext (w := w) (by go_grown) hb; have hz := hb.size; (try simp only [World.size_alloc, World.size_setCell] at hz); clear hb)
          go_ret
          exact ⟨ret_int (by rw [ckTs_all hm2 false (by rw [HK.out, all_drop hlt, HR.out, show okT [a0, a1, a2, a3, a4] = trOk ⟨a0, ⟨a1, a2⟩, ⟨a3, a4⟩⟩ from rfl, V0.out]; rfl)]; rfl), by go_grown⟩
        · have c0 : ckT ⟨a0, ⟨a1, a2⟩, ⟨a3, a4⟩⟩ = 0 := by simp [ckT, hv]
          have C0 := hid c0; clear c0
          have V0 := hid hv; clear hv
          go_wp2_with (go_at_call 34; refine (rcheckTrial_eq (c := 0) C0.out).mono ?_; rintro e w1 ⟨rfl, hb⟩; replace hb0 := bnext (w := w) (by go_grown) hb; have hz := hb.size; (try simp only [World.size_alloc, World.size_setCell] at hz); clear hb)
          go_roundw
          case rel => exact ⟨k + 1, by omega, by go_num, by rw [HK.out, all_drop hlt, HR.out, show okT [a0, a1, a2, a3, a4] = trOk ⟨a0, ⟨a1, a2⟩, ⟨a3, a4⟩⟩ from rfl, V0.out]; rfl, hb0⟩
          case measure => first | (simp [intOf]; done) | (simp [intOf]; omega)
      · go_wp2_with fail
        go_ret
        exact ⟨ret_int (by rw [ckTs_all hm2 true (by rw [HK.out, List.drop_eq_nil_of_le (by omega)]; rfl)]; rfl), by go_grown⟩

theorem rCheckTrials_eq {w : World} {c : Int} {v : Value} {rows : List (List Int)} (h : RowsAt 5 w v rows) (hc : ckTs rows = c) :
    Calls Try.prog 9 #[v] w (Ret w (.int .i64 c)) := by subst hc; exact rCheckTrials h

set_option maxRecDepth 100000 in
set_option maxHeartbeats 4000000 in
theorem checkTold {w : World} {id sl sh ll lh hl hh : Int} {v : Value} {rows : List (List Int)} (h : RowsAt 5 w v rows) :
    Calls Try.prog 42 #[.agg #[.int .i64 id, .int .i64 sl, .int .i64 sh, .int .i64 ll, .int .i64 lh, .int .i64 hl, .int .i64 hh], v] w (Ret w (.int .i64 (ckA ⟨id, ⟨sl, sh⟩, ⟨ll, lh⟩, ⟨hl, hh⟩⟩ rows))) := by
  unfold Ret
  obtain ⟨a, cap, rfl, hlen⟩ := h.shape
  cases hB : boOk ⟨id, ⟨sl, sh⟩, ⟨ll, lh⟩, ⟨hl, hh⟩⟩
  · have c0 : ckB ⟨id, ⟨sl, sh⟩, ⟨ll, lh⟩, ⟨hl, hh⟩⟩ = 11 := by simp [ckB, hB]
    have C0 := hid c0; clear c0
    rw [show ckA ⟨id, ⟨sl, sh⟩, ⟨ll, lh⟩, ⟨hl, hh⟩⟩ rows = 11 by simp [ckA, hB]]
    go_enter Try.func42, Try.ntmps42
    go_wp2_with (go_at_call 75; refine (checkBody_eq C0.out).mono ?_; rintro e w1 ⟨rfl, hb⟩; replace hb0 := bnext (w := w) (by go_grown) hb; have hz := hb.size; (try simp only [World.size_alloc, World.size_setCell] at hz); replace q0 : w1.cell? ⟨w.heap.size, 0, none⟩ = some (.int .i64 id) := bkeep hb (by first | (with_reducible exact q0) | (with_reducible exact akeep q0) | simp [*, go_sem]); replace q1 : w1.cell? ⟨w.heap.size, 1, none⟩ = some (.int .i64 sl) := bkeep hb (by first | (with_reducible exact q1) | (with_reducible exact akeep q1) | simp [*, go_sem]); replace q2 : w1.cell? ⟨w.heap.size, 2, none⟩ = some (.int .i64 sh) := bkeep hb (by first | (with_reducible exact q2) | (with_reducible exact akeep q2) | simp [*, go_sem]); replace q3 : w1.cell? ⟨w.heap.size, 3, none⟩ = some (.int .i64 ll) := bkeep hb (by first | (with_reducible exact q3) | (with_reducible exact akeep q3) | simp [*, go_sem]); replace q4 : w1.cell? ⟨w.heap.size, 4, none⟩ = some (.int .i64 lh) := bkeep hb (by first | (with_reducible exact q4) | (with_reducible exact akeep q4) | simp [*, go_sem]); replace q5 : w1.cell? ⟨w.heap.size, 5, none⟩ = some (.int .i64 hl) := bkeep hb (by first | (with_reducible exact q5) | (with_reducible exact akeep q5) | simp [*, go_sem]); replace q6 : w1.cell? ⟨w.heap.size, 6, none⟩ = some (.int .i64 hh) := bkeep hb (by first | (with_reducible exact q6) | (with_reducible exact akeep q6) | simp [*, go_sem]); clear hb)
    go_ret
    exact ⟨rfl, by go_grown⟩
  · have c0 : ckB ⟨id, ⟨sl, sh⟩, ⟨ll, lh⟩, ⟨hl, hh⟩⟩ = 0 := by simp [ckB, hB]
    have C0 := hid c0; clear c0
    obtain ⟨ct, hct⟩ : ∃ ct, ckTs rows = ct := ⟨_, rfl⟩
    by_cases h0 : ct = 0
    · subst h0
      rw [ckA_in hB hct]
      have C1 := hid hct; clear hct hB
      go_enter Try.func42, Try.ntmps42
      go_wp2_with (first | (go_at_call 75; refine (checkBody_eq C0.out).mono ?_; rintro e w1 ⟨rfl, hb⟩; replace hb0 := bnext (w := w) (by go_grown) hb; have hz := hb.size; (try simp only [World.size_alloc, World.size_setCell] at hz); replace q0 : w1.cell? ⟨w.heap.size, 0, none⟩ = some (.int .i64 id) := bkeep hb (by first | (with_reducible exact q0) | (with_reducible exact akeep q0) | simp [*, go_sem]); replace q1 : w1.cell? ⟨w.heap.size, 1, none⟩ = some (.int .i64 sl) := bkeep hb (by first | (with_reducible exact q1) | (with_reducible exact akeep q1) | simp [*, go_sem]); replace q2 : w1.cell? ⟨w.heap.size, 2, none⟩ = some (.int .i64 sh) := bkeep hb (by first | (with_reducible exact q2) | (with_reducible exact akeep q2) | simp [*, go_sem]); replace q3 : w1.cell? ⟨w.heap.size, 3, none⟩ = some (.int .i64 ll) := bkeep hb (by first | (with_reducible exact q3) | (with_reducible exact akeep q3) | simp [*, go_sem]); replace q4 : w1.cell? ⟨w.heap.size, 4, none⟩ = some (.int .i64 lh) := bkeep hb (by first | (with_reducible exact q4) | (with_reducible exact akeep q4) | simp [*, go_sem]); replace q5 : w1.cell? ⟨w.heap.size, 5, none⟩ = some (.int .i64 hl) := bkeep hb (by first | (with_reducible exact q5) | (with_reducible exact akeep q5) | simp [*, go_sem]); replace q6 : w1.cell? ⟨w.heap.size, 6, none⟩ = some (.int .i64 hh) := bkeep hb (by first | (with_reducible exact q6) | (with_reducible exact akeep q6) | simp [*, go_sem]); clear hb) | (go_at_call 85; refine (checkTrials_eq (h.below (by go_grown)) C1.out).mono ?_; rintro e w1 ⟨rfl, hb⟩; replace hb0 := bnext (w := w) (by go_grown) hb; have hz := hb.size; (try simp only [World.size_alloc, World.size_setCell] at hz); replace q0 : w1.cell? ⟨w.heap.size, 0, none⟩ = some (.int .i64 id) := bkeep hb (by first | (with_reducible exact q0) | (with_reducible exact akeep q0) | simp [*, go_sem]); replace q1 : w1.cell? ⟨w.heap.size, 1, none⟩ = some (.int .i64 sl) := bkeep hb (by first | (with_reducible exact q1) | (with_reducible exact akeep q1) | simp [*, go_sem]); replace q2 : w1.cell? ⟨w.heap.size, 2, none⟩ = some (.int .i64 sh) := bkeep hb (by first | (with_reducible exact q2) | (with_reducible exact akeep q2) | simp [*, go_sem]); replace q3 : w1.cell? ⟨w.heap.size, 3, none⟩ = some (.int .i64 ll) := bkeep hb (by first | (with_reducible exact q3) | (with_reducible exact akeep q3) | simp [*, go_sem]); replace q4 : w1.cell? ⟨w.heap.size, 4, none⟩ = some (.int .i64 lh) := bkeep hb (by first | (with_reducible exact q4) | (with_reducible exact akeep q4) | simp [*, go_sem]); replace q5 : w1.cell? ⟨w.heap.size, 5, none⟩ = some (.int .i64 hl) := bkeep hb (by first | (with_reducible exact q5) | (with_reducible exact akeep q5) | simp [*, go_sem]); replace q6 : w1.cell? ⟨w.heap.size, 6, none⟩ = some (.int .i64 hh) := bkeep hb (by first | (with_reducible exact q6) | (with_reducible exact akeep q6) | simp [*, go_sem]); clear hb))
      go_ret
      exact ⟨rfl, by go_grown⟩
    · rw [show ckA ⟨id, ⟨sl, sh⟩, ⟨ll, lh⟩, ⟨hl, hh⟩⟩ rows = 13 by simp [ckA, hB, hct, h0]]
      have C1 := hid hct; clear hct hB
      have h1 : (ct == 0) = false := by simp [h0]
      have h2 : (ct != 0) = true := by simp [h0]
      clear h0
      go_enter Try.func42, Try.ntmps42
      go_wp2_with (first | (go_at_call 75; refine (checkBody_eq C0.out).mono ?_; rintro e w1 ⟨rfl, hb⟩; replace hb0 := bnext (w := w) (by go_grown) hb; have hz := hb.size; (try simp only [World.size_alloc, World.size_setCell] at hz); replace q0 : w1.cell? ⟨w.heap.size, 0, none⟩ = some (.int .i64 id) := bkeep hb (by first | (with_reducible exact q0) | (with_reducible exact akeep q0) | simp [*, go_sem]); replace q1 : w1.cell? ⟨w.heap.size, 1, none⟩ = some (.int .i64 sl) := bkeep hb (by first | (with_reducible exact q1) | (with_reducible exact akeep q1) | simp [*, go_sem]); replace q2 : w1.cell? ⟨w.heap.size, 2, none⟩ = some (.int .i64 sh) := bkeep hb (by first | (with_reducible exact q2) | (with_reducible exact akeep q2) | simp [*, go_sem]); replace q3 : w1.cell? ⟨w.heap.size, 3, none⟩ = some (.int .i64 ll) := bkeep hb (by first | (with_reducible exact q3) | (with_reducible exact akeep q3) | simp [*, go_sem]); replace q4 : w1.cell? ⟨w.heap.size, 4, none⟩ = some (.int .i64 lh) := bkeep hb (by first | (with_reducible exact q4) | (with_reducible exact akeep q4) | simp [*, go_sem]); replace q5 : w1.cell? ⟨w.heap.size, 5, none⟩ = some (.int .i64 hl) := bkeep hb (by first | (with_reducible exact q5) | (with_reducible exact akeep q5) | simp [*, go_sem]); replace q6 : w1.cell? ⟨w.heap.size, 6, none⟩ = some (.int .i64 hh) := bkeep hb (by first | (with_reducible exact q6) | (with_reducible exact akeep q6) | simp [*, go_sem]); clear hb) | (go_at_call 85; refine (checkTrials_eq (h.below (by go_grown)) C1.out).mono ?_; rintro e w1 ⟨rfl, hb⟩; replace hb0 := bnext (w := w) (by go_grown) hb; have hz := hb.size; (try simp only [World.size_alloc, World.size_setCell] at hz); replace q0 : w1.cell? ⟨w.heap.size, 0, none⟩ = some (.int .i64 id) := bkeep hb (by first | (with_reducible exact q0) | (with_reducible exact akeep q0) | simp [*, go_sem]); replace q1 : w1.cell? ⟨w.heap.size, 1, none⟩ = some (.int .i64 sl) := bkeep hb (by first | (with_reducible exact q1) | (with_reducible exact akeep q1) | simp [*, go_sem]); replace q2 : w1.cell? ⟨w.heap.size, 2, none⟩ = some (.int .i64 sh) := bkeep hb (by first | (with_reducible exact q2) | (with_reducible exact akeep q2) | simp [*, go_sem]); replace q3 : w1.cell? ⟨w.heap.size, 3, none⟩ = some (.int .i64 ll) := bkeep hb (by first | (with_reducible exact q3) | (with_reducible exact akeep q3) | simp [*, go_sem]); replace q4 : w1.cell? ⟨w.heap.size, 4, none⟩ = some (.int .i64 lh) := bkeep hb (by first | (with_reducible exact q4) | (with_reducible exact akeep q4) | simp [*, go_sem]); replace q5 : w1.cell? ⟨w.heap.size, 5, none⟩ = some (.int .i64 hl) := bkeep hb (by first | (with_reducible exact q5) | (with_reducible exact akeep q5) | simp [*, go_sem]); replace q6 : w1.cell? ⟨w.heap.size, 6, none⟩ = some (.int .i64 hh) := bkeep hb (by first | (with_reducible exact q6) | (with_reducible exact akeep q6) | simp [*, go_sem]); clear hb))
      go_ret
      exact ⟨rfl, by go_grown⟩

theorem checkTold_eq {w : World} {id sl sh ll lh hl hh c : Int} {v : Value} {rows : List (List Int)} (h : RowsAt 5 w v rows) (hc : ckA ⟨id, ⟨sl, sh⟩, ⟨ll, lh⟩, ⟨hl, hh⟩⟩ rows = c) :
    Calls Try.prog 42 #[.agg #[.int .i64 id, .int .i64 sl, .int .i64 sh, .int .i64 ll, .int .i64 lh, .int .i64 hl, .int .i64 hh], v] w (Ret w (.int .i64 c)) := by subst hc; exact checkTold h

end Go.Proofs.Ytcadbcmldlammaa
