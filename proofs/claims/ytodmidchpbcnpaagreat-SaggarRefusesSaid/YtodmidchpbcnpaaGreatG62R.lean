/- Part of a claim. -/
import Derived.Test.YtodmidchpbcnpaaGreatG58R
import Derived.Test.YtodmidchpbcnpaaGreatG59R
import Derived.Test.YtodmidchpbcnpaaGreatG27R
import Derived.Test.YtodmidchpbcnpaaGreatG51R
import Derived.Test.YtodmidchpbcnpaaGreatKG32R
set_option linter.unusedVariables false
set_option linter.unusedSimpArgs false
namespace Go.Proofs.YtodmidchpbcnpaaGreat
open Go.RowKit Go.Pb Go.Pb.Ware Go.Pb.Sag


theorem one_new' (w : World) (x : Value) (t : TypeId) (n : Nat) (hn : w.heap.size = n) : ∀ j u, [x][j]? = some u → (w.alloc (.cells #[x] t)).cell? ((⟨n, 0, none⟩ : Addr).add j) = some u := by
 subst hn
 intro j u h
 rw [Go.WideShapes.add_plain, Nat.zero_add]
 exact (CellsAt.new w [x] t j u h).1
theorem any_none {Q : Ft → Bool} {fs : List Ft} (h : ∀ j (hj : j < fs.length), Q fs[j] = false) : fs.any Q = false := by
 rw [List.any_eq_false]
 intro x hx
 obtain ⟨j, hj, rfl⟩ := List.getElem_of_mem hx
 rw [h j hj]; simp
theorem any_one {Q : Ft → Bool} {fs : List Ft} {k : Nat} (hk : k < fs.length) (h : Q fs[k] = true) : fs.any Q = true := List.any_eq_true.2 ⟨_, List.getElem_mem hk, h⟩
theorem refuse_1 {s : Bx} {fs : List Ft} {k : Nat} (hk : k < fs.length) (h : highB s fs[k] = true) (h0 : ∀ j (hj : j < fs.length), j < k → highB s fs[j] = false) : refuseF s fs = (1, [(k : Int)], 0) := by
 have e : kindL s fs = some 1 := kind_some (k := 1) (by omega) (by omega) (fun j h1 h2 => by omega) ((kind1 s fs).trans (any_one hk h))
 unfold refuseF
 rw [e]
 show ((1 : Int), neededL s fs 1, (0 : Int)) = _
 rw [needed_one (kind1 s) hk h h0]
theorem refuse_2 {s : Bx} {fs : List Ft} {k : Nat} (ht : ∀ j (hj : j < fs.length), highB s fs[j] = false) (hk : k < fs.length) (h : noStand s fs[k] = true) (h0 : ∀ j (hj : j < fs.length), j < k → noStand s fs[j] = false) : refuseF s fs = (2, [(k : Int)], 0) := by
 have e : kindL s fs = some 2 := kind_some (k := 2) (by omega) (by omega) (fun j h1 h2 => by rw [show j = 1 by omega]; exact (kind1 s fs).trans (any_none ht)) ((kind2 s fs).trans (any_one hk h))
 unfold refuseF
 rw [e]
 show ((2 : Int), neededL s fs 2, (0 : Int)) = _
 rw [needed_one (kind2 s) hk h h0]
theorem idx_map (k : Nat) : (idxs k).map (Value.int .i64) ++ [.int .i64 (k : Int)] = (idxs (k + 1)).map (Value.int .i64) := by rw [idxs_succ, List.map_append]; rfl
theorem nums_one' {w : World} {B T : Nat} {z : Int} (hB : w.heap.size = B) (hi : -100000 ≤ z ∧ z ≤ 100000) :
  NumsAt (w.alloc (.cells #[.int .i64 z] T)) (.slice (some ⟨B, 0, none⟩) 1 1) [z] := by
 subst hB
 have h := owns_new (w := w) (lo := 0) (T := T) (n := 1) (size := 1) (xs := [.int .i64 z]) (by simp) (by unfold maxLen; omega) (Nat.zero_le _)
 exact numsAt_of_owns (fun y hy => by rw [List.mem_singleton.1 hy]; exact i64_small hi.1 hi.2) h
set_option maxRecDepth 100000 in
set_option maxHeartbeats 8000000 in
theorem rRefuse_any {w : World} {vs vb : Value} {ss bs : List (List Int)} (h1 : RowsAt 11 w vs ss) (h2 : RowsAt 7 w vb bs) {lv : Value} {xs : List It} {bid bwi bde bce bhi bbe : Int} (hl : RowsAt 3 w lv (xs.map rowX)) :
  Calls Tryz.prog 44 #[.agg #[vs, vb], .agg #[.int .i64 bid, .int .i64 bwi, .int .i64 bde, .int .i64 bce, .int .i64 bhi, .int .i64 bbe], lv] w (RefuseRes (refuseA ss bs ⟨bid, bwi, bde, bce, bhi, bbe⟩ xs) w) := by
 obtain ⟨c, hc⟩ : ∃ c, ckL ss bs ⟨bid, bwi, bde, bce, bhi, bbe⟩ xs = c := ⟨_, rfl⟩
 unfold RefuseRes
 have HC := hid hc
 by_cases hc0 : c = 0
 ·subst hc0
  obtain ⟨hw, hX, hxl, hit⟩ := ckL_0 hc
  have hR : refuseA ss bs ⟨bid, bwi, bde, bce, bhi, bbe⟩ xs = refuseF ⟨bid, bwi, bde, bce, bhi, bbe⟩ (feetV ss bs ⟨bid, bwi, bde, bce, bhi, bbe⟩ xs) := by unfold refuseA; rw [if_pos hc]
  obtain ⟨fs, hfs⟩ : ∃ fs, (feetV ss bs ⟨bid, bwi, bde, bce, bhi, bbe⟩ xs) = fs := ⟨_, rfl⟩
  have hok : ∀ f ∈ fs, FtOk f := hfs ▸ feet_ok
  have hn : fs.length ≤ 5 := hfs ▸ feet_len
  have hf2 : xs.map (footR ss bce) = fs := by rw [← hfs, feetV_0 hc]
  rw [hR, hfs]
  have HF2 := hid hf2; have HX := hid hX; have HWW := hid hw; have HIT := hid (List.all_eq_true.2 hit); clear hf2 hfs hc hw hX hit hR
  go_enter Tryz.func44, Tryz.ntmps44
  go_wp2_with fail
  refine (rHead (h1.below (by go_grown)) (h2.below (by go_grown)) (hl.below (by go_grown)) HC.out).mono ?_
  rintro e w1 ⟨rfl, hb⟩
  replace hb0 := bnext (w := w) (by go_grown) hb; have hz := hb.size; (try simp only [World.size_alloc, World.size_setCell] at hz); replace q0 : w1.cell? ⟨w.heap.size, 0, none⟩ = some (vs) := bkeep hb (by first | (with_reducible exact q0) | (with_reducible exact akeep q0) | simp [*, go_sem]); replace q1 : w1.cell? ⟨w.heap.size, 1, none⟩ = some (vb) := bkeep hb (by first | (with_reducible exact q1) | (with_reducible exact akeep q1) | simp [*, go_sem]); replace q2 : w1.cell? ⟨w.heap.size + 1, 0, none⟩ = some (.int .i64 bid) := bkeep hb (by first | (with_reducible exact q2) | (with_reducible exact akeep q2) | simp [*, go_sem]); replace q3 : w1.cell? ⟨w.heap.size + 1, 1, none⟩ = some (.int .i64 bwi) := bkeep hb (by first | (with_reducible exact q3) | (with_reducible exact akeep q3) | simp [*, go_sem]); replace q4 : w1.cell? ⟨w.heap.size + 1, 2, none⟩ = some (.int .i64 bde) := bkeep hb (by first | (with_reducible exact q4) | (with_reducible exact akeep q4) | simp [*, go_sem]); replace q5 : w1.cell? ⟨w.heap.size + 1, 3, none⟩ = some (.int .i64 bce) := bkeep hb (by first | (with_reducible exact q5) | (with_reducible exact akeep q5) | simp [*, go_sem]); replace q6 : w1.cell? ⟨w.heap.size + 1, 4, none⟩ = some (.int .i64 bhi) := bkeep hb (by first | (with_reducible exact q6) | (with_reducible exact akeep q6) | simp [*, go_sem]); replace q7 : w1.cell? ⟨w.heap.size + 1, 5, none⟩ = some (.int .i64 bbe) := bkeep hb (by first | (with_reducible exact q7) | (with_reducible exact akeep q7) | simp [*, go_sem]); replace f8 : w1.frozen? ⟨w.heap.size + 1 + 1, 0, none⟩ = false := bfree (v := .int .i64 0) hb (by first | (with_reducible exact q8) | (with_reducible exact akeep q8) | simp [*, go_sem]) (by first | (with_reducible exact f8) | (with_reducible exact afree q8 f8) | simp [*, go_sem]); replace q8 : w1.cell? ⟨w.heap.size + 1 + 1, 0, none⟩ = some (.int .i64 0) := bkeep hb (by first | (with_reducible exact q8) | (with_reducible exact akeep q8) | simp [*, go_sem]); replace f9 : w1.frozen? ⟨w.heap.size + 1 + 1, 1, none⟩ = false := bfree (v := .slice none 0 0) hb (by first | (with_reducible exact q9) | (with_reducible exact akeep q9) | simp [*, go_sem]) (by first | (with_reducible exact f9) | (with_reducible exact afree q9 f9) | simp [*, go_sem]); replace q9 : w1.cell? ⟨w.heap.size + 1 + 1, 1, none⟩ = some (.slice none 0 0) := bkeep hb (by first | (with_reducible exact q9) | (with_reducible exact akeep q9) | simp [*, go_sem]); skip
  clear hb
  go_wp2_with fail
  refine (rfeet_any (h1.below (by go_grown)) (h2.below (by go_grown)) (hl.below (by go_grown)) (by omega) HWW.out HX.out HIT.out).mono ?_
  rintro e w1 ⟨fv, rfl, hb, ho⟩
  replace hb0 := bnext (w := w) (by go_grown) hb; have hz := hb.size; (try simp only [World.size_alloc, World.size_setCell] at hz); replace q0 : w1.cell? ⟨w.heap.size, 0, none⟩ = some (vs) := bkeep hb (by first | (with_reducible exact q0) | (with_reducible exact akeep q0) | simp [*, go_sem]); replace q1 : w1.cell? ⟨w.heap.size, 1, none⟩ = some (vb) := bkeep hb (by first | (with_reducible exact q1) | (with_reducible exact akeep q1) | simp [*, go_sem]); replace q2 : w1.cell? ⟨w.heap.size + 1, 0, none⟩ = some (.int .i64 bid) := bkeep hb (by first | (with_reducible exact q2) | (with_reducible exact akeep q2) | simp [*, go_sem]); replace q3 : w1.cell? ⟨w.heap.size + 1, 1, none⟩ = some (.int .i64 bwi) := bkeep hb (by first | (with_reducible exact q3) | (with_reducible exact akeep q3) | simp [*, go_sem]); replace q4 : w1.cell? ⟨w.heap.size + 1, 2, none⟩ = some (.int .i64 bde) := bkeep hb (by first | (with_reducible exact q4) | (with_reducible exact akeep q4) | simp [*, go_sem]); replace q5 : w1.cell? ⟨w.heap.size + 1, 3, none⟩ = some (.int .i64 bce) := bkeep hb (by first | (with_reducible exact q5) | (with_reducible exact akeep q5) | simp [*, go_sem]); replace q6 : w1.cell? ⟨w.heap.size + 1, 4, none⟩ = some (.int .i64 bhi) := bkeep hb (by first | (with_reducible exact q6) | (with_reducible exact akeep q6) | simp [*, go_sem]); replace q7 : w1.cell? ⟨w.heap.size + 1, 5, none⟩ = some (.int .i64 bbe) := bkeep hb (by first | (with_reducible exact q7) | (with_reducible exact akeep q7) | simp [*, go_sem]); replace f8 : w1.frozen? ⟨w.heap.size + 1 + 1, 0, none⟩ = false := bfree (v := .int .i64 0) hb (by first | (with_reducible exact q8) | (with_reducible exact akeep q8) | simp [*, go_sem]) (by first | (with_reducible exact f8) | (with_reducible exact afree q8 f8) | simp [*, go_sem]); replace q8 : w1.cell? ⟨w.heap.size + 1 + 1, 0, none⟩ = some (.int .i64 0) := bkeep hb (by first | (with_reducible exact q8) | (with_reducible exact akeep q8) | simp [*, go_sem]); replace f9 : w1.frozen? ⟨w.heap.size + 1 + 1, 1, none⟩ = false := bfree (v := .slice none 0 0) hb (by first | (with_reducible exact q9) | (with_reducible exact akeep q9) | simp [*, go_sem]) (by first | (with_reducible exact f9) | (with_reducible exact afree q9 f9) | simp [*, go_sem]); replace q9 : w1.cell? ⟨w.heap.size + 1 + 1, 1, none⟩ = some (.slice none 0 0) := bkeep hb (by first | (with_reducible exact q9) | (with_reducible exact akeep q9) | simp [*, go_sem]); skip
  clear hb
  rw [HF2.out] at ho
  have hfa := feetAt_of_owns hok ho
  obtain ⟨fa, fc, rfl, hfl⟩ := owns_shape ho
  clear ho
  obtain ⟨v1, hv1⟩ : ∃ v, v = w1 := ⟨_, rfl⟩
  subst hv1
  have hD1 := CellsAt.pair q8 f8 q9 f9
  clear q0 q1 q8 q9 f8 f9
  go_wp2_with fail
  go_loopg [10, 32] fs.length (fun gk _ kv wr => ∃ k : Nat, k ≤ fs.length ∧ gk = fs.length - k ∧ kv = .int .i64 k ∧ Hid (∀ j (hj : j < fs.length), j < k → highB ⟨bid, bwi, bde, bce, bhi, bbe⟩ fs[j] = false) ∧ Below v1.heap.size v1 wr)
  case atStart => exact ⟨0, Nat.zero_le _, rfl, rfl, (fun j h1 h2 => by omega), Below.refl _ _⟩
  case round =>
   obtain ⟨k, hk, hgk, rfl, HT, hB⟩ := hrel
   have HGK := hid hgk; clear hgk
   have hb1 : Below w.heap.size w wr := bnext (w := w) hb0 hB
   by_cases hlt : k < fs.length
   ·have hki : (k : Int) < (fs.length : Int) := by omega
    have c6 := bkeep hB q6
    have hlw := hfa.below hB
    obtain ⟨ra, hra, hrl, hc0, hcc⟩ := (show RowsAt 4 wr (.slice fa (fs.map rowF).length fc) (fs.map rowF) by rw [List.length_map]; exact hlw).row (k := k) (by rw [List.length_map]; exact hlt)
    subst hra
    obtain ⟨⟨rw, rd, rh, rg⟩, hrf⟩ : ∃ f, fs[k] = f := ⟨_, rfl⟩
    have hat : (fs.map rowF)[k]'(by rw [List.length_map]; exact hlt) = [rw, rd, rh, rg] := by rw [List.getElem_map, hrf]; rfl
    rw [hat] at hc0 hcc
    have p0 := hc0 _ rfl
    have p1 := hcc 1 _ (by decide) rfl
    have p2 := hcc 2 _ (by decide) rfl
    have p3 := hcc 3 _ (by decide) rfl
    clear hc0 hcc hat hrl
    have hhb : highB ⟨bid, bwi, bde, bce, bhi, bbe⟩ fs[k] = decide (bhi < rh) := by rw [hrf]; rfl
    have HHB := hid hhb; clear hhb hrf hlw
    go_upto_region 8 with fail
    have xc6 := fun x : BW wr => bkeep x.below c6
    have xp0 := fun x : BW wr => bkeep x.below p0
    have xp1 := fun x : BW wr => bkeep x.below p1
    have xp2 := fun x : BW wr => bkeep x.below p2
    have xp3 := fun x : BW wr => bkeep x.below p3
    refine wp_region_qb (by kernel_rfl) (by kernel_rfl) fun hc => ?_
    repeat (go_big_quiet_step (fail))
    refine wpQuiet_nil ?_
    intro w9 hb
    replace hb1 := bnext (w := w) hb1 hb
    replace hB := bnext (w := v1) hB hb
    clear hb hc xc6 xp0 xp1 xp2 xp3 c6 p0 p1 p2 p3
    by_cases hgt : bhi < rh
    ·as_aux_lemma =>
      have hD := hD1.below hB
      have hR : refuseF ⟨bid, bwi, bde, bce, bhi, bbe⟩ fs = (1, [(k : Int)], 0) := refuse_1 hlt (HHB.out.trans (decide_eq_true hgt)) HT.out
      have HR := hid hR; clear hR
      have hkb : -100000 ≤ (k : Int) ∧ (k : Int) ≤ 100000 := by omega
      have d0 := (hD 0 _ rfl).1; have d1 := (hD 1 _ rfl).1; have g0 := (hD 0 _ rfl).2; have g1 := (hD 1 _ rfl).2
      have hzl := World.block_lt_of_cell? w9 _ d0
      dsimp only at hzl
      have hne : ∀ b, (Value.slice (some ⟨w9.heap.size, 0, none⟩) 1 1).ownBlock = some b → b ≠ w.heap.size + 1 + 1 := fun b e => by injection e with e; subst e; show w9.heap.size ≠ w.heap.size + 1 + 1; omega
      have HNE := hid hne; clear hne
      go_wp2_with fail
      refine bodyPost_ret (v := .tuple #[.agg #[.int .i64 1, .slice (some ⟨w9.heap.size, 0, none⟩) 1 1], .int .i64 0]) (by simp [results, Tryz.results44, go_sem, *]) rfl ?_
      rw [HR.out]
      exact ⟨_, rfl, by go_grown, nums_one' (by simp) hkb⟩
    ·have HT2 := hid (show ∀ j (hj : j < fs.length), j < k + 1 → highB ⟨bid, bwi, bde, bce, bhi, bbe⟩ fs[j] = false from fun j hj h => by (rcases Nat.lt_or_ge j k with h3 | h3); exact HT.out j hj h3; (have e : j = k := by omega); subst e; exact HHB.out.trans (decide_eq_false hgt))
     clear HT HHB
     go_wp2_with fail
     go_roundg (fs.length - (k + 1))
     case measure => have h := HGK.out; omega
     case rel => exact ⟨k + 1, by omega, rfl, by go_num, HT2, hB⟩
   ·obtain rfl : k = fs.length := by omega
    have HT1 := hid (show ∀ j (hj : j < fs.length), highB ⟨bid, bwi, bde, bce, bhi, bbe⟩ fs[j] = false from fun j hj => HT.out j hj hj)
    clear HT
    obtain ⟨v2, hv2⟩ : ∃ v, v = wr := ⟨_, rfl⟩
    subst hv2
    replace q2 := bkeep hB q2
    replace q3 := bkeep hB q3
    replace q4 := bkeep hB q4
    replace q5 := bkeep hB q5
    replace q6 := bkeep hB q6
    replace q7 := bkeep hB q7
    have hD2 := hD1.below hB
    have hfa2 := hfa.below hB
    clear hD1 hfa HGK
    go_wp2_with fail
    go_loopg [11, 49] fs.length (fun gk _ kv wr => ∃ k : Nat, k ≤ fs.length ∧ gk = fs.length - k ∧ kv = .int .i64 k ∧ Hid (∀ j (hj : j < fs.length), j < k → noStand ⟨bid, bwi, bde, bce, bhi, bbe⟩ fs[j] = false) ∧ Below v2.heap.size v2 wr)
    case atStart => exact ⟨0, Nat.zero_le _, rfl, rfl, (fun j h1 h2 => by omega), Below.refl _ _⟩
    case round =>
     obtain ⟨k, hk, hgk, rfl, HT, hB⟩ := hrel
     have HGK := hid hgk; clear hgk
     have hb2 : Below w.heap.size w wr := bnext (w := w) hb1 hB
     by_cases hlt : k < fs.length
     ·have hki : (k : Int) < (fs.length : Int) := by omega
      have c2 := bkeep hB q2
      have c3 := bkeep hB q3
      have c4 := bkeep hB q4
      have c5 := bkeep hB q5
      have c6 := bkeep hB q6
      have c7 := bkeep hB q7
      have hlw := hfa2.below hB
      obtain ⟨ra, hra, hrl, hc0, hcc⟩ := (show RowsAt 4 wr (.slice fa (fs.map rowF).length fc) (fs.map rowF) by rw [List.length_map]; exact hlw).row (k := k) (by rw [List.length_map]; exact hlt)
      subst hra
      obtain ⟨⟨rw, rd, rh, rg⟩, hrf⟩ : ∃ f, fs[k] = f := ⟨_, rfl⟩
      have hat : (fs.map rowF)[k]'(by rw [List.length_map]; exact hlt) = [rw, rd, rh, rg] := by rw [List.getElem_map, hrf]; rfl
      rw [hat] at hc0 hcc
      have p0 := hc0 _ rfl
      have p1 := hcc 1 _ (by decide) rfl
      have p2 := hcc 2 _ (by decide) rfl
      have p3 := hcc 3 _ (by decide) rfl
      clear hc0 hcc hat hrl
      obtain ⟨SL, hSL⟩ : ∃ l, standsL ⟨bid, bwi, bde, bce, bhi, bbe⟩ ⟨rw, rd, rh, rg⟩ = l := ⟨_, rfl⟩
      have hnb : noStand ⟨bid, bwi, bde, bce, bhi, bbe⟩ fs[k] = decide ((SL.length : Int) = 0) := by rw [hrf]; show (standsL _ _).isEmpty = _; rw [hSL, Bool.eq_iff_iff, decide_eq_true_eq, List.isEmpty_iff, ← List.length_eq_zero_iff]; omega
      have hfo := hok fs[k] (List.getElem_mem hlt)
      rw [hrf] at hfo
      have hst : ∀ W' : World, Below wr.heap.size wr W' → Calls Tryz.prog 65 #[.agg #[.int .i64 bid, .int .i64 bwi, .int .i64 bde, .int .i64 bce, .int .i64 bhi, .int .i64 bbe], .agg #[.int .i64 rw, .int .i64 rd, .int .i64 rh, .int .i64 rg]] W' (fun e w'' => ∃ v, e = .returned v ∧ Below W'.heap.size W' w'' ∧ w''.ownsRow wr.heap.size 62 3 v SL.length (SL.flatMap cellsP)) := fun W' hb => by
       refine (rstands_any2 HX.out hfo).mono ?_
       rintro e w'' ⟨v, rfl, h2, h3⟩
       rw [hSL] at h3
       exact ⟨v, rfl, h2, owns_base hb.size h3⟩
      have HST := hid hst; have HNB := hid hnb; clear hst hnb hSL hrf hfo hlw
      go_upto_region 14 with fail
      refine wp_region_Rs [(5, fun v W => W.ownsRow wr.heap.size 62 3 v SL.length (SL.flatMap cellsP))] [0, 1, 2, 3, 4, 5, 6, 7] 0 (by kernel_rfl) rfl (by simp only [List.forall_mem_cons]; exact ⟨keeps_owns, fun _ h => by cases h⟩) (by kernel_rfl) ?_
      simp only [numbered, List.filterMap_cons, List.filterMap_nil, List.getElem?_toArray, List.getElem?_cons_succ, List.getElem?_cons_zero, Option.map_some]
      show wpS _ _ _ _ _ _ _ [(_, _), (_, _), (_, _), (_, _), (_, _), (_, _), (_, _), (_, _)] _ _
      (refine wpS_quiet rfl rfl ?_; intro K hK inst hx; have sc2 := fun x => (fun _ => bkeep (BQ.below x) c2) (hx x); have sc3 := fun x => (fun _ => bkeep (BQ.below x) c3) (hx x); have sc4 := fun x => (fun _ => bkeep (BQ.below x) c4) (hx x); have sc5 := fun x => (fun _ => bkeep (BQ.below x) c5) (hx x); have sc6 := fun x => (fun _ => bkeep (BQ.below x) c6) (hx x); have sc7 := fun x => (fun _ => bkeep (BQ.below x) c7) (hx x); go_big_quiet_op; go_big_quiet_on; clear hx inst)
      (refine wpS_quiet rfl rfl ?_; intro K hK inst hx; go_big_quiet_op; go_big_quiet_on; clear hx inst)
      (refine wpS_quiet rfl rfl ?_; intro K hK inst hx; go_big_quiet_op; go_big_quiet_on; clear hx inst)
      (refine wpS_quiet rfl rfl ?_; intro K hK inst hx; go_big_quiet_op; go_big_quiet_on; clear hx inst)
      (refine wpS_quiet rfl rfl ?_; intro K hK inst hx; have sp0 := fun x => (fun _ => bkeep (BQ.below x) p0) (hx x); have sp1 := fun x => (fun _ => bkeep (BQ.below x) p1) (hx x); have sp2 := fun x => (fun _ => bkeep (BQ.below x) p2) (hx x); have sp3 := fun x => (fun _ => bkeep (BQ.below x) p3) (hx x); go_big_quiet_op; go_big_quiet_on; clear hx inst)
      refine wpS_fresh rfl rfl (fun w' hb hF => ?_) ?_
      ·change freshAt _ _ _ (fun v W => W.ownsRow wr.heap.size 62 3 v SL.length (SL.flatMap cellsP)) _; unfold freshAt; go_simp; exact HST.out _ hb
      intro v W hv; simp only [pOf, List.lookup_cons, Nat.reduceBEq, beq_self_eq_true] at hv; obtain ⟨sa, sc, rfl, -⟩ := owns_shape hv
      simp only [Act.put, List.setIfInBounds_toArray, List.set_cons_succ, List.set_cons_zero]
      (refine wpS_quiet rfl rfl ?_; intro K hK inst hx; go_big_quiet_op; go_big_quiet_on; clear hx inst)
      (refine wpS_quiet rfl rfl ?_; intro K hK inst hx; go_big_quiet_op; go_big_quiet_on; clear hx inst)
      refine wpS_nil ?_
      intro w9 hall
      have hb := hall.1
      clear hall
      refine wpAny_done (by kernel_rfl) ?_ _
      replace hb2 := bnext (w := w) hb2 hb
      replace hB := bnext (w := v2) hB hb
      clear hb HST p0 p1 p2 p3 c2 c3 c4 c5 c6 c7
      by_cases hgt : (SL.length : Int) = 0
      ·as_aux_lemma =>
        have hD := hD2.below hB
        have hR : refuseF ⟨bid, bwi, bde, bce, bhi, bbe⟩ fs = (2, [(k : Int)], 0) := refuse_2 HT1.out hlt (HNB.out.trans (decide_eq_true hgt)) HT.out
        have HR := hid hR; clear hR
        have hkb : -100000 ≤ (k : Int) ∧ (k : Int) ≤ 100000 := by omega
        have d0 := (hD 0 _ rfl).1; have d1 := (hD 1 _ rfl).1; have g0 := (hD 0 _ rfl).2; have g1 := (hD 1 _ rfl).2
        have hzl := World.block_lt_of_cell? w9 _ d0
        dsimp only at hzl
        have hne : ∀ b, (Value.slice (some ⟨w9.heap.size, 0, none⟩) 1 1).ownBlock = some b → b ≠ w.heap.size + 1 + 1 := fun b e => by injection e with e; subst e; show w9.heap.size ≠ w.heap.size + 1 + 1; omega
        have HNE := hid hne; clear hne
        go_wp2_with fail
        refine bodyPost_ret (v := .tuple #[.agg #[.int .i64 2, .slice (some ⟨w9.heap.size, 0, none⟩) 1 1], .int .i64 0]) (by simp [results, Tryz.results44, go_sem, *]) rfl ?_
        rw [HR.out]
        exact ⟨_, rfl, by go_grown, nums_one' (by simp) hkb⟩
      ·have hgt2 : ((SL.length : Int) == 0) = false := beq_eq_false_iff_ne.mpr hgt
       have HT2 := hid (show ∀ j (hj : j < fs.length), j < k + 1 → noStand ⟨bid, bwi, bde, bce, bhi, bbe⟩ fs[j] = false from fun j hj h => by (rcases Nat.lt_or_ge j k with h3 | h3); exact HT.out j hj h3; (have e : j = k := by omega); subst e; exact HNB.out.trans (decide_eq_false hgt))
       clear HT HNB
       go_wp2_with fail
       go_roundg (fs.length - (k + 1))
       case measure => have h := HGK.out; omega
       case rel => exact ⟨k + 1, by omega, rfl, by go_num, HT2, hB⟩
     ·obtain rfl : k = fs.length := by omega
      have HT2 := hid (show ∀ j (hj : j < fs.length), noStand ⟨bid, bwi, bde, bce, bhi, bbe⟩ fs[j] = false from fun j hj => HT.out j hj hj)
      have hT : ∀ i : Nat, 1 ≤ i → i < 3 → troubleA ⟨bid, bwi, bde, bce, bhi, bbe⟩ fs (i : Int) = false := fun i h1 h2 => by
       rcases (show i = 1 ∨ i = 2 by omega) with rfl | rfl
       ·exact (kind1 ⟨bid, bwi, bde, bce, bhi, bbe⟩ fs).trans (any_none HT1.out)
       ·exact (kind2 ⟨bid, bwi, bde, bce, bhi, bbe⟩ fs).trans (any_none HT2.out)
      have HT3 := hid hT; clear hT HT HT1 HT2
      obtain ⟨v3, hv3⟩ : ∃ v, v = wr := ⟨_, rfl⟩
      subst hv3
      replace q2 := bkeep hB q2
      replace q3 := bkeep hB q3
      replace q4 := bkeep hB q4
      replace q5 := bkeep hB q5
      replace q6 := bkeep hB q6
      replace q7 := bkeep hB q7
      have hD3 := hD2.below hB
      have hfa3 := hfa2.below hB
      clear hD2 hfa2 hb1 HGK hB
      go_wp2_with fail
      generalize hW : World.alloc v3 _ = v4
      have hk0 : v4.cell? ⟨v3.heap.size, 0, none⟩ = some (.int .i64 3) := by rw [← hW]; simp [go_sem]
      have hk1 : v4.cell? ⟨v3.heap.size, 1, none⟩ = some (.int .i64 4) := by rw [← hW]; simp [go_sem]
      have hk2 : v4.cell? ⟨v3.heap.size, 2, none⟩ = some (.int .i64 5) := by rw [← hW]; simp [go_sem]
      have hkc : ∀ j : Nat, j < 3 → v4.cell? ⟨v3.heap.size, j, none⟩ = some (.int .i64 ((3 + j : Nat) : Int)) := fun j hj => by
       match j, hj with
       | 0, _ => exact hk0
       | 1, _ => exact hk1
       | 2, _ => exact hk2
      have HKC := hid hkc; clear hkc hk0 hk1 hk2
      have hb : Below v3.heap.size v3 v4 := by rw [← hW]; exact (Below.refl _ _).alloc (Nat.le_refl _) _
      replace hb2 := bnext (w := w) hb2 hb
      replace q2 := bkeep hb q2
      replace q3 := bkeep hb q3
      replace q4 := bkeep hb q4
      replace q5 := bkeep hb q5
      replace q6 := bkeep hb q6
      replace q7 := bkeep hb q7
      replace hD3 := hD3.below hb
      replace hfa3 := hfa3.below hb
      clear hb hW
      go_loopg [13, 14, 15, 16, 17, 66] 3 (fun gk _ _ _ _ _ kv wr => ∃ k : Nat, k ≤ 3 ∧ gk = 3 - k ∧ kv = .int .i64 k ∧ Hid (∀ i : Nat, 1 ≤ i → i < 3 + k → troubleA ⟨bid, bwi, bde, bce, bhi, bbe⟩ fs (i : Int) = false) ∧ Below v4.heap.size v4 wr)
      case atStart => exact ⟨0, by omega, rfl, rfl, HT3.out, Below.refl _ _⟩
      case round =>
       clear HT3
       obtain ⟨k, hk, hgk, rfl, HT, hB⟩ := hrel
       have HGK := hid hgk; clear hgk
       have hb3 : Below w.heap.size w wr := bnext (w := w) hb2 hB
       by_cases hlt : k < 3
       ·have hki : (k : Int) < 3 := by omega
        have c2 := bkeep hB q2
        have c3 := bkeep hB q3
        have c4 := bkeep hB q4
        have c5 := bkeep hB q5
        have c6 := bkeep hB q6
        have c7 := bkeep hB q7
        have r0 := bkeep hB (HKC.out k hlt)
        obtain ⟨kd, hkd⟩ : ∃ kd : Int, ((3 + k : Nat) : Int) = kd := ⟨_, rfl⟩
        rw [hkd] at r0
        have hk3 : kd = 3 ∨ kd = 4 ∨ kd = 5 := by omega
        have HKD := hid hkd; have HK3 := hid hk3; clear hkd hk3
        obtain ⟨tb, htb⟩ : ∃ tb, troubleA ⟨bid, bwi, bde, bce, bhi, bbe⟩ fs kd = tb := ⟨_, rfl⟩
        have HTB := hid htb; clear htb
        go_wp2_with fail
        refine (rBad HX.out (hfa3.below hB) hok hn HK3.out HTB.out).mono ?_
        rintro e w5 ⟨rfl, hb⟩
        replace hb3 := bnext (w := w) hb3 hb
        replace hB := bnext (w := v4) hB hb
        clear hb r0 c2 c3 c4 c5 c6 c7
        cases tb
        ·have HT2 := hid (show ∀ i : Nat, 1 ≤ i → i < 3 + (k + 1) → troubleA ⟨bid, bwi, bde, bce, bhi, bbe⟩ fs (i : Int) = false from fun i h1 h => by (rcases Nat.lt_or_ge i (3 + k) with h3 | h3); exact HT.out i h1 h3; (rw [show i = 3 + k by omega, HKD.out]; exact HTB.out))
         clear HT HTB HKD HK3
         go_wp2_with fail
         go_roundg (3 - (k + 1))
         case measure => have h := HGK.out; omega
         case rel => exact ⟨k + 1, by omega, rfl, by go_num, HT2, hB⟩
        ·as_aux_lemma =>
          have hR : refuseF ⟨bid, bwi, bde, bce, bhi, bbe⟩ fs = (kd, neededL ⟨bid, bwi, bde, bce, bhi, bbe⟩ fs kd, 0) := by
           have e : kindL ⟨bid, bwi, bde, bce, bhi, bbe⟩ fs = some kd := by
            rw [← HKD.out]; exact kind_some (by omega) (by omega) HT.out (by rw [HKD.out]; exact HTB.out)
           unfold refuseF; rw [e]
          obtain ⟨NL, hNL⟩ : ∃ l, neededL ⟨bid, bwi, bde, bce, bhi, bbe⟩ fs kd = l := ⟨_, rfl⟩
          rw [hNL] at hR
          have HR := hid hR; have HNL := hid hNL; clear hR hNL HT HTB HKD HGK
          obtain ⟨v5, hv5⟩ : ∃ v, v = w5 := ⟨_, rfl⟩
          subst hv5
          have c2 := bkeep hB q2
          have c3 := bkeep hB q3
          have c4 := bkeep hB q4
          have c5 := bkeep hB q5
          have c6 := bkeep hB q6
          have c7 := bkeep hB q7
          have hD4 := hD3.below hB
          have hfa4 := hfa3.below hB
          obtain ⟨i1, hi1, hy0, hy1, hy2⟩ := info_parts Tryz.infoI
          clear hB
          go_wp2_with fail
          go_loopg [14, 15, 77] fs.length (fun gk lv _ kv wr => ∃ j : Nat, j ≤ fs.length ∧ gk = fs.length - j ∧ kv = .int .i64 j ∧ wr.ownsRow v5.heap.size 3 1 lv j ((idxs j).map (Value.int .i64)) ∧ Below v5.heap.size v5 wr)
          case atStart => exact ⟨0, Nat.zero_le _, rfl, rfl, by simpa [idxs] using World.ownsRow_nil _ _ _ _, Below.refl _ _⟩
          case round =>
           obtain ⟨j, hj, hgk, rfl, ho, hB⟩ := hrel
           have HGK2 := hid hgk; clear hgk
           have hzr := hB.size
           by_cases hlj : j < fs.length
           ·as_aux_lemma =>
             have hji : (j : Int) < (fs.length : Int) := by omega
             obtain ⟨ua, uc, rfl, hul⟩ := owns_shape ho
             go_wp2_with (at_builtin; go_must (refine wpList_append_own _ rfl _ _ 71 rfl v5.heap.size 3 i1 (.int .i64 0) 1 8 Tryz.underlying71 hi1 hy0 hy1 hy2 rfl (by decide) _ _ _ rfl (ho.alloc _) ⟨wr.heap.size, 0, none⟩ 1 1 [.int .i64 (j : Int)] rfl rfl (one_new' _ _ _ _ rfl) (by simp [Value.oneCell']) (by unfold maxLen; omega) (by omega) (by simp; omega) ?_; intro v' w6 ho6 hg6 hnil; replace hB := below_grown (hB.alloc (by omega) _) hg6 (ho.alloc _) (by simp; omega) (by omega); clear hg6 hnil ho))
             rw [idx_map] at ho6
             have HO := hid ho6; clear ho6
             go_roundg (fs.length - (j + 1))
             case measure => have h := HGK2.out; omega
             case rel => exact ⟨j + 1, by omega, rfl, by go_num, HO.out, hB⟩
           ·as_aux_lemma =>
             obtain rfl : j = fs.length := by omega
             have hL0 : NumsAt wr _ (idxs fs.length) := numsAt_of_owns (fun z hz => by have := idxs_mem hz; exact i64_small (by omega) (by omega)) (by rw [idxs_len]; exact ho)
             have hown0 : ∀ b, Value.ownBlock _ = some b → v5.heap.size ≤ b := fun b e => (World.ownsRow.lt ho b e).1
             have hb4 : Below w.heap.size w wr := bnext (w := w) hb3 hB
             obtain ⟨v6, hv6⟩ : ∃ v, v = wr := ⟨_, rfl⟩
             subst hv6
             replace c2 := bkeep hB c2
             replace c3 := bkeep hB c3
             replace c4 := bkeep hB c4
             replace c5 := bkeep hB c5
             replace c6 := bkeep hB c6
             replace c7 := bkeep hB c7
             have hD5 := hD4.below hB
             have hfa5 := hfa4.below hB
             have hz56 := hB.size
             have hzl := World.block_lt_of_cell? v5 _ (hD4 0 _ rfl).1
             dsimp only at hzl
             clear hD4 hfa4 hb3 hB ho
             go_wp2_with fail
             go_loopg [14, 16, 17] (fs.length + 1) (fun gk lv iv _ wr => ∃ (m : Nat) (l : List Int), gk = m + 1 ∧ iv = .int .i64 ((m : Int) - 1) ∧ m ≤ fs.length ∧ NumsAt wr lv l ∧ Hid (∀ b, lv.ownBlock = some b → v5.heap.size ≤ b) ∧ (∀ z ∈ l, 0 ≤ z ∧ z < (fs.length : Int)) ∧ m ≤ l.length ∧ l.length ≤ fs.length ∧ Hid (needLoop ⟨bid, bwi, bde, bce, bhi, bbe⟩ fs kd m l = NL) ∧ Below v6.heap.size v6 wr)
             case atStart => exact ⟨fs.length, idxs fs.length, rfl, by go_num, Nat.le_refl _, hL0, hown0, fun z hz => idxs_mem hz, by rw [idxs_len]; exact Nat.le_refl _, by rw [idxs_len]; exact Nat.le_refl _, HNL.out, Below.refl _ _⟩
             case round =>
              clear hL0 hown0 HNL
              obtain ⟨m, l, hgk, rfl, hm, hL, HOWN, hlz, hml, hlk, HL, hB⟩ := hrel
              have HGK5 := hid hgk; clear hgk
              obtain ⟨ia, ic, rfl, hl1, hl2⟩ := hL.shape
              have hb5 : Below w.heap.size w wr := bnext (w := w) hb4 hB
              cases m with
              | zero =>
               as_aux_lemma =>
                have hn0 : ¬ (0 : Int) ≤ ((0 : Nat) : Int) - 1 := by omega
                have hD := hD5.below hB
                have d0 := (hD 0 _ rfl).1; have d1 := (hD 1 _ rfl).1; have g0 := (hD 0 _ rfl).2; have g1 := (hD 1 _ rfl).2
                have hl0 : l = NL := by rw [← HL.out]; rfl
                subst hl0
                have hne : ∀ b, (Value.slice ia l.length ic).ownBlock = some b → b ≠ w.heap.size + 1 + 1 := fun b e => by have := HOWN.out b e; omega
                have HNE := hid hne; have HLL := hid hL; clear hne hL
                obtain ⟨nl, hnl⟩ : ∃ nl, l.length = nl := ⟨_, rfl⟩
                have HNN := hid hnl
                rw [hnl]
                clear hnl
                go_wp2_with fail
                refine bodyPost_ret (v := .tuple #[.agg #[.int .i64 kd, .slice ia nl ic], .int .i64 0]) (by simp [results, Tryz.results44, go_sem, *]) rfl ?_
                rw [HR.out]
                exact ⟨_, rfl, by go_grown, by have h1 := HLL.out; have h2 := HNE.out; rw [HNN.out] at h1 h2; exact numsAt_set (numsAt_set h1 h2) h2⟩
              | succ i =>
               as_aux_lemma =>
                have hgi : (((i + 1 : Nat) : Int) - 1) = (i : Int) := by omega
                rw [hgi]
                clear hgi
                have hil : i < l.length := by omega
                have hi0 : (0 : Int) ≤ (i : Int) := by omega
                go_wp2_with fail
                refine (rWithout hL hil (by omega)).mono ?_
                rintro e v7 ⟨rv, rfl, hb, ho1⟩
                have hr1 := numsAt_of_owns (fun z hz => hL.i64 z (List.mem_of_mem_eraseIdx hz)) ho1
                have hz6 := hB.size
                have hown1 : ∀ b, rv.ownBlock = some b → v5.heap.size ≤ b := fun b e => by have := (World.ownsRow.lt ho1 b e).1; omega
                have HO1 := hid hown1; clear hown1 ho1
                have hB1 : Below v6.heap.size v6 v7 := bnext (w := v6) hB hb
                have hL1 := hL.below hb
                replace c2 := bkeep hB1 c2
                replace c3 := bkeep hB1 c3
                replace c4 := bkeep hB1 c4
                replace c5 := bkeep hB1 c5
                replace c6 := bkeep hB1 c6
                replace c7 := bkeep hB1 c7
                have hf7 := hfa5.below hB1
                have hel : (l.eraseIdx i).length = l.length - 1 := by rw [List.length_eraseIdx_of_lt hil]
                obtain ⟨b, hbb⟩ : ∃ b, troubleA ⟨bid, bwi, bde, bce, bhi, bbe⟩ (chosenL fs (l.eraseIdx i)) kd = b := ⟨_, rfl⟩
                have hst : needStep ⟨bid, bwi, bde, bce, bhi, bbe⟩ fs kd l i = if b = true then l.eraseIdx i else l := by unfold needStep; rw [hbb]
                have hnl : needLoop ⟨bid, bwi, bde, bce, bhi, bbe⟩ fs kd i (needStep ⟨bid, bwi, bde, bce, bhi, bbe⟩ fs kd l i) = NL := HL.out
                rw [hst] at hnl
                have HNS := hid hnl; clear hnl hst hb
                have hz1 : ∀ z ∈ l.eraseIdx i, 0 ≤ z ∧ z < (fs.length : Int) := fun z h => hlz z (List.mem_of_mem_eraseIdx h)
                obtain ⟨l1, hl1e⟩ : ∃ l1, l.eraseIdx i = l1 := ⟨_, rfl⟩
                rw [hl1e] at hr1 hel hbb hz1 HNS
                obtain ⟨cs, hcs⟩ : ∃ cs, chosenL fs l1 = cs := ⟨_, rfl⟩
                have hok1 := chosen_ok hok hz1
                have hn1 : (chosenL fs l1).length ≤ 5 := by rw [chosen_len]; omega
                rw [hcs] at hok1 hn1 hbb
                obtain ⟨ra, rc, rfl, hrl, hrc⟩ := hr1.shape
                have hch : ∀ W' : World, Below v7.heap.size v7 W' → Calls Tryz.prog 92 #[.slice fa fs.length fc, .slice ra l1.length rc] W' (fun e w'' => ∃ u, e = .returned u ∧ Below W'.heap.size W' w'' ∧ w''.ownsRow v7.heap.size 34 4 u cs.length (cs.flatMap cellsF)) := fun W' hb => by
                 rw [← hcs]; refine (rSome (hf7.below hb) (by omega) (hr1.below hb) (by omega) hz1).mono ?_
                 rintro e w'' ⟨u, rfl, h2, h3⟩
                 exact ⟨u, rfl, h2, owns_base hb.size h3⟩
                have htr : ∀ (W' : World) (u : Value), W'.ownsRow v7.heap.size 34 4 u cs.length (cs.flatMap cellsF) → Calls Tryz.prog 90 #[.agg #[.int .i64 bid, .int .i64 bwi, .int .i64 bde, .int .i64 bce, .int .i64 bhi, .int .i64 bbe], u, .int .i64 kd] W' (Ret W' (.bool b)) := fun W' u h => rBad HX.out (feetAt_of_owns hok1 h) hok1 hn1 HK3.out hbb
                have HCH := hid hch; have HTR := hid htr; have HEL := hid hel; clear hch htr hok1 hn1 hcs hbb hf7 hl1e hel
                go_upto_region 31 with fail
                refine wp_region_Rs [(3, fun v W => W.ownsRow v7.heap.size 34 4 v cs.length (cs.flatMap cellsF)), (5, fun v _ => v = .bool b)] [0, 1, 2, 3, 4, 5] 0 (by kernel_rfl) rfl (by simp only [List.forall_mem_cons]; exact ⟨keeps_owns, keeps_eq, fun _ h => by cases h⟩) (by kernel_rfl) ?_
                simp only [numbered, List.filterMap_cons, List.filterMap_nil, List.getElem?_toArray, List.getElem?_cons_succ, List.getElem?_cons_zero, Option.map_some]
                show wpS _ _ _ _ _ _ _ [(_, _), (_, _), (_, _), (_, _), (_, _), (_, _)] _ _
                (refine wpS_quiet rfl rfl ?_; intro K hK inst hx; have sc2 := fun x => (fun _ => bkeep (BQ.below x) c2) (hx x); have sc3 := fun x => (fun _ => bkeep (BQ.below x) c3) (hx x); have sc4 := fun x => (fun _ => bkeep (BQ.below x) c4) (hx x); have sc5 := fun x => (fun _ => bkeep (BQ.below x) c5) (hx x); have sc6 := fun x => (fun _ => bkeep (BQ.below x) c6) (hx x); have sc7 := fun x => (fun _ => bkeep (BQ.below x) c7) (hx x); go_big_quiet_op; go_big_quiet_on; clear hx inst)
                (refine wpS_quiet rfl rfl ?_; intro K hK inst hx; go_big_quiet_op; go_big_quiet_on; clear hx inst)
                (refine wpS_quiet rfl rfl ?_; intro K hK inst hx; go_big_quiet_op; go_big_quiet_on; clear hx inst)
                refine wpS_fresh rfl rfl (fun w' hb hF => ?_) ?_
                ·change freshAt _ _ _ (fun v W => W.ownsRow v7.heap.size 34 4 v cs.length (cs.flatMap cellsF)) _; unfold freshAt; go_simp; exact HCH.out _ hb
                intro v W hv; simp only [pOf, List.lookup_cons, Nat.reduceBEq, beq_self_eq_true] at hv; obtain ⟨ca, cc, rfl, -⟩ := owns_shape hv
                simp only [Act.put, List.setIfInBounds_toArray, List.set_cons_succ, List.set_cons_zero]
                (refine wpS_quiet rfl rfl ?_; intro K hK inst hx; go_big_quiet_op; go_big_quiet_on; clear hx inst)
                refine wpS_fresh rfl rfl (fun w' hb hF => ?_) ?_
                ·change freshAt _ _ _ (fun v _ => v = .bool b) _; have h4 := hF 3 _ rfl (by kernel_rfl); unfold freshAt; go_simp; exact HTR.out _ _ h4
                intro v W hv; simp only [pOf, List.lookup_cons, Nat.reduceBEq, beq_self_eq_true] at hv; subst hv
                simp only [Act.put, List.setIfInBounds_toArray, List.set_cons_succ, List.set_cons_zero]
                refine wpS_nil ?_
                intro w8 hall
                have hb := hall.1
                clear hall
                refine wpAny_done (by kernel_rfl) ?_ _
                have hB2 := bnext (w := v6) hB1 hb
                have hr2 := hr1.below hb
                have hL2 := hL1.below hb
                clear hb HCH HTR hr1 hL1 hL hB hB1 c2 c3 c4 c5 c6 c7
                cases b
                ·go_wp2_with fail
                 go_roundg (i + 1)
                 case measure => have h := HGK5.out; omega
                 case rel => exact ⟨i, l, rfl, rfl, by omega, hL2, HOWN, hlz, by omega, hlk, HNS.out, hB2⟩
                ·go_wp2_with fail
                 go_roundg (i + 1)
                 case measure => have h := HGK5.out; omega
                 case rel => exact ⟨i, l1, rfl, rfl, by omega, hr2, HO1, hz1, by have := HEL.out; omega, by have := HEL.out; omega, HNS.out, hB2⟩
       ·as_aux_lemma =>
         obtain rfl : k = 3 := by omega
         have hR : refuseF ⟨bid, bwi, bde, bce, bhi, bbe⟩ fs = (0, [], 3) := by unfold refuseF; rw [kind_none (fun j h1 h2 => HT.out j h1 h2)]
         have HR := hid hR
         clear hR HT
         have hD := hD3.below hB
         have d0 := (hD 0 _ rfl).1; have d1 := (hD 1 _ rfl).1; have g0 := (hD 0 _ rfl).2; have g1 := (hD 1 _ rfl).2
         go_wp2_with fail
         refine bodyPost_ret (v := .tuple #[.agg #[.int .i64 0, .slice none 0 0], .int .i64 3]) (by simp [results, Tryz.results44, go_sem, *]) rfl ?_
         rw [HR.out]
         exact ⟨_, rfl, by go_grown, .inl ⟨rfl, rfl⟩⟩
 ·have hR : refuseA ss bs ⟨bid, bwi, bde, bce, bhi, bbe⟩ xs = (0, [], c) := by unfold refuseA; rw [if_neg (by rw [hc]; exact hc0), hc]
  rw [hR]
  have hcn : (c != 0) = true := by simpa using hc0
  clear hc hR
  go_enter Tryz.func44, Tryz.ntmps44
  go_wp2_with fail
  refine (rHead (h1.below (by go_grown)) (h2.below (by go_grown)) (hl.below (by go_grown)) HC.out).mono ?_
  rintro e w1 ⟨rfl, hb⟩
  replace hb0 := bnext (w := w) (by go_grown) hb; have hz := hb.size; (try simp only [World.size_alloc, World.size_setCell] at hz); replace q0 : w1.cell? ⟨w.heap.size, 0, none⟩ = some (vs) := bkeep hb (by first | (with_reducible exact q0) | (with_reducible exact akeep q0) | simp [*, go_sem]); replace q1 : w1.cell? ⟨w.heap.size, 1, none⟩ = some (vb) := bkeep hb (by first | (with_reducible exact q1) | (with_reducible exact akeep q1) | simp [*, go_sem]); replace q2 : w1.cell? ⟨w.heap.size + 1, 0, none⟩ = some (.int .i64 bid) := bkeep hb (by first | (with_reducible exact q2) | (with_reducible exact akeep q2) | simp [*, go_sem]); replace q3 : w1.cell? ⟨w.heap.size + 1, 1, none⟩ = some (.int .i64 bwi) := bkeep hb (by first | (with_reducible exact q3) | (with_reducible exact akeep q3) | simp [*, go_sem]); replace q4 : w1.cell? ⟨w.heap.size + 1, 2, none⟩ = some (.int .i64 bde) := bkeep hb (by first | (with_reducible exact q4) | (with_reducible exact akeep q4) | simp [*, go_sem]); replace q5 : w1.cell? ⟨w.heap.size + 1, 3, none⟩ = some (.int .i64 bce) := bkeep hb (by first | (with_reducible exact q5) | (with_reducible exact akeep q5) | simp [*, go_sem]); replace q6 : w1.cell? ⟨w.heap.size + 1, 4, none⟩ = some (.int .i64 bhi) := bkeep hb (by first | (with_reducible exact q6) | (with_reducible exact akeep q6) | simp [*, go_sem]); replace q7 : w1.cell? ⟨w.heap.size + 1, 5, none⟩ = some (.int .i64 bbe) := bkeep hb (by first | (with_reducible exact q7) | (with_reducible exact akeep q7) | simp [*, go_sem]); replace f8 : w1.frozen? ⟨w.heap.size + 1 + 1, 0, none⟩ = false := bfree (v := .int .i64 0) hb (by first | (with_reducible exact q8) | (with_reducible exact akeep q8) | simp [*, go_sem]) (by first | (with_reducible exact f8) | (with_reducible exact afree q8 f8) | simp [*, go_sem]); replace q8 : w1.cell? ⟨w.heap.size + 1 + 1, 0, none⟩ = some (.int .i64 0) := bkeep hb (by first | (with_reducible exact q8) | (with_reducible exact akeep q8) | simp [*, go_sem]); replace f9 : w1.frozen? ⟨w.heap.size + 1 + 1, 1, none⟩ = false := bfree (v := .slice none 0 0) hb (by first | (with_reducible exact q9) | (with_reducible exact akeep q9) | simp [*, go_sem]) (by first | (with_reducible exact f9) | (with_reducible exact afree q9 f9) | simp [*, go_sem]); replace q9 : w1.cell? ⟨w.heap.size + 1 + 1, 1, none⟩ = some (.slice none 0 0) := bkeep hb (by first | (with_reducible exact q9) | (with_reducible exact akeep q9) | simp [*, go_sem]); skip
  clear hb
  go_wp2_with fail
  refine bodyPost_ret (v := .tuple #[.agg #[.int .i64 0, .slice none 0 0], .int .i64 c]) (by simp [results, Tryz.results44, go_sem, *]) rfl ?_
  exact ⟨_, rfl, by go_grown, .inl ⟨rfl, rfl⟩⟩
end Go.Proofs.YtodmidchpbcnpaaGreat