/- The packings are returned in order. -/
import Derived.Test.YtodmidchpbcnpaaGreatG38T
import Derived.Test.YtodmidchpbcnpaaGreatKInRoundT
namespace Go.Proofs.YtodmidchpbcnpaaGreat
open Go.RowKit Go.Pb Go.Pb.Ware Go.Pb.Sag
set_option linter.unusedVariables false
set_option linter.unusedSimpArgs false

theorem nth_fz {w : World} {sv iv : Value} {ss : List (List Int)} {xs : List It} {b2 b3 b4 b5 b6 : Int} (hs : RowsAt 11 w sv ss) (hi : RowsAt 3 w iv (xs.map rowX)) (hX : boxOk ⟨1, b2, b3, b4, b5, b6⟩ = true) (hk : ckL ss [] ⟨1, b2, b3, b4, b5, b6⟩ xs = 0) {i : Nat} {q : List St} {z : Int} (hz : z = (i : Int)) (hi9 : i ≤ 999) (hq : (shownL ⟨1, b2, b3, b4, b5, b6⟩ (feetV ss [] ⟨1, b2, b3, b4, b5, b6⟩ xs))[i]? = some q) : Calls Tryz.prog 29 #[.agg #[sv, .slice none 0 0], .agg #[.int .i64 1, .int .i64 b2, .int .i64 b3, .int .i64 b4, .int .i64 b5, .int .i64 b6], iv, .int .i64 z] w (fun e w' => ∃ v, e = .returned (.tuple #[v, .int .i64 0]) ∧ Below w.heap.size w w' ∧ StAt w' v (q.map toSq)) := by subst hz; exact nth_f hs hi hX hk hi9 hq
theorem nth_nz {w : World} {sv iv : Value} {ss : List (List Int)} {xs : List It} {b2 b3 b4 b5 b6 : Int} (hs : RowsAt 11 w sv ss) (hi : RowsAt 3 w iv (xs.map rowX)) (hX : boxOk ⟨1, b2, b3, b4, b5, b6⟩ = true) (hk : ckL ss [] ⟨1, b2, b3, b4, b5, b6⟩ xs = 0) {i : Nat} {z : Int} (hz : z = (i : Int)) (hq : 999 < i ∨ (shownL ⟨1, b2, b3, b4, b5, b6⟩ (feetV ss [] ⟨1, b2, b3, b4, b5, b6⟩ xs))[i]? = none) : Calls Tryz.prog 29 #[.agg #[sv, .slice none 0 0], .agg #[.int .i64 1, .int .i64 b2, .int .i64 b3, .int .i64 b4, .int .i64 b5, .int .i64 b6], iv, .int .i64 z] w (fun e w' => ∃ v, e = .returned (.tuple #[v, .int .i64 3]) ∧ Below w.heap.size w w' ∧ StAt w' v []) := by subst hz; exact nth_n hs hi hX hk hq

theorem shown_small {s : Bx} {fs : List Ft} {i : Nat} {q : List St} (hn : fs.length ≤ 5) (h : (shownL s fs)[i]? = some q) : (q.map toSq).length ≤ 1000 := by
  have h1 := shown_pack (List.mem_of_getElem? h)
  unfold packB at h1
  rw [Bool.and_eq_true, decide_eq_true_eq] at h1
  omega

set_option maxRecDepth 100000 in
set_option maxHeartbeats 8000000 in
theorem saggarOrder_walk {w : World} {rv iv pv : Value} {z0 z1 z2 z3 n : Int} {rows its : List (List Int)} {qs : List Sq} (hmade : ∀ (W : World) (rv iv : Value) (z0 z1 z2 z3 : Int) (rows its : List (List Int)), RowsAt 5 W rv rows → RowsAt 3 W iv its → Calls Tryz.prog 54 #[.agg #[rv, .int .i64 z0, .int .i64 z1, .int .i64 z2, .int .i64 z3, iv]] W (MadeRes W)) (hrv : RowsAt 5 w rv rows) (hiv : RowsAt 3 w iv its) (hp : StAt w pv qs) :
    Calls Tryz.prog 9 #[.agg #[rv, .int .i64 z0, .int .i64 z1, .int .i64 z2, .int .i64 z3, iv], .int .i64 n, pv] w (Ret w (.bool true)) := by
  unfold Ret
  obtain ⟨pa, pc, rfl, -, -⟩ := hp.shape
  go_enter Tryz.func9, Tryz.ntmps9
  go_wp2_with fail
  refine (hmade _ _ _ _ _ _ _ _ _ (hrv.below (by go_grown)) (hiv.below (by go_grown))).mono ?_
  rintro e v1 ⟨sv, iv, ss, xs, b2, b3, b4, b5, b6, rfl, hb, hs, hi, hg, hX, hx5, hall⟩
  have hk : ckL ss [] ⟨1, b2, b3, b4, b5, b6⟩ xs = 0 := good_ck hg hX hx5 hall
  have hok : ∀ f ∈ (feetV ss [] ⟨1, b2, b3, b4, b5, b6⟩ xs), FtOk f := feet_ok
  have hn5 : (feetV ss [] ⟨1, b2, b3, b4, b5, b6⟩ xs).length ≤ 5 := feet_len
  replace hp := (hp.below (by go_grown)).below hb
  have hb0 : Below w.heap.size w v1 := bnext (w := w) (by go_grown) hb
  have hz := hb.size
  (try simp only [World.size_alloc, World.size_setCell] at hz)
  clear hb hall hg hx5 hrv hiv
  obtain ⟨sa, sc, rfl, -⟩ := hs.shape
  obtain ⟨ia, ic, rfl, -⟩ := hi.shape
  rw [List.length_map] at hi ⊢
  have HK := hid hk; have HX := hid hX; have HOK := hid hok; have HN5 := hid hn5; clear hk hX hok hn5
  go_upto_region 2 with fail
  generalize hW : World.alloc v1 _ = v2
  have q0 : v2.cell? ⟨v1.heap.size, 0, none⟩ = some (.slice sa ss.length sc) := by rw [← hW]; simp [go_sem]
  have q1 : v2.cell? ⟨v1.heap.size, 1, none⟩ = some (.slice none 0 0) := by rw [← hW]; simp [go_sem]
  have q2 : v2.cell? ⟨v1.heap.size, 2, none⟩ = some (.int .i64 1) := by rw [← hW]; simp [go_sem]
  have q3 : v2.cell? ⟨v1.heap.size, 3, none⟩ = some (.int .i64 b2) := by rw [← hW]; simp [go_sem]
  have q4 : v2.cell? ⟨v1.heap.size, 4, none⟩ = some (.int .i64 b3) := by rw [← hW]; simp [go_sem]
  have q5 : v2.cell? ⟨v1.heap.size, 5, none⟩ = some (.int .i64 b4) := by rw [← hW]; simp [go_sem]
  have q6 : v2.cell? ⟨v1.heap.size, 6, none⟩ = some (.int .i64 b5) := by rw [← hW]; simp [go_sem]
  have q7 : v2.cell? ⟨v1.heap.size, 7, none⟩ = some (.int .i64 b6) := by rw [← hW]; simp [go_sem]
  have q8 : v2.cell? ⟨v1.heap.size, 8, none⟩ = some (.slice ia xs.length ic) := by rw [← hW]; simp [go_sem]
  have hb : Below v1.heap.size v1 v2 := by rw [← hW]; exact (Below.refl _ _).alloc (Nat.le_refl _) _
  replace hb0 := bnext (w := w) hb0 hb
  have hz1 := hb.size
  replace hs := hs.below hb
  replace hi := hi.below hb
  replace hp := hp.below hb
  clear hb hW
  obtain ⟨N, hN⟩ : ∃ N, min (shownL ⟨1, b2, b3, b4, b5, b6⟩ (feetV ss [] ⟨1, b2, b3, b4, b5, b6⟩ xs)).length 1000 = N := ⟨_, rfl⟩
  have HN := hid hN; clear hN
  go_wp2_with fail
  refine (packs_f hs hi HX.out HK.out HN.out).mono ?_
  rintro e w1 ⟨rfl, hb⟩
  replace hb0 := bnext (w := w) (by go_grown) hb
  have hz := hb.size
  (try simp only [World.size_alloc, World.size_setCell] at hz)
  replace q0 := bkeep hb q0
  replace q1 := bkeep hb q1
  replace q2 := bkeep hb q2
  replace q3 := bkeep hb q3
  replace q4 := bkeep hb q4
  replace q5 := bkeep hb q5
  replace q6 := bkeep hb q6
  replace q7 := bkeep hb q7
  replace q8 := bkeep hb q8
  replace hs := hs.below hb
  replace hi := hi.below hb
  replace hp := hp.below hb
  clear hb
  by_cases hN0 : N = 0
  · have hq : (shownL ⟨1, b2, b3, b4, b5, b6⟩ (feetV ss [] ⟨1, b2, b3, b4, b5, b6⟩ xs))[0]? = none := by have h := HN.out; rw [List.getElem?_eq_none_iff]; omega
    go_wp2_with fail
    refine (pack_n hs hi HX.out HK.out hq).mono ?_
    rintro e w1 ⟨fv, rfl, hb, hf⟩
    replace hb0 := bnext (w := w) (by go_grown) hb
    have hz := hb.size
    (try simp only [World.size_alloc, World.size_setCell] at hz)
    replace q0 := bkeep hb q0
    replace q1 := bkeep hb q1
    replace q2 := bkeep hb q2
    replace q3 := bkeep hb q3
    replace q4 := bkeep hb q4
    replace q5 := bkeep hb q5
    replace q6 := bkeep hb q6
    replace q7 := bkeep hb q7
    replace q8 := bkeep hb q8
    replace hs := hs.below hb
    replace hi := hi.below hb
    replace hp := hp.below hb
    clear hb
    obtain ⟨fa, fc, rfl, -, -⟩ := hf.shape
    (try rw [List.length_map] at hf)
    (try rw [List.length_map])
    subst hN0
    go_wp2_with (go_at_call 24; refine sane_any.mono ?_; rintro e w9 ⟨rfl, hb9⟩; replace hb0 := bnext (w := w) hb0 hb9)
    go_ret
    exact ⟨rfl, hb0⟩
  · have hNL : ∀ j : Nat, j < N → ∃ q, (shownL ⟨1, b2, b3, b4, b5, b6⟩ (feetV ss [] ⟨1, b2, b3, b4, b5, b6⟩ xs))[j]? = some q := fun j hj => ⟨_, List.getElem?_eq_getElem (by have h := HN.out; omega)⟩
    obtain ⟨q0L, hq0⟩ := hNL 0 (by omega)
    have HQ0 := hid hq0; have HNL := hid hNL; clear hq0 hNL
    go_wp2_with fail
    refine (pack_f hs hi HX.out HK.out HQ0.out).mono ?_
    rintro e w1 ⟨fv, rfl, hb, hf⟩
    replace hb0 := bnext (w := w) (by go_grown) hb
    have hz := hb.size
    (try simp only [World.size_alloc, World.size_setCell] at hz)
    replace q0 := bkeep hb q0
    replace q1 := bkeep hb q1
    replace q2 := bkeep hb q2
    replace q3 := bkeep hb q3
    replace q4 := bkeep hb q4
    replace q5 := bkeep hb q5
    replace q6 := bkeep hb q6
    replace q7 := bkeep hb q7
    replace q8 := bkeep hb q8
    replace hs := hs.below hb
    replace hi := hi.below hb
    replace hp := hp.below hb
    clear hb
    obtain ⟨fa, fc, rfl, -, -⟩ := hf.shape
    (try rw [List.length_map] at hf)
    (try rw [List.length_map])
    have hNi : ¬ (N : Int) = 0 := by omega
    have hNb : ((N : Int) == 0) = false := beq_eq_false_iff_ne.mpr hNi
    have hN0 : ¬ (N : Int) < 0 := by omega
    have hN1 : ¬ (1000 : Int) < (N : Int) := by have h := HN.out; omega
    have hN2 : (N : Int) ≤ 1000 := by omega
    have hN3 : N ≤ 1000 := by omega
    go_wp2_with fail
    refine (modS_any (n := n) (m := (N : Int)) (by omega) (by omega)).mono ?_
    rintro e wm ⟨rfl, rfl⟩
    obtain ⟨k, hkk, hkN⟩ : ∃ k : Nat, n % (N : Int) = (k : Int) ∧ k < N := ⟨(n % (N : Int)).toNat, by have := Int.emod_nonneg n (b := (N : Int)) (by omega); omega, by have := Int.emod_lt_of_pos n (b := (N : Int)) (by omega); have := Int.emod_nonneg n (b := (N : Int)) (by omega); omega⟩
    rw [hkk]
    have HKK := hid hkk; clear hkk
    obtain ⟨qkL, hqk⟩ := HNL.out k hkN
    have HQK := hid hqk; clear hqk
    go_wp2_with fail
    refine (nth_f hs hi HX.out HK.out (i := k) (by omega) HQK.out).mono ?_
    rintro e w1 ⟨av, rfl, hb, ha⟩
    replace hb0 := bnext (w := w) (by go_grown) hb
    have hz := hb.size
    (try simp only [World.size_alloc, World.size_setCell] at hz)
    replace q0 := bkeep hb q0
    replace q1 := bkeep hb q1
    replace q2 := bkeep hb q2
    replace q3 := bkeep hb q3
    replace q4 := bkeep hb q4
    replace q5 := bkeep hb q5
    replace q6 := bkeep hb q6
    replace q7 := bkeep hb q7
    replace q8 := bkeep hb q8
    replace hs := hs.below hb
    replace hi := hi.below hb
    replace hp := hp.below hb
    replace hf := hf.below hb
    clear hb
    obtain ⟨aa, ac, rfl, -, -⟩ := ha.shape
    (try rw [List.length_map] at ha)
    (try rw [List.length_map])
    go_wp2_with fail
    refine (check_f hs hi HX.out HK.out ha (a := true) (shown_pack (List.mem_of_getElem? HQK.out))).mono ?_
    rintro e w1 ⟨rfl, hb⟩
    replace hb0 := bnext (w := w) (by go_grown) hb
    have hz := hb.size
    (try simp only [World.size_alloc, World.size_setCell] at hz)
    replace q0 := bkeep hb q0
    replace q1 := bkeep hb q1
    replace q2 := bkeep hb q2
    replace q3 := bkeep hb q3
    replace q4 := bkeep hb q4
    replace q5 := bkeep hb q5
    replace q6 := bkeep hb q6
    replace q7 := bkeep hb q7
    replace q8 := bkeep hb q8
    replace hs := hs.below hb
    replace hi := hi.below hb
    replace hp := hp.below hb
    replace hf := hf.below hb
    replace ha := ha.below hb
    clear hb
    obtain ⟨ac, hac⟩ : ∃ ac, packB ⟨1, b2, b3, b4, b5, b6⟩ (feetV ss [] ⟨1, b2, b3, b4, b5, b6⟩ xs) qs = ac := ⟨_, rfl⟩
    have HAC := hid hac; clear hac
    by_cases hk0 : k = 0
    · subst hk0
      have hqe : q0L = qkL := by have h1 := HQ0.out; have h2 := HQK.out; rw [h1] at h2; injection h2
      subst hqe
      go_wp2_with fail
      refine (sameStands_any (b := true) ha hf (shown_small HN5.out HQK.out) (by simp)).mono ?_
      rintro e w1 ⟨rfl, hb⟩
      replace hb0 := bnext (w := w) (by go_grown) hb
      have hz := hb.size
      (try simp only [World.size_alloc, World.size_setCell] at hz)
      replace q0 := bkeep hb q0
      replace q1 := bkeep hb q1
      replace q2 := bkeep hb q2
      replace q3 := bkeep hb q3
      replace q4 := bkeep hb q4
      replace q5 := bkeep hb q5
      replace q6 := bkeep hb q6
      replace q7 := bkeep hb q7
      replace q8 := bkeep hb q8
      replace hs := hs.below hb
      replace hi := hi.below hb
      replace hp := hp.below hb
      replace hf := hf.below hb
      replace ha := ha.below hb
      clear hb
      cases ac
      · go_wp2_with fail
        refine (check_f hs hi HX.out HK.out hp (a := false) HAC.out).mono ?_
        rintro e w1 ⟨rfl, hb⟩
        replace hb0 := bnext (w := w) (by go_grown) hb
        have hz := hb.size
        (try simp only [World.size_alloc, World.size_setCell] at hz)
        replace q0 := bkeep hb q0
        replace q1 := bkeep hb q1
        replace q2 := bkeep hb q2
        replace q3 := bkeep hb q3
        replace q4 := bkeep hb q4
        replace q5 := bkeep hb q5
        replace q6 := bkeep hb q6
        replace q7 := bkeep hb q7
        replace q8 := bkeep hb q8
        replace hs := hs.below hb
        replace hi := hi.below hb
        replace hp := hp.below hb
        replace hf := hf.below hb
        replace ha := ha.below hb
        clear hb
        by_cases hlast : N = 1
        · subst hlast
          have hno : 999 < 1 ∨ (shownL ⟨1, b2, b3, b4, b5, b6⟩ (feetV ss [] ⟨1, b2, b3, b4, b5, b6⟩ xs))[1]? = none := by (by_cases h9 : 999 < 1; exact .inl h9; right; rw [List.getElem?_eq_none_iff]; have h := HN.out; omega)
          go_wp2_with fail
          refine (nth_nz hs hi HX.out HK.out (i := 1) (by omega) hno).mono ?_
          rintro e w1 ⟨bv, rfl, hb, hbb⟩
          replace hb0 := bnext (w := w) (by go_grown) hb
          have hz := hb.size
          (try simp only [World.size_alloc, World.size_setCell] at hz)
          replace q0 := bkeep hb q0
          replace q1 := bkeep hb q1
          replace q2 := bkeep hb q2
          replace q3 := bkeep hb q3
          replace q4 := bkeep hb q4
          replace q5 := bkeep hb q5
          replace q6 := bkeep hb q6
          replace q7 := bkeep hb q7
          replace q8 := bkeep hb q8
          replace hs := hs.below hb
          replace hi := hi.below hb
          replace hp := hp.below hb
          replace hf := hf.below hb
          replace ha := ha.below hb
          clear hb
          obtain ⟨ba, bc, rfl, -, -⟩ := hbb.shape
          (try rw [List.length_map] at hbb)
          (try rw [List.length_map])
          go_wp2_with (go_at_call 24; refine sane_any.mono ?_; rintro e w9 ⟨rfl, hb9⟩; replace hb0 := bnext (w := w) hb0 hb9)
          go_ret
          exact ⟨rfl, hb0⟩
        · have hkl : ¬ (1 : Int) = (N : Int) := by omega
          have hkb : ((1 : Int) == (N : Int)) = false := beq_eq_false_iff_ne.mpr hkl
          obtain ⟨qnL, hqn⟩ := HNL.out (1) (by omega)
          have HQN := hid hqn; clear hqn
          go_wp2_with fail
          refine (nth_fz hs hi HX.out HK.out (i := 1) (by omega) (by omega) HQN.out).mono ?_
          rintro e w1 ⟨bv, rfl, hb, hbb⟩
          replace hb0 := bnext (w := w) (by go_grown) hb
          have hz := hb.size
          (try simp only [World.size_alloc, World.size_setCell] at hz)
          replace q0 := bkeep hb q0
          replace q1 := bkeep hb q1
          replace q2 := bkeep hb q2
          replace q3 := bkeep hb q3
          replace q4 := bkeep hb q4
          replace q5 := bkeep hb q5
          replace q6 := bkeep hb q6
          replace q7 := bkeep hb q7
          replace q8 := bkeep hb q8
          replace hs := hs.below hb
          replace hi := hi.below hb
          replace hp := hp.below hb
          replace hf := hf.below hb
          replace ha := ha.below hb
          clear hb
          obtain ⟨ba, bc, rfl, -, -⟩ := hbb.shape
          (try rw [List.length_map] at hbb)
          (try rw [List.length_map])
          go_wp2_with fail
          refine (lessS_any (b := true) ha hbb (shown_small HN5.out HQK.out) (shown_small HN5.out HQN.out) (by rw [shown_less HQK.out HQN.out]; exact decide_eq_true (by omega))).mono ?_
          rintro e w1 ⟨rfl, hb⟩
          replace hb0 := bnext (w := w) (by go_grown) hb
          have hz := hb.size
          (try simp only [World.size_alloc, World.size_setCell] at hz)
          replace q0 := bkeep hb q0
          replace q1 := bkeep hb q1
          replace q2 := bkeep hb q2
          replace q3 := bkeep hb q3
          replace q4 := bkeep hb q4
          replace q5 := bkeep hb q5
          replace q6 := bkeep hb q6
          replace q7 := bkeep hb q7
          replace q8 := bkeep hb q8
          replace hp := hp.below hb
          replace ha := ha.below hb
          replace hbb := hbb.below hb
          clear hb
          go_wp2_with (go_at_call 24; refine sane_any.mono ?_; rintro e w9 ⟨rfl, hb9⟩; replace hb0 := bnext (w := w) hb0 hb9)
          go_ret
          exact ⟨rfl, hb0⟩
      · go_wp2_with fail
        refine (check_f hs hi HX.out HK.out hp (a := true) HAC.out).mono ?_
        rintro e w1 ⟨rfl, hb⟩
        replace hb0 := bnext (w := w) (by go_grown) hb
        have hz := hb.size
        (try simp only [World.size_alloc, World.size_setCell] at hz)
        replace q0 := bkeep hb q0
        replace q1 := bkeep hb q1
        replace q2 := bkeep hb q2
        replace q3 := bkeep hb q3
        replace q4 := bkeep hb q4
        replace q5 := bkeep hb q5
        replace q6 := bkeep hb q6
        replace q7 := bkeep hb q7
        replace q8 := bkeep hb q8
        replace hs := hs.below hb
        replace hi := hi.below hb
        replace hp := hp.below hb
        replace hf := hf.below hb
        replace ha := ha.below hb
        clear hb
        obtain ⟨j, qj, hj, hqs⟩ := order_pack HX.out HOK.out HAC.out
        subst hqs
        rw [List.length_map] at hp
        (try rw [List.length_map])
        have HJ := hid hj; clear hj
        go_wp2_with fail
        refine (lessS_any (b := false) hp hf (shown_small HN5.out HJ.out) (shown_small HN5.out HQ0.out) (by rw [shown_less HJ.out HQ0.out]; exact decide_eq_false (by omega))).mono ?_
        rintro e w1 ⟨rfl, hb⟩
        replace hb0 := bnext (w := w) (by go_grown) hb
        have hz := hb.size
        (try simp only [World.size_alloc, World.size_setCell] at hz)
        replace q0 := bkeep hb q0
        replace q1 := bkeep hb q1
        replace q2 := bkeep hb q2
        replace q3 := bkeep hb q3
        replace q4 := bkeep hb q4
        replace q5 := bkeep hb q5
        replace q6 := bkeep hb q6
        replace q7 := bkeep hb q7
        replace q8 := bkeep hb q8
        replace hs := hs.below hb
        replace hi := hi.below hb
        replace hp := hp.below hb
        replace hf := hf.below hb
        replace ha := ha.below hb
        clear hb
        by_cases hlast : N = 1
        · subst hlast
          have hno : 999 < 1 ∨ (shownL ⟨1, b2, b3, b4, b5, b6⟩ (feetV ss [] ⟨1, b2, b3, b4, b5, b6⟩ xs))[1]? = none := by (by_cases h9 : 999 < 1; exact .inl h9; right; rw [List.getElem?_eq_none_iff]; have h := HN.out; omega)
          go_wp2_with fail
          refine (nth_nz hs hi HX.out HK.out (i := 1) (by omega) hno).mono ?_
          rintro e w1 ⟨bv, rfl, hb, hbb⟩
          replace hb0 := bnext (w := w) (by go_grown) hb
          have hz := hb.size
          (try simp only [World.size_alloc, World.size_setCell] at hz)
          replace q0 := bkeep hb q0
          replace q1 := bkeep hb q1
          replace q2 := bkeep hb q2
          replace q3 := bkeep hb q3
          replace q4 := bkeep hb q4
          replace q5 := bkeep hb q5
          replace q6 := bkeep hb q6
          replace q7 := bkeep hb q7
          replace q8 := bkeep hb q8
          replace hs := hs.below hb
          replace hi := hi.below hb
          replace hp := hp.below hb
          replace hf := hf.below hb
          replace ha := ha.below hb
          clear hb
          obtain ⟨ba, bc, rfl, -, -⟩ := hbb.shape
          (try rw [List.length_map] at hbb)
          (try rw [List.length_map])
          go_wp2_with fail
          refine (lessS_any (b := false) ha hp (shown_small HN5.out HQK.out) (shown_small HN5.out HJ.out) (by rw [shown_less HQK.out HJ.out]; exact decide_eq_false (by have h1 := (List.getElem?_eq_some_iff.1 HJ.out).1; have h := HN.out; omega))).mono ?_
          rintro e w1 ⟨rfl, hb⟩
          replace hb0 := bnext (w := w) (by go_grown) hb
          have hz := hb.size
          (try simp only [World.size_alloc, World.size_setCell] at hz)
          replace q0 := bkeep hb q0
          replace q1 := bkeep hb q1
          replace q2 := bkeep hb q2
          replace q3 := bkeep hb q3
          replace q4 := bkeep hb q4
          replace q5 := bkeep hb q5
          replace q6 := bkeep hb q6
          replace q7 := bkeep hb q7
          replace q8 := bkeep hb q8
          clear hb
          go_wp2_with (go_at_call 24; refine sane_any.mono ?_; rintro e w9 ⟨rfl, hb9⟩; replace hb0 := bnext (w := w) hb0 hb9)
          go_ret
          exact ⟨rfl, hb0⟩
        · have hkl : ¬ (1 : Int) = (N : Int) := by omega
          have hkb : ((1 : Int) == (N : Int)) = false := beq_eq_false_iff_ne.mpr hkl
          obtain ⟨qnL, hqn⟩ := HNL.out (1) (by omega)
          have HQN := hid hqn; clear hqn
          go_wp2_with fail
          refine (nth_fz hs hi HX.out HK.out (i := 1) (by omega) (by omega) HQN.out).mono ?_
          rintro e w1 ⟨bv, rfl, hb, hbb⟩
          replace hb0 := bnext (w := w) (by go_grown) hb
          have hz := hb.size
          (try simp only [World.size_alloc, World.size_setCell] at hz)
          replace q0 := bkeep hb q0
          replace q1 := bkeep hb q1
          replace q2 := bkeep hb q2
          replace q3 := bkeep hb q3
          replace q4 := bkeep hb q4
          replace q5 := bkeep hb q5
          replace q6 := bkeep hb q6
          replace q7 := bkeep hb q7
          replace q8 := bkeep hb q8
          replace hs := hs.below hb
          replace hi := hi.below hb
          replace hp := hp.below hb
          replace hf := hf.below hb
          replace ha := ha.below hb
          clear hb
          obtain ⟨ba, bc, rfl, -, -⟩ := hbb.shape
          (try rw [List.length_map] at hbb)
          (try rw [List.length_map])
          go_wp2_with fail
          refine (lessS_any (b := true) ha hbb (shown_small HN5.out HQK.out) (shown_small HN5.out HQN.out) (by rw [shown_less HQK.out HQN.out]; exact decide_eq_true (by omega))).mono ?_
          rintro e w1 ⟨rfl, hb⟩
          replace hb0 := bnext (w := w) (by go_grown) hb
          have hz := hb.size
          (try simp only [World.size_alloc, World.size_setCell] at hz)
          replace q0 := bkeep hb q0
          replace q1 := bkeep hb q1
          replace q2 := bkeep hb q2
          replace q3 := bkeep hb q3
          replace q4 := bkeep hb q4
          replace q5 := bkeep hb q5
          replace q6 := bkeep hb q6
          replace q7 := bkeep hb q7
          replace q8 := bkeep hb q8
          replace hp := hp.below hb
          replace ha := ha.below hb
          replace hbb := hbb.below hb
          clear hb
          by_cases hkj : 0 < j
          · go_wp2_with fail
            refine (lessS_any (b := true) ha hp (shown_small HN5.out HQK.out) (shown_small HN5.out HJ.out) (by rw [shown_less HQK.out HJ.out]; exact decide_eq_true hkj)).mono ?_
            rintro e w1 ⟨rfl, hb⟩
            replace hb0 := bnext (w := w) (by go_grown) hb
            have hz := hb.size
            (try simp only [World.size_alloc, World.size_setCell] at hz)
            replace q0 := bkeep hb q0
            replace q1 := bkeep hb q1
            replace q2 := bkeep hb q2
            replace q3 := bkeep hb q3
            replace q4 := bkeep hb q4
            replace q5 := bkeep hb q5
            replace q6 := bkeep hb q6
            replace q7 := bkeep hb q7
            replace q8 := bkeep hb q8
            replace hp := hp.below hb
            replace hbb := hbb.below hb
            clear hb
            go_wp2_with fail
            refine (lessS_any (b := false) hp hbb (shown_small HN5.out HJ.out) (shown_small HN5.out HQN.out) (by rw [shown_less HJ.out HQN.out]; exact decide_eq_false (by omega))).mono ?_
            rintro e w1 ⟨rfl, hb⟩
            replace hb0 := bnext (w := w) (by go_grown) hb
            have hz := hb.size
            (try simp only [World.size_alloc, World.size_setCell] at hz)
            replace q0 := bkeep hb q0
            replace q1 := bkeep hb q1
            replace q2 := bkeep hb q2
            replace q3 := bkeep hb q3
            replace q4 := bkeep hb q4
            replace q5 := bkeep hb q5
            replace q6 := bkeep hb q6
            replace q7 := bkeep hb q7
            replace q8 := bkeep hb q8
            clear hb
            go_wp2_with (go_at_call 24; refine sane_any.mono ?_; rintro e w9 ⟨rfl, hb9⟩; replace hb0 := bnext (w := w) hb0 hb9)
            go_ret
            exact ⟨rfl, hb0⟩
          · go_wp2_with fail
            refine (lessS_any (b := false) ha hp (shown_small HN5.out HQK.out) (shown_small HN5.out HJ.out) (by rw [shown_less HQK.out HJ.out]; exact decide_eq_false hkj)).mono ?_
            rintro e w1 ⟨rfl, hb⟩
            replace hb0 := bnext (w := w) (by go_grown) hb
            have hz := hb.size
            (try simp only [World.size_alloc, World.size_setCell] at hz)
            replace q0 := bkeep hb q0
            replace q1 := bkeep hb q1
            replace q2 := bkeep hb q2
            replace q3 := bkeep hb q3
            replace q4 := bkeep hb q4
            replace q5 := bkeep hb q5
            replace q6 := bkeep hb q6
            replace q7 := bkeep hb q7
            replace q8 := bkeep hb q8
            clear hb
            go_wp2_with (go_at_call 24; refine sane_any.mono ?_; rintro e w9 ⟨rfl, hb9⟩; replace hb0 := bnext (w := w) hb0 hb9)
            go_ret
            exact ⟨rfl, hb0⟩
    · have hk0i : ¬ (k : Int) = 0 := by omega
      have hk0b : ((k : Int) == 0) = false := beq_eq_false_iff_ne.mpr hk0i
      cases ac
      · go_wp2_with fail
        refine (check_f hs hi HX.out HK.out hp (a := false) HAC.out).mono ?_
        rintro e w1 ⟨rfl, hb⟩
        replace hb0 := bnext (w := w) (by go_grown) hb
        have hz := hb.size
        (try simp only [World.size_alloc, World.size_setCell] at hz)
        replace q0 := bkeep hb q0
        replace q1 := bkeep hb q1
        replace q2 := bkeep hb q2
        replace q3 := bkeep hb q3
        replace q4 := bkeep hb q4
        replace q5 := bkeep hb q5
        replace q6 := bkeep hb q6
        replace q7 := bkeep hb q7
        replace q8 := bkeep hb q8
        replace hs := hs.below hb
        replace hi := hi.below hb
        replace hp := hp.below hb
        replace hf := hf.below hb
        replace ha := ha.below hb
        clear hb
        by_cases hlast : k + 1 = N
        · have hkl : (k : Int) + 1 = (N : Int) := by omega
          have hno : 999 < k + 1 ∨ (shownL ⟨1, b2, b3, b4, b5, b6⟩ (feetV ss [] ⟨1, b2, b3, b4, b5, b6⟩ xs))[k + 1]? = none := by (by_cases h9 : 999 < k + 1; exact .inl h9; right; rw [List.getElem?_eq_none_iff]; have h := HN.out; omega)
          go_wp2_with fail
          refine (nth_nz hs hi HX.out HK.out (i := k + 1) (by omega) hno).mono ?_
          rintro e w1 ⟨bv, rfl, hb, hbb⟩
          replace hb0 := bnext (w := w) (by go_grown) hb
          have hz := hb.size
          (try simp only [World.size_alloc, World.size_setCell] at hz)
          replace q0 := bkeep hb q0
          replace q1 := bkeep hb q1
          replace q2 := bkeep hb q2
          replace q3 := bkeep hb q3
          replace q4 := bkeep hb q4
          replace q5 := bkeep hb q5
          replace q6 := bkeep hb q6
          replace q7 := bkeep hb q7
          replace q8 := bkeep hb q8
          replace hs := hs.below hb
          replace hi := hi.below hb
          replace hp := hp.below hb
          replace hf := hf.below hb
          replace ha := ha.below hb
          clear hb
          obtain ⟨ba, bc, rfl, -, -⟩ := hbb.shape
          (try rw [List.length_map] at hbb)
          (try rw [List.length_map])
          go_wp2_with (go_at_call 24; refine sane_any.mono ?_; rintro e w9 ⟨rfl, hb9⟩; replace hb0 := bnext (w := w) hb0 hb9)
          go_ret
          exact ⟨rfl, hb0⟩
        · have hkl : ¬ (k : Int) + 1 = (N : Int) := by omega
          have hkb : ((k : Int) + 1 == (N : Int)) = false := beq_eq_false_iff_ne.mpr hkl
          obtain ⟨qnL, hqn⟩ := HNL.out (k + 1) (by omega)
          have HQN := hid hqn; clear hqn
          go_wp2_with fail
          refine (nth_fz hs hi HX.out HK.out (i := k + 1) (by omega) (by omega) HQN.out).mono ?_
          rintro e w1 ⟨bv, rfl, hb, hbb⟩
          replace hb0 := bnext (w := w) (by go_grown) hb
          have hz := hb.size
          (try simp only [World.size_alloc, World.size_setCell] at hz)
          replace q0 := bkeep hb q0
          replace q1 := bkeep hb q1
          replace q2 := bkeep hb q2
          replace q3 := bkeep hb q3
          replace q4 := bkeep hb q4
          replace q5 := bkeep hb q5
          replace q6 := bkeep hb q6
          replace q7 := bkeep hb q7
          replace q8 := bkeep hb q8
          replace hs := hs.below hb
          replace hi := hi.below hb
          replace hp := hp.below hb
          replace hf := hf.below hb
          replace ha := ha.below hb
          clear hb
          obtain ⟨ba, bc, rfl, -, -⟩ := hbb.shape
          (try rw [List.length_map] at hbb)
          (try rw [List.length_map])
          go_wp2_with fail
          refine (lessS_any (b := true) ha hbb (shown_small HN5.out HQK.out) (shown_small HN5.out HQN.out) (by rw [shown_less HQK.out HQN.out]; exact decide_eq_true (by omega))).mono ?_
          rintro e w1 ⟨rfl, hb⟩
          replace hb0 := bnext (w := w) (by go_grown) hb
          have hz := hb.size
          (try simp only [World.size_alloc, World.size_setCell] at hz)
          replace q0 := bkeep hb q0
          replace q1 := bkeep hb q1
          replace q2 := bkeep hb q2
          replace q3 := bkeep hb q3
          replace q4 := bkeep hb q4
          replace q5 := bkeep hb q5
          replace q6 := bkeep hb q6
          replace q7 := bkeep hb q7
          replace q8 := bkeep hb q8
          replace hp := hp.below hb
          replace ha := ha.below hb
          replace hbb := hbb.below hb
          clear hb
          go_wp2_with (go_at_call 24; refine sane_any.mono ?_; rintro e w9 ⟨rfl, hb9⟩; replace hb0 := bnext (w := w) hb0 hb9)
          go_ret
          exact ⟨rfl, hb0⟩
      · go_wp2_with fail
        refine (check_f hs hi HX.out HK.out hp (a := true) HAC.out).mono ?_
        rintro e w1 ⟨rfl, hb⟩
        replace hb0 := bnext (w := w) (by go_grown) hb
        have hz := hb.size
        (try simp only [World.size_alloc, World.size_setCell] at hz)
        replace q0 := bkeep hb q0
        replace q1 := bkeep hb q1
        replace q2 := bkeep hb q2
        replace q3 := bkeep hb q3
        replace q4 := bkeep hb q4
        replace q5 := bkeep hb q5
        replace q6 := bkeep hb q6
        replace q7 := bkeep hb q7
        replace q8 := bkeep hb q8
        replace hs := hs.below hb
        replace hi := hi.below hb
        replace hp := hp.below hb
        replace hf := hf.below hb
        replace ha := ha.below hb
        clear hb
        obtain ⟨j, qj, hj, hqs⟩ := order_pack HX.out HOK.out HAC.out
        subst hqs
        rw [List.length_map] at hp
        (try rw [List.length_map])
        have HJ := hid hj; clear hj
        go_wp2_with fail
        refine (lessS_any (b := false) hp hf (shown_small HN5.out HJ.out) (shown_small HN5.out HQ0.out) (by rw [shown_less HJ.out HQ0.out]; exact decide_eq_false (by omega))).mono ?_
        rintro e w1 ⟨rfl, hb⟩
        replace hb0 := bnext (w := w) (by go_grown) hb
        have hz := hb.size
        (try simp only [World.size_alloc, World.size_setCell] at hz)
        replace q0 := bkeep hb q0
        replace q1 := bkeep hb q1
        replace q2 := bkeep hb q2
        replace q3 := bkeep hb q3
        replace q4 := bkeep hb q4
        replace q5 := bkeep hb q5
        replace q6 := bkeep hb q6
        replace q7 := bkeep hb q7
        replace q8 := bkeep hb q8
        replace hs := hs.below hb
        replace hi := hi.below hb
        replace hp := hp.below hb
        replace hf := hf.below hb
        replace ha := ha.below hb
        clear hb
        by_cases hlast : k + 1 = N
        · have hkl : (k : Int) + 1 = (N : Int) := by omega
          have hno : 999 < k + 1 ∨ (shownL ⟨1, b2, b3, b4, b5, b6⟩ (feetV ss [] ⟨1, b2, b3, b4, b5, b6⟩ xs))[k + 1]? = none := by (by_cases h9 : 999 < k + 1; exact .inl h9; right; rw [List.getElem?_eq_none_iff]; have h := HN.out; omega)
          go_wp2_with fail
          refine (nth_nz hs hi HX.out HK.out (i := k + 1) (by omega) hno).mono ?_
          rintro e w1 ⟨bv, rfl, hb, hbb⟩
          replace hb0 := bnext (w := w) (by go_grown) hb
          have hz := hb.size
          (try simp only [World.size_alloc, World.size_setCell] at hz)
          replace q0 := bkeep hb q0
          replace q1 := bkeep hb q1
          replace q2 := bkeep hb q2
          replace q3 := bkeep hb q3
          replace q4 := bkeep hb q4
          replace q5 := bkeep hb q5
          replace q6 := bkeep hb q6
          replace q7 := bkeep hb q7
          replace q8 := bkeep hb q8
          replace hs := hs.below hb
          replace hi := hi.below hb
          replace hp := hp.below hb
          replace hf := hf.below hb
          replace ha := ha.below hb
          clear hb
          obtain ⟨ba, bc, rfl, -, -⟩ := hbb.shape
          (try rw [List.length_map] at hbb)
          (try rw [List.length_map])
          by_cases hM : N = 1000
          · have hMi : (N : Int) = 1000 := by omega
            go_wp2_with (go_at_call 24; refine sane_any.mono ?_; rintro e w9 ⟨rfl, hb9⟩; replace hb0 := bnext (w := w) hb0 hb9)
            go_ret
            exact ⟨rfl, hb0⟩
          · have hMi : ¬ (N : Int) = 1000 := by omega
            have hMb : ((N : Int) == 1000) = false := beq_eq_false_iff_ne.mpr hMi
            go_wp2_with fail
            refine (lessS_any (b := false) ha hp (shown_small HN5.out HQK.out) (shown_small HN5.out HJ.out) (by rw [shown_less HQK.out HJ.out]; exact decide_eq_false (by have h1 := (List.getElem?_eq_some_iff.1 HJ.out).1; have h := HN.out; omega))).mono ?_
            rintro e w1 ⟨rfl, hb⟩
            replace hb0 := bnext (w := w) (by go_grown) hb
            have hz := hb.size
            (try simp only [World.size_alloc, World.size_setCell] at hz)
            replace q0 := bkeep hb q0
            replace q1 := bkeep hb q1
            replace q2 := bkeep hb q2
            replace q3 := bkeep hb q3
            replace q4 := bkeep hb q4
            replace q5 := bkeep hb q5
            replace q6 := bkeep hb q6
            replace q7 := bkeep hb q7
            replace q8 := bkeep hb q8
            clear hb
            go_wp2_with (go_at_call 24; refine sane_any.mono ?_; rintro e w9 ⟨rfl, hb9⟩; replace hb0 := bnext (w := w) hb0 hb9)
            go_ret
            exact ⟨rfl, hb0⟩
        · have hkl : ¬ (k : Int) + 1 = (N : Int) := by omega
          have hkb : ((k : Int) + 1 == (N : Int)) = false := beq_eq_false_iff_ne.mpr hkl
          obtain ⟨qnL, hqn⟩ := HNL.out (k + 1) (by omega)
          have HQN := hid hqn; clear hqn
          go_wp2_with fail
          refine (nth_fz hs hi HX.out HK.out (i := k + 1) (by omega) (by omega) HQN.out).mono ?_
          rintro e w1 ⟨bv, rfl, hb, hbb⟩
          replace hb0 := bnext (w := w) (by go_grown) hb
          have hz := hb.size
          (try simp only [World.size_alloc, World.size_setCell] at hz)
          replace q0 := bkeep hb q0
          replace q1 := bkeep hb q1
          replace q2 := bkeep hb q2
          replace q3 := bkeep hb q3
          replace q4 := bkeep hb q4
          replace q5 := bkeep hb q5
          replace q6 := bkeep hb q6
          replace q7 := bkeep hb q7
          replace q8 := bkeep hb q8
          replace hs := hs.below hb
          replace hi := hi.below hb
          replace hp := hp.below hb
          replace hf := hf.below hb
          replace ha := ha.below hb
          clear hb
          obtain ⟨ba, bc, rfl, -, -⟩ := hbb.shape
          (try rw [List.length_map] at hbb)
          (try rw [List.length_map])
          go_wp2_with fail
          refine (lessS_any (b := true) ha hbb (shown_small HN5.out HQK.out) (shown_small HN5.out HQN.out) (by rw [shown_less HQK.out HQN.out]; exact decide_eq_true (by omega))).mono ?_
          rintro e w1 ⟨rfl, hb⟩
          replace hb0 := bnext (w := w) (by go_grown) hb
          have hz := hb.size
          (try simp only [World.size_alloc, World.size_setCell] at hz)
          replace q0 := bkeep hb q0
          replace q1 := bkeep hb q1
          replace q2 := bkeep hb q2
          replace q3 := bkeep hb q3
          replace q4 := bkeep hb q4
          replace q5 := bkeep hb q5
          replace q6 := bkeep hb q6
          replace q7 := bkeep hb q7
          replace q8 := bkeep hb q8
          replace hp := hp.below hb
          replace ha := ha.below hb
          replace hbb := hbb.below hb
          clear hb
          by_cases hkj : k < j
          · go_wp2_with fail
            refine (lessS_any (b := true) ha hp (shown_small HN5.out HQK.out) (shown_small HN5.out HJ.out) (by rw [shown_less HQK.out HJ.out]; exact decide_eq_true hkj)).mono ?_
            rintro e w1 ⟨rfl, hb⟩
            replace hb0 := bnext (w := w) (by go_grown) hb
            have hz := hb.size
            (try simp only [World.size_alloc, World.size_setCell] at hz)
            replace q0 := bkeep hb q0
            replace q1 := bkeep hb q1
            replace q2 := bkeep hb q2
            replace q3 := bkeep hb q3
            replace q4 := bkeep hb q4
            replace q5 := bkeep hb q5
            replace q6 := bkeep hb q6
            replace q7 := bkeep hb q7
            replace q8 := bkeep hb q8
            replace hp := hp.below hb
            replace hbb := hbb.below hb
            clear hb
            go_wp2_with fail
            refine (lessS_any (b := false) hp hbb (shown_small HN5.out HJ.out) (shown_small HN5.out HQN.out) (by rw [shown_less HJ.out HQN.out]; exact decide_eq_false (by omega))).mono ?_
            rintro e w1 ⟨rfl, hb⟩
            replace hb0 := bnext (w := w) (by go_grown) hb
            have hz := hb.size
            (try simp only [World.size_alloc, World.size_setCell] at hz)
            replace q0 := bkeep hb q0
            replace q1 := bkeep hb q1
            replace q2 := bkeep hb q2
            replace q3 := bkeep hb q3
            replace q4 := bkeep hb q4
            replace q5 := bkeep hb q5
            replace q6 := bkeep hb q6
            replace q7 := bkeep hb q7
            replace q8 := bkeep hb q8
            clear hb
            go_wp2_with (go_at_call 24; refine sane_any.mono ?_; rintro e w9 ⟨rfl, hb9⟩; replace hb0 := bnext (w := w) hb0 hb9)
            go_ret
            exact ⟨rfl, hb0⟩
          · go_wp2_with fail
            refine (lessS_any (b := false) ha hp (shown_small HN5.out HQK.out) (shown_small HN5.out HJ.out) (by rw [shown_less HQK.out HJ.out]; exact decide_eq_false hkj)).mono ?_
            rintro e w1 ⟨rfl, hb⟩
            replace hb0 := bnext (w := w) (by go_grown) hb
            have hz := hb.size
            (try simp only [World.size_alloc, World.size_setCell] at hz)
            replace q0 := bkeep hb q0
            replace q1 := bkeep hb q1
            replace q2 := bkeep hb q2
            replace q3 := bkeep hb q3
            replace q4 := bkeep hb q4
            replace q5 := bkeep hb q5
            replace q6 := bkeep hb q6
            replace q7 := bkeep hb q7
            replace q8 := bkeep hb q8
            clear hb
            go_wp2_with (go_at_call 24; refine sane_any.mono ?_; rintro e w9 ⟨rfl, hb9⟩; replace hb0 := bnext (w := w) hb0 hb9)
            go_ret
            exact ⟨rfl, hb0⟩

end Go.Proofs.YtodmidchpbcnpaaGreat
