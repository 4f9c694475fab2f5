/- Either a packing or a reason. -/
import Derived.Test.YtodmidchpbcnpaaGreatG38T
import Derived.Test.YtodmidchpbcnpaaGreatG37T
import Derived.Test.YtodmidchpbcnpaaGreatG27T
import Derived.Test.YtodmidchpbcnpaaGreatKInRoundT
namespace Go.Proofs.YtodmidchpbcnpaaGreat
open Go.RowKit Go.Pb Go.Pb.Ware Go.Pb.Sag
set_option linter.unusedVariables false
set_option linter.unusedSimpArgs false

theorem kindL_none {s : Bx} {fs : List Ft} (h : fitsB s fs = true) : kindL s fs = none := kind_none fun j _ _ => fits_untroubled h _
theorem kindL_some {s : Bx} {fs : List Ft} (h : fitsB s fs = false) : ∃ k, kindL s fs = some k ∧ troubleA s fs k = true := by
  cases hk : kindL s fs with
  | none =>
    unfold kindL at hk
    rw [List.find?_eq_none] at hk
    have := hk 5 (by simp)
    rw [troubleA_5, h] at this
    simp at this
  | some k =>
    unfold kindL at hk
    exact ⟨k, rfl, List.find?_some hk⟩
theorem refuse_none {ss : List (List Int)} {s : Bx} {xs : List It} {q : List St} (hk : ckL ss [] s xs = 0) (hq : (shownL s (feetV ss [] s xs))[0]? = some q) : refuseA ss [] s xs = (0, [], 3) := by
  unfold refuseA refuseF
  rw [if_pos hk, kindL_none (fits_some hq)]
theorem refuse_some {ss : List (List Int)} {s : Bx} {xs : List It} (hk : ckL ss [] s xs = 0) (hq : (shownL s (feetV ss [] s xs))[0]? = none) : ∃ k, refuseA ss [] s xs = (k, neededL s (feetV ss [] s xs) k, 0) ∧ ckQ ss [] s xs k (neededL s (feetV ss [] s xs) k) = 0 := by
  obtain ⟨k, h1, h2⟩ := kindL_some (fits_none hq)
  obtain ⟨g1, g2, g3⟩ := needed_good feet_ok h2
  refine ⟨k, by unfold refuseA refuseF; rw [if_pos hk, h1], ?_⟩
  unfold ckQ
  rw [if_pos hk]
  have h3 : reasonB s (feetV ss [] s xs) k (neededL s (feetV ss [] s xs) k) = true := by
    unfold reasonB; rw [g1, g2, allNeed_all g3]; rfl
  rw [if_pos h3]
theorem reason_no {ss : List (List Int)} {s : Bx} {xs : List It} {qs : List Sq} {kd : Int} {zs : List Int} (hX : boxOk s = true) (hk : ckL ss [] s xs = 0) (h : packB s (feetV ss [] s xs) qs = true) : ckQ ss [] s xs kd zs = 25 := by
  unfold ckQ
  rw [if_pos hk]
  have h3 : reasonB s (feetV ss [] s xs) kd zs = false := by
    unfold reasonB
    cases hz : idxB ((feetV ss [] s xs).length : Int) (-1) zs with
    | false => rfl
    | true => rw [no_reason hX feet_ok h hz]; rfl
  rw [h3]; rfl
theorem pack_head {s : Bx} {fs : List Ft} {qs : List Sq} (hX : boxOk s = true) (hF : ∀ f ∈ fs, FtOk f) (h : packB s fs qs = true) : ∃ q, (shownL s fs)[0]? = some q := by
  obtain ⟨j, q, hj, _⟩ := order_pack hX hF h
  have := (List.getElem?_eq_some_iff.1 hj).1
  exact ⟨_, List.getElem?_eq_getElem (by omega)⟩

theorem refuse_f {w : World} {sv iv : Value} {ss : List (List Int)} {xs : List It} {b2 b3 b4 b5 b6 : Int} (hs : RowsAt 11 w sv ss) (hi : RowsAt 3 w iv (xs.map rowX)) (hX : boxOk ⟨1, b2, b3, b4, b5, b6⟩ = true) (hk : ckL ss [] ⟨1, b2, b3, b4, b5, b6⟩ xs = 0) {k c : Int} {zs : List Int} (hr : refuseA ss [] ⟨1, b2, b3, b4, b5, b6⟩ xs = (k, zs, c)) : Calls Tryz.prog 43 #[.agg #[sv, .slice none 0 0], .agg #[.int .i64 1, .int .i64 b2, .int .i64 b3, .int .i64 b4, .int .i64 b5, .int .i64 b6], iv] w (fun e w' => ∃ v, e = .returned (.tuple #[.agg #[.int .i64 k, v], .int .i64 c]) ∧ Below w.heap.size w w' ∧ NumsAt w' v zs) := by
  have h := Refuse_any (bid := 1) (bwi := b2) (bde := b3) (bce := b4) (bhi := b5) (bbe := b6) hs no_bodies8 hi
  rw [hr] at h
  exact h
theorem reason_f {w : World} {sv iv : Value} {ss : List (List Int)} {xs : List It} {b2 b3 b4 b5 b6 : Int} (hs : RowsAt 11 w sv ss) (hi : RowsAt 3 w iv (xs.map rowX)) (hX : boxOk ⟨1, b2, b3, b4, b5, b6⟩ = true) (hk : ckL ss [] ⟨1, b2, b3, b4, b5, b6⟩ xs = 0) {rv : Value} {zs : List Int} {kd d : Int} (hz : NumsAt w rv zs) (hd : ckQ ss [] ⟨1, b2, b3, b4, b5, b6⟩ xs kd zs = d) : Calls Tryz.prog 48 #[.agg #[sv, .slice none 0 0], .agg #[.int .i64 1, .int .i64 b2, .int .i64 b3, .int .i64 b4, .int .i64 b5, .int .i64 b6], iv, .agg #[.int .i64 kd, rv]] w (Ret w (.int .i64 d)) := CheckRefusal_any (bid := 1) (bwi := b2) (bde := b3) (bce := b4) (bhi := b5) (bbe := b6) hs no_bodies8 hi hz hd

set_option maxRecDepth 100000 in
set_option maxHeartbeats 4000000 in
theorem saggarEither_walk {w : World} {rv iv pv nv : Value} {z0 z1 z2 z3 kd : Int} {rows its : List (List Int)} {qs : List Sq} {zs : List Int} (hmade : ∀ (W : World) (rv iv : Value) (z0 z1 z2 z3 : Int) (rows its : List (List Int)), RowsAt 5 W rv rows → RowsAt 3 W iv its → Calls Tryz.prog 54 #[.agg #[rv, .int .i64 z0, .int .i64 z1, .int .i64 z2, .int .i64 z3, iv]] W (MadeRes W)) (hrv : RowsAt 5 w rv rows) (hiv : RowsAt 3 w iv its) (hp : StAt w pv qs) (hn : NumsAt w nv zs) :
    Calls Tryz.prog 8 #[.agg #[rv, .int .i64 z0, .int .i64 z1, .int .i64 z2, .int .i64 z3, iv], pv, .agg #[.int .i64 kd, nv]] w (Ret w (.bool true)) := by
  unfold Ret
  obtain ⟨pa, pc, rfl, -, -⟩ := hp.shape
  obtain ⟨ra, rc, rfl, -, -⟩ := hn.shape
  go_enter Tryz.func8, Tryz.ntmps8
  go_wp2_with fail
  refine (hmade _ _ _ _ _ _ _ _ _ (hrv.below (by go_grown)) (hiv.below (by go_grown))).mono ?_
  rintro e v1 ⟨sv, iv, ss, xs, b2, b3, b4, b5, b6, rfl, hb, hs, hi, hg, hX, hx5, hall⟩
  have hk : ckL ss [] ⟨1, b2, b3, b4, b5, b6⟩ xs = 0 := good_ck hg hX hx5 hall
  have hok : ∀ f ∈ (feetV ss [] ⟨1, b2, b3, b4, b5, b6⟩ xs), FtOk f := feet_ok
  have hn5 : (feetV ss [] ⟨1, b2, b3, b4, b5, b6⟩ xs).length ≤ 5 := feet_len
  replace hp := (hp.below (by go_grown)).below hb
  replace hn := (hn.below (by go_grown)).below hb
  have q9 : v1.cell? ⟨w.heap.size + 1, 0, none⟩ = some (.int .i64 kd) := bkeep hb (by simp [go_sem])
  have q10 : v1.cell? ⟨w.heap.size + 1, 1, none⟩ = some (.slice ra zs.length rc) := bkeep hb (by simp [go_sem])
  have hb0 : Below w.heap.size w v1 := bnext (w := w) (by go_grown) hb
  have hz := hb.size
  (try simp only [World.size_alloc, World.size_setCell] at hz)
  clear hb hall hg hx5 hrv hiv
  obtain ⟨sa, sc, rfl, -⟩ := hs.shape
  obtain ⟨ia, ic, rfl, -⟩ := hi.shape
  rw [List.length_map] at hi ⊢
  have HK := hid hk; have HX := hid hX; have HOK := hid hok; have HN5 := hid hn5; clear hk hX hok hn5
  go_upto_region 2 with fail
  generalize hW : World.alloc v1 _ = v2
  have q0 : v2.cell? ⟨v1.heap.size, 0, none⟩ = some (.slice sa ss.length sc) := by rw [← hW]; simp [go_sem]
  have q1 : v2.cell? ⟨v1.heap.size, 1, none⟩ = some (.slice none 0 0) := by rw [← hW]; simp [go_sem]
  have q2 : v2.cell? ⟨v1.heap.size, 2, none⟩ = some (.int .i64 1) := by rw [← hW]; simp [go_sem]
  have q3 : v2.cell? ⟨v1.heap.size, 3, none⟩ = some (.int .i64 b2) := by rw [← hW]; simp [go_sem]
  have q4 : v2.cell? ⟨v1.heap.size, 4, none⟩ = some (.int .i64 b3) := by rw [← hW]; simp [go_sem]
  have q5 : v2.cell? ⟨v1.heap.size, 5, none⟩ = some (.int .i64 b4) := by rw [← hW]; simp [go_sem]
  have q6 : v2.cell? ⟨v1.heap.size, 6, none⟩ = some (.int .i64 b5) := by rw [← hW]; simp [go_sem]
  have q7 : v2.cell? ⟨v1.heap.size, 7, none⟩ = some (.int .i64 b6) := by rw [← hW]; simp [go_sem]
  have q8 : v2.cell? ⟨v1.heap.size, 8, none⟩ = some (.slice ia xs.length ic) := by rw [← hW]; simp [go_sem]
  have hb : Below v1.heap.size v1 v2 := by rw [← hW]; exact (Below.refl _ _).alloc (Nat.le_refl _) _
  replace hb0 := bnext (w := w) hb0 hb
  have hz1 := hb.size
  replace q9 := bkeep hb q9; replace q10 := bkeep hb q10
  replace hs := hs.below hb
  replace hi := hi.below hb
  replace hp := hp.below hb
  replace hn := hn.below hb
  clear hb hW
  obtain ⟨ac, hac⟩ : ∃ ac, packB ⟨1, b2, b3, b4, b5, b6⟩ (feetV ss [] ⟨1, b2, b3, b4, b5, b6⟩ xs) qs = ac := ⟨_, rfl⟩
  have HAC := hid hac; clear hac
  cases hq : (shownL ⟨1, b2, b3, b4, b5, b6⟩ (feetV ss [] ⟨1, b2, b3, b4, b5, b6⟩ xs))[0]? with
  | none =>
    have hac : ac = false := by
      cases ac
      · rfl
      · obtain ⟨q, h⟩ := pack_head HX.out HOK.out HAC.out; rw [hq] at h; cases h
    subst hac
    have HQ := hid hq; clear hq
    go_wp2_with fail
    refine (pack_n hs hi HX.out HK.out HQ.out).mono ?_
    rintro e w1 ⟨av, rfl, hb, ha⟩
    replace hb0 := bnext (w := w) (by go_grown) hb
    have hz := hb.size
    (try simp only [World.size_alloc, World.size_setCell] at hz)
    replace q0 := bkeep hb q0
    replace q1 := bkeep hb q1
    replace q2 := bkeep hb q2
    replace q3 := bkeep hb q3
    replace q4 := bkeep hb q4
    replace q5 := bkeep hb q5
    replace q6 := bkeep hb q6
    replace q7 := bkeep hb q7
    replace q8 := bkeep hb q8
    replace q9 := bkeep hb q9
    replace q10 := bkeep hb q10
    replace hs := hs.below hb
    replace hi := hi.below hb
    replace hp := hp.below hb
    replace hn := hn.below hb
    clear hb
    obtain ⟨aa, acp, rfl, -, -⟩ := ha.shape
    (try rw [List.length_map] at ha)
    (try rw [List.length_map])
    obtain ⟨k, hr, hck⟩ := refuse_some HK.out HQ.out
    obtain ⟨ns, hns⟩ : ∃ ns, neededL ⟨1, b2, b3, b4, b5, b6⟩ (feetV ss [] ⟨1, b2, b3, b4, b5, b6⟩ xs) k = ns := ⟨_, rfl⟩
    rw [hns] at hr hck
    have HR := hid hr; have HCK := hid hck; clear hr hck hns
    go_wp2_with fail
    refine (refuse_f hs hi HX.out HK.out HR.out).mono ?_
    rintro e w1 ⟨nv, rfl, hb, hnb⟩
    replace hb0 := bnext (w := w) (by go_grown) hb
    have hz := hb.size
    (try simp only [World.size_alloc, World.size_setCell] at hz)
    replace q0 := bkeep hb q0
    replace q1 := bkeep hb q1
    replace q2 := bkeep hb q2
    replace q3 := bkeep hb q3
    replace q4 := bkeep hb q4
    replace q5 := bkeep hb q5
    replace q6 := bkeep hb q6
    replace q7 := bkeep hb q7
    replace q8 := bkeep hb q8
    replace q9 := bkeep hb q9
    replace q10 := bkeep hb q10
    replace hs := hs.below hb
    replace hi := hi.below hb
    replace hp := hp.below hb
    replace hn := hn.below hb
    replace ha := ha.below hb
    clear hb
    obtain ⟨na, nc, rfl, -, -⟩ := hnb.shape
    obtain ⟨v4, hv4⟩ : ∃ v, v = w1 := ⟨_, rfl⟩
    subst hv4
    go_upto_region 4 with fail
    generalize hW : World.alloc v4 _ = v5
    have hb : Below v4.heap.size v4 v5 := by rw [← hW]; exact (Below.refl _ _).alloc (Nat.le_refl _) _
    have q11 : v5.cell? ⟨v4.heap.size, 0, none⟩ = some (.int .i64 k) := by rw [← hW]; simp [go_sem]
    have q12 : v5.cell? ⟨v4.heap.size, 1, none⟩ = some (.slice na ns.length nc) := by rw [← hW]; simp [go_sem]
    replace hb0 := bnext (w := w) (by go_grown) hb
    have hz := hb.size
    (try simp only [World.size_alloc, World.size_setCell] at hz)
    replace q0 := bkeep hb q0
    replace q1 := bkeep hb q1
    replace q2 := bkeep hb q2
    replace q3 := bkeep hb q3
    replace q4 := bkeep hb q4
    replace q5 := bkeep hb q5
    replace q6 := bkeep hb q6
    replace q7 := bkeep hb q7
    replace q8 := bkeep hb q8
    replace q9 := bkeep hb q9
    replace q10 := bkeep hb q10
    replace hs := hs.below hb
    replace hi := hi.below hb
    replace hp := hp.below hb
    replace hn := hn.below hb
    replace ha := ha.below hb
    replace hnb := hnb.below hb
    clear hb
    clear hW
    go_wp2_with fail
    refine (check_f hs hi HX.out HK.out hp (a := false) HAC.out).mono ?_
    rintro e w1 ⟨rfl, hb⟩
    replace hb0 := bnext (w := w) (by go_grown) hb
    have hz := hb.size
    (try simp only [World.size_alloc, World.size_setCell] at hz)
    replace q0 := bkeep hb q0
    replace q1 := bkeep hb q1
    replace q2 := bkeep hb q2
    replace q3 := bkeep hb q3
    replace q4 := bkeep hb q4
    replace q5 := bkeep hb q5
    replace q6 := bkeep hb q6
    replace q7 := bkeep hb q7
    replace q8 := bkeep hb q8
    replace q9 := bkeep hb q9
    replace q10 := bkeep hb q10
    replace q11 := bkeep hb q11
    replace q12 := bkeep hb q12
    replace hs := hs.below hb
    replace hi := hi.below hb
    replace hp := hp.below hb
    replace hn := hn.below hb
    replace hnb := hnb.below hb
    clear hb
    obtain ⟨d, hd⟩ : ∃ d, ckQ ss [] ⟨1, b2, b3, b4, b5, b6⟩ xs kd zs = d := ⟨_, rfl⟩
    have HD := hid hd; clear hd
    go_wp2_with fail
    refine (reason_f hs hi HX.out HK.out hn HD.out).mono ?_
    rintro e w1 ⟨rfl, hb⟩
    replace hb0 := bnext (w := w) (by go_grown) hb
    have hz := hb.size
    (try simp only [World.size_alloc, World.size_setCell] at hz)
    replace q0 := bkeep hb q0
    replace q1 := bkeep hb q1
    replace q2 := bkeep hb q2
    replace q3 := bkeep hb q3
    replace q4 := bkeep hb q4
    replace q5 := bkeep hb q5
    replace q6 := bkeep hb q6
    replace q7 := bkeep hb q7
    replace q8 := bkeep hb q8
    replace q9 := bkeep hb q9
    replace q10 := bkeep hb q10
    replace q11 := bkeep hb q11
    replace q12 := bkeep hb q12
    replace hs := hs.below hb
    replace hi := hi.below hb
    replace hp := hp.below hb
    replace hn := hn.below hb
    replace hnb := hnb.below hb
    clear hb
    go_wp2_with fail
    refine (reason_f hs hi HX.out HK.out hnb HCK.out).mono ?_
    rintro e w1 ⟨rfl, hb⟩
    replace hb0 := bnext (w := w) (by go_grown) hb
    have hz := hb.size
    (try simp only [World.size_alloc, World.size_setCell] at hz)
    replace q0 := bkeep hb q0
    replace q1 := bkeep hb q1
    replace q2 := bkeep hb q2
    replace q3 := bkeep hb q3
    replace q4 := bkeep hb q4
    replace q5 := bkeep hb q5
    replace q6 := bkeep hb q6
    replace q7 := bkeep hb q7
    replace q8 := bkeep hb q8
    replace q9 := bkeep hb q9
    replace q10 := bkeep hb q10
    replace q11 := bkeep hb q11
    replace q12 := bkeep hb q12
    clear hb
    go_wp2_with (go_at_call 24; refine sane_any.mono ?_; rintro e w9 ⟨rfl, hb9⟩; replace hb0 := bnext (w := w) hb0 hb9)
    go_ret
    exact ⟨rfl, hb0⟩
  | some q =>
    have HQ := hid hq; clear hq
    go_wp2_with fail
    refine (pack_f hs hi HX.out HK.out HQ.out).mono ?_
    rintro e w1 ⟨av, rfl, hb, ha⟩
    replace hb0 := bnext (w := w) (by go_grown) hb
    have hz := hb.size
    (try simp only [World.size_alloc, World.size_setCell] at hz)
    replace q0 := bkeep hb q0
    replace q1 := bkeep hb q1
    replace q2 := bkeep hb q2
    replace q3 := bkeep hb q3
    replace q4 := bkeep hb q4
    replace q5 := bkeep hb q5
    replace q6 := bkeep hb q6
    replace q7 := bkeep hb q7
    replace q8 := bkeep hb q8
    replace q9 := bkeep hb q9
    replace q10 := bkeep hb q10
    replace hs := hs.below hb
    replace hi := hi.below hb
    replace hp := hp.below hb
    replace hn := hn.below hb
    clear hb
    obtain ⟨aa, acp, rfl, -, -⟩ := ha.shape
    (try rw [List.length_map] at ha)
    (try rw [List.length_map])
    have HR := hid (refuse_none HK.out HQ.out)
    go_wp2_with fail
    refine (refuse_f hs hi HX.out HK.out HR.out).mono ?_
    rintro e w1 ⟨nv, rfl, hb, hnb⟩
    replace hb0 := bnext (w := w) (by go_grown) hb
    have hz := hb.size
    (try simp only [World.size_alloc, World.size_setCell] at hz)
    replace q0 := bkeep hb q0
    replace q1 := bkeep hb q1
    replace q2 := bkeep hb q2
    replace q3 := bkeep hb q3
    replace q4 := bkeep hb q4
    replace q5 := bkeep hb q5
    replace q6 := bkeep hb q6
    replace q7 := bkeep hb q7
    replace q8 := bkeep hb q8
    replace q9 := bkeep hb q9
    replace q10 := bkeep hb q10
    replace hs := hs.below hb
    replace hi := hi.below hb
    replace hp := hp.below hb
    replace hn := hn.below hb
    replace ha := ha.below hb
    clear hb
    obtain ⟨na, nc, rfl, -, -⟩ := hnb.shape
    obtain ⟨v4, hv4⟩ : ∃ v, v = w1 := ⟨_, rfl⟩
    subst hv4
    go_upto_region 4 with fail
    generalize hW : World.alloc v4 _ = v5
    have hb : Below v4.heap.size v4 v5 := by rw [← hW]; exact (Below.refl _ _).alloc (Nat.le_refl _) _
    have q11 : v5.cell? ⟨v4.heap.size, 0, none⟩ = some (.int .i64 0) := by rw [← hW]; simp [go_sem]
    have q12 : v5.cell? ⟨v4.heap.size, 1, none⟩ = some (.slice na 0 nc) := by rw [← hW]; simp [go_sem]
    replace hb0 := bnext (w := w) (by go_grown) hb
    have hz := hb.size
    (try simp only [World.size_alloc, World.size_setCell] at hz)
    replace q0 := bkeep hb q0
    replace q1 := bkeep hb q1
    replace q2 := bkeep hb q2
    replace q3 := bkeep hb q3
    replace q4 := bkeep hb q4
    replace q5 := bkeep hb q5
    replace q6 := bkeep hb q6
    replace q7 := bkeep hb q7
    replace q8 := bkeep hb q8
    replace q9 := bkeep hb q9
    replace q10 := bkeep hb q10
    replace hs := hs.below hb
    replace hi := hi.below hb
    replace hp := hp.below hb
    replace hn := hn.below hb
    replace ha := ha.below hb
    replace hnb := hnb.below hb
    clear hb
    clear hW
    have HRN := hid (reason_no (kd := kd) (zs := zs) HX.out HK.out (shown_pack (List.mem_of_getElem? HQ.out)))
    cases ac
    · go_wp2_with fail
      refine (check_f hs hi HX.out HK.out hp (a := false) HAC.out).mono ?_
      rintro e w1 ⟨rfl, hb⟩
      replace hb0 := bnext (w := w) (by go_grown) hb
      have hz := hb.size
      (try simp only [World.size_alloc, World.size_setCell] at hz)
      replace q0 := bkeep hb q0
      replace q1 := bkeep hb q1
      replace q2 := bkeep hb q2
      replace q3 := bkeep hb q3
      replace q4 := bkeep hb q4
      replace q5 := bkeep hb q5
      replace q6 := bkeep hb q6
      replace q7 := bkeep hb q7
      replace q8 := bkeep hb q8
      replace q9 := bkeep hb q9
      replace q10 := bkeep hb q10
      replace q11 := bkeep hb q11
      replace q12 := bkeep hb q12
      replace hs := hs.below hb
      replace hi := hi.below hb
      replace hp := hp.below hb
      replace hn := hn.below hb
      replace ha := ha.below hb
      clear hb
      go_wp2_with fail
      refine (reason_f hs hi HX.out HK.out hn HRN.out).mono ?_
      rintro e w1 ⟨rfl, hb⟩
      replace hb0 := bnext (w := w) (by go_grown) hb
      have hz := hb.size
      (try simp only [World.size_alloc, World.size_setCell] at hz)
      replace q0 := bkeep hb q0
      replace q1 := bkeep hb q1
      replace q2 := bkeep hb q2
      replace q3 := bkeep hb q3
      replace q4 := bkeep hb q4
      replace q5 := bkeep hb q5
      replace q6 := bkeep hb q6
      replace q7 := bkeep hb q7
      replace q8 := bkeep hb q8
      replace q9 := bkeep hb q9
      replace q10 := bkeep hb q10
      replace q11 := bkeep hb q11
      replace q12 := bkeep hb q12
      replace hs := hs.below hb
      replace hi := hi.below hb
      replace hp := hp.below hb
      replace hn := hn.below hb
      replace ha := ha.below hb
      clear hb
      go_wp2_with fail
      refine (check_f hs hi HX.out HK.out ha (a := true) (shown_pack (List.mem_of_getElem? HQ.out))).mono ?_
      rintro e w1 ⟨rfl, hb⟩
      replace hb0 := bnext (w := w) (by go_grown) hb
      have hz := hb.size
      (try simp only [World.size_alloc, World.size_setCell] at hz)
      replace q0 := bkeep hb q0
      replace q1 := bkeep hb q1
      replace q2 := bkeep hb q2
      replace q3 := bkeep hb q3
      replace q4 := bkeep hb q4
      replace q5 := bkeep hb q5
      replace q6 := bkeep hb q6
      replace q7 := bkeep hb q7
      replace q8 := bkeep hb q8
      replace q9 := bkeep hb q9
      replace q10 := bkeep hb q10
      replace q11 := bkeep hb q11
      replace q12 := bkeep hb q12
      clear hb
      go_wp2_with (go_at_call 24; refine sane_any.mono ?_; rintro e w9 ⟨rfl, hb9⟩; replace hb0 := bnext (w := w) hb0 hb9)
      go_ret
      exact ⟨rfl, hb0⟩
    · go_wp2_with fail
      refine (check_f hs hi HX.out HK.out hp (a := true) HAC.out).mono ?_
      rintro e w1 ⟨rfl, hb⟩
      replace hb0 := bnext (w := w) (by go_grown) hb
      have hz := hb.size
      (try simp only [World.size_alloc, World.size_setCell] at hz)
      replace q0 := bkeep hb q0
      replace q1 := bkeep hb q1
      replace q2 := bkeep hb q2
      replace q3 := bkeep hb q3
      replace q4 := bkeep hb q4
      replace q5 := bkeep hb q5
      replace q6 := bkeep hb q6
      replace q7 := bkeep hb q7
      replace q8 := bkeep hb q8
      replace q9 := bkeep hb q9
      replace q10 := bkeep hb q10
      replace q11 := bkeep hb q11
      replace q12 := bkeep hb q12
      replace hs := hs.below hb
      replace hi := hi.below hb
      replace hp := hp.below hb
      replace hn := hn.below hb
      replace ha := ha.below hb
      clear hb
      go_wp2_with fail
      refine (reason_f hs hi HX.out HK.out hn HRN.out).mono ?_
      rintro e w1 ⟨rfl, hb⟩
      replace hb0 := bnext (w := w) (by go_grown) hb
      have hz := hb.size
      (try simp only [World.size_alloc, World.size_setCell] at hz)
      replace q0 := bkeep hb q0
      replace q1 := bkeep hb q1
      replace q2 := bkeep hb q2
      replace q3 := bkeep hb q3
      replace q4 := bkeep hb q4
      replace q5 := bkeep hb q5
      replace q6 := bkeep hb q6
      replace q7 := bkeep hb q7
      replace q8 := bkeep hb q8
      replace q9 := bkeep hb q9
      replace q10 := bkeep hb q10
      replace q11 := bkeep hb q11
      replace q12 := bkeep hb q12
      replace hs := hs.below hb
      replace hi := hi.below hb
      replace hp := hp.below hb
      replace hn := hn.below hb
      replace ha := ha.below hb
      clear hb
      go_wp2_with fail
      refine (check_f hs hi HX.out HK.out ha (a := true) (shown_pack (List.mem_of_getElem? HQ.out))).mono ?_
      rintro e w1 ⟨rfl, hb⟩
      replace hb0 := bnext (w := w) (by go_grown) hb
      have hz := hb.size
      (try simp only [World.size_alloc, World.size_setCell] at hz)
      replace q0 := bkeep hb q0
      replace q1 := bkeep hb q1
      replace q2 := bkeep hb q2
      replace q3 := bkeep hb q3
      replace q4 := bkeep hb q4
      replace q5 := bkeep hb q5
      replace q6 := bkeep hb q6
      replace q7 := bkeep hb q7
      replace q8 := bkeep hb q8
      replace q9 := bkeep hb q9
      replace q10 := bkeep hb q10
      replace q11 := bkeep hb q11
      replace q12 := bkeep hb q12
      clear hb
      go_wp2_with (go_at_call 24; refine sane_any.mono ?_; rintro e w9 ⟨rfl, hb9⟩; replace hb0 := bnext (w := w) hb0 hb9)
      go_ret
      exact ⟨rfl, hb0⟩

end Go.Proofs.YtodmidchpbcnpaaGreat
