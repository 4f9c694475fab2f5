/- The fewest groups. -/
import Derived.Test.YtodmidchpbcnpaaGreatG38T
import Derived.Test.YtodmidchpbcnpaaGreatG45T
import Derived.Test.YtodmidchpbcnpaaGreatG46T
import Derived.Test.YtodmidchpbcnpaaGreatG32T
import Derived.Test.YtodmidchpbcnpaaGreatKSqT
import Derived.Test.YtodmidchpbcnpaaGreatKInRoundT
import Derived.Deep.CutBlock
import Derived.Deep.LoopGhost
namespace Go.Proofs.YtodmidchpbcnpaaGreat
open Go.RowKit Go.Pb Go.Pb.Ware Go.Pb.Sag
set_option linter.unusedVariables false
set_option linter.unusedSimpArgs false

theorem acc_alone {s : Bx} {fs : List Ft} {gs : List (List Int)} (hF : ∀ f ∈ fs, FtOk f) (ha : Acc fs.length gs) (hf : ∀ g ∈ gs, fitsB s (chosenL fs g) = true) : fs.all (fun f => fitsB s [f]) = true := by
  rw [List.all_eq_true]
  intro f hfm
  obtain ⟨i, hi⟩ := List.getElem?_of_mem hfm
  have hil := (List.getElem?_eq_some_iff.1 hi).1
  obtain ⟨k, g, hg, hz⟩ := ha.cover i hil
  refine fits_sub (gs := [f]) (fs := chosenL fs g) ?_ (chosen_ok hF (ha.lo k g hg)) (hf g (List.mem_of_getElem? hg))
  rw [List.singleton_sublist]
  refine List.mem_map.2 ⟨_, hz, ?_⟩
  rw [Int.toNat_natCast, List.getD_eq_getElem?_getD, hi]; rfl
theorem groupsF_some {s : Bx} {fs : List Ft} : ∃ r, groupsF s fs = some r := by
  cases h : groupsF s fs with
  | some r => exact ⟨r, rfl⟩
  | none =>
    exfalso
    unfold groupsF at h
    rw [List.findSome?_eq_none_iff] at h
    obtain ⟨r, hr⟩ := putF_some (s := s) (fs := fs) (most := fs.length) fs.length 0 [] (by omega) (by simp)
    have := h fs.length (List.mem_range.2 (by omega))
    rw [hr] at this; cases this
theorem all_one {s : Bx} {fs : List Ft} (h : fs.all (fun f => fitsB s [f]) = true) : ∀ k, k < fs.length → fitsB s (chosenL fs [(k : Int)]) = true := by
  intro k hk
  have h1 := List.all_eq_true.1 h fs[k] (List.getElem_mem hk)
  have e : chosenL fs [(k : Int)] = [fs[k]] := by
    unfold chosenL
    rw [List.map_singleton, Int.toNat_natCast, List.getD_eq_getElem?_getD, List.getElem?_eq_getElem hk]; rfl
  rw [e]; exact h1
/-- What is known of the groups that Groups returns, beside other groups. -/
def GrP (s : Bx) (fs : List Ft) (gs rs : List (List Int)) (c : Int) : Prop := rs.length ≤ 5 ∧ ((c = 24 ∧ accB s fs (-1) [] gs = false) ∨ (c = 0 ∧ accB s fs (-1) [] rs = true ∧ (accB s fs (-1) [] gs = true → rs.length ≤ gs.length)))
theorem groups_e {w : World} {sv iv : Value} {ss : List (List Int)} {xs : List It} {b2 b3 b4 b5 b6 : Int} (hs : RowsAt 11 w sv ss) (hi : RowsAt 3 w iv (xs.map rowX)) (hX : boxOk ⟨1, b2, b3, b4, b5, b6⟩ = true) (hk : ckL ss [] ⟨1, b2, b3, b4, b5, b6⟩ xs = 0) (gs : List (List Int)) : Calls Tryz.prog 50 #[.agg #[sv, .slice none 0 0], .agg #[.int .i64 1, .int .i64 b2, .int .i64 b3, .int .i64 b4, .int .i64 b5, .int .i64 b6], iv] w (fun e w' => ∃ v rs c, e = .returned (.tuple #[v, .int .i64 c]) ∧ Below w.heap.size w w' ∧ ListsAt v rs w' ∧ GrP ⟨1, b2, b3, b4, b5, b6⟩ (feetV ss [] ⟨1, b2, b3, b4, b5, b6⟩ xs) gs rs c) := by
  have h := Groups_any (bid := 1) (bwi := b2) (bde := b3) (bce := b4) (bhi := b5) (bbe := b6) hs no_bodies8 hi
  have hok : ∀ f ∈ (feetV ss [] ⟨1, b2, b3, b4, b5, b6⟩ xs), FtOk f := feet_ok
  refine h.mono ?_
  rintro e w' ⟨v, rfl, hb, hg⟩
  unfold groupsA at hg ⊢
  rw [if_pos hk] at hg ⊢
  cases hall : (feetV ss [] ⟨1, b2, b3, b4, b5, b6⟩ xs).all (fun f => fitsB ⟨1, b2, b3, b4, b5, b6⟩ [f]) with
  | false =>
    rw [hall] at hg
    refine ⟨v, [], 24, rfl, hb, groupsAt_lists hg (fun g hg => by cases hg), by simp, .inl ⟨rfl, ?_⟩⟩
    cases ha : accB ⟨1, b2, b3, b4, b5, b6⟩ (feetV ss [] ⟨1, b2, b3, b4, b5, b6⟩ xs) (-1) [] gs with
    | false => rfl
    | true =>
      obtain ⟨h1, h2⟩ := acc_iff.1 ha
      rw [acc_alone hok h1 h2] at hall; cases hall
  | true =>
    rw [hall] at hg
    obtain ⟨rs, hrs⟩ := groupsF_some (s := ⟨1, b2, b3, b4, b5, b6⟩) (fs := (feetV ss [] ⟨1, b2, b3, b4, b5, b6⟩ xs))
    rw [hrs] at hg
    obtain ⟨⟨h1, h2⟩, h3⟩ := groups_fewest hok (all_one hall) rs hrs
    have hl := acc_len h1
    have hl2 : (feetV ss [] ⟨1, b2, b3, b4, b5, b6⟩ xs).length ≤ 5 := feet_len
    refine ⟨v, rs, 0, rfl, hb, groupsAt_lists hg (fun g hg z hz => ?_), by omega, .inr ⟨rfl, acc_iff.2 ⟨h1, h2⟩, fun ha => ?_⟩⟩
    · obtain ⟨k, hk2⟩ := List.getElem?_of_mem hg
      have := h1.lo k g hk2 z hz
      exact I64.mk (by omega) (by omega)
    · obtain ⟨h4, h5⟩ := acc_iff.1 ha
      exact h3 gs h4 h5

theorem checkg_f {w : World} {sv iv : Value} {ss : List (List Int)} {xs : List It} {b2 b3 b4 b5 b6 : Int} (hs : RowsAt 11 w sv ss) (hi : RowsAt 3 w iv (xs.map rowX)) (hX : boxOk ⟨1, b2, b3, b4, b5, b6⟩ = true) (hk : ckL ss [] ⟨1, b2, b3, b4, b5, b6⟩ xs = 0) {gv : Value} {gs : List (List Int)} (hg : ListsAt gv gs w) (hgl : gs.length ≤ 9223372036854775807) {a : Bool} (ha : accB ⟨1, b2, b3, b4, b5, b6⟩ (feetV ss [] ⟨1, b2, b3, b4, b5, b6⟩ xs) (-1) [] gs = a) : Calls Tryz.prog 52 #[.agg #[sv, .slice none 0 0], .agg #[.int .i64 1, .int .i64 b2, .int .i64 b3, .int .i64 b4, .int .i64 b5, .int .i64 b6], iv, gv] w (Ret w (.int .i64 (if a = true then 0 else 26))) := by
  refine CheckGroups_any (bid := 1) (bwi := b2) (bde := b3) (bce := b4) (bhi := b5) (bbe := b6) hs no_bodies8 hi hg hgl ?_
  unfold ckGr; rw [if_pos hk, ha]
theorem most_f {w : World} {sv iv : Value} {ss : List (List Int)} {xs : List It} {b2 b3 b4 b5 b6 : Int} (hs : RowsAt 11 w sv ss) (hi : RowsAt 3 w iv (xs.map rowX)) (hX : boxOk ⟨1, b2, b3, b4, b5, b6⟩ = true) (hk : ckL ss [] ⟨1, b2, b3, b4, b5, b6⟩ xs = 0) {ish imn icl : Int} (hI : itemB ss ⟨ish, imn, icl⟩ = true) {M : Nat} (hM : mostF ⟨1, b2, b3, b4, b5, b6⟩ (footR ss b4 ⟨ish, imn, icl⟩) = M) (hF : FtOk (footR ss b4 ⟨ish, imn, icl⟩)) {c : Int} (hc : (if M = 0 then 3 else 0) = c) : Calls Tryz.prog 45 #[.agg #[sv, .slice none 0 0], .agg #[.int .i64 1, .int .i64 b2, .int .i64 b3, .int .i64 b4, .int .i64 b5, .int .i64 b6], .agg #[.int .i64 ish, .int .i64 imn, .int .i64 icl]] w (Ret w (.tuple #[.int .i64 (M : Int), .int .i64 c])) := by
  obtain ⟨F, hf⟩ : ∃ F, footR ss b4 ⟨ish, imn, icl⟩ = F := ⟨_, rfl⟩
  obtain ⟨fw, fd, fh, fg⟩ := F
  rw [hf] at hM hF
  refine Most_any (bid := 1) (bwi := b2) (bde := b3) (bce := b4) (bhi := b5) (bbe := b6) hs no_bodies8 (fw := fw) (fd := fd) (fh := fh) (fg := fg) ?_ hX hF hM hc
  unfold footV; rw [if_pos (ckG_of hk), if_pos hI, hf]
theorem pack_e {w : World} {sv iv : Value} {ss : List (List Int)} {xs : List It} {b2 b3 b4 b5 b6 : Int} (hs : RowsAt 11 w sv ss) (hi : RowsAt 3 w iv (xs.map rowX)) (hX : boxOk ⟨1, b2, b3, b4, b5, b6⟩ = true) (hk : ckL ss [] ⟨1, b2, b3, b4, b5, b6⟩ xs = 0) : Calls Tryz.prog 25 #[.agg #[sv, .slice none 0 0], .agg #[.int .i64 1, .int .i64 b2, .int .i64 b3, .int .i64 b4, .int .i64 b5, .int .i64 b6], iv] w (fun e w' => ∃ v, e = .returned (.tuple #[v, .int .i64 (if fitsB ⟨1, b2, b3, b4, b5, b6⟩ (feetV ss [] ⟨1, b2, b3, b4, b5, b6⟩ xs) = true then 0 else 24)]) ∧ Below w.heap.size w w') := by
  cases hq : (shownL ⟨1, b2, b3, b4, b5, b6⟩ (feetV ss [] ⟨1, b2, b3, b4, b5, b6⟩ xs))[0]? with
  | none =>
    refine (pack_n hs hi hX hk hq).mono ?_
    rintro e w' ⟨v, rfl, hb, -⟩
    exact ⟨v, by rw [fits_none hq]; rfl, hb⟩
  | some q =>
    refine (pack_f hs hi hX hk hq).mono ?_
    rintro e w' ⟨v, rfl, hb, -⟩
    exact ⟨v, by rw [fits_some hq]; rfl, hb⟩
theorem Tryz.infoX : (Tryz.prog.info? 32).map (fun i => (i.zero, i.size, i.bytes)) = some (some (.agg #[.int .i64 0, .int .i64 0, .int .i64 0]), 3, 24) := by kernel_rfl

set_option maxRecDepth 100000 in
set_option maxHeartbeats 2000000 in
theorem saggarFewest_walk {w : World} {rv iv gv : Value} {z0 z1 z2 z3 : Int} {rows its gs : List (List Int)} (hmade : ∀ (W : World) (rv iv : Value) (z0 z1 z2 z3 : Int) (rows its : List (List Int)), RowsAt 5 W rv rows → RowsAt 3 W iv its → Calls Tryz.prog 54 #[.agg #[rv, .int .i64 z0, .int .i64 z1, .int .i64 z2, .int .i64 z3, iv]] W (MadeRes W)) (hrv : RowsAt 5 w rv rows) (hiv : RowsAt 3 w iv its) (hg : ListsAt gv gs w) (hgl : gs.length ≤ 9223372036854775807) :
    Calls Tryz.prog 11 #[.agg #[rv, .int .i64 z0, .int .i64 z1, .int .i64 z2, .int .i64 z3, iv], gv] w (Ret w (.bool true)) := by
  unfold Ret
  obtain ⟨ga, gcap, hgv, -⟩ := id hg
  subst hgv
  obtain ⟨i0, hi0, hy0, hy1, hy2⟩ := info_parts Tryz.infoX
  go_enter Tryz.func11, Tryz.ntmps11
  go_wp2_with fail
  refine (hmade _ _ _ _ _ _ _ _ _ (hrv.below (by go_grown)) (hiv.below (by go_grown))).mono ?_
  rintro e v1 ⟨sv, iv, ss, xs, b2, b3, b4, b5, b6, rfl, hb, hs, hi, hgd, hX, hx5, hall⟩
  have hk : ckL ss [] ⟨1, b2, b3, b4, b5, b6⟩ xs = 0 := good_ck hgd hX hx5 hall
  replace hg := (hg.below (by go_grown)).below hb
  have hb0 : Below w.heap.size w v1 := bnext (w := w) (by go_grown) hb
  have hz := hb.size
  (try simp only [World.size_alloc, World.size_setCell] at hz)
  clear hb hgd hrv hiv
  obtain ⟨sa, sc, rfl, -⟩ := hs.shape
  obtain ⟨ia, ic, rfl, -⟩ := hi.shape
  rw [List.length_map] at hi ⊢
  have HK := hid hk; have HX := hid hX; have HALL := hid hall; clear hk hX hall
  go_upto_region 2 with fail
  generalize hW : World.alloc v1 _ = v2
  have q0 : v2.cell? ⟨v1.heap.size, 0, none⟩ = some (.slice sa ss.length sc) := by rw [← hW]; simp [go_sem]
  have q1 : v2.cell? ⟨v1.heap.size, 1, none⟩ = some (.slice none 0 0) := by rw [← hW]; simp [go_sem]
  have q2 : v2.cell? ⟨v1.heap.size, 2, none⟩ = some (.int .i64 1) := by rw [← hW]; simp [go_sem]
  have q3 : v2.cell? ⟨v1.heap.size, 3, none⟩ = some (.int .i64 b2) := by rw [← hW]; simp [go_sem]
  have q4 : v2.cell? ⟨v1.heap.size, 4, none⟩ = some (.int .i64 b3) := by rw [← hW]; simp [go_sem]
  have q5 : v2.cell? ⟨v1.heap.size, 5, none⟩ = some (.int .i64 b4) := by rw [← hW]; simp [go_sem]
  have q6 : v2.cell? ⟨v1.heap.size, 6, none⟩ = some (.int .i64 b5) := by rw [← hW]; simp [go_sem]
  have q7 : v2.cell? ⟨v1.heap.size, 7, none⟩ = some (.int .i64 b6) := by rw [← hW]; simp [go_sem]
  have q8 : v2.cell? ⟨v1.heap.size, 8, none⟩ = some (.slice ia xs.length ic) := by rw [← hW]; simp [go_sem]
  have hb : Below v1.heap.size v1 v2 := by rw [← hW]; exact (Below.refl _ _).alloc (Nat.le_refl _) _
  replace hb0 := bnext (w := w) hb0 hb
  have hz1 := hb.size
  replace hs := hs.below hb
  replace hi := hi.below hb
  replace hg := hg.below hb
  clear hb hW
  go_wp2_with fail
  refine (groups_e hs hi HX.out HK.out gs).mono ?_
  rintro e w1 ⟨av, rs, c, rfl, hb, har, hgp⟩
  replace hb0 := bnext (w := w) (by go_grown) hb
  have hz := hb.size
  (try simp only [World.size_alloc, World.size_setCell] at hz)
  replace q0 := bkeep hb q0
  replace q1 := bkeep hb q1
  replace q2 := bkeep hb q2
  replace q3 := bkeep hb q3
  replace q4 := bkeep hb q4
  replace q5 := bkeep hb q5
  replace q6 := bkeep hb q6
  replace q7 := bkeep hb q7
  replace q8 := bkeep hb q8
  replace hs := hs.below hb
  replace hi := hi.below hb
  replace hg := hg.below hb
  clear hb
  have HGP := hid hgp; clear hgp
  have hrl := HGP.out.1
  obtain ⟨aa, acap, hav, -⟩ := id har
  subst hav
  obtain ⟨ac, hac⟩ : ∃ ac, accB ⟨1, b2, b3, b4, b5, b6⟩ (feetV ss [] ⟨1, b2, b3, b4, b5, b6⟩ xs) (-1) [] gs = ac := ⟨_, rfl⟩
  have HAC := hid hac; clear hac
  obtain ⟨d, hd⟩ : ∃ d : Int, (if ac = true then 0 else 26) = d := ⟨_, rfl⟩
  have hda : (d == 0) = ac := by rw [← hd]; cases ac <;> rfl
  go_wp2_with fail
  refine (hd ▸ checkg_f hs hi HX.out HK.out hg hgl HAC.out).mono ?_
  rintro e w1 ⟨rfl, hb⟩
  replace hb0 := bnext (w := w) (by go_grown) hb
  have hz := hb.size
  (try simp only [World.size_alloc, World.size_setCell] at hz)
  replace q0 := bkeep hb q0
  replace q1 := bkeep hb q1
  replace q2 := bkeep hb q2
  replace q3 := bkeep hb q3
  replace q4 := bkeep hb q4
  replace q5 := bkeep hb q5
  replace q6 := bkeep hb q6
  replace q7 := bkeep hb q7
  replace q8 := bkeep hb q8
  replace hs := hs.below hb
  replace hi := hi.below hb
  replace hg := hg.below hb
  replace har := har.below hb
  clear hb
  obtain ⟨v3, hv3⟩ : ∃ v, v = w1 := ⟨_, rfl⟩
  subst hv3
  have HD := hid hd; clear hd
  go_upto_if 39 with fail
  go_cut [] from 38 (fun wc => Below v3.heap.size v3 wc)
  case first =>
    rcases HGP.out.2 with ⟨rfl, hno⟩ | ⟨rfl, hyes, hle⟩
    · have hf : ac = false := by rw [← HAC.out]; exact hno
      subst hf
      clear hno
      go_wp2_with fail
      go_meet
      exact Below.refl _ _
    · have HYES := hid hyes; have HLE := hid hle; clear hyes hle
      cases ac
      · go_wp2_with (go_at_call 52; refine (checkg_f hs hi HX.out HK.out har (by omega) HYES.out).mono ?_; rintro e w5 ⟨rfl, hb5⟩)
        go_meet
        exact hb5
      · have hle := HLE.out HAC.out
        have hnl : ¬ (gs.length : Int) < (rs.length : Int) := by omega
        go_wp2_with (go_at_call 52; refine (checkg_f hs hi HX.out HK.out har (by omega) HYES.out).mono ?_; rintro e w5 ⟨rfl, hb5⟩)
        go_meet
        exact hb5
  case rest =>
    have hb1 : Below w.heap.size w wc := bnext (w := w) hb0 hcut
    replace q0 := bkeep hcut q0
    replace q1 := bkeep hcut q1
    replace q2 := bkeep hcut q2
    replace q3 := bkeep hcut q3
    replace q4 := bkeep hcut q4
    replace q5 := bkeep hcut q5
    replace q6 := bkeep hcut q6
    replace q7 := bkeep hcut q7
    replace q8 := bkeep hcut q8
    replace hs := hs.below hcut
    replace hi := hi.below hcut
    clear hcut hg har hb0
    obtain ⟨v4, hv4⟩ : ∃ v, v = wc := ⟨_, rfl⟩
    subst hv4
    go_wp2_with fail
    go_loopg [10, 11, 12, 13, 14, 15, 16, 67] xs.length (fun gk _ _ _ _ _ _ _ kv wr => ∃ k : Nat, k ≤ xs.length ∧ gk = xs.length - k ∧ kv = .int .i64 k ∧ Below v4.heap.size v4 wr)
    case atStart => exact ⟨0, Nat.zero_le _, rfl, rfl, Below.refl _ _⟩
    case round =>
      obtain ⟨k, hk, hgk, rfl, hB⟩ := hrel
      have HGK := hid hgk; clear hgk
      obtain ⟨GK, rfl⟩ : ∃ GK, GK = gk := ⟨_, rfl⟩
      by_cases hlt : k < xs.length
      · have hkl : (k : Int) < (xs.length : Int) := by omega
        have hb1k := hb1
        have p0 := bkeep hB q0
        have p1 := bkeep hB q1
        have p2 := bkeep hB q2
        have p3 := bkeep hB q3
        have p4 := bkeep hB q4
        have p5 := bkeep hB q5
        have p6 := bkeep hB q6
        have p7 := bkeep hB q7
        have p8 := bkeep hB q8
        obtain ⟨x, hxk⟩ : ∃ x, xs[k]? = some x := ⟨_, List.getElem?_eq_getElem hlt⟩
        obtain ⟨ish, imn, icl⟩ := x
        have hxm := List.mem_of_getElem? hxk
        have hib : itemB ss ⟨ish, imn, icl⟩ = true := List.all_eq_true.1 HALL.out _ hxm
        have hfo := foot_ok1 HK.out hxm
        obtain ⟨a', ha, hrl0, hc0, hcc⟩ := (show RowsAt 3 wr (.slice ia (xs.map rowX).length ic) (xs.map rowX) by rw [List.length_map]; exact hi.below hB).row (k := k) (by rw [List.length_map]; exact hlt)
        have hat : (xs.map rowX)[k]'(by rw [List.length_map]; exact hlt) = [ish, imn, icl] := by rw [List.getElem_map, (List.getElem?_eq_some_iff.1 hxk).2]; rfl
        rw [hat] at hc0 hcc
        have r0 := hc0 _ rfl
        have r1 := hcc 1 _ (by decide) rfl
        have r2 := hcc 2 _ (by decide) rfl
        clear hc0 hcc hat hrl0
        subst ha
        have hI64 : I64 ish ∧ I64 imn ∧ I64 icl := it_i64 hi hxk
        obtain ⟨M, hM⟩ : ∃ M, mostF ⟨1, b2, b3, b4, b5, b6⟩ (footR ss b4 ⟨ish, imn, icl⟩) = M := ⟨_, rfl⟩
        have hM5 : M ≤ 5 := hM ▸ most_le
        have HM := hid hM; have HIB := hid hib; have HFO := hid hfo; have HXK := hid hxk; have HI6 := hid hI64; clear hM hib hfo hxk hxm hI64
        go_upto_region 12 with fail
        generalize hW : World.alloc wr _ = v5
        have c0 : v5.cell? ⟨wr.heap.size, 0, none⟩ = some (.int .i64 ish) := by rw [← hW]; simp [go_sem]
        have c1 : v5.cell? ⟨wr.heap.size, 1, none⟩ = some (.int .i64 imn) := by rw [← hW]; simp [go_sem]
        have c2 : v5.cell? ⟨wr.heap.size, 2, none⟩ = some (.int .i64 icl) := by rw [← hW]; simp [go_sem]
        have hb : Below wr.heap.size wr v5 := by rw [← hW]; exact (Below.refl _ _).alloc (Nat.le_refl _) _
        replace hB := bnext (w := v4) hB hb
        replace p0 := bkeep hb p0
        replace p1 := bkeep hb p1
        replace p2 := bkeep hb p2
        replace p3 := bkeep hb p3
        replace p4 := bkeep hb p4
        replace p5 := bkeep hb p5
        replace p6 := bkeep hb p6
        replace p7 := bkeep hb p7
        replace p8 := bkeep hb p8
        clear hb
        clear hW r0 r1 r2
        go_wp2_with fail
        by_cases hM0 : M = 0
        · subst hM0
          refine (most_f (hs.below hB) (hi.below hB) HX.out HK.out HIB.out HM.out HFO.out (rfl)).mono ?_
          rintro e w6 ⟨rfl, hb⟩
          replace hB := bnext (w := v4) hB hb
          replace p0 := bkeep hb p0
          replace p1 := bkeep hb p1
          replace p2 := bkeep hb p2
          replace p3 := bkeep hb p3
          replace p4 := bkeep hb p4
          replace p5 := bkeep hb p5
          replace p6 := bkeep hb p6
          replace p7 := bkeep hb p7
          replace p8 := bkeep hb p8
          replace c0 := bkeep hb c0
          replace c1 := bkeep hb c1
          replace c2 := bkeep hb c2
          clear hb
          obtain ⟨v6, hv6⟩ : ∃ v, v = w6 := ⟨_, rfl⟩
          subst hv6
          go_wp2_with fail
          go_loopg [13, 14, 15, 16] 5 (fun gk lv kv _ _ wr => ∃ j : Nat, j ≤ 5 ∧ gk = 5 - j ∧ kv = .int .i64 j ∧ wr.ownsRow v6.heap.size 32 3 lv j (itCells (List.replicate j (⟨ish, imn, icl⟩ : It))) ∧ Below v6.heap.size v6 wr)
          case atStart => exact ⟨0, by omega, rfl, rfl, World.ownsRow_nil _ _ _ _, Below.refl _ _⟩
          case round =>
            obtain ⟨j, hj, hgk2, rfl, ho, hB6⟩ := hrel
            have HGK2 := hid hgk2; clear hgk2
            have hz6 := hB6.size
            obtain ⟨la, lc, rfl, hll⟩ := owns_shape ho
            by_cases hlj : j < 5
            · have hji : (j : Int) < 5 := by omega
              have d0 := bkeep hB6 c0
              have d1 := bkeep hB6 c1
              have d2 := bkeep hB6 c2
              have hcg : ∀ i u, (itCells [⟨ish, imn, icl⟩])[i]? = some u → (wr.alloc (.cells #[.int .i64 ish, .int .i64 imn, .int .i64 icl] 32)).cell? ((⟨wr.heap.size, 0, none⟩ : Addr).add i) = some u := fun i u h => by
                rw [Go.WideShapes.add_plain, Nat.zero_add]
                exact (CellsAt.new wr [.int .i64 ish, .int .i64 imn, .int .i64 icl] 32 i u h).1
              have HCG := hid hcg; clear hcg
              go_upto_region 20 with (at_builtin; go_must (refine wpList_append_own _ rfl _ _ 28 rfl v6.heap.size 32 i0 (.agg #[.int .i64 0, .int .i64 0, .int .i64 0]) 3 24 Tryz.underlying28 hi0 hy0 hy1 hy2 rfl (by decide) _ _ _ rfl (ho.alloc _) ⟨wr.heap.size, 0, none⟩ 1 1 (itCells [⟨ish, imn, icl⟩]) rfl rfl HCG.out it_one (by unfold maxLen; omega) (by omega) (by simp; omega) ?_; intro v' w7 ho7 hg7 hnil))
              rw [it_snoc] at ho7
              have hb7 : Below v6.heap.size v6 w7 := below_grown (hB6.alloc hz6 _) hg7 (ho.alloc _) (by simp; omega) (Nat.le_refl _)
              clear hg7 hnil ho HCG d0 d1 d2
              obtain ⟨ma, mc, rfl, -⟩ := owns_shape ho7
              have hro := it_rows (xs := (List.replicate (j + 1) (⟨ish, imn, icl⟩ : It))) (by rw [List.length_replicate]; exact ho7) (fun x hx => by rw [List.eq_of_mem_replicate hx]; exact HI6.out)
              have e0 := bkeep hb7 p0
              have e1 := bkeep hb7 p1
              have e2 := bkeep hb7 p2
              have e3 := bkeep hb7 p3
              have e4 := bkeep hb7 p4
              have e5 := bkeep hb7 p5
              have e6 := bkeep hb7 p6
              have e7 := bkeep hb7 p7
              have e8 := bkeep hb7 p8
              have hft : fitsB ⟨1, b2, b3, b4, b5, b6⟩ (feetV ss [] ⟨1, b2, b3, b4, b5, b6⟩ (List.replicate (j + 1) (⟨ish, imn, icl⟩ : It))) = decide (j < 0) := by rw [feet_reps (ckG_of HK.out) HIB.out (by omega), most_iff HFO.out (by omega)]; exact congrArg (fun m => decide (j < m)) HM.out
              have hB7 : Below v4.heap.size v4 w7 := bnext (w := v4) hB hb7
              have hpk := pack_e (hs.below hB7) hro HX.out (ckL_reps (k := j + 1) (ckG_of HK.out) HIB.out (by omega))
              rw [hft] at hpk
              have HPK := hid hpk; clear hpk hft hro
              go_wp2_with fail
              refine HPK.out.mono ?_
              rintro e w8 ⟨pv, rfl, hb⟩
              have hb8 := bnext (w := v6) hb7 hb
              replace ho7 := owns_below ho7 hb
              clear hb HPK e0 e1 e2 e3 e4 e5 e6 e7 e8
              have hj0 : ¬ (j : Int) < 0 := by omega
              rw [decide_eq_false (show ¬ j < 0 by omega)]
              go_wp2_with fail
              go_roundg (5 - (j + 1))
              case measure => have h := HGK2.out; omega
              case rel => exact ⟨j + 1, by omega, rfl, by go_num, ho7, hb8⟩
            · obtain rfl : j = 5 := by omega
              have hB9 := bnext (w := v4) hB hB6
              go_wp2_with fail
              go_roundg (xs.length - (k + 1))
              case measure => have h := HGK.out; omega
              case rel => exact ⟨k + 1, by omega, rfl, by go_num, hB9⟩
        · have hM1 : ¬ (M : Int) < 1 := by omega
          have hM6 : ¬ 5 < (M : Int) := by omega
          refine (most_f (hs.below hB) (hi.below hB) HX.out HK.out HIB.out HM.out HFO.out (if_neg hM0)).mono ?_
          rintro e w6 ⟨rfl, hb⟩
          replace hB := bnext (w := v4) hB hb
          replace p0 := bkeep hb p0
          replace p1 := bkeep hb p1
          replace p2 := bkeep hb p2
          replace p3 := bkeep hb p3
          replace p4 := bkeep hb p4
          replace p5 := bkeep hb p5
          replace p6 := bkeep hb p6
          replace p7 := bkeep hb p7
          replace p8 := bkeep hb p8
          replace c0 := bkeep hb c0
          replace c1 := bkeep hb c1
          replace c2 := bkeep hb c2
          clear hb
          obtain ⟨v6, hv6⟩ : ∃ v, v = w6 := ⟨_, rfl⟩
          subst hv6
          go_wp2_with fail
          go_loopg [13, 14, 15, 16] 5 (fun gk lv kv _ _ wr => ∃ j : Nat, j ≤ 5 ∧ gk = 5 - j ∧ kv = .int .i64 j ∧ wr.ownsRow v6.heap.size 32 3 lv j (itCells (List.replicate j (⟨ish, imn, icl⟩ : It))) ∧ Below v6.heap.size v6 wr)
          case atStart => exact ⟨0, by omega, rfl, rfl, World.ownsRow_nil _ _ _ _, Below.refl _ _⟩
          case round =>
            obtain ⟨j, hj, hgk2, rfl, ho, hB6⟩ := hrel
            have HGK2 := hid hgk2; clear hgk2
            have hz6 := hB6.size
            obtain ⟨la, lc, rfl, hll⟩ := owns_shape ho
            by_cases hlj : j < 5
            · have hji : (j : Int) < 5 := by omega
              have d0 := bkeep hB6 c0
              have d1 := bkeep hB6 c1
              have d2 := bkeep hB6 c2
              have hcg : ∀ i u, (itCells [⟨ish, imn, icl⟩])[i]? = some u → (wr.alloc (.cells #[.int .i64 ish, .int .i64 imn, .int .i64 icl] 32)).cell? ((⟨wr.heap.size, 0, none⟩ : Addr).add i) = some u := fun i u h => by
                rw [Go.WideShapes.add_plain, Nat.zero_add]
                exact (CellsAt.new wr [.int .i64 ish, .int .i64 imn, .int .i64 icl] 32 i u h).1
              have HCG := hid hcg; clear hcg
              go_upto_region 20 with (at_builtin; go_must (refine wpList_append_own _ rfl _ _ 28 rfl v6.heap.size 32 i0 (.agg #[.int .i64 0, .int .i64 0, .int .i64 0]) 3 24 Tryz.underlying28 hi0 hy0 hy1 hy2 rfl (by decide) _ _ _ rfl (ho.alloc _) ⟨wr.heap.size, 0, none⟩ 1 1 (itCells [⟨ish, imn, icl⟩]) rfl rfl HCG.out it_one (by unfold maxLen; omega) (by omega) (by simp; omega) ?_; intro v' w7 ho7 hg7 hnil))
              rw [it_snoc] at ho7
              have hb7 : Below v6.heap.size v6 w7 := below_grown (hB6.alloc hz6 _) hg7 (ho.alloc _) (by simp; omega) (Nat.le_refl _)
              clear hg7 hnil ho HCG d0 d1 d2
              obtain ⟨ma, mc, rfl, -⟩ := owns_shape ho7
              have hro := it_rows (xs := (List.replicate (j + 1) (⟨ish, imn, icl⟩ : It))) (by rw [List.length_replicate]; exact ho7) (fun x hx => by rw [List.eq_of_mem_replicate hx]; exact HI6.out)
              have e0 := bkeep hb7 p0
              have e1 := bkeep hb7 p1
              have e2 := bkeep hb7 p2
              have e3 := bkeep hb7 p3
              have e4 := bkeep hb7 p4
              have e5 := bkeep hb7 p5
              have e6 := bkeep hb7 p6
              have e7 := bkeep hb7 p7
              have e8 := bkeep hb7 p8
              have hft : fitsB ⟨1, b2, b3, b4, b5, b6⟩ (feetV ss [] ⟨1, b2, b3, b4, b5, b6⟩ (List.replicate (j + 1) (⟨ish, imn, icl⟩ : It))) = decide (j < M) := by rw [feet_reps (ckG_of HK.out) HIB.out (by omega), most_iff HFO.out (by omega)]; exact congrArg (fun m => decide (j < m)) HM.out
              have hB7 : Below v4.heap.size v4 w7 := bnext (w := v4) hB hb7
              have hpk := pack_e (hs.below hB7) hro HX.out (ckL_reps (k := j + 1) (ckG_of HK.out) HIB.out (by omega))
              rw [hft] at hpk
              have HPK := hid hpk; clear hpk hft hro
              go_wp2_with fail
              refine HPK.out.mono ?_
              rintro e w8 ⟨pv, rfl, hb⟩
              have hb8 := bnext (w := v6) hb7 hb
              replace ho7 := owns_below ho7 hb
              clear hb HPK e0 e1 e2 e3 e4 e5 e6 e7 e8
              by_cases hjm : j < M
              · have hjmi : (j : Int) < (M : Int) := by omega
                rw [decide_eq_true hjm]
                go_wp2_with fail
                go_roundg (5 - (j + 1))
                case measure => have h := HGK2.out; omega
                case rel => exact ⟨j + 1, by omega, rfl, by go_num, ho7, hb8⟩
              · have hjmi : ¬ (j : Int) < (M : Int) := by omega
                rw [decide_eq_false hjm]
                go_wp2_with fail
                go_roundg (5 - (j + 1))
                case measure => have h := HGK2.out; omega
                case rel => exact ⟨j + 1, by omega, rfl, by go_num, ho7, hb8⟩
            · obtain rfl : j = 5 := by omega
              have hB9 := bnext (w := v4) hB hB6
              go_wp2_with fail
              go_roundg (xs.length - (k + 1))
              case measure => have h := HGK.out; omega
              case rel => exact ⟨k + 1, by omega, rfl, by go_num, hB9⟩
      · obtain rfl : k = xs.length := by omega
        replace hb1 := bnext (w := w) hb1 hB
        go_wp2_with (go_at_call 24; refine sane_any.mono ?_; rintro e w9 ⟨rfl, hb9⟩; replace hb1 := bnext (w := w) hb1 hb9)
        go_ret
        exact ⟨rfl, hb1⟩

end Go.Proofs.YtodmidchpbcnpaaGreat
