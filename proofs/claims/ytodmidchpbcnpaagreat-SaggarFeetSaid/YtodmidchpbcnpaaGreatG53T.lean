/- All stands of a box for an item. -/
import Derived.Test.YtodmidchpbcnpaaGreatG52T
import Derived.Test.YtodmidchpbcnpaaGreatG6T
import Derived.Test.YtodmidchpbcnpaaGreatG4T
import Derived.Test.YtodmidchpbcnpaaGreatKG14T
import Derived.Test.YtodmidchpbcnpaaGreatKInRoundT
import Derived.OwnWalkIn
import Derived.RangeFuncBox
import Derived.RangeFuncNested
import Derived.RangeFuncBound
import Derived.RangeFuncCalls
import Derived.RangeFuncLeaves
namespace Go.Proofs.YtodmidchpbcnpaaGreat
open Go.RowKit Go.Pb Go.Pb.Ware Go.Pb.Sag
set_option linter.unusedVariables false
set_option linter.unusedSimpArgs false

open Go.Shelf
attribute [local go_sem] Oper.semAt_some
theorem Tryz.infoP53 : True := trivial
set_option maxRecDepth 100000 in
set_option maxHeartbeats 4000000 in
theorem appendSeq_any {w : World} {bid bwi bde bce bhi bbe fw fd fh fg : Int} (hX : boxOk ⟨bid, bwi, bde, bce, bhi, bbe⟩ = true) (hF : FtOk ⟨fw, fd, fh, fg⟩) {lo hi : Nat} {lb : Array Value} (hSt : StandsIn lo hi ⟨bid, bwi, bde, bce, bhi, bbe⟩ ⟨fw, fd, fh, fg⟩ lb w) (hhi : hi ≤ w.heap.size) :
    Calls Tryz.prog 112 #[.slice none 0 0, .func (.func 113) #[] lb] w (fun e w' => ∃ v, e = .returned v ∧ Below w.heap.size w w' ∧ w'.ownsRow w.heap.size 62 3 v (standsL ⟨bid, bwi, bde, bce, bhi, bbe⟩ ⟨fw, fd, fh, fg⟩).length ((standsL ⟨bid, bwi, bde, bce, bhi, bbe⟩ ⟨fw, fd, fh, fg⟩).flatMap cellsP)) := by
  obtain ⟨i0, hif, hz0, hz1, hz2⟩ := info_parts Tryz.infoS
  refine (callsIn_wide (n := 8)).1 ?_
  refine callsIn_of_wp_marks Tryz.func112 rfl trivial ?_ rfl
  simp only [Tryz.ntmps112, List.size_toArray, List.length_cons, List.length_nil, Nat.reduceAdd, Nat.reduceSub, Array.replicate_succ, Array.replicate_zero, List.push_toArray, List.append_toArray, List.nil_append, List.cons_append]
  gi_wp2
  obtain ⟨w1, hw1⟩ : ∃ v, v = w.alloc (.cells #[.slice none 0 0] 41) := ⟨_, rfl⟩
  rw [← hw1]
  have bC : CellsAt w1 w.heap.size [.slice none 0 0] := by rw [hw1]; exact CellsAt.new w _ 41
  have hz1s : w1.heap.size = w.heap.size + 1 := by rw [hw1]; simp
  have hB0 : Below w.heap.size w w1 := by rw [hw1]; exact (Below.refl _ _).alloc (Nat.le_refl _) _
  have hSt1 : StandsIn lo hi ⟨bid, bwi, bde, bce, bhi, bbe⟩ ⟨fw, fd, fh, fg⟩ lb w1 := hSt.keep (KeepSeg.of_below (hB0.mono hhi))
  clear hw1 hSt
  have hlt1 : w.heap.size < w1.heap.size := by omega
  have hF0 : FillG w1 w.heap.size 62 3 0 [] w1 := ⟨OutOnly.refl, .slice none 0 0, ⟨(bC 0 _ rfl).1, (bC 0 _ rfl).2⟩, World.ownsRow_nil _ _ _ _⟩
  refine wpIn_rangeFunc_ownH (F := Fence.wide) (n := 8) rfl (by omega) (gf := 113) (lb := lb) rfl trivial (enters_of Tryz.func113 (by kernel_rfl) rfl) (stands_stops (n := 7) (by omega) (w := w1) hX hF hSt1 (by omega)) (fun h k => h.trans k) (fun W l o o' => keepSeg_b (by omega) W l o o') (Below.refl _ _) (fun _ => rfl)
    (fun (pre : List St) W => FillG w1 w.heap.size 62 3 pre.length (pre.flatMap cellsP) W)
    (fun c (pre : List St) W => False)
    (fillG_own hlt1 (fun pre : List St => pre.length) (fun pre : List St => pre.flatMap cellsP))
    (fun c _ _ _ _ hs _ _ => hs)
    hF0
    (fun x a' W => ∃ Bx, w1.heap.size ≤ Bx ∧ CellsAt W Bx (cellsP x) ∧ a' = { tmps := #[.slice none 0 0, .func (.func 113) #[] lb, .pointer (some ⟨w.heap.size, 0, none⟩), undef, .slice none 0 0, .pointer (some ⟨Bx, 0, none⟩), .func (.func 113) #[] lb, (encS x)[0]!, undef, undef, undef, undef, undef], defers := [] })
    (fun x a' _ X Y row hs hg hr => by obtain ⟨Bx, h1, h2, h3⟩ := hs; exact ⟨Bx, h1, h2.kept hg (fun r e => (hr r e).2), h3⟩)
    ?assign ?body ?done ?stop
  case assign =>
    rintro l pre x W K2 hF3 hK2
    simp only [encS]
    have hsW : w1.heap.size ≤ W.heap.size := hF3.1.below.size
    gi_wp2
    exact hK2 _ _ ((KeepsOthers.alloc _ _).from _) ⟨by simp, fun k h1 h2 => Below.heap_alloc _ _ _ (by omega)⟩ ((fillG_own hlt1 (fun pre : List St => pre.length) (fun pre : List St => pre.flatMap cellsP)).alloc _ hF3) ⟨W.heap.size, hsW, CellsAt.new W (cellsP x) 62, by simp [encS]⟩
  case body =>
    rintro l pre ⟨xy, xx, xt⟩ a' Wb hl2 ⟨r, hr⟩ ⟨hO, v, ⟨c1, c2⟩, hown⟩ ⟨Bx, hBx, bX, rfl⟩ hlt2
    have hln := stands_len ⟨fw, fd, fh, fg⟩ hX
    have hpl : pre.length < 72 := by omega
    obtain ⟨va, vc, rfl, hvl⟩ := owns_shape hown
    have q0 := c1
    have q1 := (bX 0 _ rfl).1
    have q2 := (bX 1 _ rfl).1
    have q3 := (bX 2 _ rfl).1
    have hsz := hO.below.size
    have hcg : ∀ i u, (cellsP (⟨xy, xx, xt⟩ : St))[i]? = some u → (Wb.alloc (.cells #[.int .i64 (xy : Int), .int .i64 (xx : Int), .bool xt] 62)).cell? ((⟨Wb.heap.size, 0, none⟩ : Addr).add i) = some u := fun i u h => by
      rw [Go.WideShapes.add_plain, Nat.zero_add]
      exact (CellsAt.new Wb [.int .i64 (xy : Int), .int .i64 (xx : Int), .bool xt] 62 i u h).1
    have hba : Below Wb.heap.size Wb (Wb.alloc (.cells #[.int .i64 (xy : Int), .int .i64 (xx : Int), .bool xt] 62)) := (Below.refl _ _).alloc (Nat.le_refl _) _
    have HCG := hid hcg; have HBA := hid hba; clear hcg hba
    simp only [encS]
    gi_wp2_with (gi_at_builtin; go_must (refine wpListIn_append_own _ rfl _ _ 41 rfl w1.heap.size 62 i0 (.agg #[.int .i64 0, .int .i64 0, .bool false]) 3 24 Tryz.underlying41 hif hz0 hz1 hz2 rfl (by decide) _ _ _ rfl (hown.alloc _) ⟨Wb.heap.size, 0, none⟩ 1 1 (cellsP ⟨xy, xx, xt⟩) rfl rfl HCG.out (fun u h => by simp only [cellsP, List.mem_cons, List.not_mem_nil, or_false] at h; rcases h with rfl | rfl | rfl <;> rfl) (by unfold maxLen; omega) (by omega) (by simp; omega) ?_; intro v' w3 ho3 hg3 hnil; obtain ⟨xa, xc, rfl, -⟩ := owns_shape ho3; obtain ⟨p0, p1⟩ := FillG.slot hlt1 (bC 0 _ rfl).1 (bC 0 _ rfl).2 hO c1 HBA.out (hown.alloc _) hg3))
    obtain ⟨hP1, hP2, hP3⟩ := FillG.push hlt1 (bC 0 _ rfl).1 (bC 0 _ rfl).2 hO c1 HBA.out (hown.alloc _) hg3 ho3
    exact ⟨hP2.from _, ⟨hP3, fun k h1 h2 => (hP1.1.below.block k (by omega)).trans (hO.below.block k (by omega)).symm⟩, by show FillG _ _ _ _ (pre ++ _).length ((pre ++ _).flatMap cellsP) _; rw [List.length_append, List.length_singleton, List.flatMap_append]; simpa using hP1⟩
  case done =>
    rintro D zs W hD hzs ⟨hO, v, ⟨c1, c2⟩, hown⟩ hK2
    subst hzs
    have hB3 : Below w.heap.size w W := hB0.trans hO.below
    have hD2 : w.heap.size ≤ D := by omega
    obtain ⟨va, vc, rfl, -⟩ := owns_shape hown
    gi_wp2
    refine ⟨by simp, .inl ⟨_, _, rfl, run_takeDeferred hK2, ?_⟩⟩
    have e3 := hB3.trans (belowK_b (w := w) (Nat.le_refl _) W D _ (.deferred none) hD2 hK2 rfl rfl)
    have o3 := ownsRow_putObj hown (.deferred none) hK2 rfl
    exact ⟨_, by simp [results, Tryz.results112, go_sem], _, rfl, e3, owns_base (by omega) o3⟩
  case stop => exact fun D j pre W hD hpre hF3 hK2 => hF3.elim

set_option maxRecDepth 100000 in
set_option maxHeartbeats 400000 in
theorem collect_any {w : World} {bid bwi bde bce bhi bbe fw fd fh fg : Int} (hX : boxOk ⟨bid, bwi, bde, bce, bhi, bbe⟩ = true) (hF : FtOk ⟨fw, fd, fh, fg⟩) {lo hi : Nat} {lb : Array Value} (hSt : StandsIn lo hi ⟨bid, bwi, bde, bce, bhi, bbe⟩ ⟨fw, fd, fh, fg⟩ lb w) (hhi : hi ≤ w.heap.size) :
    Calls Tryz.prog 63 #[.func (.func 113) #[] lb] w (fun e w' => ∃ v, e = .returned v ∧ Below w.heap.size w w' ∧ w'.ownsRow w.heap.size 62 3 v (standsL ⟨bid, bwi, bde, bce, bhi, bbe⟩ ⟨fw, fd, fh, fg⟩).length ((standsL ⟨bid, bwi, bde, bce, bhi, bbe⟩ ⟨fw, fd, fh, fg⟩).flatMap cellsP)) := by
  go_enter Tryz.func63, Tryz.ntmps63
  go_wp2_with fail
  refine (appendSeq_any hX hF hSt hhi).mono ?_
  rintro e w1 ⟨v, rfl, hb, ho⟩
  go_wp2_with fail
  go_ret
  exact ⟨_, rfl, hb, ho⟩

/-- What Stands answers. -/
def standsA (ss bs : List (List Int)) (s : Bx) (x : It) : List St × Int := if (footV ss bs s x).2 = 0 then (standsL s (footV ss bs s x).1, 0) else ([], (footV ss bs s x).2)
def StandsRes (r : List St × Int) (W : World) (e : Ending) (w' : World) : Prop := ∃ v, e = .returned (.tuple #[v, .int .i64 r.2]) ∧ Below W.heap.size W w' ∧ StAt w' v (r.1.map toSq)
theorem footV_good {ss bs : List (List Int)} {s : Bx} {x : It} {f : Ft} (h : footV ss bs s x = (f, 0)) : boxOk s = true ∧ FtOk f := by
  unfold footV at h
  split at h
  · rename_i hg
    obtain ⟨hw, hX⟩ := ckG_0 hg
    split at h
    · rename_i hI
      injection h with h1 _
      have h2 := boxOk_iff.1 hX
      rw [← h1]
      exact ⟨hX, foot_bd hw hI h2.2.2.2.1.1⟩
    · injection h with _ h2; cases h2
  · rename_i hg; injection h with _ h2; exact absurd h2 hg
theorem stAt_cellsP {w : World} {base T : Nat} {v : Value} {l : List St} (h : w.ownsRow base T 3 v l.length (l.flatMap cellsP)) : StAt w v (l.map toSq) := by
  refine stAt_of_owns (qs := l.map toSq) (base := base) (e := T) ?_
  rw [List.length_map, ← flatP]; exact h

set_option maxRecDepth 100000 in
set_option maxHeartbeats 2000000 in
theorem Stands_any3 {w : World} {vs vb : Value} {ss bs : List (List Int)} (h1 : RowsAt 11 w vs ss) (h2 : RowsAt 7 w vb bs) {bid bwi bde bce bhi bbe ish imn icl : Int} :
    Calls Tryz.prog 16 #[.agg #[vs, vb], .agg #[.int .i64 bid, .int .i64 bwi, .int .i64 bde, .int .i64 bce, .int .i64 bhi, .int .i64 bbe], .agg #[.int .i64 ish, .int .i64 imn, .int .i64 icl]] w (StandsRes (standsA ss bs ⟨bid, bwi, bde, bce, bhi, bbe⟩ ⟨ish, imn, icl⟩) w) := by
  unfold StandsRes
  obtain ⟨⟨⟨fw, fd, fh, fg⟩, c⟩, hx⟩ : ∃ r, footV ss bs ⟨bid, bwi, bde, bce, bhi, bbe⟩ ⟨ish, imn, icl⟩ = r := ⟨_, rfl⟩
  have hA : standsA ss bs ⟨bid, bwi, bde, bce, bhi, bbe⟩ ⟨ish, imn, icl⟩ = if c = 0 then (standsL ⟨bid, bwi, bde, bce, bhi, bbe⟩ ⟨fw, fd, fh, fg⟩, 0) else ([], c) := by unfold standsA; rw [hx]
  rw [hA]
  have HX := hid hx
  by_cases hc0 : c = 0
  · subst hc0
    obtain ⟨hX, hF⟩ := footV_good hx
    rw [if_pos rfl]
    clear hx hA
    go_enter Tryz.func16, Tryz.ntmps16
    go_wp2_with fail
    refine (Foot_any (h1.below (by go_grown)) (h2.below (by go_grown)) HX.out).mono ?_
    rintro e w1 ⟨rfl, hb⟩
    replace hb0 := bnext (w := w) (by go_grown) hb; have hz := hb.size; (try simp only [World.size_alloc, World.size_setCell] at hz); replace q0 : w1.cell? ⟨w.heap.size + 1, 0, none⟩ = some (.int .i64 bid) := bkeep hb (by first | (with_reducible exact q0) | (with_reducible exact akeep q0) | simp [*, go_sem]); replace q1 : w1.cell? ⟨w.heap.size + 1, 1, none⟩ = some (.int .i64 bwi) := bkeep hb (by first | (with_reducible exact q1) | (with_reducible exact akeep q1) | simp [*, go_sem]); replace q2 : w1.cell? ⟨w.heap.size + 1, 2, none⟩ = some (.int .i64 bde) := bkeep hb (by first | (with_reducible exact q2) | (with_reducible exact akeep q2) | simp [*, go_sem]); replace q3 : w1.cell? ⟨w.heap.size + 1, 3, none⟩ = some (.int .i64 bce) := bkeep hb (by first | (with_reducible exact q3) | (with_reducible exact akeep q3) | simp [*, go_sem]); replace q4 : w1.cell? ⟨w.heap.size + 1, 4, none⟩ = some (.int .i64 bhi) := bkeep hb (by first | (with_reducible exact q4) | (with_reducible exact akeep q4) | simp [*, go_sem]); replace q5 : w1.cell? ⟨w.heap.size + 1, 5, none⟩ = some (.int .i64 bbe) := bkeep hb (by first | (with_reducible exact q5) | (with_reducible exact akeep q5) | simp [*, go_sem]); skip
    clear hb
    obtain ⟨v1, hv1⟩ : ∃ v, v = w1 := ⟨_, rfl⟩
    subst hv1
    go_upto_region 4 with fail
    generalize hW : World.alloc v1 _ = v2
    have c0 : v2.cell? ⟨v1.heap.size, 0, none⟩ = some (.int .i64 fw) := by rw [← hW]; simp [go_sem]
    have c1 : v2.cell? ⟨v1.heap.size, 1, none⟩ = some (.int .i64 fd) := by rw [← hW]; simp [go_sem]
    have c2 : v2.cell? ⟨v1.heap.size, 2, none⟩ = some (.int .i64 fh) := by rw [← hW]; simp [go_sem]
    have c3 : v2.cell? ⟨v1.heap.size, 3, none⟩ = some (.int .i64 fg) := by rw [← hW]; simp [go_sem]
    have hb : Below v1.heap.size v1 v2 := by rw [← hW]; exact (Below.refl _ _).alloc (Nat.le_refl _) _
    have hsz0 := hb0.size
    replace hb0 := bnext (w := w) hb0 hb
    replace q0 := bkeep hb q0
    replace q1 := bkeep hb q1
    replace q2 := bkeep hb q2
    replace q3 := bkeep hb q3
    replace q4 := bkeep hb q4
    replace q5 := bkeep hb q5
    clear hb hW
    go_wp2_with fail
    refine stands_any.mono ?_
    rintro e w3 ⟨lb, rfl, hSt, hb, hz3⟩
    replace hb0 := bnext (w := w) hb0 hb
    clear hb
    go_wp2_with fail
    refine (collect_any hX hF hSt (Nat.le_refl _)).mono ?_
    rintro e w4 ⟨v, rfl, hb, ho⟩
    replace hb0 := bnext (w := w) hb0 hb
    go_wp2_with fail
    go_ret2
    exact ⟨_, rfl, hb0, stAt_cellsP ho⟩
  · rw [if_neg hc0]
    have hcn : (c != 0) = true := by simpa using hc0
    clear hx hA
    go_enter Tryz.func16, Tryz.ntmps16
    go_wp2_with fail
    refine (Foot_any (h1.below (by go_grown)) (h2.below (by go_grown)) HX.out).mono ?_
    rintro e w1 ⟨rfl, hb⟩
    replace hb0 := bnext (w := w) (by go_grown) hb; have hz := hb.size; (try simp only [World.size_alloc, World.size_setCell] at hz); obtain ⟨hc, hf⟩ := bcell hb; skip
    clear hb
    go_wp2_with fail
    go_ret2
    exact ⟨_, rfl, by go_grown, .inl ⟨rfl, rfl⟩⟩

set_option maxRecDepth 100000 in
set_option maxHeartbeats 2000000 in
theorem rStands_any3 {w : World} {vs vb : Value} {ss bs : List (List Int)} (h1 : RowsAt 11 w vs ss) (h2 : RowsAt 7 w vb bs) {bid bwi bde bce bhi bbe ish imn icl : Int} :
    Calls Tryz.prog 17 #[.agg #[vs, vb], .agg #[.int .i64 bid, .int .i64 bwi, .int .i64 bde, .int .i64 bce, .int .i64 bhi, .int .i64 bbe], .agg #[.int .i64 ish, .int .i64 imn, .int .i64 icl]] w (StandsRes (standsA ss bs ⟨bid, bwi, bde, bce, bhi, bbe⟩ ⟨ish, imn, icl⟩) w) := by
  unfold StandsRes
  obtain ⟨⟨⟨fw, fd, fh, fg⟩, c⟩, hx⟩ : ∃ r, footV ss bs ⟨bid, bwi, bde, bce, bhi, bbe⟩ ⟨ish, imn, icl⟩ = r := ⟨_, rfl⟩
  have hA : standsA ss bs ⟨bid, bwi, bde, bce, bhi, bbe⟩ ⟨ish, imn, icl⟩ = if c = 0 then (standsL ⟨bid, bwi, bde, bce, bhi, bbe⟩ ⟨fw, fd, fh, fg⟩, 0) else ([], c) := by unfold standsA; rw [hx]
  rw [hA]
  have HX := hid hx
  by_cases hc0 : c = 0
  · subst hc0
    obtain ⟨hX, hF⟩ := footV_good hx
    rw [if_pos rfl]
    clear hx hA
    go_enter Tryz.func17, Tryz.ntmps17
    go_wp2_with fail
    refine (rFoot_any (h1.below (by go_grown)) (h2.below (by go_grown)) HX.out).mono ?_
    rintro e w1 ⟨rfl, hb⟩
    replace hb0 := bnext (w := w) (by go_grown) hb; have hz := hb.size; (try simp only [World.size_alloc, World.size_setCell] at hz); replace q0 : w1.cell? ⟨w.heap.size + 1, 0, none⟩ = some (.int .i64 bid) := bkeep hb (by first | (with_reducible exact q0) | (with_reducible exact akeep q0) | simp [*, go_sem]); replace q1 : w1.cell? ⟨w.heap.size + 1, 1, none⟩ = some (.int .i64 bwi) := bkeep hb (by first | (with_reducible exact q1) | (with_reducible exact akeep q1) | simp [*, go_sem]); replace q2 : w1.cell? ⟨w.heap.size + 1, 2, none⟩ = some (.int .i64 bde) := bkeep hb (by first | (with_reducible exact q2) | (with_reducible exact akeep q2) | simp [*, go_sem]); replace q3 : w1.cell? ⟨w.heap.size + 1, 3, none⟩ = some (.int .i64 bce) := bkeep hb (by first | (with_reducible exact q3) | (with_reducible exact akeep q3) | simp [*, go_sem]); replace q4 : w1.cell? ⟨w.heap.size + 1, 4, none⟩ = some (.int .i64 bhi) := bkeep hb (by first | (with_reducible exact q4) | (with_reducible exact akeep q4) | simp [*, go_sem]); replace q5 : w1.cell? ⟨w.heap.size + 1, 5, none⟩ = some (.int .i64 bbe) := bkeep hb (by first | (with_reducible exact q5) | (with_reducible exact akeep q5) | simp [*, go_sem]); skip
    clear hb
    obtain ⟨v1, hv1⟩ : ∃ v, v = w1 := ⟨_, rfl⟩
    subst hv1
    go_upto_region 4 with fail
    generalize hW : World.alloc v1 _ = v2
    have c0 : v2.cell? ⟨v1.heap.size, 0, none⟩ = some (.int .i64 fw) := by rw [← hW]; simp [go_sem]
    have c1 : v2.cell? ⟨v1.heap.size, 1, none⟩ = some (.int .i64 fd) := by rw [← hW]; simp [go_sem]
    have c2 : v2.cell? ⟨v1.heap.size, 2, none⟩ = some (.int .i64 fh) := by rw [← hW]; simp [go_sem]
    have c3 : v2.cell? ⟨v1.heap.size, 3, none⟩ = some (.int .i64 fg) := by rw [← hW]; simp [go_sem]
    have hb : Below v1.heap.size v1 v2 := by rw [← hW]; exact (Below.refl _ _).alloc (Nat.le_refl _) _
    have hsz0 := hb0.size
    replace hb0 := bnext (w := w) hb0 hb
    replace q0 := bkeep hb q0
    replace q1 := bkeep hb q1
    replace q2 := bkeep hb q2
    replace q3 := bkeep hb q3
    replace q4 := bkeep hb q4
    replace q5 := bkeep hb q5
    clear hb hW
    go_wp2_with fail
    refine (rstands_any2 hX hF).mono ?_
    rintro e w4 ⟨v, rfl, hb, ho⟩
    replace hb0 := bnext (w := w) hb0 hb
    go_wp2_with fail
    go_ret2
    exact ⟨_, rfl, hb0, stAt_cellsP ho⟩
  · rw [if_neg hc0]
    have hcn : (c != 0) = true := by simpa using hc0
    clear hx hA
    go_enter Tryz.func17, Tryz.ntmps17
    go_wp2_with fail
    refine (rFoot_any (h1.below (by go_grown)) (h2.below (by go_grown)) HX.out).mono ?_
    rintro e w1 ⟨rfl, hb⟩
    replace hb0 := bnext (w := w) (by go_grown) hb; have hz := hb.size; (try simp only [World.size_alloc, World.size_setCell] at hz); obtain ⟨hc, hf⟩ := bcell hb; skip
    clear hb
    go_wp2_with fail
    go_ret2
    exact ⟨_, rfl, by go_grown, .inl ⟨rfl, rfl⟩⟩

set_option maxRecDepth 100000 in
set_option maxHeartbeats 600000 in
theorem sameFeet_eq {w : World} {v1 v2 : Value} {fs : List Ft} (h1 : FeetAt w v1 fs) (h2 : FeetAt w v2 fs) (hz : fs.length ≤ 1000) :
    Calls Tryz.prog 18 #[v1, v2] w (Ret w (.bool true)) := by
  unfold Ret
  obtain ⟨a, ac, rfl, ha1⟩ := h1.shape
  obtain ⟨c, cc, rfl, hc1⟩ := h2.shape
  rw [List.length_map] at h1 h2 ha1 hc1 ⊢
  go_enter Tryz.func18, Tryz.ntmps18
  go_wp2_with fail
  go_loopg [5, 13] fs.length (fun gk _ kv wr => ∃ k : Nat, k ≤ fs.length ∧ gk = fs.length - k ∧ kv = .int .i64 k ∧ Below w.heap.size w wr)
  case atStart => exact ⟨0, Nat.zero_le _, rfl, rfl, Below.refl _ _⟩
  case round =>
    obtain ⟨k, hk, hgk, rfl, hB⟩ := hrel
    have HGK := hid hgk; clear hgk
    by_cases hlt : k < fs.length
    · have hkl : (k : Int) < (fs.length : Int) := by omega
      obtain ⟨⟨fw, fd, fh, fg⟩, hf⟩ : ∃ f, fs[k] = f := ⟨_, rfl⟩
      have hat : (fs.map rowF)[k]'(by rw [List.length_map]; exact hlt) = [fw, fd, fh, fg] := by rw [List.getElem_map, hf]; rfl
      obtain ⟨a', ha', hrl0, hc0, hcc⟩ := (show RowsAt 4 wr (.slice a (fs.map rowF).length ac) (fs.map rowF) by rw [List.length_map]; exact h1.below hB).row (k := k) (by rw [List.length_map]; exact hlt)
      rw [hat] at hc0 hcc
      have r0 := hc0 _ rfl
      have r1 := hcc 1 _ (by decide) rfl
      have r2 := hcc 2 _ (by decide) rfl
      have r3 := hcc 3 _ (by decide) rfl
      clear hc0 hcc hrl0
      obtain ⟨c', hc', hrl0, hc0, hcc⟩ := (show RowsAt 4 wr (.slice c (fs.map rowF).length cc) (fs.map rowF) by rw [List.length_map]; exact h2.below hB).row (k := k) (by rw [List.length_map]; exact hlt)
      rw [hat] at hc0 hcc
      have t0 := hc0 _ rfl
      have t1 := hcc 1 _ (by decide) rfl
      have t2 := hcc 2 _ (by decide) rfl
      have t3 := hcc 3 _ (by decide) rfl
      clear hc0 hcc hrl0 hat hf
      subst ha'; subst hc'
      have s0 := fun x : BW wr => bkeep x.below r0
      have s1 := fun x : BW wr => bkeep x.below r1
      have s2 := fun x : BW wr => bkeep x.below r2
      have s3 := fun x : BW wr => bkeep x.below r3
      have s4 := fun x : BW wr => bkeep x.below t0
      have s5 := fun x : BW wr => bkeep x.below t1
      have s6 := fun x : BW wr => bkeep x.below t2
      have s7 := fun x : BW wr => bkeep x.below t3
      go_upto_region 6 with fail
      refine wp_region_Rs [(8, fun v _ => v = .bool false)] [0, 1, 2, 3, 4, 5, 6, 7, 8] 0 (by kernel_rfl) rfl (by simp only [List.forall_mem_cons]; exact ⟨keeps_eq, fun _ h => by cases h⟩) (by kernel_rfl) ?_
      simp only [numbered, List.filterMap_cons, List.filterMap_nil, List.getElem?_toArray, List.getElem?_cons_succ, List.getElem?_cons_zero, Option.map_some]
      show wpS _ _ _ _ _ _ _ [(_, _), (_, _), (_, _), (_, _), (_, _), (_, _), (_, _), (_, _), (_, _)] _ _
      (refine wpS_quiet rfl rfl ?_; intro K hK inst hx; go_big_quiet_op; (first | go_big_quiet_on | (refine ⟨_, fun _ => rfl, ?_⟩; go_big_quiet_on)); clear hx inst)
      (refine wpS_quiet rfl rfl ?_; intro K hK inst hx; go_big_quiet_op; (first | go_big_quiet_on | (refine ⟨_, fun _ => rfl, ?_⟩; go_big_quiet_on)); clear hx inst)
      (refine wpS_quiet rfl rfl ?_; intro K hK inst hx; go_big_quiet_op; (first | go_big_quiet_on | (refine ⟨_, fun _ => rfl, ?_⟩; go_big_quiet_on)); clear hx inst)
      (refine wpS_quiet rfl rfl ?_; intro K hK inst hx; have s0 := fun x => (fun _ => bkeep (BQ.below x) r0) (hx x); have s1 := fun x => (fun _ => bkeep (BQ.below x) r1) (hx x); have s2 := fun x => (fun _ => bkeep (BQ.below x) r2) (hx x); have s3 := fun x => (fun _ => bkeep (BQ.below x) r3) (hx x); have s4 := fun x => (fun _ => bkeep (BQ.below x) t0) (hx x); have s5 := fun x => (fun _ => bkeep (BQ.below x) t1) (hx x); have s6 := fun x => (fun _ => bkeep (BQ.below x) t2) (hx x); have s7 := fun x => (fun _ => bkeep (BQ.below x) t3) (hx x); go_big_quiet_op; (first | go_big_quiet_on | (refine ⟨_, fun _ => rfl, ?_⟩; go_big_quiet_on)); clear hx inst)
      (refine wpS_quiet rfl rfl ?_; intro K hK inst hx; go_big_quiet_op; (first | go_big_quiet_on | (refine ⟨_, fun _ => rfl, ?_⟩; go_big_quiet_on)); clear hx inst)
      (refine wpS_quiet rfl rfl ?_; intro K hK inst hx; go_big_quiet_op; (first | go_big_quiet_on | (refine ⟨_, fun _ => rfl, ?_⟩; go_big_quiet_on)); clear hx inst)
      (refine wpS_quiet rfl rfl ?_; intro K hK inst hx; go_big_quiet_op; (first | go_big_quiet_on | (refine ⟨_, fun _ => rfl, ?_⟩; go_big_quiet_on)); clear hx inst)
      (refine wpS_quiet rfl rfl ?_; intro K hK inst hx; have s0 := fun x => (fun _ => bkeep (BQ.below x) r0) (hx x); have s1 := fun x => (fun _ => bkeep (BQ.below x) r1) (hx x); have s2 := fun x => (fun _ => bkeep (BQ.below x) r2) (hx x); have s3 := fun x => (fun _ => bkeep (BQ.below x) r3) (hx x); have s4 := fun x => (fun _ => bkeep (BQ.below x) t0) (hx x); have s5 := fun x => (fun _ => bkeep (BQ.below x) t1) (hx x); have s6 := fun x => (fun _ => bkeep (BQ.below x) t2) (hx x); have s7 := fun x => (fun _ => bkeep (BQ.below x) t3) (hx x); go_big_quiet_op; (first | go_big_quiet_on | (refine ⟨_, fun _ => rfl, ?_⟩; go_big_quiet_on)); clear hx inst)
      refine wpS_fresh rfl rfl (fun w' hb hF => ?_) ?_
      · change freshAt _ _ _ (fun v _ => v = .bool false) _; unfold freshAt; go_simp; simp [Below.refl]
      intro v W hv; simp only [pOf, List.lookup_cons, Nat.reduceBEq, beq_self_eq_true] at hv; subst hv
      simp only [Act.put, List.setIfInBounds_toArray, List.set_cons_succ, List.set_cons_zero]
      refine wpS_nil ?_
      intro w3 hall
      have hb := hall.1
      clear hall
      refine wpAny_done (by kernel_rfl) ?_ _
      replace hB := bnext (w := w) hB hb
      go_wp2_with fail
      go_roundg (fs.length - (k + 1))
      case measure => have h := HGK.out; omega
      case rel => exact ⟨k + 1, by omega, rfl, by go_num, hB⟩
    · obtain rfl : k = fs.length := by omega
      go_wp2_with fail
      go_ret
      exact ⟨rfl, hB⟩

end Go.Proofs.YtodmidchpbcnpaaGreat
