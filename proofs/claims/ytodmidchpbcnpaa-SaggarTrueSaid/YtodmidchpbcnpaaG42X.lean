/- True ware keeps off walls and each other. -/
import Derived.Test.YtodmidchpbcnpaaG38X
import Derived.Test.YtodmidchpbcnpaaKW2X
import Derived.Test.YtodmidchpbcnpaaKSpX
import Derived.Deep.CutBlock
import Derived.Deep.LoopGhost
namespace Go.Proofs.Ytodmidchpbcnpaa
open Go.RowKit Go.Pb Go.Pb.Ware Go.Pb.Sag
set_option linter.unusedVariables false
set_option linter.unusedSimpArgs false

def NthP (s : Bx) (fs : List Ft) (v : Value) (W : World) : Prop := ∃ (u : Value) (q : List St), v = .tuple #[u, .int .i64 0] ∧ q ∈ shownL s fs ∧ StAt W u (q.map toSq)
theorem keeps_nth {s : Bx} {fs : List Ft} : Keeps (NthP s fs) := fun _ _ _ ⟨u, q, h1, h2, h3⟩ hb => ⟨u, q, h1, h2, h3.below hb⟩
theorem nth_w {w : World} {sv iv : Value} {ss : List (List Int)} {xs : List It} {b2 b3 b4 b5 b6 : Int} (hs : RowsAt 11 w sv ss) (hi : RowsAt 3 w iv (xs.map rowX)) (hX : boxOk ⟨1, b2, b3, b4, b5, b6⟩ = true) (hk : ckL ss [] ⟨1, b2, b3, b4, b5, b6⟩ xs = 0) {N : Nat} (hN : min (shownL ⟨1, b2, b3, b4, b5, b6⟩ (feetV ss [] ⟨1, b2, b3, b4, b5, b6⟩ xs)).length 1000 = N) {z : Int} (h0 : 0 ≤ z) (h1 : z < (N : Int)) : Calls Try.prog 7 #[.agg #[sv, .slice none 0 0], .agg #[.int .i64 1, .int .i64 b2, .int .i64 b3, .int .i64 b4, .int .i64 b5, .int .i64 b6], iv, .int .i64 z] w (fun e w' => ∃ u, e = .returned u ∧ Below w.heap.size w w' ∧ NthP ⟨1, b2, b3, b4, b5, b6⟩ (feetV ss [] ⟨1, b2, b3, b4, b5, b6⟩ xs) u w') := by
  obtain ⟨i, rfl⟩ : ∃ i : Nat, z = (i : Int) := ⟨z.toNat, by omega⟩
  have hq : (shownL ⟨1, b2, b3, b4, b5, b6⟩ (feetV ss [] ⟨1, b2, b3, b4, b5, b6⟩ xs))[i]? = some ((shownL ⟨1, b2, b3, b4, b5, b6⟩ (feetV ss [] ⟨1, b2, b3, b4, b5, b6⟩ xs))[i]'(by omega)) := List.getElem?_eq_getElem (by omega)
  refine (nth_f hs hi hX hk (i := i) (by omega) hq).mono ?_
  rintro e w' ⟨v, rfl, hb, hv⟩
  exact ⟨_, rfl, hb, v, _, rfl, List.getElem_mem _, hv⟩
theorem size_bd {lo hi n : Int} (h : lo ≤ hi) : lo ≤ lo + n % (hi - lo + 1) ∧ lo + n % (hi - lo + 1) ≤ hi := by
  have h1 := Int.emod_nonneg n (b := hi - lo + 1) (by omega)
  have h2 := Int.emod_lt_of_pos n (b := hi - lo + 1) (by omega)
  omega
theorem pick_z {w : World} {nv : Value} {zs : List Int} (i : Nat) {z : Int} (hz : z = (i : Int)) (hi : i ≤ 1000) (hn : NumsAt w nv zs) : Calls Try.prog 11 #[nv, (.int .i64 z)] w (Ret w (.int .i64 (pickV zs i))) := by
  subst hz; exact pick_any hn hi
theorem Try.infoM : (Try.prog.info? 61).map (fun i => (i.zero, i.size, i.bytes)) = some (some (.agg #[.int .i64 0, .int .i64 0]), 2, 16) := by kernel_rfl
theorem row_shape {ss : List (List Int)} {r : List Int} {m : Nat} (hg : GoodS ss) (h : ss[m]? = some r) : ∃ a0 a1 a2 a3 a4 a5 a6 a7 a8 a9 a10 : Int, r = [a0, a1, a2, a3, a4, a5, a6, a7, a8, a9, a10] := by
  obtain ⟨a0, a1, a2, a3, a4, a5, a6, a7, a8, a9, a10, h1⟩ := len11 (hg.2 m r h).1
  exact ⟨a0, a1, a2, a3, a4, a5, a6, a7, a8, a9, a10, h1⟩
theorem feet_at {ss : List (List Int)} {s : Bx} {xs : List It} {k : Nat} {x : It} (hk : ckL ss [] s xs = 0) (hx : xs[k]? = some x) : (feetV ss [] s xs)[k]? = some (footR ss s.cell x) := by
  rw [feetV_0 hk, List.getElem?_map, hx]; rfl
theorem foot_pair {ss : List (List Int)} {s : Bx} {x : It} {fw fd fh fg : Int} (hg : GoodS ss) (hX : boxOk s = true) (hI : itemB ss x = true) (hf : footR ss s.cell x = ⟨fw, fd, fh, fg⟩) : footV ss [] s x = (⟨fw, fd, fh, fg⟩, 0) := by
  unfold footV
  rw [if_pos (by unfold ckG; rw [if_pos (goodS_ck hg)]; unfold ckX; rw [if_pos hX]), if_pos hI, hf]

def ModP (m : Int) (v : Value) (W : World) : Prop := ∃ z, v = .int .i64 z ∧ 0 ≤ z ∧ z < m
theorem keeps_modP {m : Int} : Keeps (ModP m) := fun _ _ _ h _ => h
theorem mod_f {n m : Int} {w : World} (h1 : 1 ≤ m) (h2 : m ≤ 140737488355328) : Calls Try.prog 8 #[.int .i64 n, .int .i64 m] w (fun e w' => ∃ v, e = .returned v ∧ Below w.heap.size w w' ∧ ModP m v w') :=
  (modS_any h1 h2).mono fun e w' ⟨h3, h4⟩ => ⟨_, h3, h4 ▸ Below.refl _ _, n % m, rfl, Int.emod_nonneg _ (by omega), Int.emod_lt_of_pos _ (by omega)⟩

theorem apart_b {w : World} {a h b o r : Int} {c : Bool} (hc : (decide (a + h + r ≤ b - o) || decide (b + o + r ≤ a - h)) = c) (h0 : 0 ≤ a ∧ a ≤ 6000) (h1 : 0 ≤ h ∧ h ≤ 3000) (h2 : 0 ≤ b ∧ b ≤ 6000) (h3 : 0 ≤ o ∧ o ≤ 3000) (h4 : 0 ≤ r ∧ r ≤ 200) : Calls Try.prog 12 #[.int .i64 a, .int .i64 h, .int .i64 b, .int .i64 o, .int .i64 r] w (Ret w (.bool c)) := by
  rw [← hc]; exact apartL (by omega) (by omega) (by omega) (by omega) (by omega)
theorem pair_at {w : World} {a : Option Addr} {cap n : Nat} {l : List (Int × Int)} (h : RowsAt 2 w (.slice a n cap) (l.map pairM)) (hl : l.length = n) {k : Nat} {m : Int × Int} (hk : l[k]? = some m) : ∃ a', a = some a' ∧ w.cell? (a'.add (k * 2)) = some (.int .i64 m.1) ∧ w.cell? ⟨(a'.add (k * 2)).block, (a'.add (k * 2)).off + 1, none⟩ = some (.int .i64 m.2) := by
  have hlt := (List.getElem?_eq_some_iff.1 hk).1
  subst hl
  obtain ⟨a', ha, hrl, hc0, hcc⟩ := (show RowsAt 2 w (.slice a (l.map pairM).length cap) (l.map pairM) by rw [List.length_map]; exact h).row (k := k) (by rw [List.length_map]; exact hlt)
  have hat : (l.map pairM)[k]'(by rw [List.length_map]; exact hlt) = [m.1, m.2] := by rw [List.getElem_map, (List.getElem?_eq_some_iff.1 hk).2]; rfl
  rw [hat] at hc0 hcc
  exact ⟨a', ha, hc0 _ rfl, hcc 1 _ (by decide) rfl⟩
theorem item_at {w : World} {a : Option Addr} {cap : Nat} {xs : List It} (h : RowsAt 3 w (.slice a xs.length cap) (xs.map rowX)) {k : Nat} {x : It} (hk : xs[k]? = some x) : ∃ a', a = some a' ∧ w.cell? ⟨(a'.add (k * 3)).block, (a'.add (k * 3)).off + 2, none⟩ = some (.int .i64 x.clear) := by
  have hlt := (List.getElem?_eq_some_iff.1 hk).1
  obtain ⟨a', ha, hrl, hc0, hcc⟩ := (show RowsAt 3 w (.slice a (xs.map rowX).length cap) (xs.map rowX) by rw [List.length_map]; exact h).row (k := k) (by rw [List.length_map]; exact hlt)
  have hat : (xs.map rowX)[k]'(by rw [List.length_map]; exact hlt) = [x.shape, x.many, x.clear] := by rw [List.getElem_map, (List.getElem?_eq_some_iff.1 hk).2]; rfl
  rw [hat] at hcc
  exact ⟨a', ha, hcc 2 _ (by decide) rfl⟩

set_option maxRecDepth 100000 in
set_option maxHeartbeats 8000000 in
theorem saggarTrue_walk {w : World} {rv iv nv : Value} {z0 z1 z2 z3 n : Int} {rows its : List (List Int)} {zs : List Int} (hmade : ∀ (W : World) (rv iv : Value) (z0 z1 z2 z3 : Int) (rows its : List (List Int)), RowsAt 5 W rv rows → RowsAt 3 W iv its → Calls Try.prog 4 #[.agg #[rv, .int .i64 z0, .int .i64 z1, .int .i64 z2, .int .i64 z3, iv]] W (MadeRes W)) (hrv : RowsAt 5 w rv rows) (hiv : RowsAt 3 w iv its) (hn : NumsAt w nv zs) :
    Calls Try.prog 3 #[.agg #[rv, .int .i64 z0, .int .i64 z1, .int .i64 z2, .int .i64 z3, iv], nv, .int .i64 n] w (Ret w (.bool true)) := by
  unfold Ret
  obtain ⟨na, nc, rfl, -, -⟩ := hn.shape
  obtain ⟨i0, hi0, hy0, hy1, hy2⟩ := info_parts Try.infoM
  go_enter Try.func3, Try.ntmps3
  go_wp2_with fail
  refine (hmade _ _ _ _ _ _ _ _ _ (hrv.below (by go_grown)) (hiv.below (by go_grown))).mono ?_
  rintro e v1 ⟨sv, iv, ss, xs, b2, b3, b4, b5, b6, rfl, hb, hs, hi, hg, hX, hx5, hall⟩
  have hk : ckL ss [] ⟨1, b2, b3, b4, b5, b6⟩ xs = 0 := good_ck hg hX hx5 hall
  replace hn := (hn.below (by go_grown)).below hb
  have hb0 : Below w.heap.size w v1 := bnext (w := w) (by go_grown) hb
  have hz := hb.size
  (try simp only [World.size_alloc, World.size_setCell] at hz)
  clear hb hrv hiv
  obtain ⟨sa, sc, rfl, -⟩ := hs.shape
  obtain ⟨ia, ic, rfl, -⟩ := hi.shape
  rw [List.length_map] at hi ⊢
  have HK := hid hk; have HX := hid hX; have HALL := hid hall; have HG := hid hg; clear hk hX hall hg
  go_upto_region 2 with fail
  generalize hW : World.alloc v1 _ = v2
  have q0 : v2.cell? ⟨v1.heap.size, 0, none⟩ = some (.slice sa ss.length sc) := by rw [← hW]; simp [go_sem]
  have q1 : v2.cell? ⟨v1.heap.size, 1, none⟩ = some (.slice none 0 0) := by rw [← hW]; simp [go_sem]
  have q2 : v2.cell? ⟨v1.heap.size, 2, none⟩ = some (.int .i64 1) := by rw [← hW]; simp [go_sem]
  have q3 : v2.cell? ⟨v1.heap.size, 3, none⟩ = some (.int .i64 b2) := by rw [← hW]; simp [go_sem]
  have q4 : v2.cell? ⟨v1.heap.size, 4, none⟩ = some (.int .i64 b3) := by rw [← hW]; simp [go_sem]
  have q5 : v2.cell? ⟨v1.heap.size, 5, none⟩ = some (.int .i64 b4) := by rw [← hW]; simp [go_sem]
  have q6 : v2.cell? ⟨v1.heap.size, 6, none⟩ = some (.int .i64 b5) := by rw [← hW]; simp [go_sem]
  have q7 : v2.cell? ⟨v1.heap.size, 7, none⟩ = some (.int .i64 b6) := by rw [← hW]; simp [go_sem]
  have q8 : v2.cell? ⟨v1.heap.size, 8, none⟩ = some (.slice ia xs.length ic) := by rw [← hW]; simp [go_sem]
  have hb : Below v1.heap.size v1 v2 := by rw [← hW]; exact (Below.refl _ _).alloc (Nat.le_refl _) _
  replace hb0 := bnext (w := w) hb0 hb
  have hz1 := hb.size
  replace hs := hs.below hb
  replace hi := hi.below hb
  replace hn := hn.below hb
  clear hb hW
  obtain ⟨N, hN⟩ : ∃ N, min (shownL ⟨1, b2, b3, b4, b5, b6⟩ (feetV ss [] ⟨1, b2, b3, b4, b5, b6⟩ xs)).length 1000 = N := ⟨_, rfl⟩
  have HN := hid hN; clear hN
  go_wp2_with fail
  refine (packs_f hs hi HX.out HK.out HN.out).mono ?_
  rintro e w1 ⟨rfl, hb⟩
  replace hb0 := bnext (w := w) (by go_grown) hb
  have hz := hb.size
  (try simp only [World.size_alloc, World.size_setCell] at hz)
  replace q0 := bkeep hb q0
  replace q1 := bkeep hb q1
  replace q2 := bkeep hb q2
  replace q3 := bkeep hb q3
  replace q4 := bkeep hb q4
  replace q5 := bkeep hb q5
  replace q6 := bkeep hb q6
  replace q7 := bkeep hb q7
  replace q8 := bkeep hb q8
  replace hs := hs.below hb
  replace hi := hi.below hb
  replace hn := hn.below hb
  clear hb
  by_cases hN0 : N = 0
  · subst hN0
    go_wp2_with (go_at_call 6; refine sane_any.mono ?_; rintro e w9 ⟨rfl, hb9⟩; replace hb0 := bnext (w := w) hb0 hb9)
    go_ret
    exact ⟨rfl, hb0⟩
  · have hNi : ¬ (N : Int) = 0 := by omega
    have hNb : ((N : Int) == 0) = false := beq_eq_false_iff_ne.mpr hNi
    have hN2 : (N : Int) ≤ 1000 := by have h := HN.out; omega
    have hN3 : N ≤ 1000 := by omega
    go_upto_region 7 with fail
    refine wp_region_Rc [(8, ModP (N : Int)), (9, NthP ⟨1, b2, b3, b4, b5, b6⟩ (feetV ss [] ⟨1, b2, b3, b4, b5, b6⟩ xs))] [8, 9] [0, 1, 2, 3, 4, 5, 6, 7, 8, 9, 10, 11, 12, 13, 14] 0 (by kernel_rfl) rfl (by simp only [List.forall_mem_cons]; exact ⟨keeps_modP, keeps_nth, fun _ h => by cases h⟩) rfl (grpAs (l' := regionOf Try.f3 7) (by kernel_rfl) grp7) ?_
    simp only [numbered, List.filterMap_cons, List.filterMap_nil, List.getElem?_toArray, List.getElem?_cons_succ, List.getElem?_cons_zero, Option.map_some]
    show wpS _ _ _ _ _ _ _ [(_, _), (_, _), (_, _), (_, _), (_, _), (_, _), (_, _), (_, _), (_, _), (_, _), (_, _), (_, _), (_, _), (_, _), (_, _)] _ _
    (refine wpS_quiet rfl rfl ?_; intro K hK inst hx; go_big_quiet_op; (first | go_big_quiet_on | (refine ⟨_, fun _ => rfl, ?_⟩; go_big_quiet_on)); clear hx inst)
    (refine wpS_quiet rfl rfl ?_; intro K hK inst hx; have sq0 := fun x => (fun _ => bkeep (BQ.below x) q0) (hx x); have sq1 := fun x => (fun _ => bkeep (BQ.below x) q1) (hx x); go_big_quiet_op; (first | go_big_quiet_on | (refine ⟨_, fun _ => rfl, ?_⟩; go_big_quiet_on)); clear hx inst)
    (refine wpS_quiet rfl rfl ?_; intro K hK inst hx; go_big_quiet_op; (first | go_big_quiet_on | (refine ⟨_, fun _ => rfl, ?_⟩; go_big_quiet_on)); clear hx inst)
    (refine wpS_quiet rfl rfl ?_; intro K hK inst hx; have sq2 := fun x => (fun _ => bkeep (BQ.below x) q2) (hx x); have sq3 := fun x => (fun _ => bkeep (BQ.below x) q3) (hx x); have sq4 := fun x => (fun _ => bkeep (BQ.below x) q4) (hx x); have sq5 := fun x => (fun _ => bkeep (BQ.below x) q5) (hx x); have sq6 := fun x => (fun _ => bkeep (BQ.below x) q6) (hx x); have sq7 := fun x => (fun _ => bkeep (BQ.below x) q7) (hx x); go_big_quiet_op; (first | go_big_quiet_on | (refine ⟨_, fun _ => rfl, ?_⟩; go_big_quiet_on)); clear hx inst)
    (refine wpS_quiet rfl rfl ?_; intro K hK inst hx; go_big_quiet_op; (first | go_big_quiet_on | (refine ⟨_, fun _ => rfl, ?_⟩; go_big_quiet_on)); clear hx inst)
    (refine wpS_quiet rfl rfl ?_; intro K hK inst hx; have sq8 := fun x => (fun _ => bkeep (BQ.below x) q8) (hx x); go_big_quiet_op; (first | go_big_quiet_on | (refine ⟨_, fun _ => rfl, ?_⟩; go_big_quiet_on)); clear hx inst)
    (refine wpS_quiet rfl rfl ?_; intro K hK inst hx; go_big_quiet_op; (first | go_big_quiet_on | (refine ⟨_, fun _ => rfl, ?_⟩; go_big_quiet_on)); clear hx inst)
    (refine wpS_quiet rfl rfl ?_; intro K hK inst hx; go_big_quiet_op; (first | go_big_quiet_on | (refine ⟨_, fun _ => rfl, ?_⟩; go_big_quiet_on)); clear hx inst)
    refine wpS_fresh rfl rfl (fun w' hb hF => ?_) ?_
    · change freshAt _ _ _ (ModP (N : Int)) _; unfold freshAt; go_simp; exact mod_f (by omega) (by omega)
    intro v W hv; simp only [pOf, List.lookup_cons, Nat.reduceBEq, beq_self_eq_true] at hv; obtain ⟨p8, rfl, l8, u8⟩ := hv
    simp only [Act.put, List.setIfInBounds_toArray, List.set_cons_succ, List.set_cons_zero]
    refine wpS_fresh rfl rfl (fun w' hb hF => ?_) ?_
    · change freshAt _ _ _ (NthP ⟨1, b2, b3, b4, b5, b6⟩ (feetV ss [] ⟨1, b2, b3, b4, b5, b6⟩ xs)) _; unfold freshAt; go_simp; exact nth_w (hs.below hb) (hi.below hb) HX.out HK.out HN.out l8 u8
    intro v W hv; simp only [pOf, List.lookup_cons, Nat.reduceBEq, beq_self_eq_true] at hv; obtain ⟨pv, -, rfl, -, -⟩ := hv
    simp only [Act.put, List.setIfInBounds_toArray, List.set_cons_succ, List.set_cons_zero]
    (refine wpS_quiet rfl rfl ?_; intro K hK inst hx; go_big_quiet_op; (first | go_big_quiet_on | (refine ⟨_, fun _ => rfl, ?_⟩; go_big_quiet_on)); clear hx inst)
    (refine wpS_quiet rfl rfl ?_; intro K hK inst hx; go_big_quiet_op; (first | go_big_quiet_on | (refine ⟨_, fun _ => rfl, ?_⟩; go_big_quiet_on)); clear hx inst)
    (refine wpS_quiet rfl rfl ?_; intro K hK inst hx; go_big_quiet_op; (first | go_big_quiet_on | (refine ⟨_, fun _ => rfl, ?_⟩; go_big_quiet_on)); clear hx inst)
    (refine wpS_quiet rfl rfl ?_; intro K hK inst hx; go_big_quiet_op; (first | go_big_quiet_on | (refine ⟨_, fun _ => rfl, ?_⟩; go_big_quiet_on)); clear hx inst)
    (refine wpS_quiet rfl rfl ?_; intro K hK inst hx; go_big_quiet_op; (first | go_big_quiet_on | (refine ⟨_, fun _ => rfl, ?_⟩; go_big_quiet_on)); clear hx inst)
    refine wpS_nil ?_
    intro w1 hall
    have hb := hall.1
    have h9 : NthP ⟨1, b2, b3, b4, b5, b6⟩ (feetV ss [] ⟨1, b2, b3, b4, b5, b6⟩ xs) _ w1 := hall.2 9 _ rfl
    obtain ⟨u, q, hv', hqm, hp⟩ := h9
    obtain rfl : pv = u := by simpa using hv'
    clear hall hv' sq0 sq1 sq2 sq3 sq4 sq5 sq6 sq7 sq8
    replace hb0 := bnext (w := w) (by go_grown) hb
    have hz := hb.size
    (try simp only [World.size_alloc, World.size_setCell] at hz)
    replace q0 := bkeep hb q0
    replace q1 := bkeep hb q1
    replace q2 := bkeep hb q2
    replace q3 := bkeep hb q3
    replace q4 := bkeep hb q4
    replace q5 := bkeep hb q5
    replace q6 := bkeep hb q6
    replace q7 := bkeep hb q7
    replace q8 := bkeep hb q8
    replace hs := hs.below hb
    replace hi := hi.below hb
    replace hn := hn.below hb
    clear hb
    refine wpAny_done (by kernel_rfl) ?_ _
    have hpk := shown_pack hqm
    obtain ⟨qs, hqs⟩ : ∃ qs, q.map toSq = qs := ⟨_, rfl⟩
    rw [hqs] at hp hpk
    obtain ⟨⟨hql, hhigh, hwt⟩, hpl, hoff⟩ := pack_parts feet_ok hpk
    have hfl : (feetV ss [] ⟨1, b2, b3, b4, b5, b6⟩ xs).length = xs.length := by rw [feetV_0 HK.out, List.length_map]
    rw [hfl] at hql
    have HP := hid (And.intro (And.intro hhigh hwt) (And.intro hpl hoff)); have HFL := hid hfl; have HQL := hid hql; clear hpk hqs hqm hhigh hwt hpl hoff hfl
    have hclr : ∀ x ∈ xs, 0 ≤ x.clear := fun x hx => by obtain ⟨_, _, _, _, _, _, h⟩ := good_item HG.out HX.out (List.all_eq_true.1 HALL.out x hx); exact h.1
    have HCL := hid hclr; clear hclr
    obtain ⟨pa, pc, rfl, -, -⟩ := hp.shape
    rw [hql] at ⊢
    rw [hql] at hp
    clear hql
    have hxx : ((xs.length : Int) == (xs.length : Int)) = true := by simp
    go_wp2_with fail
    obtain ⟨v3, hv3⟩ : ∃ v, v = w1 := ⟨_, rfl⟩
    subst hv3
    go_loopw [12, 13, 14, 72] (fun mv hv tv iv wr => ∃ (k : Nat) (ms hs : List (Int × Int)) (t : Int), k ≤ xs.length ∧ iv = .int .i64 k ∧ tv = .int .i64 t ∧ TwoAt 61 v3.heap.size wr mv hv ms hs ∧ PilesAt ⟨1, b2, b3, b4, b5, b6⟩ (feetV ss [] ⟨1, b2, b3, b4, b5, b6⟩ xs) qs xs k ms hs ∧ (0 ≤ t ∧ t ≤ weightL ((feetV ss [] ⟨1, b2, b3, b4, b5, b6⟩ xs).take k)) ∧ Below v3.heap.size v3 wr) (fun _ _ _ iv _ => xs.length - (intOf iv).toNat)
    case atStart => exact ⟨0, [], [], 0, Nat.zero_le _, rfl, rfl, TwoAt.nil _ _ _, piles_nil, by simp [weightL], Below.refl _ _⟩
    case round =>
      obtain ⟨k, ms, ls, t, hk, rfl, rfl, hA, hpi, ht, hb1⟩ := hrel
      have hz2 := hb1.size
      have hn1 : some wr.heap.size ≠ u12.ownBlock := fun e => by have := (World.ownsRow.lt hA.own1 _ e.symm).2; omega
      have hn2 : some wr.heap.size ≠ u13.ownBlock := fun e => by have := (World.ownsRow.lt hA.own2 _ e.symm).2; omega
      have HN1 := hid hn1; have HN2 := hid hn2; clear hn1 hn2
      by_cases hlt : k < xs.length
      · have hkl : (k : Int) < (xs.length : Int) := by omega
        have p0 := bkeep hb1 q0
        have p1 := bkeep hb1 q1
        have p2 := bkeep hb1 q2
        have p3 := bkeep hb1 q3
        have p4 := bkeep hb1 q4
        have p5 := bkeep hb1 q5
        have p6 := bkeep hb1 q6
        have p7 := bkeep hb1 q7
        have p8 := bkeep hb1 q8
        obtain ⟨x, hxk⟩ : ∃ x, xs[k]? = some x := ⟨_, List.getElem?_eq_getElem hlt⟩
        obtain ⟨ish, imn, icl⟩ := x
        have hib : itemB ss ⟨ish, imn, icl⟩ = true := List.all_eq_true.1 HALL.out _ (List.mem_of_getElem? hxk)
        obtain ⟨m, hm, hsh, hfo, hso, hmn, hcl⟩ := good_item HG.out HX.out hib
        dsimp only at hsh hfo hmn hcl
        obtain ⟨n', rfl⟩ : ∃ n' : Nat, imn = (n' : Int) := ⟨imn.toNat, by omega⟩
        obtain ⟨a', ha, hrl, hc0, hcc⟩ := (show RowsAt 3 wr (.slice ia (xs.map rowX).length ic) (xs.map rowX) by rw [List.length_map]; exact hi.below hb1).row (k := k) (by rw [List.length_map]; exact hlt)
        have hat : (xs.map rowX)[k]'(by rw [List.length_map]; exact hlt) = [ish, (n' : Int), icl] := by rw [List.getElem_map, (List.getElem?_eq_some_iff.1 hxk).2]; rfl
        rw [hat] at hc0 hcc
        have r0 := hc0 _ rfl
        have r1 := hcc 1 _ (by decide) rfl
        have r2 := hcc 2 _ (by decide) rfl
        clear hc0 hcc hat hrl
        subst ha
        obtain ⟨a0, a1, a2, a3, a4, a5, a6, a7, a8, a9, a10, hrow⟩ := row_shape HG.out (List.getElem?_eq_getElem hm)
        obtain ⟨s', hs', hrl, hc0, hcc⟩ := (hs.below hb1).row (k := m) hm
        rw [hrow] at hc0 hcc hso hfo
        have e0 := hc0 _ rfl
        have e1 := hcc 1 _ (by decide) rfl
        have e2 := hcc 2 _ (by decide) rfl
        have e3 := hcc 3 _ (by decide) rfl
        have e4 := hcc 4 _ (by decide) rfl
        have e5 := hcc 5 _ (by decide) rfl
        have e6 := hcc 6 _ (by decide) rfl
        have e7 := hcc 7 _ (by decide) rfl
        have e8 := hcc 8 _ (by decide) rfl
        have e9 := hcc 9 _ (by decide) rfl
        have e10 := hcc 10 _ (by decide) rfl
        clear hc0 hcc hrl hrow
        subst hs'
        have hso2 := shOk_iff.1 hso
        simp only [shR, List.getD_cons_zero, List.getD_cons_succ] at hso2
        obtain ⟨F, hF⟩ : ∃ F, footR ss b4 ⟨ish, (n' : Int), icl⟩ = F := ⟨_, rfl⟩
        obtain ⟨fw, fd, fh, fg⟩ := F
        have hfp := foot_pair HG.out HX.out hib hF
        rw [hF] at hfo
        have HFP := hid hfp; have HFO := hid hfo; have HF := hid hF; have HXK := hid hxk; have HPI := hid hpi; clear hfp hfo hF hxk hpi hso hib
        have hml : (m : Int) < (ss.length : Int) := by omega
        have hm9 : (m : Int) ≤ 998 := by have h := HG.out.1; omega
        have hwm : wrap64 (ish - 1) = (m : Int) := by rw [IntWalk.wrap64_in _ (by omega)]; omega
        have HSH := hid hsh; clear hsh
        go_upto_region 16 with fail
        generalize hW : World.alloc wr _ = v4
        have hb : Below wr.heap.size wr v4 := by rw [← hW]; exact (Below.refl _ _).alloc (Nat.le_refl _) _
        skip
        have c0 : v4.cell? ⟨wr.heap.size, 0, none⟩ = some (.int .i64 ish) := by rw [← hW]; simp [go_sem]
        have c1 : v4.cell? ⟨wr.heap.size, 1, none⟩ = some (.int .i64 (n')) := by rw [← hW]; simp [go_sem]
        have c2 : v4.cell? ⟨wr.heap.size, 2, none⟩ = some (.int .i64 icl) := by rw [← hW]; simp [go_sem]
        clear hW
        replace hb1 := bnext (w := v3) hb1 hb
        replace hA := hA.next hb
        replace p0 := bkeep hb p0
        replace p1 := bkeep hb p1
        replace p2 := bkeep hb p2
        replace p3 := bkeep hb p3
        replace p4 := bkeep hb p4
        replace p5 := bkeep hb p5
        replace p6 := bkeep hb p6
        replace p7 := bkeep hb p7
        replace p8 := bkeep hb p8
        replace e0 := bkeep hb e0
        replace e1 := bkeep hb e1
        replace e2 := bkeep hb e2
        replace e3 := bkeep hb e3
        replace e4 := bkeep hb e4
        replace e5 := bkeep hb e5
        replace e6 := bkeep hb e6
        replace e7 := bkeep hb e7
        replace e8 := bkeep hb e8
        replace e9 := bkeep hb e9
        replace e10 := bkeep hb e10
        clear r0 r1 r2
        clear hb
        go_upto_region 17 with fail
        generalize hW : World.alloc v4 _ = v5
        have hb : Below v4.heap.size v4 v5 := by rw [← hW]; exact (Below.refl _ _).alloc (Nat.le_refl _) _
        skip
        have d0 : v5.cell? ⟨v4.heap.size, 0, none⟩ = some (.int .i64 a0) := by rw [← hW]; simp [go_sem]
        have d1 : v5.cell? ⟨v4.heap.size, 1, none⟩ = some (.int .i64 a1) := by rw [← hW]; simp [go_sem]
        have d2 : v5.cell? ⟨v4.heap.size, 2, none⟩ = some (.int .i64 a2) := by rw [← hW]; simp [go_sem]
        have d3 : v5.cell? ⟨v4.heap.size, 3, none⟩ = some (.int .i64 a3) := by rw [← hW]; simp [go_sem]
        have d4 : v5.cell? ⟨v4.heap.size, 4, none⟩ = some (.int .i64 a4) := by rw [← hW]; simp [go_sem]
        have d5 : v5.cell? ⟨v4.heap.size, 5, none⟩ = some (.int .i64 a5) := by rw [← hW]; simp [go_sem]
        have d6 : v5.cell? ⟨v4.heap.size, 6, none⟩ = some (.int .i64 a6) := by rw [← hW]; simp [go_sem]
        have d7 : v5.cell? ⟨v4.heap.size, 7, none⟩ = some (.int .i64 a7) := by rw [← hW]; simp [go_sem]
        have d8 : v5.cell? ⟨v4.heap.size, 8, none⟩ = some (.int .i64 a8) := by rw [← hW]; simp [go_sem]
        have d9 : v5.cell? ⟨v4.heap.size, 9, none⟩ = some (.int .i64 a9) := by rw [← hW]; simp [go_sem]
        have d10 : v5.cell? ⟨v4.heap.size, 10, none⟩ = some (.int .i64 a10) := by rw [← hW]; simp [go_sem]
        clear hW
        replace hb1 := bnext (w := v3) hb1 hb
        replace hA := hA.next hb
        replace p0 := bkeep hb p0
        replace p1 := bkeep hb p1
        replace p2 := bkeep hb p2
        replace p3 := bkeep hb p3
        replace p4 := bkeep hb p4
        replace p5 := bkeep hb p5
        replace p6 := bkeep hb p6
        replace p7 := bkeep hb p7
        replace p8 := bkeep hb p8
        replace c0 := bkeep hb c0
        replace c1 := bkeep hb c1
        replace c2 := bkeep hb c2
        clear e0 e1 e2 e3 e4 e5 e6 e7 e8 e9 e10
        clear hb
        go_wp2_with fail
        refine (Foot_any (hs.below hb1) no_bodies8 HFP.out).mono ?_
        rintro e w1 ⟨rfl, hb⟩
        replace hb1 := bnext (w := v3) hb1 hb
        replace hA := hA.next hb
        replace p0 := bkeep hb p0
        replace p1 := bkeep hb p1
        replace p2 := bkeep hb p2
        replace p3 := bkeep hb p3
        replace p4 := bkeep hb p4
        replace p5 := bkeep hb p5
        replace p6 := bkeep hb p6
        replace p7 := bkeep hb p7
        replace p8 := bkeep hb p8
        replace c0 := bkeep hb c0
        replace c1 := bkeep hb c1
        replace c2 := bkeep hb c2
        replace d0 := bkeep hb d0
        replace d1 := bkeep hb d1
        replace d2 := bkeep hb d2
        replace d3 := bkeep hb d3
        replace d4 := bkeep hb d4
        replace d5 := bkeep hb d5
        replace d6 := bkeep hb d6
        replace d7 := bkeep hb d7
        replace d8 := bkeep hb d8
        replace d9 := bkeep hb d9
        replace d10 := bkeep hb d10
        clear hb
        go_upto_region 20 with fail
        generalize hW : World.alloc w1 _ = v7
        have hb : Below w1.heap.size w1 v7 := by rw [← hW]; exact (Below.refl _ _).alloc (Nat.le_refl _) _
        skip
        have f0 : v7.cell? ⟨w1.heap.size, 0, none⟩ = some (.int .i64 fw) := by rw [← hW]; simp [go_sem]
        have f1 : v7.cell? ⟨w1.heap.size, 1, none⟩ = some (.int .i64 fd) := by rw [← hW]; simp [go_sem]
        have f2 : v7.cell? ⟨w1.heap.size, 2, none⟩ = some (.int .i64 fh) := by rw [← hW]; simp [go_sem]
        have f3 : v7.cell? ⟨w1.heap.size, 3, none⟩ = some (.int .i64 fg) := by rw [← hW]; simp [go_sem]
        clear hW
        replace hb1 := bnext (w := v3) hb1 hb
        replace hA := hA.next hb
        replace p0 := bkeep hb p0
        replace p1 := bkeep hb p1
        replace p2 := bkeep hb p2
        replace p3 := bkeep hb p3
        replace p4 := bkeep hb p4
        replace p5 := bkeep hb p5
        replace p6 := bkeep hb p6
        replace p7 := bkeep hb p7
        replace p8 := bkeep hb p8
        replace c0 := bkeep hb c0
        replace c1 := bkeep hb c1
        replace c2 := bkeep hb c2
        replace d0 := bkeep hb d0
        replace d1 := bkeep hb d1
        replace d2 := bkeep hb d2
        replace d3 := bkeep hb d3
        replace d4 := bkeep hb d4
        replace d5 := bkeep hb d5
        replace d6 := bkeep hb d6
        replace d7 := bkeep hb d7
        replace d8 := bkeep hb d8
        replace d9 := bkeep hb d9
        replace d10 := bkeep hb d10
        clear hb
        have bA := size_bd (n := pickV zs (k)) (show a1 ≤ a2 by omega)
        have x_d1 := fun x : BW v7 => bkeep x.below d1
        have x_d2 := fun x : BW v7 => bkeep x.below d2
        have hnx : ∀ x : BW v7, NumsAt x.w' (.slice na zs.length nc) zs := fun x => (hn.below hb1).below x.below
        refine wp_region_qb (by kernel_rfl) (by decide +kernel) fun hc => ?_
        repeat (go_big_quiet_step ((first | (go_at_call 11; exact BW.call _ (pick_z (k) (by first | rfl | omega | (push_cast; omega)) (by omega) (hnx _))) | (go_at_call 10; exact BW.call _ (sizeL (by omega) (by omega) (by omega))))))
        refine wpQuiet_nil ?_; intro w1 hb
        clear hnx hc x_d1 x_d2
        replace hb1 := bnext (w := v3) hb1 hb
        replace hA := hA.next hb
        replace c0 := bkeep hb c0
        replace c1 := bkeep hb c1
        replace c2 := bkeep hb c2
        replace d0 := bkeep hb d0
        replace d1 := bkeep hb d1
        replace d2 := bkeep hb d2
        replace d3 := bkeep hb d3
        replace d4 := bkeep hb d4
        replace d5 := bkeep hb d5
        replace d6 := bkeep hb d6
        replace d7 := bkeep hb d7
        replace d8 := bkeep hb d8
        replace d9 := bkeep hb d9
        replace d10 := bkeep hb d10
        replace f0 := bkeep hb f0
        replace f1 := bkeep hb f1
        replace f2 := bkeep hb f2
        replace f3 := bkeep hb f3
        clear hb
        generalize a1 + pickV zs (k) % (a2 - a1 + 1) = A at bA ⊢
        obtain ⟨v8, hv8⟩ : ∃ v, v = w1 := ⟨_, rfl⟩
        subst hv8
        go_upto_region 21 with fail
        have bB := size_bd (n := pickV zs (k + 1)) (show a3 ≤ a4 by omega)
        have x_d3 := fun x : BW v8 => bkeep x.below d3
        have x_d4 := fun x : BW v8 => bkeep x.below d4
        have hnx : ∀ x : BW v8, NumsAt x.w' (.slice na zs.length nc) zs := fun x => (hn.below hb1).below x.below
        refine wp_region_qb (by kernel_rfl) (by decide +kernel) fun hc => ?_
        repeat (go_big_quiet_step ((first | (go_at_call 11; exact BW.call _ (pick_z (k + 1) (by first | rfl | omega | (push_cast; omega)) (by omega) (hnx _))) | (go_at_call 10; exact BW.call _ (sizeL (by omega) (by omega) (by omega))))))
        refine wpQuiet_nil ?_; intro w1 hb
        clear hnx hc x_d3 x_d4
        replace hb1 := bnext (w := v3) hb1 hb
        replace hA := hA.next hb
        replace c0 := bkeep hb c0
        replace c1 := bkeep hb c1
        replace c2 := bkeep hb c2
        replace d0 := bkeep hb d0
        replace d1 := bkeep hb d1
        replace d2 := bkeep hb d2
        replace d3 := bkeep hb d3
        replace d4 := bkeep hb d4
        replace d5 := bkeep hb d5
        replace d6 := bkeep hb d6
        replace d7 := bkeep hb d7
        replace d8 := bkeep hb d8
        replace d9 := bkeep hb d9
        replace d10 := bkeep hb d10
        replace f0 := bkeep hb f0
        replace f1 := bkeep hb f1
        replace f2 := bkeep hb f2
        replace f3 := bkeep hb f3
        clear hb
        generalize a3 + pickV zs (k + 1) % (a4 - a3 + 1) = B at bB ⊢
        obtain ⟨v9, hv9⟩ : ∃ v, v = w1 := ⟨_, rfl⟩
        subst hv9
        go_wp2_with fail
        clear p0 p1 p2 p3 p4 p5 p6 p7 p8
        obtain ⟨t0, ht0⟩ : ∃ t0, weightL ((feetV ss [] ⟨1, b2, b3, b4, b5, b6⟩ xs).take k) = t0 := ⟨_, rfl⟩
        have htb : t ≤ 22050000 := by have h := (weightL_bd (fs := (feetV ss [] ⟨1, b2, b3, b4, b5, b6⟩ xs)) feet_ok k).2; omega
        have HT0 := hid ht0; rw [ht0] at ht; clear ht0
        go_loopw [14, 22, 23] (fun tv uv kv wr => ∃ (j : Nat) (H T : Int), j ≤ n' ∧ kv = .int .i64 j ∧ uv = .int .i64 H ∧ tv = .int .i64 T ∧ (j = 0 → H = 0) ∧ (-(3000 * (j : Int)) ≤ H ∧ H ≤ 3000 * (j : Int)) ∧ H ≤ (j : Int) * (a6 - a7) + a7 ∧ (t ≤ T ∧ T ≤ t + (j : Int) * a9) ∧ Below v9.heap.size v9 wr) (fun _ _ kv _ => n' - (intOf kv).toNat)
        case atStart => exact ⟨0, 0, t, Nat.zero_le _, rfl, rfl, rfl, fun _ => rfl, by omega, by omega, by omega, Below.refl _ _⟩
        case round =>
          obtain ⟨j, H, T, hj, rfl, rfl, rfl, hH0, hHb, hHu, hTb, hb9⟩ := hrel
          have hb10 := bnext (w := v3) hb1 hb9
          have g1 := bkeep hb9 c1
          have g5 := bkeep hb9 d5
          have g6 := bkeep hb9 d6
          have g7 := bkeep hb9 d7
          have g8 := bkeep hb9 d8
          have g9 := bkeep hb9 d9
          have hz10 := hb9.size
          have hkn : (k : Int) ≤ 4 := by omega
          by_cases hlt2 : j < n'
          · have hji : (j : Int) < (n' : Int) := by omega
            have hjn : (j : Int) ≤ 39 := by omega
            have hTj : (j : Int) * a9 ≤ 40 * 100000 := (mul_bd (j : Int) a9 40 100000 (by omega) (by omega) (by omega) (by omega)).2
            go_upto_region 26 with fail
            by_cases hj0 : j = 0
            · have hHz : H = 0 := hH0 hj0
              have bS := size_bd (n := pickV zs (k)) (show a5 ≤ a6 by omega)
              have x_g5 := fun x : BW wr => bkeep x.below g5
              have x_g6 := fun x : BW wr => bkeep x.below g6
              have hnx : ∀ x : BW wr, NumsAt x.w' (.slice na zs.length nc) zs := fun x => (hn.below hb10).below x.below
              refine wp_region_qb (by kernel_rfl) (by decide +kernel) fun hc => ?_
              repeat (go_big_quiet_step ((first | (go_at_call 11; exact BW.call _ (pick_z (k) (by first | rfl | omega | (push_cast; omega)) (by omega) (hnx _))) | (go_at_call 10; exact BW.call _ (sizeL (by omega) (by omega) (by omega))))))
              refine wpQuiet_nil ?_; intro w1 hb
              clear hnx hc x_g5 x_g6
              replace hb9 := bnext (w := v9) hb9 hb
              replace hb10 := bnext (w := v3) hb10 hb
              replace g5 := bkeep hb g5
              replace g6 := bkeep hb g6
              replace g7 := bkeep hb g7
              replace g8 := bkeep hb g8
              replace g9 := bkeep hb g9
              clear hb
              generalize a5 + pickV zs (k) % (a6 - a5 + 1) = S at bS ⊢
              obtain ⟨w2, hw2⟩ : ∃ v, v = w1 := ⟨_, rfl⟩
              subst hw2
              have hj1 : ¬ (0 : Int) < (j : Int) := by omega
              go_upto_region 29 with fail
              have bU := size_bd (n := pickV zs (k + 2)) (show a8 ≤ a9 by omega)
              have x_g8 := fun x : BW w2 => bkeep x.below g8
              have x_g9 := fun x : BW w2 => bkeep x.below g9
              have hnx : ∀ x : BW w2, NumsAt x.w' (.slice na zs.length nc) zs := fun x => (hn.below hb10).below x.below
              refine wp_region_qb (by kernel_rfl) (by decide +kernel) fun hc => ?_
              repeat (go_big_quiet_step ((first | (go_at_call 11; exact BW.call _ (pick_z (k + 2) (by first | rfl | omega | (push_cast; omega)) (by omega) (hnx _))) | (go_at_call 10; exact BW.call _ (sizeL (by omega) (by omega) (by omega))))))
              refine wpQuiet_nil ?_; intro w1 hb
              clear hnx hc x_g8 x_g9
              replace hb9 := bnext (w := v9) hb9 hb
              replace hb10 := bnext (w := v3) hb10 hb
              replace g5 := bkeep hb g5
              replace g6 := bkeep hb g6
              replace g7 := bkeep hb g7
              replace g8 := bkeep hb g8
              replace g9 := bkeep hb g9
              clear hb
              generalize a8 + pickV zs (k + 2) % (a9 - a8 + 1) = U at bU ⊢
              have hm1 : ((j + 1 : Nat) : Int) * (a6 - a7) = (j : Int) * (a6 - a7) + (a6 - a7) := by push_cast; rw [Int.add_mul]; omega
              have hm2 : ((j + 1 : Nat) : Int) * a9 = (j : Int) * a9 + a9 := by push_cast; rw [Int.add_mul]; omega
              have hz0 : (j : Int) * (a6 - a7) = 0 := by rw [hj0]; simp
              go_wp2_with fail
              go_roundw
              case rel => exact ⟨j + 1, S, T + U, by omega, by go_num, by go_num, by go_num, fun h => by omega, by omega, by omega, by omega, hb9⟩
              case measure => first | (simp [intOf]; done) | (simp [intOf]; omega)
            · have bS := size_bd (n := pickV zs (k + j)) (show a5 ≤ a6 by omega)
              have x_g5 := fun x : BW wr => bkeep x.below g5
              have x_g6 := fun x : BW wr => bkeep x.below g6
              have hnx : ∀ x : BW wr, NumsAt x.w' (.slice na zs.length nc) zs := fun x => (hn.below hb10).below x.below
              refine wp_region_qb (by kernel_rfl) (by decide +kernel) fun hc => ?_
              repeat (go_big_quiet_step ((first | (go_at_call 11; exact BW.call _ (pick_z (k + j) (by first | rfl | omega | (push_cast; omega)) (by omega) (hnx _))) | (go_at_call 10; exact BW.call _ (sizeL (by omega) (by omega) (by omega))))))
              refine wpQuiet_nil ?_; intro w1 hb
              clear hnx hc x_g5 x_g6
              replace hb9 := bnext (w := v9) hb9 hb
              replace hb10 := bnext (w := v3) hb10 hb
              replace g5 := bkeep hb g5
              replace g6 := bkeep hb g6
              replace g7 := bkeep hb g7
              replace g8 := bkeep hb g8
              replace g9 := bkeep hb g9
              clear hb
              generalize a5 + pickV zs (k + j) % (a6 - a5 + 1) = S at bS ⊢
              obtain ⟨w2, hw2⟩ : ∃ v, v = w1 := ⟨_, rfl⟩
              subst hw2
              have hj1 : (0 : Int) < (j : Int) := by omega
              go_upto_region 29 with fail
              have bU := size_bd (n := pickV zs (k + j + 2)) (show a8 ≤ a9 by omega)
              have x_g8 := fun x : BW w2 => bkeep x.below g8
              have x_g9 := fun x : BW w2 => bkeep x.below g9
              have hnx : ∀ x : BW w2, NumsAt x.w' (.slice na zs.length nc) zs := fun x => (hn.below hb10).below x.below
              refine wp_region_qb (by kernel_rfl) (by decide +kernel) fun hc => ?_
              repeat (go_big_quiet_step ((first | (go_at_call 11; exact BW.call _ (pick_z (k + j + 2) (by first | rfl | omega | (push_cast; omega)) (by omega) (hnx _))) | (go_at_call 10; exact BW.call _ (sizeL (by omega) (by omega) (by omega))))))
              refine wpQuiet_nil ?_; intro w1 hb
              clear hnx hc x_g8 x_g9
              replace hb9 := bnext (w := v9) hb9 hb
              replace hb10 := bnext (w := v3) hb10 hb
              replace g5 := bkeep hb g5
              replace g6 := bkeep hb g6
              replace g7 := bkeep hb g7
              replace g8 := bkeep hb g8
              replace g9 := bkeep hb g9
              clear hb
              generalize a8 + pickV zs (k + j + 2) % (a9 - a8 + 1) = U at bU ⊢
              have hm1 : ((j + 1 : Nat) : Int) * (a6 - a7) = (j : Int) * (a6 - a7) + (a6 - a7) := by push_cast; rw [Int.add_mul]; omega
              have hm2 : ((j + 1 : Nat) : Int) * a9 = (j : Int) * a9 + a9 := by push_cast; rw [Int.add_mul]; omega
              go_wp2_with fail
              go_roundw
              case rel => exact ⟨j + 1, H + S - a7, T + U, by omega, by go_num, by go_num, by go_num, fun h => by omega, by omega, by omega, by omega, hb9⟩
              case measure => first | (simp [intOf]; done) | (simp [intOf]; omega)
          · have hji : ¬ (j : Int) < (n' : Int) := by omega
            have hjn : j = n' := by omega
            rw [hjn] at hHb hHu hTb
            have hfo := HFO.out
            unfold footOf heightOf at hfo
            simp only [shR, List.getD_cons_zero, List.getD_cons_succ, Ft.mk.injEq] at hfo
            obtain ⟨-, -, hfh, hfg⟩ := hfo
            have hsm : ((n' : Int) - 1) * (a6 - a7) = (n' : Int) * (a6 - a7) - (a6 - a7) := by rw [Int.sub_mul]; omega
            have hfx : (feetV ss [] ⟨1, b2, b3, b4, b5, b6⟩ xs)[k]? = some (⟨fw, fd, fh, fg⟩ : Ft) := by rw [feet_at HK.out HXK.out]; exact congrArg some HF.out
            have hf5 : fh ≤ b5 := HP.out.1.1 _ (List.mem_of_getElem? hfx)
            have hH5 : H ≤ b5 := by omega
            have hTg : T ≤ t + fg := by omega
            clear hfh hsm hf5 hHu
            obtain ⟨p', hp', y0, y1, y2⟩ := (show StAt wr (.slice pa qs.length pc) qs by rw [HQL.out]; exact hp.below hb10).row (k := k) (by rw [HQL.out]; exact hlt)
            subst hp'
            obtain ⟨q, hqk⟩ : ∃ q, qs[k]'(by rw [HQL.out]; exact hlt) = q := ⟨_, rfl⟩
            rw [hqk] at y0 y1 y2
            have hqx : qs[k]? = some q := by rw [← hqk]; exact List.getElem?_eq_getElem _
            clear hqk
            obtain ⟨qy, qx, qt⟩ := q
            dsimp only at y0 y1 y2
            have hpl := HP.out.2.1 k _ _ hfx hqx
            have HFX := hid hfx; have HQX := hid hqx; clear hfx hqx
            replace hA := hA.next hb9
            have h3 := bkeep hb10 q3
            have h4 := bkeep hb10 q4
            have h5 := bkeep hb10 q5
            have h6 := bkeep hb10 q6
            have h7 := bkeep hb10 q7
            have c9 := bkeep hb9 c2
            have o0 := bkeep hb9 f0; have o1 := bkeep hb9 f1
            have l1 := bkeep hb9 d1
            have l2 := bkeep hb9 d2
            have l3 := bkeep hb9 d3
            have l4 := bkeep hb9 d4
            clear g5 g6 g7 g8 g9
            obtain ⟨hmk, hlk⟩ := HPI.out.1
            have ho1 := hA.own1; rw [hmk] at ho1
            have ho2 := hA.own2; rw [hlk] at ho2
            obtain ⟨ma, mc, rfl, -⟩ := owns_shape ho1
            obtain ⟨la, lc, rfl, -⟩ := owns_shape ho2
            have HMK := hid hmk; have HLK := hid hlk; clear ho1 ho2 hmk hlk
            have hB := boxOk_iff.1 HX.out
            dsimp only at hB
            cases qt
            · as_aux_lemma =>
                go_upto_region 37 with fail
                have hp1 : (0 ≤ qx ∧ qx + fw ≤ b2) ∧ (0 ≤ qy ∧ qy + fd ≤ b3) ∧ 1 ≤ fw ∧ 1 ≤ fd := hpl
                have hM1 := mul_bd (2 * qx + fw) b4 12 500 (by omega) (by omega) (by omega) (by omega)
                have hM2 := mul_bd (2 * qy + fd) b4 12 500 (by omega) (by omega) (by omega) (by omega)
                obtain ⟨M1, hm1⟩ : ∃ M1, (2 * qx + fw) * b4 = M1 := ⟨_, rfl⟩
                obtain ⟨M2, hm2⟩ : ∃ M2, (2 * qy + fd) * b4 = M2 := ⟨_, rfl⟩
                rw [hm1] at hM1; rw [hm2] at hM2
                have hx1 : wrap64 (2 * qx) = 2 * qx := IntWalk.wrap64_in _ (by omega)
                have hx2 : wrap64 (2 * qx + fw) = 2 * qx + fw := IntWalk.wrap64_in _ (by omega)
                have hx3 : wrap64 ((2 * qx + fw) * b4) = M1 := by rw [hm1]; exact IntWalk.wrap64_in _ (by omega)
                have hx4 : wrap64 (2 * qy) = 2 * qy := IntWalk.wrap64_in _ (by omega)
                have hx5' : wrap64 (2 * qy + fd) = 2 * qy + fd := IntWalk.wrap64_in _ (by omega)
                have hx6 : wrap64 ((2 * qy + fd) * b4) = M2 := by rw [hm2]; exact IntWalk.wrap64_in _ (by omega)
                have HM1 := hid hm1; have HM2 := hid hm2; clear hm1 hm2
                refine wp_region_Rc [(26, NewList wr.heap.size 1 [.int .i64 M1, .int .i64 M2])] [26] [0, 1, 2, 3, 4, 5, 6, 7, 8, 9, 10, 11, 12, 13, 14, 15, 16, 17, 18, 19, 20, 21, 22, 23, 24, 25, 26] 2 (by kernel_rfl) rfl (by simp only [List.forall_mem_cons]; exact ⟨keeps_list, fun _ h => by cases h⟩) rfl (grpAs (l' := regionOf Try.f3 37) (by kernel_rfl) grp37) ?_
                simp only [numbered, List.filterMap_cons, List.filterMap_nil, List.getElem?_toArray, List.getElem?_cons_succ, List.getElem?_cons_zero, Option.map_some]
                show wpS _ _ _ _ _ _ _ [(_, _), (_, _), (_, _), (_, _), (_, _), (_, _), (_, _), (_, _), (_, _), (_, _), (_, _), (_, _), (_, _), (_, _), (_, _), (_, _), (_, _), (_, _), (_, _), (_, _), (_, _), (_, _), (_, _), (_, _), (_, _), (_, _), (_, _)] _ _
                (refine wpS_quiet rfl rfl ?_; intro K hK inst hx; go_big_quiet_op; (first | go_big_quiet_on | (refine ⟨_, fun _ => rfl, ?_⟩; go_big_quiet_on)); clear hx inst)
                (refine wpS_quiet rfl rfl ?_; intro K hK inst hx; go_big_quiet_op; (first | go_big_quiet_on | (refine ⟨_, fun _ => rfl, ?_⟩; go_big_quiet_on)); clear hx inst)
                (refine wpS_quiet rfl rfl ?_; intro K hK inst hx; go_big_quiet_op; (first | go_big_quiet_on | (refine ⟨_, fun _ => rfl, ?_⟩; go_big_quiet_on)); clear hx inst)
                (refine wpS_quiet rfl rfl ?_; intro K hK inst hx; go_big_quiet_op; (first | go_big_quiet_on | (refine ⟨_, fun _ => rfl, ?_⟩; go_big_quiet_on)); clear hx inst)
                (refine wpS_quiet rfl rfl ?_; intro K hK inst hx; go_big_quiet_op; (first | go_big_quiet_on | (refine ⟨_, fun _ => rfl, ?_⟩; go_big_quiet_on)); clear hx inst)
                (refine wpS_quiet rfl rfl ?_; intro K hK inst hx; have sy1 := fun x => (fun _ => bkeep (BQ.below x) y1) (hx x); go_big_quiet_op; (first | go_big_quiet_on | (refine ⟨_, fun _ => rfl, ?_⟩; go_big_quiet_on)); clear hx inst)
                (refine wpS_quiet rfl rfl ?_; intro K hK inst hx; go_big_quiet_op; (first | go_big_quiet_on | (refine ⟨_, fun _ => rfl, ?_⟩; go_big_quiet_on)); clear hx inst)
                (refine wpS_quiet rfl rfl ?_; intro K hK inst hx; go_big_quiet_op; (first | go_big_quiet_on | (refine ⟨_, fun _ => rfl, ?_⟩; go_big_quiet_on)); clear hx inst)
                (refine wpS_quiet rfl rfl ?_; intro K hK inst hx; go_big_quiet_op; (first | go_big_quiet_on | (refine ⟨_, fun _ => rfl, ?_⟩; go_big_quiet_on)); clear hx inst)
                (refine wpS_quiet rfl rfl ?_; intro K hK inst hx; go_big_quiet_op; (first | go_big_quiet_on | (refine ⟨_, fun _ => rfl, ?_⟩; go_big_quiet_on)); clear hx inst)
                (refine wpS_quiet rfl rfl ?_; intro K hK inst hx; go_big_quiet_op; (first | go_big_quiet_on | (refine ⟨_, fun _ => rfl, ?_⟩; go_big_quiet_on)); clear hx inst)
                (refine wpS_quiet rfl rfl ?_; intro K hK inst hx; have sh5 := fun x => (fun _ => bkeep (BQ.below x) h5) (hx x); go_big_quiet_op; (first | go_big_quiet_on | (refine ⟨_, fun _ => rfl, ?_⟩; go_big_quiet_on)); clear hx inst)
                (refine wpS_quiet rfl rfl ?_; intro K hK inst hx; go_big_quiet_op; (first | go_big_quiet_on | (refine ⟨_, fun _ => rfl, ?_⟩; go_big_quiet_on)); clear hx inst)
                (refine wpS_quiet rfl rfl ?_; intro K hK inst hx; go_big_quiet_op; (first | go_big_quiet_on | (refine ⟨_, fun _ => rfl, ?_⟩; go_big_quiet_on)); clear hx inst)
                (refine wpS_quiet rfl rfl ?_; intro K hK inst hx; go_big_quiet_op; (first | go_big_quiet_on | (refine ⟨_, fun _ => rfl, ?_⟩; go_big_quiet_on)); clear hx inst)
                (refine wpS_quiet rfl rfl ?_; intro K hK inst hx; go_big_quiet_op; (first | go_big_quiet_on | (refine ⟨_, fun _ => rfl, ?_⟩; go_big_quiet_on)); clear hx inst)
                (refine wpS_quiet rfl rfl ?_; intro K hK inst hx; go_big_quiet_op; (first | go_big_quiet_on | (refine ⟨_, fun _ => rfl, ?_⟩; go_big_quiet_on)); clear hx inst)
                (refine wpS_quiet rfl rfl ?_; intro K hK inst hx; have sy0 := fun x => (fun _ => bkeep (BQ.below x) y0) (hx x); go_big_quiet_op; (first | go_big_quiet_on | (refine ⟨_, fun _ => rfl, ?_⟩; go_big_quiet_on)); clear hx inst)
                (refine wpS_quiet rfl rfl ?_; intro K hK inst hx; go_big_quiet_op; (first | go_big_quiet_on | (refine ⟨_, fun _ => rfl, ?_⟩; go_big_quiet_on)); clear hx inst)
                (refine wpS_quiet rfl rfl ?_; intro K hK inst hx; go_big_quiet_op; (first | go_big_quiet_on | (refine ⟨_, fun _ => rfl, ?_⟩; go_big_quiet_on)); clear hx inst)
                (refine wpS_quiet rfl rfl ?_; intro K hK inst hx; go_big_quiet_op; (first | go_big_quiet_on | (refine ⟨_, fun _ => rfl, ?_⟩; go_big_quiet_on)); clear hx inst)
                (refine wpS_quiet rfl rfl ?_; intro K hK inst hx; go_big_quiet_op; (first | go_big_quiet_on | (refine ⟨_, fun _ => rfl, ?_⟩; go_big_quiet_on)); clear hx inst)
                (refine wpS_quiet rfl rfl ?_; intro K hK inst hx; go_big_quiet_op; (first | go_big_quiet_on | (refine ⟨_, fun _ => rfl, ?_⟩; go_big_quiet_on)); clear hx inst)
                (refine wpS_quiet rfl rfl ?_; intro K hK inst hx; have sh5 := fun x => (fun _ => bkeep (BQ.below x) h5) (hx x); go_big_quiet_op; (first | go_big_quiet_on | (refine ⟨_, fun _ => rfl, ?_⟩; go_big_quiet_on)); clear hx inst)
                (refine wpS_quiet rfl rfl ?_; intro K hK inst hx; go_big_quiet_op; (first | go_big_quiet_on | (refine ⟨_, fun _ => rfl, ?_⟩; go_big_quiet_on)); clear hx inst)
                (refine wpS_quiet rfl rfl ?_; intro K hK inst hx; go_big_quiet_op; (first | go_big_quiet_on | (refine ⟨_, fun _ => rfl, ?_⟩; go_big_quiet_on)); clear hx inst)
                refine wpS_fresh rfl rfl (fun w' hb hF => ?_) ?_
                · change freshAt _ _ _ (NewList wr.heap.size 1 [.int .i64 M1, .int .i64 M2]) _; unfold freshAt; go_simp; exact list_of (n := 1) hb
                intro v W hv; simp only [pOf, List.lookup_cons, Nat.reduceBEq, beq_self_eq_true] at hv; obtain ⟨Bm, hBm, rfl, -⟩ := hv
                simp only [Act.put, List.setIfInBounds_toArray, List.set_cons_succ, List.set_cons_zero]
                refine wpS_nil ?_
                intro w2 hall
                have hb := hall.1
                have h26 : NewList wr.heap.size 1 [.int .i64 M1, .int .i64 M2] _ w2 := hall.2 26 _ rfl
                obtain ⟨B', hB', hv', hn'⟩ := h26
                obtain rfl : Bm = B' := by simpa using hv'
                clear hall hv' sy0 sy1 sh5 hx1 hx2 hx3 hx4 hx5' hx6
                replace hb9 := bnext (w := v9) hb9 hb
                replace hb10 := bnext (w := v3) hb10 hb
                replace hA := hA.next hb
                replace c9 := bkeep hb c9
                replace h3 := bkeep hb h3
                replace h4 := bkeep hb h4
                replace h5 := bkeep hb h5
                replace h6 := bkeep hb h6
                replace h7 := bkeep hb h7
                clear hb
                have ho1 := hA.own1; rw [HMK.out] at ho1
                have hz11 := hb10.size
                refine wpAny_ready (rs := [27]) (by kernel_rfl) (by simp) ?_
                refine AllReady.cons rfl (fun K hK => ?_) AllReady.nil
                refine (if_pos (show Region.wanted _ _ = true from rfl)).mpr ?_
                refine wp_append_at (.tmp 168) (.tmp 194) 46 rfl v3.heap.size 61 i0 (.agg #[.int .i64 0, .int .i64 0]) 2 16 Try.underlying46 hi0 hy0 hy1 hy2 rfl (by decide) (.slice ma k mc) k _ rfl ho1 ⟨Bm, 0, none⟩ 1 1 (cellsM (M1, M2)) rfl rfl (fun j u h => by rw [Go.WideShapes.add_plain, Nat.zero_add]; exact (hn' j u h).1) one_cellsM (by unfold maxLen; omega) (by omega) hz11 ?_
                intro v72 w3 ho3 hg3 hbl3
                refine hK _ _ ?_
                clear hK K
                replace hb10 := below_grown (a := v3) hb10 hg3 ho1 hz11 (Nat.le_refl _)
                replace h3 := bkeep hb10 q3
                replace h4 := bkeep hb10 q4
                replace h5 := bkeep hb10 q5
                replace h6 := bkeep hb10 q6
                replace h7 := bkeep hb10 q7
                replace c9 := grown_kept hg3 c9 HN1.out
                have hA3 := hA.push1 (m := (M1, M2)) hg3 (by rw [HMK.out]; exact ho3) hbl3
                obtain ⟨mb, mbc, rfl, -⟩ := owns_shape ho3
                clear hA ho3 hg3 hbl3 ho1 hn' hb9
                refine wpAny_ready (rs := [28]) (by kernel_rfl) (by simp) ?_
                refine AllReady.cons rfl (fun K hK => ?_) AllReady.nil
                go_simp
                refine hK _ _ ?_; clear hK K
                refine wpAny_done (by kernel_rfl) ?_ _
                have ho2 := hA3.own2; rw [HLK.out] at ho2
                have hz12 := hb10.size
                go_upto_region 39 with (at_builtin; go_must (refine wpList_append_own_at _ rfl _ _ 46 rfl v3.heap.size 61 i0 (.agg #[.int .i64 0, .int .i64 0]) 2 16 Try.underlying46 hi0 hy0 hy1 hy2 rfl (by decide) _ _ _ rfl (ho2.alloc _) ⟨w3.heap.size, 0, none⟩ 1 1 (cellsM (A, B)) rfl rfl ?c1 one_cellsM (by unfold maxLen; omega) (by omega) (by simp; omega) ?_; (case c1 => exact new_cellsM w3 (A, B) 61); intro v' w4 ho4 hg4 hnil hbl4; clear hnil))
                replace hb10 := below_grown (a := v3) (hb10.alloc (Nat.le_trans hz12 (Nat.le_refl _)) _) hg4 (ho2.alloc _) (by simp; omega) (Nat.le_refl _)
                replace h3 := bkeep hb10 q3
                replace h4 := bkeep hb10 q4
                replace h5 := bkeep hb10 q5
                replace h6 := bkeep hb10 q6
                replace h7 := bkeep hb10 q7
                replace c9 := grown_kept hg4 (akeep c9) HN2.out
                have hA5 := (hA3.next ((Below.refl _ _).alloc (Nat.le_refl _) (.cells (cellsM (A, B)).toArray 61))).push2 (m := (A, B)) hg4 (by rw [HLK.out]; exact ho4) hbl4
                obtain ⟨lb, lbc, rfl, -⟩ := owns_shape ho4
                clear hA3 ho4 hg4 hbl4 ho2
                have hpa : PileAt ⟨1, b2, b3, b4, b5, b6⟩ icl (⟨fw, fd, fh, fg⟩ : Ft) ⟨qy, qx, false⟩ (M1, M2) (A, B) := by
                  have h := pile_at (s := ⟨1, b2, b3, b4, b5, b6⟩) (sh := shR [a0, a1, a2, a3, a4, a5, a6, a7, a8, a9, a10]) (mn := (n' : Int)) (cl := icl) (a := A) (b := B) (q := ⟨qy, qx, false⟩) HX.out (by simp only [shR, List.getD_cons_zero, List.getD_cons_succ]; omega) (by simp only [shR, List.getD_cons_zero, List.getD_cons_succ]; omega)
                  dsimp only at h
                  rw [← HFO.out] at h
                  rw [← HM1.out, ← HM2.out]
                  exact h
                have HPI2 := hid (piles_snoc HPI.out HFX.out HQX.out HXK.out hpa)
                have hwl := hpa.walls HX.out hpl
                dsimp only at hwl
                have HPA := hid hpa; clear hpa
                have hsmall := (piles_small HX.out HFL.out HQL.out (by omega) HCL.out HP.out.2.1 HPI2.out).1
                have hr1 := hA5.rows1 (fun m hm => ⟨I64.mk (by have := hsmall m hm; omega) (by have := hsmall m hm; omega), I64.mk (by have := hsmall m hm; omega) (by have := hsmall m hm; omega)⟩)
                clear hsmall
                have hlm : ((ms ++ [(M1, M2)]).map pairM).length = k + 1 := by rw [List.length_map, List.length_append, HMK.out]; rfl
                obtain ⟨m', hm', hrl, hc0, hcc⟩ := (show RowsAt 2 w4 (.slice mb ((ms ++ [(M1, M2)]).map pairM).length mbc) _ by rw [hlm]; exact hr1).row (k := k) (by rw [hlm]; omega)
                have hat : ((ms ++ [(M1, M2)]).map pairM)[k]'(by rw [hlm]; omega) = [M1, M2] := by rw [List.getElem_map, List.getElem_append_right (by rw [HMK.out]; exact Nat.le_refl _)]; simp [HMK.out, pairM]
                rw [hat] at hc0 hcc
                have s0 := hc0 _ rfl
                have s1 := hcc 1 _ (by decide) rfl
                clear hc0 hcc hat hrl hr1 hlm
                subst hm'
                obtain ⟨P1, hP1⟩ : ∃ P1, 2 * b2 * b4 = P1 := ⟨_, rfl⟩
                obtain ⟨P2, hP2⟩ : ∃ P2, 2 * b3 * b4 = P2 := ⟨_, rfl⟩
                have hv1 := mul_bd (2 * b2) b4 12 500 (by omega) (by omega) (by omega) (by omega)
                have hv2 := mul_bd (2 * b3) b4 12 500 (by omega) (by omega) (by omega) (by omega)
                rw [hP1] at hv1 hwl; rw [hP2] at hv2 hwl
                have e1 : wrap64 (M1 - A) = M1 - A := IntWalk.wrap64_in _ (by omega)
                have e2 : wrap64 (M2 - B) = M2 - B := IntWalk.wrap64_in _ (by omega)
                have e3 : wrap64 (2 * icl) = 2 * icl := IntWalk.wrap64_in _ (by omega)
                have e4 : wrap64 (2 * b2) = 2 * b2 := IntWalk.wrap64_in _ (by omega)
                have e5 : wrap64 (2 * b3) = 2 * b3 := IntWalk.wrap64_in _ (by omega)
                have e6 : wrap64 (2 * b2 * b4) = P1 := by rw [hP1]; exact IntWalk.wrap64_in _ (by omega)
                have e7 : wrap64 (2 * b3 * b4) = P2 := by rw [hP2]; exact IntWalk.wrap64_in _ (by omega)
                have e8 : wrap64 (P1 - M1) = P1 - M1 := IntWalk.wrap64_in _ (by omega)
                have e9 : wrap64 (P2 - M2) = P2 - M2 := IntWalk.wrap64_in _ (by omega)
                have e10 : wrap64 (P1 - M1 - A) = P1 - M1 - A := IntWalk.wrap64_in _ (by omega)
                have e11 : wrap64 (P2 - M2 - B) = P2 - M2 - B := IntWalk.wrap64_in _ (by omega)
                clear hP1 hP2
                have d1' : ¬ b5 < H := by omega
                have d2' : ¬ M1 - A < 2 * icl := by omega
                have d3' : ¬ M2 - B < 2 * icl := by omega
                have d4' : ¬ P1 - M1 - A < 2 * icl := by omega
                have d5' : ¬ P2 - M2 - B < 2 * icl := by omega
                have hkk : (k : Int) < (k : Int) + 1 := by omega
                have hwk : weightL ((feetV ss [] ⟨1, b2, b3, b4, b5, b6⟩ xs).take (k + 1)) = t0 + fg := by rw [weightL_snoc (by rw [HFL.out]; exact hlt), HT0.out, (List.getElem?_eq_some_iff.1 HFX.out).2]
                have HWK := hid hwk; clear hwk hwl hv1 hv2
                have x_h3 := fun x : BW w4 => bkeep x.below h3
                have x_h4 := fun x : BW w4 => bkeep x.below h4
                have x_h5 := fun x : BW w4 => bkeep x.below h5
                have x_h6 := fun x : BW w4 => bkeep x.below h6
                have x_c9 := fun x : BW w4 => bkeep x.below c9
                have x_s0 := fun x : BW w4 => bkeep x.below s0
                have x_s1 := fun x : BW w4 => bkeep x.below s1
                refine wp_region_qb (by kernel_rfl) (lexAs (l' := regionOf Try.f3 39) (by kernel_rfl) lex39) fun hc => ?_
                repeat (go_big_quiet_step (fail))
                refine wpQuiet_nil ?_; intro w5 hb
                clear hc x_h3 x_h4 x_h5 x_h6 x_c9 x_s0 x_s1
                replace hb10 := bnext (w := v3) hb10 hb
                replace hA5 := hA5.next hb
                go_wp2_with fail
                go_roundw
                case rel => exact ⟨k + 1, ms ++ [(M1, M2)], ls ++ [(A, B)], T, by omega, by go_num, rfl, hA5, HPI2.out, by rw [HWK.out]; omega, hb10⟩
                case measure => first | (simp [intOf]; done) | (simp [intOf]; omega)
            · as_aux_lemma =>
                go_upto_region 35 with fail
                have bC := size_bd (n := pickV zs (k + 1)) (show a3 ≤ a4 by omega)
                have x_l3 := fun x : BW wr => bkeep x.below l3
                have x_l4 := fun x : BW wr => bkeep x.below l4
                have hnx : ∀ x : BW wr, NumsAt x.w' (.slice na zs.length nc) zs := fun x => (hn.below hb10).below x.below
                refine wp_region_qb (by kernel_rfl) (by decide +kernel) fun hc => ?_
                repeat (go_big_quiet_step ((first | (go_at_call 11; exact BW.call _ (pick_z (k + 1) (by first | rfl | omega | (push_cast; omega)) (by omega) (hnx _))) | (go_at_call 10; exact BW.call _ (sizeL (by omega) (by omega) (by omega))))))
                refine wpQuiet_nil ?_; intro w1 hb
                clear hnx hc x_l3 x_l4
                replace hb9 := bnext (w := v9) hb9 hb
                replace hb10 := bnext (w := v3) hb10 hb
                replace hA := hA.next hb
                replace c9 := bkeep hb c9
                replace y0 := bkeep hb y0
                replace y1 := bkeep hb y1
                replace y2 := bkeep hb y2
                replace l1 := bkeep hb l1
                replace l2 := bkeep hb l2
                replace l3 := bkeep hb l3
                replace l4 := bkeep hb l4
                replace h3 := bkeep hb h3
                replace h4 := bkeep hb h4
                replace h5 := bkeep hb h5
                replace h6 := bkeep hb h6
                replace h7 := bkeep hb h7
                clear hb
                generalize a3 + pickV zs (k + 1) % (a4 - a3 + 1) = C at bC ⊢
                obtain ⟨u1, hu1⟩ : ∃ v, v = w1 := ⟨_, rfl⟩
                subst hu1
                go_upto_region 36 with fail
                have bD := size_bd (n := pickV zs (k)) (show a1 ≤ a2 by omega)
                have x_l1 := fun x : BW u1 => bkeep x.below l1
                have x_l2 := fun x : BW u1 => bkeep x.below l2
                have hnx : ∀ x : BW u1, NumsAt x.w' (.slice na zs.length nc) zs := fun x => (hn.below hb10).below x.below
                refine wp_region_qb (by kernel_rfl) (by decide +kernel) fun hc => ?_
                repeat (go_big_quiet_step ((first | (go_at_call 11; exact BW.call _ (pick_z (k) (by first | rfl | omega | (push_cast; omega)) (by omega) (hnx _))) | (go_at_call 10; exact BW.call _ (sizeL (by omega) (by omega) (by omega))))))
                refine wpQuiet_nil ?_; intro w1 hb
                clear hnx hc x_l1 x_l2
                replace hb9 := bnext (w := v9) hb9 hb
                replace hb10 := bnext (w := v3) hb10 hb
                replace hA := hA.next hb
                replace c9 := bkeep hb c9
                replace y0 := bkeep hb y0
                replace y1 := bkeep hb y1
                replace y2 := bkeep hb y2
                replace l1 := bkeep hb l1
                replace l2 := bkeep hb l2
                replace l3 := bkeep hb l3
                replace l4 := bkeep hb l4
                replace h3 := bkeep hb h3
                replace h4 := bkeep hb h4
                replace h5 := bkeep hb h5
                replace h6 := bkeep hb h6
                replace h7 := bkeep hb h7
                clear hb
                generalize a1 + pickV zs (k) % (a2 - a1 + 1) = D at bD ⊢
                obtain ⟨u2, hu2⟩ : ∃ v, v = w1 := ⟨_, rfl⟩
                subst hu2
                go_upto_region 37 with fail
                have hp1 : (0 ≤ qx ∧ qx + fd ≤ b2) ∧ (0 ≤ qy ∧ qy + fw ≤ b3) ∧ 1 ≤ fd ∧ 1 ≤ fw := hpl
                have hM1 := mul_bd (2 * qx + fd) b4 12 500 (by omega) (by omega) (by omega) (by omega)
                have hM2 := mul_bd (2 * qy + fw) b4 12 500 (by omega) (by omega) (by omega) (by omega)
                obtain ⟨M1, hm1⟩ : ∃ M1, (2 * qx + fd) * b4 = M1 := ⟨_, rfl⟩
                obtain ⟨M2, hm2⟩ : ∃ M2, (2 * qy + fw) * b4 = M2 := ⟨_, rfl⟩
                rw [hm1] at hM1; rw [hm2] at hM2
                have hx1 : wrap64 (2 * qx) = 2 * qx := IntWalk.wrap64_in _ (by omega)
                have hx2 : wrap64 (2 * qx + fd) = 2 * qx + fd := IntWalk.wrap64_in _ (by omega)
                have hx3 : wrap64 ((2 * qx + fd) * b4) = M1 := by rw [hm1]; exact IntWalk.wrap64_in _ (by omega)
                have hx4 : wrap64 (2 * qy) = 2 * qy := IntWalk.wrap64_in _ (by omega)
                have hx5' : wrap64 (2 * qy + fw) = 2 * qy + fw := IntWalk.wrap64_in _ (by omega)
                have hx6 : wrap64 ((2 * qy + fw) * b4) = M2 := by rw [hm2]; exact IntWalk.wrap64_in _ (by omega)
                have HM1 := hid hm1; have HM2 := hid hm2; clear hm1 hm2
                refine wp_region_Rc [(26, NewList u2.heap.size 1 [.int .i64 M1, .int .i64 M2])] [26] [0, 1, 2, 3, 4, 5, 6, 7, 8, 9, 10, 11, 12, 13, 14, 15, 16, 17, 18, 19, 20, 21, 22, 23, 24, 25, 26] 2 (by kernel_rfl) rfl (by simp only [List.forall_mem_cons]; exact ⟨keeps_list, fun _ h => by cases h⟩) rfl (grpAs (l' := regionOf Try.f3 37) (by kernel_rfl) grp37) ?_
                simp only [numbered, List.filterMap_cons, List.filterMap_nil, List.getElem?_toArray, List.getElem?_cons_succ, List.getElem?_cons_zero, Option.map_some]
                show wpS _ _ _ _ _ _ _ [(_, _), (_, _), (_, _), (_, _), (_, _), (_, _), (_, _), (_, _), (_, _), (_, _), (_, _), (_, _), (_, _), (_, _), (_, _), (_, _), (_, _), (_, _), (_, _), (_, _), (_, _), (_, _), (_, _), (_, _), (_, _), (_, _), (_, _)] _ _
                (refine wpS_quiet rfl rfl ?_; intro K hK inst hx; go_big_quiet_op; (first | go_big_quiet_on | (refine ⟨_, fun _ => rfl, ?_⟩; go_big_quiet_on)); clear hx inst)
                (refine wpS_quiet rfl rfl ?_; intro K hK inst hx; go_big_quiet_op; (first | go_big_quiet_on | (refine ⟨_, fun _ => rfl, ?_⟩; go_big_quiet_on)); clear hx inst)
                (refine wpS_quiet rfl rfl ?_; intro K hK inst hx; go_big_quiet_op; (first | go_big_quiet_on | (refine ⟨_, fun _ => rfl, ?_⟩; go_big_quiet_on)); clear hx inst)
                (refine wpS_quiet rfl rfl ?_; intro K hK inst hx; go_big_quiet_op; (first | go_big_quiet_on | (refine ⟨_, fun _ => rfl, ?_⟩; go_big_quiet_on)); clear hx inst)
                (refine wpS_quiet rfl rfl ?_; intro K hK inst hx; go_big_quiet_op; (first | go_big_quiet_on | (refine ⟨_, fun _ => rfl, ?_⟩; go_big_quiet_on)); clear hx inst)
                (refine wpS_quiet rfl rfl ?_; intro K hK inst hx; have sy1 := fun x => (fun _ => bkeep (BQ.below x) y1) (hx x); go_big_quiet_op; (first | go_big_quiet_on | (refine ⟨_, fun _ => rfl, ?_⟩; go_big_quiet_on)); clear hx inst)
                (refine wpS_quiet rfl rfl ?_; intro K hK inst hx; go_big_quiet_op; (first | go_big_quiet_on | (refine ⟨_, fun _ => rfl, ?_⟩; go_big_quiet_on)); clear hx inst)
                (refine wpS_quiet rfl rfl ?_; intro K hK inst hx; go_big_quiet_op; (first | go_big_quiet_on | (refine ⟨_, fun _ => rfl, ?_⟩; go_big_quiet_on)); clear hx inst)
                (refine wpS_quiet rfl rfl ?_; intro K hK inst hx; go_big_quiet_op; (first | go_big_quiet_on | (refine ⟨_, fun _ => rfl, ?_⟩; go_big_quiet_on)); clear hx inst)
                (refine wpS_quiet rfl rfl ?_; intro K hK inst hx; go_big_quiet_op; (first | go_big_quiet_on | (refine ⟨_, fun _ => rfl, ?_⟩; go_big_quiet_on)); clear hx inst)
                (refine wpS_quiet rfl rfl ?_; intro K hK inst hx; go_big_quiet_op; (first | go_big_quiet_on | (refine ⟨_, fun _ => rfl, ?_⟩; go_big_quiet_on)); clear hx inst)
                (refine wpS_quiet rfl rfl ?_; intro K hK inst hx; have sh5 := fun x => (fun _ => bkeep (BQ.below x) h5) (hx x); go_big_quiet_op; (first | go_big_quiet_on | (refine ⟨_, fun _ => rfl, ?_⟩; go_big_quiet_on)); clear hx inst)
                (refine wpS_quiet rfl rfl ?_; intro K hK inst hx; go_big_quiet_op; (first | go_big_quiet_on | (refine ⟨_, fun _ => rfl, ?_⟩; go_big_quiet_on)); clear hx inst)
                (refine wpS_quiet rfl rfl ?_; intro K hK inst hx; go_big_quiet_op; (first | go_big_quiet_on | (refine ⟨_, fun _ => rfl, ?_⟩; go_big_quiet_on)); clear hx inst)
                (refine wpS_quiet rfl rfl ?_; intro K hK inst hx; go_big_quiet_op; (first | go_big_quiet_on | (refine ⟨_, fun _ => rfl, ?_⟩; go_big_quiet_on)); clear hx inst)
                (refine wpS_quiet rfl rfl ?_; intro K hK inst hx; go_big_quiet_op; (first | go_big_quiet_on | (refine ⟨_, fun _ => rfl, ?_⟩; go_big_quiet_on)); clear hx inst)
                (refine wpS_quiet rfl rfl ?_; intro K hK inst hx; go_big_quiet_op; (first | go_big_quiet_on | (refine ⟨_, fun _ => rfl, ?_⟩; go_big_quiet_on)); clear hx inst)
                (refine wpS_quiet rfl rfl ?_; intro K hK inst hx; have sy0 := fun x => (fun _ => bkeep (BQ.below x) y0) (hx x); go_big_quiet_op; (first | go_big_quiet_on | (refine ⟨_, fun _ => rfl, ?_⟩; go_big_quiet_on)); clear hx inst)
                (refine wpS_quiet rfl rfl ?_; intro K hK inst hx; go_big_quiet_op; (first | go_big_quiet_on | (refine ⟨_, fun _ => rfl, ?_⟩; go_big_quiet_on)); clear hx inst)
                (refine wpS_quiet rfl rfl ?_; intro K hK inst hx; go_big_quiet_op; (first | go_big_quiet_on | (refine ⟨_, fun _ => rfl, ?_⟩; go_big_quiet_on)); clear hx inst)
                (refine wpS_quiet rfl rfl ?_; intro K hK inst hx; go_big_quiet_op; (first | go_big_quiet_on | (refine ⟨_, fun _ => rfl, ?_⟩; go_big_quiet_on)); clear hx inst)
                (refine wpS_quiet rfl rfl ?_; intro K hK inst hx; go_big_quiet_op; (first | go_big_quiet_on | (refine ⟨_, fun _ => rfl, ?_⟩; go_big_quiet_on)); clear hx inst)
                (refine wpS_quiet rfl rfl ?_; intro K hK inst hx; go_big_quiet_op; (first | go_big_quiet_on | (refine ⟨_, fun _ => rfl, ?_⟩; go_big_quiet_on)); clear hx inst)
                (refine wpS_quiet rfl rfl ?_; intro K hK inst hx; have sh5 := fun x => (fun _ => bkeep (BQ.below x) h5) (hx x); go_big_quiet_op; (first | go_big_quiet_on | (refine ⟨_, fun _ => rfl, ?_⟩; go_big_quiet_on)); clear hx inst)
                (refine wpS_quiet rfl rfl ?_; intro K hK inst hx; go_big_quiet_op; (first | go_big_quiet_on | (refine ⟨_, fun _ => rfl, ?_⟩; go_big_quiet_on)); clear hx inst)
                (refine wpS_quiet rfl rfl ?_; intro K hK inst hx; go_big_quiet_op; (first | go_big_quiet_on | (refine ⟨_, fun _ => rfl, ?_⟩; go_big_quiet_on)); clear hx inst)
                refine wpS_fresh rfl rfl (fun w' hb hF => ?_) ?_
                · change freshAt _ _ _ (NewList u2.heap.size 1 [.int .i64 M1, .int .i64 M2]) _; unfold freshAt; go_simp; exact list_of (n := 1) hb
                intro v W hv; simp only [pOf, List.lookup_cons, Nat.reduceBEq, beq_self_eq_true] at hv; obtain ⟨Bm, hBm, rfl, -⟩ := hv
                simp only [Act.put, List.setIfInBounds_toArray, List.set_cons_succ, List.set_cons_zero]
                refine wpS_nil ?_
                intro w2 hall
                have hb := hall.1
                have h26 : NewList u2.heap.size 1 [.int .i64 M1, .int .i64 M2] _ w2 := hall.2 26 _ rfl
                obtain ⟨B', hB', hv', hn'⟩ := h26
                obtain rfl : Bm = B' := by simpa using hv'
                clear hall hv' sy0 sy1 sh5 hx1 hx2 hx3 hx4 hx5' hx6
                replace hb9 := bnext (w := v9) hb9 hb
                replace hb10 := bnext (w := v3) hb10 hb
                replace hA := hA.next hb
                replace c9 := bkeep hb c9
                replace h3 := bkeep hb h3
                replace h4 := bkeep hb h4
                replace h5 := bkeep hb h5
                replace h6 := bkeep hb h6
                replace h7 := bkeep hb h7
                clear hb
                have ho1 := hA.own1; rw [HMK.out] at ho1
                have hz11 := hb10.size
                refine wpAny_ready (rs := [27]) (by kernel_rfl) (by simp) ?_
                refine AllReady.cons rfl (fun K hK => ?_) AllReady.nil
                refine (if_pos (show Region.wanted _ _ = true from rfl)).mpr ?_
                refine wp_append_at (.tmp 168) (.tmp 194) 46 rfl v3.heap.size 61 i0 (.agg #[.int .i64 0, .int .i64 0]) 2 16 Try.underlying46 hi0 hy0 hy1 hy2 rfl (by decide) (.slice ma k mc) k _ rfl ho1 ⟨Bm, 0, none⟩ 1 1 (cellsM (M1, M2)) rfl rfl (fun j u h => by rw [Go.WideShapes.add_plain, Nat.zero_add]; exact (hn' j u h).1) one_cellsM (by unfold maxLen; omega) (by omega) hz11 ?_
                intro v72 w3 ho3 hg3 hbl3
                refine hK _ _ ?_
                clear hK K
                replace hb10 := below_grown (a := v3) hb10 hg3 ho1 hz11 (Nat.le_refl _)
                replace h3 := bkeep hb10 q3
                replace h4 := bkeep hb10 q4
                replace h5 := bkeep hb10 q5
                replace h6 := bkeep hb10 q6
                replace h7 := bkeep hb10 q7
                replace c9 := grown_kept hg3 c9 HN1.out
                have hA3 := hA.push1 (m := (M1, M2)) hg3 (by rw [HMK.out]; exact ho3) hbl3
                obtain ⟨mb, mbc, rfl, -⟩ := owns_shape ho3
                clear hA ho3 hg3 hbl3 ho1 hn' hb9
                refine wpAny_ready (rs := [28]) (by kernel_rfl) (by simp) ?_
                refine AllReady.cons rfl (fun K hK => ?_) AllReady.nil
                go_simp
                refine hK _ _ ?_; clear hK K
                refine wpAny_done (by kernel_rfl) ?_ _
                have ho2 := hA3.own2; rw [HLK.out] at ho2
                have hz12 := hb10.size
                go_upto_region 39 with (at_builtin; go_must (refine wpList_append_own_at _ rfl _ _ 46 rfl v3.heap.size 61 i0 (.agg #[.int .i64 0, .int .i64 0]) 2 16 Try.underlying46 hi0 hy0 hy1 hy2 rfl (by decide) _ _ _ rfl (ho2.alloc _) ⟨w3.heap.size, 0, none⟩ 1 1 (cellsM (C, D)) rfl rfl ?c1 one_cellsM (by unfold maxLen; omega) (by omega) (by simp; omega) ?_; (case c1 => exact new_cellsM w3 (C, D) 61); intro v' w4 ho4 hg4 hnil hbl4; clear hnil))
                replace hb10 := below_grown (a := v3) (hb10.alloc (Nat.le_trans hz12 (Nat.le_refl _)) _) hg4 (ho2.alloc _) (by simp; omega) (Nat.le_refl _)
                replace h3 := bkeep hb10 q3
                replace h4 := bkeep hb10 q4
                replace h5 := bkeep hb10 q5
                replace h6 := bkeep hb10 q6
                replace h7 := bkeep hb10 q7
                replace c9 := grown_kept hg4 (akeep c9) HN2.out
                have hA5 := (hA3.next ((Below.refl _ _).alloc (Nat.le_refl _) (.cells (cellsM (C, D)).toArray 61))).push2 (m := (C, D)) hg4 (by rw [HLK.out]; exact ho4) hbl4
                obtain ⟨lb, lbc, rfl, -⟩ := owns_shape ho4
                clear hA3 ho4 hg4 hbl4 ho2
                have hpa : PileAt ⟨1, b2, b3, b4, b5, b6⟩ icl (⟨fw, fd, fh, fg⟩ : Ft) ⟨qy, qx, true⟩ (M1, M2) (C, D) := by
                  have h := pile_at (s := ⟨1, b2, b3, b4, b5, b6⟩) (sh := shR [a0, a1, a2, a3, a4, a5, a6, a7, a8, a9, a10]) (mn := (n' : Int)) (cl := icl) (a := D) (b := C) (q := ⟨qy, qx, true⟩) HX.out (by simp only [shR, List.getD_cons_zero, List.getD_cons_succ]; omega) (by simp only [shR, List.getD_cons_zero, List.getD_cons_succ]; omega)
                  dsimp only at h
                  rw [← HFO.out] at h
                  rw [← HM1.out, ← HM2.out]
                  exact h
                have HPI2 := hid (piles_snoc HPI.out HFX.out HQX.out HXK.out hpa)
                have hwl := hpa.walls HX.out hpl
                dsimp only at hwl
                have HPA := hid hpa; clear hpa
                have hsmall := (piles_small HX.out HFL.out HQL.out (by omega) HCL.out HP.out.2.1 HPI2.out).1
                have hr1 := hA5.rows1 (fun m hm => ⟨I64.mk (by have := hsmall m hm; omega) (by have := hsmall m hm; omega), I64.mk (by have := hsmall m hm; omega) (by have := hsmall m hm; omega)⟩)
                clear hsmall
                have hlm : ((ms ++ [(M1, M2)]).map pairM).length = k + 1 := by rw [List.length_map, List.length_append, HMK.out]; rfl
                obtain ⟨m', hm', hrl, hc0, hcc⟩ := (show RowsAt 2 w4 (.slice mb ((ms ++ [(M1, M2)]).map pairM).length mbc) _ by rw [hlm]; exact hr1).row (k := k) (by rw [hlm]; omega)
                have hat : ((ms ++ [(M1, M2)]).map pairM)[k]'(by rw [hlm]; omega) = [M1, M2] := by rw [List.getElem_map, List.getElem_append_right (by rw [HMK.out]; exact Nat.le_refl _)]; simp [HMK.out, pairM]
                rw [hat] at hc0 hcc
                have s0 := hc0 _ rfl
                have s1 := hcc 1 _ (by decide) rfl
                clear hc0 hcc hat hrl hr1 hlm
                subst hm'
                obtain ⟨P1, hP1⟩ : ∃ P1, 2 * b2 * b4 = P1 := ⟨_, rfl⟩
                obtain ⟨P2, hP2⟩ : ∃ P2, 2 * b3 * b4 = P2 := ⟨_, rfl⟩
                have hv1 := mul_bd (2 * b2) b4 12 500 (by omega) (by omega) (by omega) (by omega)
                have hv2 := mul_bd (2 * b3) b4 12 500 (by omega) (by omega) (by omega) (by omega)
                rw [hP1] at hv1 hwl; rw [hP2] at hv2 hwl
                have e1 : wrap64 (M1 - C) = M1 - C := IntWalk.wrap64_in _ (by omega)
                have e2 : wrap64 (M2 - D) = M2 - D := IntWalk.wrap64_in _ (by omega)
                have e3 : wrap64 (2 * icl) = 2 * icl := IntWalk.wrap64_in _ (by omega)
                have e4 : wrap64 (2 * b2) = 2 * b2 := IntWalk.wrap64_in _ (by omega)
                have e5 : wrap64 (2 * b3) = 2 * b3 := IntWalk.wrap64_in _ (by omega)
                have e6 : wrap64 (2 * b2 * b4) = P1 := by rw [hP1]; exact IntWalk.wrap64_in _ (by omega)
                have e7 : wrap64 (2 * b3 * b4) = P2 := by rw [hP2]; exact IntWalk.wrap64_in _ (by omega)
                have e8 : wrap64 (P1 - M1) = P1 - M1 := IntWalk.wrap64_in _ (by omega)
                have e9 : wrap64 (P2 - M2) = P2 - M2 := IntWalk.wrap64_in _ (by omega)
                have e10 : wrap64 (P1 - M1 - C) = P1 - M1 - C := IntWalk.wrap64_in _ (by omega)
                have e11 : wrap64 (P2 - M2 - D) = P2 - M2 - D := IntWalk.wrap64_in _ (by omega)
                clear hP1 hP2
                have d1' : ¬ b5 < H := by omega
                have d2' : ¬ M1 - C < 2 * icl := by omega
                have d3' : ¬ M2 - D < 2 * icl := by omega
                have d4' : ¬ P1 - M1 - C < 2 * icl := by omega
                have d5' : ¬ P2 - M2 - D < 2 * icl := by omega
                have hkk : (k : Int) < (k : Int) + 1 := by omega
                have hwk : weightL ((feetV ss [] ⟨1, b2, b3, b4, b5, b6⟩ xs).take (k + 1)) = t0 + fg := by rw [weightL_snoc (by rw [HFL.out]; exact hlt), HT0.out, (List.getElem?_eq_some_iff.1 HFX.out).2]
                have HWK := hid hwk; clear hwk hwl hv1 hv2
                have x_h3 := fun x : BW w4 => bkeep x.below h3
                have x_h4 := fun x : BW w4 => bkeep x.below h4
                have x_h5 := fun x : BW w4 => bkeep x.below h5
                have x_h6 := fun x : BW w4 => bkeep x.below h6
                have x_c9 := fun x : BW w4 => bkeep x.below c9
                have x_s0 := fun x : BW w4 => bkeep x.below s0
                have x_s1 := fun x : BW w4 => bkeep x.below s1
                refine wp_region_qb (by kernel_rfl) (lexAs (l' := regionOf Try.f3 39) (by kernel_rfl) lex39) fun hc => ?_
                repeat (go_big_quiet_step (fail))
                refine wpQuiet_nil ?_; intro w5 hb
                clear hc x_h3 x_h4 x_h5 x_h6 x_c9 x_s0 x_s1
                replace hb10 := bnext (w := v3) hb10 hb
                replace hA5 := hA5.next hb
                go_wp2_with fail
                go_roundw
                case rel => exact ⟨k + 1, ms ++ [(M1, M2)], ls ++ [(C, D)], T, by omega, by go_num, rfl, hA5, HPI2.out, by rw [HWK.out]; omega, hb10⟩
                case measure => first | (simp [intOf]; done) | (simp [intOf]; omega)
      · as_aux_lemma =>
          obtain rfl : k = xs.length := by omega
          obtain ⟨hmk, hlk⟩ := hpi.1
          have ho1 := hA.own1; rw [hmk] at ho1
          have ho2 := hA.own2; rw [hlk] at ho2
          obtain ⟨ma, mc, rfl, -⟩ := owns_shape ho1
          obtain ⟨la, lc, rfl, -⟩ := owns_shape ho2
          have hsmall := piles_small HX.out HFL.out HQL.out (Nat.le_refl _) HCL.out HP.out.2.1 hpi
          have hr1 := hA.rows1 (fun m hm => ⟨I64.mk (by have := hsmall.1 m hm; omega) (by have := hsmall.1 m hm; omega), I64.mk (by have := hsmall.1 m hm; omega) (by have := hsmall.1 m hm; omega)⟩)
          have hr2 := hA.rows2 (fun m hm => ⟨I64.mk (by have := hsmall.2 m hm; omega) (by have := hsmall.2 m hm; omega), I64.mk (by have := hsmall.2 m hm; omega) (by have := hsmall.2 m hm; omega)⟩)
          have ht6 : t ≤ b6 := by
            have h := HP.out.1.2
            have h2 := ht.2
            rw [List.take_of_length_le (by rw [HFL.out]; exact Nat.le_refl _)] at h2
            (try dsimp only at h)
            omega
          have HT6 := hid ht6; have HPI := hid hpi; have HSM := hid hsmall; have HMK := hid hmk; have HLK := hid hlk; clear ht6 hpi hsmall hmk hlk ho1 ho2 hA ht HN1 HN2
          have hi9 := hi.below hb1
          have q99 := bkeep hb1 q7
          have qi := bkeep hb1 q8
          obtain ⟨v10, hv10⟩ : ∃ v, v = wr := ⟨_, rfl⟩
          subst hv10
          go_wp2_with fail
          go_loopw [280] (fun iv wr => ∃ i : Nat, i ≤ xs.length ∧ iv = .int .i64 i ∧ Below v10.heap.size v10 wr) (fun iv _ => xs.length - (intOf iv).toNat)
          case atStart => exact ⟨0, Nat.zero_le _, rfl, Below.refl _ _⟩
          case round =>
            obtain ⟨i, hi2, rfl, hb11⟩ := hrel
            by_cases hlt2 : i < xs.length
            · have hil : (i : Int) < (xs.length : Int) := by omega
              go_wp2_with fail
              go_loopw [27] (fun kv wr => ∃ j : Nat, j ≤ i ∧ kv = .int .i64 j ∧ Below v10.heap.size v10 wr) (fun kv _ => i - (intOf kv).toNat)
              case atStart => exact ⟨0, Nat.zero_le _, rfl, hb11⟩
              case round =>
                obtain ⟨j, hj, rfl, hb12⟩ := hrel
                by_cases hlt3 : j < i
                · have hjl : (j : Int) < (i : Int) := by omega
                  have hjx : (j : Int) < (xs.length : Int) := by omega
                  obtain ⟨x1, hx1⟩ : ∃ x, xs[i]? = some x := ⟨_, List.getElem?_eq_getElem (by omega)⟩
                  obtain ⟨m1, hm1⟩ : ∃ m, ms[i]? = some m := ⟨_, List.getElem?_eq_getElem (by rw [HMK.out]; omega)⟩
                  obtain ⟨g1, hg1⟩ : ∃ m, ls[i]? = some m := ⟨_, List.getElem?_eq_getElem (by rw [HLK.out]; omega)⟩
                  obtain ⟨f1, hf1⟩ : ∃ f, (feetV ss [] ⟨1, b2, b3, b4, b5, b6⟩ xs)[i]? = some f := ⟨_, List.getElem?_eq_getElem (by rw [HFL.out]; omega)⟩
                  obtain ⟨o1, ho1⟩ : ∃ q, qs[i]? = some q := ⟨_, List.getElem?_eq_getElem (by rw [HQL.out]; omega)⟩
                  have pa1 := HPI.out.2 _ _ _ _ _ _ hm1 hg1 hf1 ho1 hx1
                  have pl1 := HP.out.2.1 _ _ _ hf1 ho1
                  have cb1 : 0 ≤ x1.clear ∧ x1.clear ≤ 50 := by obtain ⟨_, _, _, _, _, _, h⟩ := good_item HG.out HX.out (List.all_eq_true.1 HALL.out _ (List.mem_of_getElem? hx1)); exact h
                  have sm1 := HSM.out.1 _ (List.mem_of_getElem? hm1)
                  have sg1 := HSM.out.2 _ (List.mem_of_getElem? hg1)
                  obtain ⟨x2, hx2⟩ : ∃ x, xs[j]? = some x := ⟨_, List.getElem?_eq_getElem (by omega)⟩
                  obtain ⟨m2, hm2⟩ : ∃ m, ms[j]? = some m := ⟨_, List.getElem?_eq_getElem (by rw [HMK.out]; omega)⟩
                  obtain ⟨g2, hg2⟩ : ∃ m, ls[j]? = some m := ⟨_, List.getElem?_eq_getElem (by rw [HLK.out]; omega)⟩
                  obtain ⟨f2, hf2⟩ : ∃ f, (feetV ss [] ⟨1, b2, b3, b4, b5, b6⟩ xs)[j]? = some f := ⟨_, List.getElem?_eq_getElem (by rw [HFL.out]; omega)⟩
                  obtain ⟨o2, ho2⟩ : ∃ q, qs[j]? = some q := ⟨_, List.getElem?_eq_getElem (by rw [HQL.out]; omega)⟩
                  have pa2 := HPI.out.2 _ _ _ _ _ _ hm2 hg2 hf2 ho2 hx2
                  have pl2 := HP.out.2.1 _ _ _ hf2 ho2
                  have cb2 : 0 ≤ x2.clear ∧ x2.clear ≤ 50 := by obtain ⟨_, _, _, _, _, _, h⟩ := good_item HG.out HX.out (List.all_eq_true.1 HALL.out _ (List.mem_of_getElem? hx2)); exact h
                  have sm2 := HSM.out.1 _ (List.mem_of_getElem? hm2)
                  have sg2 := HSM.out.2 _ (List.mem_of_getElem? hg2)
                  have hap := pa2.apart HX.out pl2 pl1 pa1 (HP.out.2.2 _ _ _ _ _ _ hlt3 hf2 ho2 hf1 ho1)
                  obtain ⟨am1, ham1, um1, wm1⟩ := pair_at (hr1.below hb12) HMK.out hm1
                  obtain ⟨ag1, hag1, ug1, wg1⟩ := pair_at (hr2.below hb12) HLK.out hg1
                  obtain ⟨ai1, hai1, ui1⟩ := item_at (hi9.below hb12) hx1
                  obtain ⟨am2, ham2, um2, wm2⟩ := pair_at (hr1.below hb12) HMK.out hm2
                  obtain ⟨ag2, hag2, ug2, wg2⟩ := pair_at (hr2.below hb12) HLK.out hg2
                  obtain ⟨ai2, hai2, ui2⟩ := item_at (hi9.below hb12) hx2
                  subst ham1; subst hag1; subst hai1
                  injection ham2 with ham2; injection hag2 with hag2; injection hai2 with hai2
                  subst ham2; subst hag2; subst hai2
                  clear hx1 hm1 hg1 hf1 ho1 pa1 pl1
                  obtain ⟨_, _, cl1⟩ := x1
                  obtain ⟨ma1, mb1⟩ := m1
                  obtain ⟨ga1, gb1⟩ := g1
                  dsimp only at cb1 sm1 sg1 um1 wm1 ug1 wg1 ui1
                  clear hx2 hm2 hg2 hf2 ho2 pa2 pl2
                  obtain ⟨_, _, cl2⟩ := x2
                  obtain ⟨ma2, mb2⟩ := m2
                  obtain ⟨ga2, gb2⟩ := g2
                  dsimp only at cb2 sm2 sg2 um2 wm2 ug2 wg2 ui2
                  dsimp only at hap
                  obtain ⟨bx, hbx⟩ : ∃ b, (decide (ma1 + ga1 + 2 * (cl1 + cl2) ≤ ma2 - ga2) || decide (ma2 + ga2 + 2 * (cl1 + cl2) ≤ ma1 - ga1)) = b := ⟨_, rfl⟩
                  obtain ⟨byy, hby⟩ : ∃ b, (decide (mb1 + gb1 + 2 * (cl1 + cl2) ≤ mb2 - gb2) || decide (mb2 + gb2 + 2 * (cl1 + cl2) ≤ mb1 - gb1)) = b := ⟨_, rfl⟩
                  have hbb : bx = true ∨ byy = true := by
                    rw [← hbx, ← hby, Bool.or_eq_true, Bool.or_eq_true, decide_eq_true_eq, decide_eq_true_eq, decide_eq_true_eq, decide_eq_true_eq]
                    omega
                  have HBX := hid hbx; have HBY := hid hby; clear hbx hby hap
                  have qf := bkeep hb12 qi
                  go_upto_region 48 with fail
                  have x_ui1 := fun x : BW wr => bkeep x.below ui1
                  have x_ui2 := fun x : BW wr => bkeep x.below ui2
                  have x_qf := fun x : BW wr => bkeep x.below qf
                  refine wp_region_qb (by kernel_rfl) (lexAs (l' := regionOf Try.f3 48) (by kernel_rfl) lex48) fun hc => ?_
                  repeat (go_big_quiet_step (fail))
                  refine wpQuiet_nil ?_; intro w1 hb
                  clear hc x_ui1 x_ui2 x_qf
                  replace hb12 := bnext (w := v10) hb12 hb
                  replace um1 := bkeep hb um1
                  replace wm1 := bkeep hb wm1
                  replace ug1 := bkeep hb ug1
                  replace wg1 := bkeep hb wg1
                  replace um2 := bkeep hb um2
                  replace wm2 := bkeep hb wm2
                  replace ug2 := bkeep hb ug2
                  replace wg2 := bkeep hb wg2
                  clear hb ui1 ui2 qf
                  obtain ⟨w2, hw2⟩ : ∃ v, v = w1 := ⟨_, rfl⟩
                  subst hw2
                  go_upto_region 49 with fail
                  have x_um1 := fun x : BW w2 => bkeep x.below um1
                  have x_wm1 := fun x : BW w2 => bkeep x.below wm1
                  have x_ug1 := fun x : BW w2 => bkeep x.below ug1
                  have x_wg1 := fun x : BW w2 => bkeep x.below wg1
                  have x_um2 := fun x : BW w2 => bkeep x.below um2
                  have x_wm2 := fun x : BW w2 => bkeep x.below wm2
                  have x_ug2 := fun x : BW w2 => bkeep x.below ug2
                  have x_wg2 := fun x : BW w2 => bkeep x.below wg2
                  cases bx
                  · have hyt : byy = true := by simpa using hbb
                    subst hyt
                    refine wp_region_qb (by kernel_rfl) (lexAs (l' := regionOf Try.f3 49) (by kernel_rfl) lex49) fun hc => ?_
                    repeat (go_big_quiet_step ((go_at_call 12; first | (exact BW.call _ (apart_b HBX.out (by omega) (by omega) (by omega) (by omega) (by omega))) | (exact BW.call _ (apart_b HBY.out (by omega) (by omega) (by omega) (by omega) (by omega))))))
                    refine wpQuiet_nil ?_; intro w3 hb
                    replace hb12 := bnext (w := v10) hb12 hb
                    go_wp2_with fail
                    go_roundw
                    case rel => exact ⟨j + 1, by omega, by go_num, hb12⟩
                    case measure => first | (simp [intOf]; done) | (simp [intOf]; omega)
                  · refine wp_region_qb (by kernel_rfl) (lexAs (l' := regionOf Try.f3 49) (by kernel_rfl) lex49) fun hc => ?_
                    repeat (go_big_quiet_step ((go_at_call 12; exact BW.call _ (apart_b HBX.out (by omega) (by omega) (by omega) (by omega) (by omega)))))
                    refine wpQuiet_nil ?_; intro w3 hb
                    replace hb12 := bnext (w := v10) hb12 hb
                    go_wp2_with fail
                    go_roundw
                    case rel => exact ⟨j + 1, by omega, by go_num, hb12⟩
                    case measure => first | (simp [intOf]; done) | (simp [intOf]; omega)
                · go_wp2_with fail
                  go_roundw
                  case rel => exact ⟨i + 1, by omega, by go_num, hb12⟩
                  case measure => first | (simp [intOf]; done) | (simp [intOf]; omega)
            · have qz := bkeep hb11 q99
              have ht7 := HT6.out
              have ht8 : ¬ b6 < t := by omega
              replace hb0 := bnext (w := w) (bnext (w := w) hb0 hb1) hb11
              go_wp2_with (go_at_call 6; refine sane_any.mono ?_; rintro e w9 ⟨rfl, hb9⟩; replace hb0 := bnext (w := w) hb0 hb9)
              go_ret
              exact ⟨rfl, hb0⟩

end Go.Proofs.Ytodmidchpbcnpaa
