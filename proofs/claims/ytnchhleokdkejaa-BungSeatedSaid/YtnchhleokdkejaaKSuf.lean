/- What the laws' inputs are: shapes that are well made, items of one piece of them. -/
import Derived.Test.YtnchhleokdkejaaKLibDf
import Derived.Test.YtnchhleokdkejaaKScf
import Derived.Shelf.Small.Bits
import Derived.Shelf.SlSortCmp.Whole1
import Derived.Ground.SlsfProg
import Derived.Test.YtnchhleokdkejaaProg
import Derived.RangeFuncNested
import Derived.RangeFuncBound
import Derived.Test.YtnchhleokdkejaaKLibf
import Derived.Sort.CutIn
import Derived.RangeFuncCalls
import Derived.RangeFuncLeaves
import Derived.Shelf.RegionOpen
import Derived.OwnWalkIn
import Derived.TacticsInMore
import Derived.LoopNIn
import Derived.LoopIn
import Derived.WalkMore
namespace Go.Pb.Sag
open Go Go.Pb Go.Pb.Ware Go.RowKit
set_option linter.unusedVariables false
/-- Shapes with the numbers 1, 2, .. -/
def GoodS (ss : List (List Int)) : Prop := ss.length ≤ 40 ∧ ∀ (k : Nat) r, ss[k]? = some r → r.length = 11 ∧ r.getD 0 0 = (k : Int) + 1 ∧ okS r = true
end Go.Pb.Sag

/- What making a floor holds in memory. -/
namespace Go.Pb.Sag
open Go Go.Pb Go.Pb.Ware Go.RowKit
set_option linter.unusedVariables false
theorem cells_store {W : World} {B o : Nat} {u : Value} {vs : List Value} (h : CellsAt W B vs) : CellsAt (W.setCell ⟨B, o, none⟩ u) B (vs.set o u) := by
  intro j v hv
  by_cases hj : j = o
  · subst hj
    have hl : j < vs.length := by have := (List.getElem?_eq_some_iff.1 hv).1; simpa using this
    rw [List.getElem?_set_self hl] at hv
    injection hv with hv
    subst hv
    have h1 := h j _ (List.getElem?_eq_getElem hl)
    exact ⟨setc_same h1.1, set_free h1.1 h1.2⟩
  · rw [List.getElem?_set_ne (Ne.symm hj)] at hv
    have h1 := h j v hv
    exact ⟨setc_other h1.1 hj, set_free h1.1 h1.2⟩
theorem cells_grown {W W' : World} {B : Nat} {vs : List Value} {row : Option Nat} (h : CellsAt W B vs) (hg : W.grownBy W' row) (hne : some B ≠ row) : CellsAt W' B vs :=
  fun o v hv => ⟨grown_kept hg (h o v hv).1 hne, grown_free hg (h o v hv).1 (h o v hv).2 hne⟩
def Z9 : List Value := [.slice none 0 0, .slice none 0 0, .int .i64 0, .int .i64 0, .int .i64 0, .int .i64 0, .int .i64 0, .int .i64 0, .slice none 0 0]
/-- The argument's block, the answer's, the floor's (with shapes and items that are the call's own). -/
structure MadeAt (TS TI B : Nat) (w : World) (args : List Value) (c : List Int) (sv iv : Value) (ss : List (List Int)) (xs : List It) (W : World) : Prop where
  below : Below B w W
  size : B + 1 + 1 + 1 ≤ W.heap.size
  arg : CellsAt W B args
  res : CellsAt W (B + 1) Z9
  floor : CellsAt W (B + 1 + 1) (sv :: .slice none 0 0 :: (c.map (Value.int .i64) ++ [iv]))
  clen : c.length = 6
  shapes : W.ownsRow (B + 1 + 1 + 1) TS 11 sv ss.length (ss.flatten.map (Value.int .i64))
  items : W.ownsRow (B + 1 + 1 + 1) TI 3 iv xs.length ((xs.map rowX).flatten.map (Value.int .i64))
theorem MadeAt.next {TS TI B : Nat} {w W W' : World} {args : List Value} {c : List Int} {sv iv : Value} {ss : List (List Int)} {xs : List It} (h : MadeAt TS TI B w args c sv iv ss xs W) (hb : Below W.heap.size W W') : MadeAt TS TI B w args c sv iv ss xs W' :=
  ⟨h.below.trans (hb.mono (by have := h.size; omega)), by have := hb.size; have := h.size; omega, h.arg.below hb, h.res.below hb, h.floor.below hb, h.clen, owns_below h.shapes hb, owns_below h.items hb⟩
theorem own_ne {W : World} {lo T s n b : Nat} {v : Value} {xs : List Value} (h : W.ownsRow lo T s v n xs) (hb : b < lo) : some b ≠ v.ownBlock := fun e => by
  have := own_ge h b e.symm; omega
theorem own_ne' {W : World} {lo T s n b : Nat} {v : Value} {xs : List Value} (h : W.ownsRow lo T s v n xs) (hb : b < lo) : v.ownBlock = none ∨ v.ownBlock ≠ some b := .inr fun e => own_ne h hb e.symm
/-- One shape more, and its store. -/
theorem MadeAt.push {TS TI B : Nat} {w W W' : World} {args : List Value} {c : List Int} {sv sv' iv : Value} {ss : List (List Int)} {xs : List It} {r : List Int} (h : MadeAt TS TI B w args c sv iv ss xs W) (hT : TI ≠ TS) (hg : W.grownBy W' sv.ownBlock)
    (ho : W'.ownsRow (B + 1 + 1 + 1) TS 11 sv' (ss.length + 1) (ss.flatten.map (Value.int .i64) ++ r.map (Value.int .i64))) : MadeAt TS TI B w args c sv' iv (ss ++ [r]) xs (W'.setCell ⟨B + 1 + 1, 0, none⟩ sv') := by
  have h0 := h.size
  have e1 : (ss ++ [r]).length = ss.length + 1 := by simp
  have e2 : (ss ++ [r]).flatten.map (Value.int .i64) = ss.flatten.map (Value.int .i64) ++ r.map (Value.int .i64) := by simp
  refine ⟨(Pb.below_grown h.below hg h.shapes (by omega) (by omega)).setCell (p := ⟨B + 1 + 1, 0, none⟩) (by show B ≤ B + 1 + 1; omega) _, by have := hg.size; simp; omega, (cells_grown h.arg hg (own_ne h.shapes (by omega))).other (by omega) _, (cells_grown h.res hg (own_ne h.shapes (by omega))).other (by omega) _, ?_, h.clen, ?_, ?_⟩
  · exact cells_store (cells_grown h.floor hg (own_ne h.shapes (by omega)))
  · rw [e1, e2]; exact set_own ho (own_ne' ho (by omega))
  · exact set_own (h.items.kept hg (apart_types h.items h.shapes hT)) (own_ne' h.items (by omega))
/-- One item more, and its store. -/
theorem MadeAt.add {TS TI B : Nat} {w W W' : World} {args : List Value} {c : List Int} {sv iv iv' : Value} {ss : List (List Int)} {xs : List It} {x : It} (h : MadeAt TS TI B w args c sv iv ss xs W) (hT : TS ≠ TI) (hg : W.grownBy W' iv.ownBlock)
    (ho : W'.ownsRow (B + 1 + 1 + 1) TI 3 iv' (xs.length + 1) ((xs.map rowX).flatten.map (Value.int .i64) ++ (rowX x).map (Value.int .i64))) : MadeAt TS TI B w args c sv iv' ss (xs ++ [x]) (W'.setCell ⟨B + 1 + 1, 8, none⟩ iv') := by
  have h0 := h.size
  have e1 : (xs ++ [x]).length = xs.length + 1 := by simp
  have e2 : ((xs ++ [x]).map rowX).flatten.map (Value.int .i64) = (xs.map rowX).flatten.map (Value.int .i64) ++ (rowX x).map (Value.int .i64) := by simp
  refine ⟨(Pb.below_grown h.below hg h.items (by omega) (by omega)).setCell (p := ⟨B + 1 + 1, 8, none⟩) (by show B ≤ B + 1 + 1; omega) _, by have := hg.size; simp; omega, (cells_grown h.arg hg (own_ne h.items (by omega))).other (by omega) _, (cells_grown h.res hg (own_ne h.items (by omega))).other (by omega) _, ?_, h.clen, ?_, ?_⟩
  · have h1 := cells_store (o := 8) (u := iv') (cells_grown h.floor hg (own_ne h.items (by omega)))
    match c, h.clen, h1 with
    | [c1, c2, c3, c4, c5, c6], _, h1 => exact h1
  · exact set_own (h.shapes.kept hg (apart_types h.shapes h.items hT)) (own_ne' h.shapes (by omega))
  · rw [e1, e2]; exact set_own ho (own_ne' ho (by omega))
theorem own_set {W : World} {lo T n s cap g k : Nat} {xs : List Value} {v : Value} (h : W.ownsRow lo T s (.slice (some ⟨g, 0, none⟩) n cap) n xs) : (W.setCell ⟨g, k, none⟩ v).ownsRow lo T s (.slice (some ⟨g, 0, none⟩) n cap) n (xs.set k v) := by
  refine ⟨by rw [List.length_set]; exact h.1, ?_⟩
  rcases h.2 with ⟨h1, _⟩ | ⟨g', cap', cur, h1, h2, h3, h4, h5, h6, h7⟩
  · cases h1
  · injection h1 with e1 _ e2
    injection e1 with e1
    injection e1 with e1
    subst e1; subst e2
    refine .inr ⟨g, cap, cur.setIfInBounds k v, rfl, h2, ?_, h4, h5, by rw [Array.size_setIfInBounds]; exact h6, ?_⟩
    · rw [Go.Sort.setCell_eq]
      unfold Go.Sort.mapBlock
      rw [Array.getElem?_modify, if_pos rfl, h3]; rfl
    · rw [Array.toList_setIfInBounds, List.take_set, h7]
theorem MadeAt.lt {TS TI B : Nat} {w W : World} {args : List Value} {c : List Int} {sv iv : Value} {ss : List (List Int)} {xs : List It} (h : MadeAt TS TI B w args c sv iv ss xs W) : (∀ a, sv.ownBlock = some a → a < W.heap.size) ∧ ∀ a, iv.ownBlock = some a → a < W.heap.size :=
  ⟨fun a e => (World.ownsRow.lt h.shapes a e).2, fun a e => (World.ownsRow.lt h.items a e).2⟩
theorem goodS_i64 {ss : List (List Int)} (h : GoodS ss) : ∀ r ∈ ss, r.length = 11 ∧ ∀ z ∈ r, I64 z := by
  intro r hr
  obtain ⟨k, hk⟩ := List.getElem?_of_mem hr
  obtain ⟨h1, _, h3⟩ := h.2 k r hk
  refine ⟨h1, ?_⟩
  obtain ⟨a0, a1, a2, a3, a4, a5, a6, a7, a8, a9, a10, rfl⟩ := len11 h1
  have h4 := shOk_iff.1 h3
  simp only [shR, List.getD_cons_zero, List.getD_cons_succ] at h4
  intro z hz
  simp only [List.mem_cons, List.not_mem_nil, or_false] at hz
  rcases hz with rfl | rfl | rfl | rfl | rfl | rfl | rfl | rfl | rfl | rfl | rfl <;> exact I64.mk (by omega) (by omega)
theorem MadeAt.rows {TS TI B : Nat} {w W : World} {args : List Value} {c : List Int} {sv iv : Value} {ss : List (List Int)} {xs : List It} (h : MadeAt TS TI B w args c sv iv ss xs W) (hg : GoodS ss) : RowsAt 11 W sv ss :=
  rowsAt_of_owns (rows := ss) (fun r hr => (goodS_i64 hg r hr).1) h.shapes (fun r hr => (goodS_i64 hg r hr).2)
end Go.Pb.Sag

/- A region that draws its order: loads that nothing disturbs are run first; then each order of the rest, in worlds told exactly. -/
namespace Go.Pb
set_option linter.unusedVariables false
open Go Go.RowKit
section
variable {P : Program} {md : Region.Mode} {ops : Array Oper} {Q : Exit → Act → World → Prop} {C : World → Prop}
theorem wpAnyC_pair {n r s : Nat} {o1 o2 : Oper} {L : Array Bool} {a : Act} {w : World} (hC : C w) (hr : Region.ready md ops L = [r, s]) (ho1 : ops[r]? = some o1) (hw1 : Region.wanted o1 (yielded ops a.tmps) = true) (ho2 : ops[s]? = some o2) (hw2 : Region.wanted o2 (yielded ops a.tmps) = true)
    (h1 : ∀ K : Act → World → Prop, (∀ a' w', wpAnyC P md ops Q C n (L.setIfInBounds r true) a' w' → K a' w') → o1.wp P a w K Q)
    (h2 : ∀ K : Act → World → Prop, (∀ a' w', wpAnyC P md ops Q C n (L.setIfInBounds s true) a' w' → K a' w') → o2.wp P a w K Q) : wpAnyC P md ops Q C (n + 1) L a w := by
  refine ⟨hC, fun h0 => (by rw [hr] at h0; cases h0), fun i hi => ?_⟩
  rw [hr] at hi
  simp only [List.mem_cons, List.not_mem_nil, or_false] at hi
  rcases hi with rfl | rfl
  · unfold wpOp; simp only [ho1, hw1, if_true]; exact .inl (h1 _ fun _ _ h => h)
  · unfold wpOp; simp only [ho2, hw2, if_true]; exact .inl (h2 _ fun _ _ h => h)
end
theorem wp_region_H {P : Program} {id : Nat} {Q : Exit → Act → World → Prop} {a : Act} {w : World} {l : List Oper} (C : World → Prop) (hC : C w.drew) (fs : List Nat) (g : Nat)
    (hF : (Region.noSelect l.toArray && firstB .any l.toArray fs (Array.replicate l.length false)) = true) (hm : P.follows .mixedOrders = true) (hn : fs.length + g = l.length)
    (h : wpFirstC P l.toArray C fs (fun a => wpAnyC P .any l.toArray (Only Q) C g (mark fs (Array.replicate l.length false)) a w.drew) a) :
    (Code.region id l.toArray true).wp P Q a w := by
  refine wp_region_any hm (wpAny_only ?_)
  simp only [Bool.and_eq_true] at hF
  have h1 := wpFirstC_any (P := P) (Q := Q) (md := .any) (C := C) hF.1 (w := w.drew) hC (n := g) fs (Array.replicate l.length false) a hF.2 (fun a h => h) h
  rw [hn] at h1
  simpa using wpAnyC_any h1
/-! A struct of eight cells that is stored. -/
abbrev put8 (v : World) (b : Nat) (x0 x1 x2 x3 x4 x5 x6 x7 : Value) : World := ((((((((v.setCell ⟨b, 0, none⟩ x0).setCell ⟨b, 1, none⟩ x1).setCell ⟨b, 2, none⟩ x2).setCell ⟨b, 3, none⟩ x3).setCell ⟨b, 4, none⟩ x4).setCell ⟨b, 5, none⟩ x5).setCell ⟨b, 6, none⟩ x6).setCell ⟨b, 7, none⟩ x7)
theorem put8_gr {b : Nat} {w v : World} {x0 x1 x2 x3 x4 x5 x6 x7 : Value} (h : Gr w v) (hb : w.heap.size ≤ b) : Gr w (put8 v b x0 x1 x2 x3 x4 x5 x6 x7) := ((((((((h.setCell (p := ⟨b, 0, none⟩) hb _).setCell (p := ⟨b, 1, none⟩) hb _).setCell (p := ⟨b, 2, none⟩) hb _).setCell (p := ⟨b, 3, none⟩) hb _).setCell (p := ⟨b, 4, none⟩) hb _).setCell (p := ⟨b, 5, none⟩) hb _).setCell (p := ⟨b, 6, none⟩) hb _).setCell (p := ⟨b, 7, none⟩) hb _)
theorem put8_cells {b : Nat} {v : World} {z0 z1 z2 z3 z4 z5 z6 z7 x0 x1 x2 x3 x4 x5 x6 x7 : Value} (h : CellsAt v b [z0, z1, z2, z3, z4, z5, z6, z7]) : CellsAt (put8 v b x0 x1 x2 x3 x4 x5 x6 x7) b [x0, x1, x2, x3, x4, x5, x6, x7] := (Sag.cells_store (o := 7) (u := x7) (Sag.cells_store (o := 6) (u := x6) (Sag.cells_store (o := 5) (u := x5) (Sag.cells_store (o := 4) (u := x4) (Sag.cells_store (o := 3) (u := x3) (Sag.cells_store (o := 2) (u := x2) (Sag.cells_store (o := 1) (u := x1) (Sag.cells_store (o := 0) (u := x0) h))))))))
theorem put8_other {b b' : Nat} {v : World} {x0 x1 x2 x3 x4 x5 x6 x7 : Value} {zs : List Value} (h : CellsAt v b' zs) (hne : b' ≠ b) : CellsAt (put8 v b x0 x1 x2 x3 x4 x5 x6 x7) b' zs := (CellsAt.other (CellsAt.other (CellsAt.other (CellsAt.other (CellsAt.other (CellsAt.other (CellsAt.other (CellsAt.other h hne _) hne _) hne _) hne _) hne _) hne _) hne _) hne _)
end Go.Pb

/- What the setter's rule says of two saggars. -/
namespace Go.Proofs.Ytnchhleokdkejaa
open Go.RowKit Go.Pb Go.Pb.Ware Go.Pb.Sag
set_option linter.unusedVariables false
set_option linter.unusedSimpArgs false

open Go.Pb.Bung
theorem isNaN_any {w : World} {x : Int} : Calls Try.prog 144 #[.int .i64 x] w (fun e w' => e = .returned (.bool false) ∧ w' = w) := by
  go_enter Try.func144, Try.ntmps144
  go_wp2
  go_ret
  exact ⟨ret_bool (by simp [bne, BEq.beq]), rfl⟩
set_option maxHeartbeats 400000 in
theorem compare_any {w : World} {x y : Int} : Calls Try.prog 132 #[.int .i64 x, .int .i64 y] w (fun e w' => e = .returned (.int .i64 (Lib.compareInt x y)) ∧ w' = w) := by
  by_cases h1 : x < y
  · have hr : Lib.compareInt x y = -1 := by unfold Lib.compareInt; rw [if_pos h1]
    rw [hr]
    go_enter Try.func132, Try.ntmps132
    go_wp2_with (go_at_call 144; refine isNaN_any.mono ?_; rintro e w1 ⟨rfl, rfl⟩)
    go_ret
    exact ⟨rfl, rfl⟩
  by_cases h2 : x > y
  · have h3 : y < x := h2
    have hr : Lib.compareInt x y = 1 := by unfold Lib.compareInt; rw [if_neg h1, if_pos h2]
    rw [hr]
    go_enter Try.func132, Try.ntmps132
    go_wp2_with (go_at_call 144; refine isNaN_any.mono ?_; rintro e w1 ⟨rfl, rfl⟩)
    go_ret
    exact ⟨rfl, rfl⟩
  · have h3 : ¬ y < x := h2
    have hr : Lib.compareInt x y = 0 := by unfold Lib.compareInt; rw [if_neg h1, if_neg h2]
    rw [hr]
    go_enter Try.func132, Try.ntmps132
    go_wp2_with (go_at_call 144; refine isNaN_any.mono ?_; rintro e w1 ⟨rfl, rfl⟩)
    go_ret
    exact ⟨rfl, rfl⟩
set_option maxHeartbeats 400000 in
theorem or_any {w : World} {x y r : Int} {g : Nat} (h0 : w.cell? ⟨g, 0, none⟩ = some (.int .i64 x)) (h1 : w.cell? ⟨g, 1, none⟩ = some (.int .i64 y)) (hr : (if x ≠ 0 then x else y) = r) : Calls Try.prog 131 #[.slice (some ⟨g, 0, none⟩) 2 2] w (fun e w' => e = .returned (.int .i64 r) ∧ w' = w) := by
  by_cases hx : x = 0
  · subst hx
    rw [if_neg (by simp)] at hr
    subst hr
    by_cases hy : y = 0
    · subst hy
      go_enter Try.func131, Try.ntmps131
      go_wp2_with fail
      refine wp_loop_rounds 3 ?_
      rw [rounds_succ]
      go_wp2_with fail
      rw [rounds_succ]
      go_wp2_with fail
      rw [rounds_succ]
      go_wp2_with fail
      go_ret
      exact ⟨rfl, rfl⟩
    · have hyb : (y != 0) = true := by simpa using hy
      go_enter Try.func131, Try.ntmps131
      go_wp2_with fail
      refine wp_loop_rounds 2 ?_
      rw [rounds_succ]
      go_wp2_with fail
      rw [rounds_succ]
      go_wp2_with fail
      go_ret
      exact ⟨rfl, rfl⟩
  · rw [if_pos hx] at hr
    subst hr
    have hxb : (x != 0) = true := by simpa using hx
    go_enter Try.func131, Try.ntmps131
    go_wp2_with fail
    refine wp_loop_rounds 1 ?_
    rw [rounds_succ]
    go_wp2_with fail
    go_ret
    exact ⟨rfl, rfl⟩

theorem listD {w w' : World} {n : Nat} {cs : List Value} {t : TypeId} (hb : Gr w w') : Gr w' (w'.alloc (.cells cs.toArray t)) ∧ NewList w.heap.size n cs (.slice (some ⟨w'.heap.size, 0, none⟩) n n) (w'.alloc (.cells cs.toArray t)) :=
  ⟨(Gr.refl _).alloc _, (list_of hb.b).2⟩

theorem sg_small {s : Sg} (h : sgOk s = true) : (0 ≤ s.wl ∧ s.wl ≤ 10000000) ∧ (0 ≤ s.wh ∧ s.wh ≤ 10000000) ∧ (0 ≤ s.bl ∧ s.bl ≤ 10000000) ∧ (0 ≤ s.bh ∧ s.bh ≤ 10000000) := by
  unfold sgOk at h
  simp only [Bool.and_eq_true, btw_iff, rgOk] at h
  simp only [decide_eq_true_eq, Bool.and_eq_true] at h
  omega
set_option maxRecDepth 100000 in
set_option maxHeartbeats 1000000 in
theorem ruleCmp_any {w : World} {X i j : Nat} {lv : Value} {l : List Sg} (hX : w.cell? ⟨X, 0, none⟩ = some lv) (h : RowsAt 8 w lv (l.map rowG)) (hok : ∀ s ∈ l, sgOk s = true) (hi : i < l.length) (hj : j < l.length) :
    Calls Try.prog 130 #[.int .i64 (i : Int), .int .i64 (j : Int), .pointer (some ⟨X, 0, none⟩)] w (fun e w' => e = .returned (.int .i64 (cmpR l i j)) ∧ Gr w w') := by
  obtain ⟨a, cap, rfl, hll⟩ := h.shape
  rw [List.length_map] at h hll hX
  obtain ⟨x, hx⟩ : ∃ s, l[i]? = some s := ⟨_, List.getElem?_eq_getElem hi⟩
  obtain ⟨y, hy⟩ : ∃ s, l[j]? = some s := ⟨_, List.getElem?_eq_getElem hj⟩
  have hcm : cmpR l i j = (if Lib.compareInt (keyG y) (keyG x) ≠ 0 then Lib.compareInt (keyG y) (keyG x) else Lib.compareInt x.id y.id) := by unfold cmpR atG; rw [List.getD_eq_getElem?_getD, List.getD_eq_getElem?_getD, hx, hy]; rfl
  have bx := sg_small (hok x (List.mem_of_getElem? hx)); have by_ := sg_small (hok y (List.mem_of_getElem? hy))
  obtain ⟨a', ha, u0, hcx, -⟩ := sg_row h hx
  subst ha
  obtain ⟨b', hb', v0, hcy, -⟩ := sg_row h hy
  obtain rfl : a' = b' := by injection hb'
  obtain ⟨n, hn⟩ : ∃ n, l.length = n := ⟨_, rfl⟩
  rw [hn] at h hll hX hi hj
  have hii : (i : Int) < (n : Int) := by omega
  have hjj : (j : Int) < (n : Int) := by omega
  clear h hn hx hy hok
  obtain ⟨xid, xwl, xwh, xbl, xbh, xhl, xhh, xti⟩ := x
  obtain ⟨yid, ywl, ywh, ybl, ybh, yhl, yhh, yti⟩ := y
  have u1 := hcx 1 _ (by decide) rfl; have v1 := hcy 1 _ (by decide) rfl
  have u2 := hcx 2 _ (by decide) rfl; have v2 := hcy 2 _ (by decide) rfl
  have u3 := hcx 3 _ (by decide) rfl; have v3 := hcy 3 _ (by decide) rfl
  have u4 := hcx 4 _ (by decide) rfl; have v4 := hcy 4 _ (by decide) rfl
  have u5 := hcx 5 _ (by decide) rfl; have v5 := hcy 5 _ (by decide) rfl
  have u6 := hcx 6 _ (by decide) rfl; have v6 := hcy 6 _ (by decide) rfl
  have u7 := hcx 7 _ (by decide) rfl; have v7 := hcy 7 _ (by decide) rfl
  dsimp only at u0 v0 u1 v1 u2 v2 u3 v3 u4 v4 u5 v5 u6 v6 u7 v7 bx by_
  unfold keyG at hcm
  dsimp only at hcm
  obtain ⟨c1, hc1⟩ : ∃ c, Lib.compareInt (ywh + ybl) (xwh + xbl) = c := ⟨_, rfl⟩
  obtain ⟨c2, hc2⟩ : ∃ c, Lib.compareInt xid yid = c := ⟨_, rfl⟩
  rw [hc1, hc2] at hcm
  rw [hcm]
  have HC1 := hid hc1; have HC2 := hid hc2
  obtain ⟨r, hr⟩ : ∃ r, (if c1 ≠ 0 then c1 else c2) = r := ⟨_, rfl⟩
  rw [hr]
  have HR := hid hr; clear hcm hc1 hc2 hr hcx hcy
  go_enter Try.func130, Try.ntmps130
  go_upto_region 1 with fail
  refine wp_region_H (fun V => Below w.heap.size w V) (Below.refl _ _).drew [0, 1, 2, 3, 4, 5, 6, 7] 4 (by kernel_rfl) (by kernel_rfl) rfl ?_
  refine ⟨_, .slice (some a') n cap, rfl, ⟨rfl, fun V hV => by (dsimp only at hV); have s0 := bkeep hV hX; go_simp⟩, ?_⟩
  simp only [Act.put, List.getElem_toArray, List.getElem_cons_succ, List.getElem_cons_zero, List.setIfInBounds_toArray, List.set_cons_succ, List.set_cons_zero]
  refine ⟨_, .int .i64 (i : Int), rfl, ⟨rfl, fun V hV => by (dsimp only at hV); skip; go_simp⟩, ?_⟩
  simp only [Act.put, List.getElem_toArray, List.getElem_cons_succ, List.getElem_cons_zero, List.setIfInBounds_toArray, List.set_cons_succ, List.set_cons_zero]
  refine ⟨_, .pointer (some (a'.add (i * 8))), rfl, ⟨rfl, fun V hV => by (dsimp only at hV); skip; go_simp⟩, ?_⟩
  simp only [Act.put, List.getElem_toArray, List.getElem_cons_succ, List.getElem_cons_zero, List.setIfInBounds_toArray, List.set_cons_succ, List.set_cons_zero]
  refine ⟨_, .agg #[.int .i64 xid, .int .i64 xwl, .int .i64 xwh, .int .i64 xbl, .int .i64 xbh, .int .i64 xhl, .int .i64 xhh, .int .i64 xti], rfl, ⟨rfl, fun V hV => by (dsimp only at hV); have s0 := bkeep hV u0; have s1 := bkeep hV u1; have s2 := bkeep hV u2; have s3 := bkeep hV u3; have s4 := bkeep hV u4; have s5 := bkeep hV u5; have s6 := bkeep hV u6; have s7 := bkeep hV u7; go_simp⟩, ?_⟩
  simp only [Act.put, List.getElem_toArray, List.getElem_cons_succ, List.getElem_cons_zero, List.setIfInBounds_toArray, List.set_cons_succ, List.set_cons_zero]
  refine ⟨_, .slice (some a') n cap, rfl, ⟨rfl, fun V hV => by (dsimp only at hV); have s0 := bkeep hV hX; go_simp⟩, ?_⟩
  simp only [Act.put, List.getElem_toArray, List.getElem_cons_succ, List.getElem_cons_zero, List.setIfInBounds_toArray, List.set_cons_succ, List.set_cons_zero]
  refine ⟨_, .int .i64 (j : Int), rfl, ⟨rfl, fun V hV => by (dsimp only at hV); skip; go_simp⟩, ?_⟩
  simp only [Act.put, List.getElem_toArray, List.getElem_cons_succ, List.getElem_cons_zero, List.setIfInBounds_toArray, List.set_cons_succ, List.set_cons_zero]
  refine ⟨_, .pointer (some (a'.add (j * 8))), rfl, ⟨rfl, fun V hV => by (dsimp only at hV); skip; go_simp⟩, ?_⟩
  simp only [Act.put, List.getElem_toArray, List.getElem_cons_succ, List.getElem_cons_zero, List.setIfInBounds_toArray, List.set_cons_succ, List.set_cons_zero]
  refine ⟨_, .agg #[.int .i64 yid, .int .i64 ywl, .int .i64 ywh, .int .i64 ybl, .int .i64 ybh, .int .i64 yhl, .int .i64 yhh, .int .i64 yti], rfl, ⟨rfl, fun V hV => by (dsimp only at hV); have s0 := bkeep hV v0; have s1 := bkeep hV v1; have s2 := bkeep hV v2; have s3 := bkeep hV v3; have s4 := bkeep hV v4; have s5 := bkeep hV v5; have s6 := bkeep hV v6; have s7 := bkeep hV v7; go_simp⟩, ?_⟩
  simp only [Act.put, List.getElem_toArray, List.getElem_cons_succ, List.getElem_cons_zero, List.setIfInBounds_toArray, List.set_cons_succ, List.set_cons_zero]
  have C0 : Below w.heap.size w w.drew := (Below.refl _ _).drew
  refine wpAnyC_pair (r := 8) (s := 9) C0 (by kernel_rfl) rfl rfl rfl rfl (fun K hK => ?_) (fun K hK => ?_)
  · go_simp
    refine hK _ _ ?_; clear hK K
    have C1 : Below w.heap.size w (w.drew.alloc (.cells #[.int .i64 0, .int .i64 0, .int .i64 0, .int .i64 0, .int .i64 0, .int .i64 0, .int .i64 0, .int .i64 0] 33)) := C0.alloc (Nat.le_refl _) _
    refine wpAnyC_op (r := 9) C1 (by kernel_rfl) rfl rfl (fun K hK => ?_)
    go_simp
    refine hK _ _ ?_; clear hK K
    have g2 : Gr w ((w.alloc (.cells #[.int .i64 0, .int .i64 0, .int .i64 0, .int .i64 0, .int .i64 0, .int .i64 0, .int .i64 0, .int .i64 0] 33)).alloc (.cells #[.int .i64 0, .int .i64 0, .int .i64 0, .int .i64 0, .int .i64 0, .int .i64 0, .int .i64 0, .int .i64 0] 33)).drew := (((Gr.refl w).alloc _).alloc _).drew
    have a0 : CellsAt ((w.alloc (.cells #[.int .i64 0, .int .i64 0, .int .i64 0, .int .i64 0, .int .i64 0, .int .i64 0, .int .i64 0, .int .i64 0] 33)).alloc (.cells #[.int .i64 0, .int .i64 0, .int .i64 0, .int .i64 0, .int .i64 0, .int .i64 0, .int .i64 0, .int .i64 0] 33)).drew w.heap.size [.int .i64 0, .int .i64 0, .int .i64 0, .int .i64 0, .int .i64 0, .int .i64 0, .int .i64 0, .int .i64 0] := (CellsAt.new w [.int .i64 0, .int .i64 0, .int .i64 0, .int .i64 0, .int .i64 0, .int .i64 0, .int .i64 0, .int .i64 0] 33).alloc _
    have a1 : CellsAt ((w.alloc (.cells #[.int .i64 0, .int .i64 0, .int .i64 0, .int .i64 0, .int .i64 0, .int .i64 0, .int .i64 0, .int .i64 0] 33)).alloc (.cells #[.int .i64 0, .int .i64 0, .int .i64 0, .int .i64 0, .int .i64 0, .int .i64 0, .int .i64 0, .int .i64 0] 33)).drew (w.heap.size + 1) [.int .i64 0, .int .i64 0, .int .i64 0, .int .i64 0, .int .i64 0, .int .i64 0, .int .i64 0, .int .i64 0] := by have h := CellsAt.new (w.alloc (.cells #[.int .i64 0, .int .i64 0, .int .i64 0, .int .i64 0, .int .i64 0, .int .i64 0, .int .i64 0, .int .i64 0] 33)) [.int .i64 0, .int .i64 0, .int .i64 0, .int .i64 0, .int .i64 0, .int .i64 0, .int .i64 0, .int .i64 0] 33; rw [World.size_alloc] at h; exact h
    generalize World.drew (World.alloc (World.alloc _ _) _) = V2 at *
    clear C0 C1
    have q0 := (a0 0 _ rfl).1; have f0 := (a0 0 _ rfl).2; have q1 := (a0 1 _ rfl).1; have f1 := (a0 1 _ rfl).2; have q2 := (a0 2 _ rfl).1; have f2 := (a0 2 _ rfl).2; have q3 := (a0 3 _ rfl).1; have f3 := (a0 3 _ rfl).2; have q4 := (a0 4 _ rfl).1; have f4 := (a0 4 _ rfl).2; have q5 := (a0 5 _ rfl).1; have f5 := (a0 5 _ rfl).2; have q6 := (a0 6 _ rfl).1; have f6 := (a0 6 _ rfl).2; have q7 := (a0 7 _ rfl).1; have f7 := (a0 7 _ rfl).2
    refine wpAnyC_op (r := 10) g2.b (by kernel_rfl) rfl rfl (fun K hK => ?_)
    go_simp
    refine hK _ _ ?_; clear hK K
    clear q0 f0 q1 f1 q2 f2 q3 f3 q4 f4 q5 f5 q6 f6 q7 f7
    skip
    have g3 : Gr w (put8 V2 (w.heap.size) (.int .i64 xid) (.int .i64 xwl) (.int .i64 xwh) (.int .i64 xbl) (.int .i64 xbh) (.int .i64 xhl) (.int .i64 xhh) (.int .i64 xti)) := put8_gr g2 (by omega)
    have y6 : CellsAt (put8 V2 (w.heap.size) (.int .i64 xid) (.int .i64 xwl) (.int .i64 xwh) (.int .i64 xbl) (.int .i64 xbh) (.int .i64 xhl) (.int .i64 xhh) (.int .i64 xti)) (w.heap.size) [.int .i64 xid, .int .i64 xwl, .int .i64 xwh, .int .i64 xbl, .int .i64 xbh, .int .i64 xhl, .int .i64 xhh, .int .i64 xti] := put8_cells a0
    have y7 : CellsAt (put8 V2 (w.heap.size) (.int .i64 xid) (.int .i64 xwl) (.int .i64 xwh) (.int .i64 xbl) (.int .i64 xbh) (.int .i64 xhl) (.int .i64 xhh) (.int .i64 xti)) (w.heap.size + 1) [.int .i64 0, .int .i64 0, .int .i64 0, .int .i64 0, .int .i64 0, .int .i64 0, .int .i64 0, .int .i64 0] := put8_other a1 (by omega)
    clear a0 a1 g2
    dsimp only [put8] at g3 y6 y7
    generalize (World.setCell _ _ _ : World) = V5 at *
    have q0 := (y7 0 _ rfl).1; have f0 := (y7 0 _ rfl).2; have q1 := (y7 1 _ rfl).1; have f1 := (y7 1 _ rfl).2; have q2 := (y7 2 _ rfl).1; have f2 := (y7 2 _ rfl).2; have q3 := (y7 3 _ rfl).1; have f3 := (y7 3 _ rfl).2; have q4 := (y7 4 _ rfl).1; have f4 := (y7 4 _ rfl).2; have q5 := (y7 5 _ rfl).1; have f5 := (y7 5 _ rfl).2; have q6 := (y7 6 _ rfl).1; have f6 := (y7 6 _ rfl).2; have q7 := (y7 7 _ rfl).1; have f7 := (y7 7 _ rfl).2
    refine wpAnyC_op (r := 11) g3.b (by kernel_rfl) rfl rfl (fun K hK => ?_)
    go_simp
    refine hK _ _ ?_; clear hK K
    clear q0 f0 q1 f1 q2 f2 q3 f3 q4 f4 q5 f5 q6 f6 q7 f7
    have hG : Gr w (put8 V5 (w.heap.size + 1) (.int .i64 yid) (.int .i64 ywl) (.int .i64 ywh) (.int .i64 ybl) (.int .i64 ybh) (.int .i64 yhl) (.int .i64 yhh) (.int .i64 yti)) := put8_gr g3 (by omega)
    have z7 : CellsAt (put8 V5 (w.heap.size + 1) (.int .i64 yid) (.int .i64 ywl) (.int .i64 ywh) (.int .i64 ybl) (.int .i64 ybh) (.int .i64 yhl) (.int .i64 yhh) (.int .i64 yti)) (w.heap.size + 1) [.int .i64 yid, .int .i64 ywl, .int .i64 ywh, .int .i64 ybl, .int .i64 ybh, .int .i64 yhl, .int .i64 yhh, .int .i64 yti] := put8_cells y7
    have z6 : CellsAt (put8 V5 (w.heap.size + 1) (.int .i64 yid) (.int .i64 ywl) (.int .i64 ywh) (.int .i64 ybl) (.int .i64 ybh) (.int .i64 yhl) (.int .i64 yhh) (.int .i64 yti)) (w.heap.size) [.int .i64 xid, .int .i64 xwl, .int .i64 xwh, .int .i64 xbl, .int .i64 xbh, .int .i64 xhl, .int .i64 xhh, .int .i64 xti] := put8_other y6 (by omega)
    clear y6 y7 g3
    dsimp only [put8] at hG z6 z7
    refine wpAnyC_end hG.b (by kernel_rfl) ?_
    refine ⟨rfl, ?_⟩
    generalize (World.setCell _ _ _ : World) = V3 at *
    have p0 := (z6 0 _ rfl).1; have r0 := (z7 0 _ rfl).1
    have p2 := (z6 2 _ rfl).1; have r2 := (z7 2 _ rfl).1
    have p3 := (z6 3 _ rfl).1; have r3 := (z7 3 _ rfl).1
    skip
    clear z6 z7 u0 v0 u1 v1 u2 v2 u3 v3 u4 v4 u5 v5 u6 v6 u7 v7 hX
    have w1 : IntKind.i64.wrap (xwh + xbl) = xwh + xbl := IntWalk.i64_in _ (by omega)
    have w2 : IntKind.i64.wrap (ywh + ybl) = ywh + ybl := IntWalk.i64_in _ (by omega)
    go_upto_region 2 with fail
    refine wp_region_RsD [(14, fun v _ => v = .int .i64 c1), (19, fun v _ => v = .int .i64 c2), (20, NewList V3.heap.size 2 [.int .i64 c1, .int .i64 c2]), (21, fun v _ => v = .int .i64 r)] [0, 1, 2, 3, 4, 5, 6, 7, 8, 9, 10, 11, 12, 13, 14, 15, 16, 17, 18, 19, 20, 21] 1 (by kernel_rfl) rfl (by simp only [List.forall_mem_cons]; exact ⟨keeps_eq, keeps_eq, keeps_list, keeps_eq, fun _ h => by cases h⟩) (by kernel_rfl) ?_
    simp only [numbered, List.filterMap_cons, List.filterMap_nil, List.getElem?_toArray, List.getElem?_cons_succ, List.getElem?_cons_zero, Option.map_some]
    show wpSD _ _ _ _ _ _ _ [(_, _), (_, _), (_, _), (_, _), (_, _), (_, _), (_, _), (_, _), (_, _), (_, _), (_, _), (_, _), (_, _), (_, _), (_, _), (_, _), (_, _), (_, _), (_, _), (_, _), (_, _), (_, _)] _ _
    (refine wpS_quietD rfl rfl ?_; intro K hK inst hx; go_big_quiet_op; (first | go_big_quiet_on | (refine ⟨_, fun _ => rfl, ?_⟩; go_big_quiet_on)); clear hx inst)
    (refine wpS_quietD rfl rfl ?_; intro K hK inst hx; go_big_quiet_op; (first | go_big_quiet_on | (refine ⟨_, fun _ => rfl, ?_⟩; go_big_quiet_on)); clear hx inst)
    (refine wpS_quietD rfl rfl ?_; intro K hK inst hx; have s0 := fun x => (fun _ => bkeep (Gr.b (BQD.below x)) r2) (hx x); go_big_quiet_op; (first | go_big_quiet_on | (refine ⟨_, fun _ => rfl, ?_⟩; go_big_quiet_on)); clear hx inst)
    (refine wpS_quietD rfl rfl ?_; intro K hK inst hx; go_big_quiet_op; (first | go_big_quiet_on | (refine ⟨_, fun _ => rfl, ?_⟩; go_big_quiet_on)); clear hx inst)
    (refine wpS_quietD rfl rfl ?_; intro K hK inst hx; go_big_quiet_op; (first | go_big_quiet_on | (refine ⟨_, fun _ => rfl, ?_⟩; go_big_quiet_on)); clear hx inst)
    (refine wpS_quietD rfl rfl ?_; intro K hK inst hx; have s0 := fun x => (fun _ => bkeep (Gr.b (BQD.below x)) r3) (hx x); go_big_quiet_op; (first | go_big_quiet_on | (refine ⟨_, fun _ => rfl, ?_⟩; go_big_quiet_on)); clear hx inst)
    (refine wpS_quietD rfl rfl ?_; intro K hK inst hx; go_big_quiet_op; (first | go_big_quiet_on | (refine ⟨_, fun _ => rfl, ?_⟩; go_big_quiet_on)); clear hx inst)
    (refine wpS_quietD rfl rfl ?_; intro K hK inst hx; go_big_quiet_op; (first | go_big_quiet_on | (refine ⟨_, fun _ => rfl, ?_⟩; go_big_quiet_on)); clear hx inst)
    (refine wpS_quietD rfl rfl ?_; intro K hK inst hx; go_big_quiet_op; (first | go_big_quiet_on | (refine ⟨_, fun _ => rfl, ?_⟩; go_big_quiet_on)); clear hx inst)
    (refine wpS_quietD rfl rfl ?_; intro K hK inst hx; have s0 := fun x => (fun _ => bkeep (Gr.b (BQD.below x)) p2) (hx x); go_big_quiet_op; (first | go_big_quiet_on | (refine ⟨_, fun _ => rfl, ?_⟩; go_big_quiet_on)); clear hx inst)
    (refine wpS_quietD rfl rfl ?_; intro K hK inst hx; go_big_quiet_op; (first | go_big_quiet_on | (refine ⟨_, fun _ => rfl, ?_⟩; go_big_quiet_on)); clear hx inst)
    (refine wpS_quietD rfl rfl ?_; intro K hK inst hx; go_big_quiet_op; (first | go_big_quiet_on | (refine ⟨_, fun _ => rfl, ?_⟩; go_big_quiet_on)); clear hx inst)
    (refine wpS_quietD rfl rfl ?_; intro K hK inst hx; have s0 := fun x => (fun _ => bkeep (Gr.b (BQD.below x)) p3) (hx x); go_big_quiet_op; (first | go_big_quiet_on | (refine ⟨_, fun _ => rfl, ?_⟩; go_big_quiet_on)); clear hx inst)
    (refine wpS_quietD rfl rfl ?_; intro K hK inst hx; go_big_quiet_op; (first | go_big_quiet_on | (refine ⟨_, fun _ => rfl, ?_⟩; go_big_quiet_on)); clear hx inst)
    refine wpS_freshD rfl rfl (fun w' hb hF => ?_) ?_
    · change freshAtD _ _ _ (fun v _ => v = .int .i64 c1) _; unfold freshAtD; go_simp; exact compare_any.mono fun e w'' ⟨he, hw⟩ => ⟨by rw [← HC1.out]; exact he, hw ▸ Gr.refl _⟩
    intro v W hv; simp only [pOf, List.lookup_cons, Nat.reduceBEq, beq_self_eq_true] at hv; subst hv
    simp only [Act.put, List.setIfInBounds_toArray, List.set_cons_succ, List.set_cons_zero]
    (refine wpS_quietD rfl rfl ?_; intro K hK inst hx; go_big_quiet_op; (first | go_big_quiet_on | (refine ⟨_, fun _ => rfl, ?_⟩; go_big_quiet_on)); clear hx inst)
    (refine wpS_quietD rfl rfl ?_; intro K hK inst hx; have s0 := fun x => (fun _ => bkeep (Gr.b (BQD.below x)) p0) (hx x); go_big_quiet_op; (first | go_big_quiet_on | (refine ⟨_, fun _ => rfl, ?_⟩; go_big_quiet_on)); clear hx inst)
    (refine wpS_quietD rfl rfl ?_; intro K hK inst hx; go_big_quiet_op; (first | go_big_quiet_on | (refine ⟨_, fun _ => rfl, ?_⟩; go_big_quiet_on)); clear hx inst)
    (refine wpS_quietD rfl rfl ?_; intro K hK inst hx; have s0 := fun x => (fun _ => bkeep (Gr.b (BQD.below x)) r0) (hx x); go_big_quiet_op; (first | go_big_quiet_on | (refine ⟨_, fun _ => rfl, ?_⟩; go_big_quiet_on)); clear hx inst)
    refine wpS_freshD rfl rfl (fun w' hb hF => ?_) ?_
    · change freshAtD _ _ _ (fun v _ => v = .int .i64 c2) _; unfold freshAtD; go_simp; exact compare_any.mono fun e w'' ⟨he, hw⟩ => ⟨by rw [← HC2.out]; exact he, hw ▸ Gr.refl _⟩
    intro v W hv; simp only [pOf, List.lookup_cons, Nat.reduceBEq, beq_self_eq_true] at hv; subst hv
    simp only [Act.put, List.setIfInBounds_toArray, List.set_cons_succ, List.set_cons_zero]
    refine wpS_freshD rfl rfl (fun w' hb hF => ?_) ?_
    · change freshAtD _ _ _ (NewList V3.heap.size 2 [.int .i64 c1, .int .i64 c2]) _; unfold freshAtD; go_simp; exact listD hb
    intro v W hv; simp only [pOf, List.lookup_cons, Nat.reduceBEq, beq_self_eq_true] at hv; obtain ⟨BL, hBL, rfl, -⟩ := hv
    simp only [Act.put, List.setIfInBounds_toArray, List.set_cons_succ, List.set_cons_zero]
    refine wpS_freshD rfl rfl (fun w' hb hF => ?_) ?_
    · change freshAtD _ _ _ (fun v _ => v = .int .i64 r) _; have h4 := hF 20 _ rfl (by kernel_rfl); obtain ⟨B', hB', hv', hn'⟩ := h4; obtain rfl : BL = B' := (by simpa using hv'); unfold freshAtD; go_simp; exact (or_any (hn' 0 _ rfl).1 (hn' 1 _ rfl).1 HR.out).mono fun e w'' ⟨he, hw⟩ => ⟨he, hw ▸ Gr.refl _⟩
    intro v W hv; simp only [pOf, List.lookup_cons, Nat.reduceBEq, beq_self_eq_true] at hv; subst hv
    simp only [Act.put, List.setIfInBounds_toArray, List.set_cons_succ, List.set_cons_zero]
    refine wpS_nilD ?_
    intro V4 hall
    have hb := hall.1
    clear hall
    refine wpAny_ready (rs := [22]) (by kernel_rfl) (by simp) ?_
    refine AllReady.cons rfl (fun K hK => ?_) AllReady.nil
    go_simp
    refine hK _ _ ?_; clear hK K
    refine wpAny_done (by kernel_rfl) ?_ _
    go_wp2_with fail
    go_ret
    exact ⟨rfl, hG.trans hb⟩
  · go_simp
    refine hK _ _ ?_; clear hK K
    have C1 : Below w.heap.size w (w.drew.alloc (.cells #[.int .i64 0, .int .i64 0, .int .i64 0, .int .i64 0, .int .i64 0, .int .i64 0, .int .i64 0, .int .i64 0] 33)) := C0.alloc (Nat.le_refl _) _
    refine wpAnyC_op (r := 8) C1 (by kernel_rfl) rfl rfl (fun K hK => ?_)
    go_simp
    refine hK _ _ ?_; clear hK K
    have g2 : Gr w ((w.alloc (.cells #[.int .i64 0, .int .i64 0, .int .i64 0, .int .i64 0, .int .i64 0, .int .i64 0, .int .i64 0, .int .i64 0] 33)).alloc (.cells #[.int .i64 0, .int .i64 0, .int .i64 0, .int .i64 0, .int .i64 0, .int .i64 0, .int .i64 0, .int .i64 0] 33)).drew := (((Gr.refl w).alloc _).alloc _).drew
    have a0 : CellsAt ((w.alloc (.cells #[.int .i64 0, .int .i64 0, .int .i64 0, .int .i64 0, .int .i64 0, .int .i64 0, .int .i64 0, .int .i64 0] 33)).alloc (.cells #[.int .i64 0, .int .i64 0, .int .i64 0, .int .i64 0, .int .i64 0, .int .i64 0, .int .i64 0, .int .i64 0] 33)).drew w.heap.size [.int .i64 0, .int .i64 0, .int .i64 0, .int .i64 0, .int .i64 0, .int .i64 0, .int .i64 0, .int .i64 0] := (CellsAt.new w [.int .i64 0, .int .i64 0, .int .i64 0, .int .i64 0, .int .i64 0, .int .i64 0, .int .i64 0, .int .i64 0] 33).alloc _
    have a1 : CellsAt ((w.alloc (.cells #[.int .i64 0, .int .i64 0, .int .i64 0, .int .i64 0, .int .i64 0, .int .i64 0, .int .i64 0, .int .i64 0] 33)).alloc (.cells #[.int .i64 0, .int .i64 0, .int .i64 0, .int .i64 0, .int .i64 0, .int .i64 0, .int .i64 0, .int .i64 0] 33)).drew (w.heap.size + 1) [.int .i64 0, .int .i64 0, .int .i64 0, .int .i64 0, .int .i64 0, .int .i64 0, .int .i64 0, .int .i64 0] := by have h := CellsAt.new (w.alloc (.cells #[.int .i64 0, .int .i64 0, .int .i64 0, .int .i64 0, .int .i64 0, .int .i64 0, .int .i64 0, .int .i64 0] 33)) [.int .i64 0, .int .i64 0, .int .i64 0, .int .i64 0, .int .i64 0, .int .i64 0, .int .i64 0, .int .i64 0] 33; rw [World.size_alloc] at h; exact h
    generalize World.drew (World.alloc (World.alloc _ _) _) = V2 at *
    clear C0 C1
    have q0 := (a1 0 _ rfl).1; have f0 := (a1 0 _ rfl).2; have q1 := (a1 1 _ rfl).1; have f1 := (a1 1 _ rfl).2; have q2 := (a1 2 _ rfl).1; have f2 := (a1 2 _ rfl).2; have q3 := (a1 3 _ rfl).1; have f3 := (a1 3 _ rfl).2; have q4 := (a1 4 _ rfl).1; have f4 := (a1 4 _ rfl).2; have q5 := (a1 5 _ rfl).1; have f5 := (a1 5 _ rfl).2; have q6 := (a1 6 _ rfl).1; have f6 := (a1 6 _ rfl).2; have q7 := (a1 7 _ rfl).1; have f7 := (a1 7 _ rfl).2
    refine wpAnyC_op (r := 10) g2.b (by kernel_rfl) rfl rfl (fun K hK => ?_)
    go_simp
    refine hK _ _ ?_; clear hK K
    clear q0 f0 q1 f1 q2 f2 q3 f3 q4 f4 q5 f5 q6 f6 q7 f7
    skip
    have g3 : Gr w (put8 V2 (w.heap.size + 1) (.int .i64 xid) (.int .i64 xwl) (.int .i64 xwh) (.int .i64 xbl) (.int .i64 xbh) (.int .i64 xhl) (.int .i64 xhh) (.int .i64 xti)) := put8_gr g2 (by omega)
    have y6 : CellsAt (put8 V2 (w.heap.size + 1) (.int .i64 xid) (.int .i64 xwl) (.int .i64 xwh) (.int .i64 xbl) (.int .i64 xbh) (.int .i64 xhl) (.int .i64 xhh) (.int .i64 xti)) (w.heap.size + 1) [.int .i64 xid, .int .i64 xwl, .int .i64 xwh, .int .i64 xbl, .int .i64 xbh, .int .i64 xhl, .int .i64 xhh, .int .i64 xti] := put8_cells a1
    have y7 : CellsAt (put8 V2 (w.heap.size + 1) (.int .i64 xid) (.int .i64 xwl) (.int .i64 xwh) (.int .i64 xbl) (.int .i64 xbh) (.int .i64 xhl) (.int .i64 xhh) (.int .i64 xti)) (w.heap.size) [.int .i64 0, .int .i64 0, .int .i64 0, .int .i64 0, .int .i64 0, .int .i64 0, .int .i64 0, .int .i64 0] := put8_other a0 (by omega)
    clear a0 a1 g2
    dsimp only [put8] at g3 y6 y7
    generalize (World.setCell _ _ _ : World) = V5 at *
    have q0 := (y7 0 _ rfl).1; have f0 := (y7 0 _ rfl).2; have q1 := (y7 1 _ rfl).1; have f1 := (y7 1 _ rfl).2; have q2 := (y7 2 _ rfl).1; have f2 := (y7 2 _ rfl).2; have q3 := (y7 3 _ rfl).1; have f3 := (y7 3 _ rfl).2; have q4 := (y7 4 _ rfl).1; have f4 := (y7 4 _ rfl).2; have q5 := (y7 5 _ rfl).1; have f5 := (y7 5 _ rfl).2; have q6 := (y7 6 _ rfl).1; have f6 := (y7 6 _ rfl).2; have q7 := (y7 7 _ rfl).1; have f7 := (y7 7 _ rfl).2
    refine wpAnyC_op (r := 11) g3.b (by kernel_rfl) rfl rfl (fun K hK => ?_)
    go_simp
    refine hK _ _ ?_; clear hK K
    clear q0 f0 q1 f1 q2 f2 q3 f3 q4 f4 q5 f5 q6 f6 q7 f7
    have hG : Gr w (put8 V5 (w.heap.size) (.int .i64 yid) (.int .i64 ywl) (.int .i64 ywh) (.int .i64 ybl) (.int .i64 ybh) (.int .i64 yhl) (.int .i64 yhh) (.int .i64 yti)) := put8_gr g3 (by omega)
    have z7 : CellsAt (put8 V5 (w.heap.size) (.int .i64 yid) (.int .i64 ywl) (.int .i64 ywh) (.int .i64 ybl) (.int .i64 ybh) (.int .i64 yhl) (.int .i64 yhh) (.int .i64 yti)) (w.heap.size) [.int .i64 yid, .int .i64 ywl, .int .i64 ywh, .int .i64 ybl, .int .i64 ybh, .int .i64 yhl, .int .i64 yhh, .int .i64 yti] := put8_cells y7
    have z6 : CellsAt (put8 V5 (w.heap.size) (.int .i64 yid) (.int .i64 ywl) (.int .i64 ywh) (.int .i64 ybl) (.int .i64 ybh) (.int .i64 yhl) (.int .i64 yhh) (.int .i64 yti)) (w.heap.size + 1) [.int .i64 xid, .int .i64 xwl, .int .i64 xwh, .int .i64 xbl, .int .i64 xbh, .int .i64 xhl, .int .i64 xhh, .int .i64 xti] := put8_other y6 (by omega)
    clear y6 y7 g3
    dsimp only [put8] at hG z6 z7
    refine wpAnyC_end hG.b (by kernel_rfl) ?_
    refine ⟨rfl, ?_⟩
    generalize (World.setCell _ _ _ : World) = V3 at *
    have p0 := (z6 0 _ rfl).1; have r0 := (z7 0 _ rfl).1
    have p2 := (z6 2 _ rfl).1; have r2 := (z7 2 _ rfl).1
    have p3 := (z6 3 _ rfl).1; have r3 := (z7 3 _ rfl).1
    skip
    clear z6 z7 u0 v0 u1 v1 u2 v2 u3 v3 u4 v4 u5 v5 u6 v6 u7 v7 hX
    have w1 : IntKind.i64.wrap (xwh + xbl) = xwh + xbl := IntWalk.i64_in _ (by omega)
    have w2 : IntKind.i64.wrap (ywh + ybl) = ywh + ybl := IntWalk.i64_in _ (by omega)
    go_upto_region 2 with fail
    refine wp_region_RsD [(14, fun v _ => v = .int .i64 c1), (19, fun v _ => v = .int .i64 c2), (20, NewList V3.heap.size 2 [.int .i64 c1, .int .i64 c2]), (21, fun v _ => v = .int .i64 r)] [0, 1, 2, 3, 4, 5, 6, 7, 8, 9, 10, 11, 12, 13, 14, 15, 16, 17, 18, 19, 20, 21] 1 (by kernel_rfl) rfl (by simp only [List.forall_mem_cons]; exact ⟨keeps_eq, keeps_eq, keeps_list, keeps_eq, fun _ h => by cases h⟩) (by kernel_rfl) ?_
    simp only [numbered, List.filterMap_cons, List.filterMap_nil, List.getElem?_toArray, List.getElem?_cons_succ, List.getElem?_cons_zero, Option.map_some]
    show wpSD _ _ _ _ _ _ _ [(_, _), (_, _), (_, _), (_, _), (_, _), (_, _), (_, _), (_, _), (_, _), (_, _), (_, _), (_, _), (_, _), (_, _), (_, _), (_, _), (_, _), (_, _), (_, _), (_, _), (_, _), (_, _)] _ _
    (refine wpS_quietD rfl rfl ?_; intro K hK inst hx; go_big_quiet_op; (first | go_big_quiet_on | (refine ⟨_, fun _ => rfl, ?_⟩; go_big_quiet_on)); clear hx inst)
    (refine wpS_quietD rfl rfl ?_; intro K hK inst hx; go_big_quiet_op; (first | go_big_quiet_on | (refine ⟨_, fun _ => rfl, ?_⟩; go_big_quiet_on)); clear hx inst)
    (refine wpS_quietD rfl rfl ?_; intro K hK inst hx; have s0 := fun x => (fun _ => bkeep (Gr.b (BQD.below x)) r2) (hx x); go_big_quiet_op; (first | go_big_quiet_on | (refine ⟨_, fun _ => rfl, ?_⟩; go_big_quiet_on)); clear hx inst)
    (refine wpS_quietD rfl rfl ?_; intro K hK inst hx; go_big_quiet_op; (first | go_big_quiet_on | (refine ⟨_, fun _ => rfl, ?_⟩; go_big_quiet_on)); clear hx inst)
    (refine wpS_quietD rfl rfl ?_; intro K hK inst hx; go_big_quiet_op; (first | go_big_quiet_on | (refine ⟨_, fun _ => rfl, ?_⟩; go_big_quiet_on)); clear hx inst)
    (refine wpS_quietD rfl rfl ?_; intro K hK inst hx; have s0 := fun x => (fun _ => bkeep (Gr.b (BQD.below x)) r3) (hx x); go_big_quiet_op; (first | go_big_quiet_on | (refine ⟨_, fun _ => rfl, ?_⟩; go_big_quiet_on)); clear hx inst)
    (refine wpS_quietD rfl rfl ?_; intro K hK inst hx; go_big_quiet_op; (first | go_big_quiet_on | (refine ⟨_, fun _ => rfl, ?_⟩; go_big_quiet_on)); clear hx inst)
    (refine wpS_quietD rfl rfl ?_; intro K hK inst hx; go_big_quiet_op; (first | go_big_quiet_on | (refine ⟨_, fun _ => rfl, ?_⟩; go_big_quiet_on)); clear hx inst)
    (refine wpS_quietD rfl rfl ?_; intro K hK inst hx; go_big_quiet_op; (first | go_big_quiet_on | (refine ⟨_, fun _ => rfl, ?_⟩; go_big_quiet_on)); clear hx inst)
    (refine wpS_quietD rfl rfl ?_; intro K hK inst hx; have s0 := fun x => (fun _ => bkeep (Gr.b (BQD.below x)) p2) (hx x); go_big_quiet_op; (first | go_big_quiet_on | (refine ⟨_, fun _ => rfl, ?_⟩; go_big_quiet_on)); clear hx inst)
    (refine wpS_quietD rfl rfl ?_; intro K hK inst hx; go_big_quiet_op; (first | go_big_quiet_on | (refine ⟨_, fun _ => rfl, ?_⟩; go_big_quiet_on)); clear hx inst)
    (refine wpS_quietD rfl rfl ?_; intro K hK inst hx; go_big_quiet_op; (first | go_big_quiet_on | (refine ⟨_, fun _ => rfl, ?_⟩; go_big_quiet_on)); clear hx inst)
    (refine wpS_quietD rfl rfl ?_; intro K hK inst hx; have s0 := fun x => (fun _ => bkeep (Gr.b (BQD.below x)) p3) (hx x); go_big_quiet_op; (first | go_big_quiet_on | (refine ⟨_, fun _ => rfl, ?_⟩; go_big_quiet_on)); clear hx inst)
    (refine wpS_quietD rfl rfl ?_; intro K hK inst hx; go_big_quiet_op; (first | go_big_quiet_on | (refine ⟨_, fun _ => rfl, ?_⟩; go_big_quiet_on)); clear hx inst)
    refine wpS_freshD rfl rfl (fun w' hb hF => ?_) ?_
    · change freshAtD _ _ _ (fun v _ => v = .int .i64 c1) _; unfold freshAtD; go_simp; exact compare_any.mono fun e w'' ⟨he, hw⟩ => ⟨by rw [← HC1.out]; exact he, hw ▸ Gr.refl _⟩
    intro v W hv; simp only [pOf, List.lookup_cons, Nat.reduceBEq, beq_self_eq_true] at hv; subst hv
    simp only [Act.put, List.setIfInBounds_toArray, List.set_cons_succ, List.set_cons_zero]
    (refine wpS_quietD rfl rfl ?_; intro K hK inst hx; go_big_quiet_op; (first | go_big_quiet_on | (refine ⟨_, fun _ => rfl, ?_⟩; go_big_quiet_on)); clear hx inst)
    (refine wpS_quietD rfl rfl ?_; intro K hK inst hx; have s0 := fun x => (fun _ => bkeep (Gr.b (BQD.below x)) p0) (hx x); go_big_quiet_op; (first | go_big_quiet_on | (refine ⟨_, fun _ => rfl, ?_⟩; go_big_quiet_on)); clear hx inst)
    (refine wpS_quietD rfl rfl ?_; intro K hK inst hx; go_big_quiet_op; (first | go_big_quiet_on | (refine ⟨_, fun _ => rfl, ?_⟩; go_big_quiet_on)); clear hx inst)
    (refine wpS_quietD rfl rfl ?_; intro K hK inst hx; have s0 := fun x => (fun _ => bkeep (Gr.b (BQD.below x)) r0) (hx x); go_big_quiet_op; (first | go_big_quiet_on | (refine ⟨_, fun _ => rfl, ?_⟩; go_big_quiet_on)); clear hx inst)
    refine wpS_freshD rfl rfl (fun w' hb hF => ?_) ?_
    · change freshAtD _ _ _ (fun v _ => v = .int .i64 c2) _; unfold freshAtD; go_simp; exact compare_any.mono fun e w'' ⟨he, hw⟩ => ⟨by rw [← HC2.out]; exact he, hw ▸ Gr.refl _⟩
    intro v W hv; simp only [pOf, List.lookup_cons, Nat.reduceBEq, beq_self_eq_true] at hv; subst hv
    simp only [Act.put, List.setIfInBounds_toArray, List.set_cons_succ, List.set_cons_zero]
    refine wpS_freshD rfl rfl (fun w' hb hF => ?_) ?_
    · change freshAtD _ _ _ (NewList V3.heap.size 2 [.int .i64 c1, .int .i64 c2]) _; unfold freshAtD; go_simp; exact listD hb
    intro v W hv; simp only [pOf, List.lookup_cons, Nat.reduceBEq, beq_self_eq_true] at hv; obtain ⟨BL, hBL, rfl, -⟩ := hv
    simp only [Act.put, List.setIfInBounds_toArray, List.set_cons_succ, List.set_cons_zero]
    refine wpS_freshD rfl rfl (fun w' hb hF => ?_) ?_
    · change freshAtD _ _ _ (fun v _ => v = .int .i64 r) _; have h4 := hF 20 _ rfl (by kernel_rfl); obtain ⟨B', hB', hv', hn'⟩ := h4; obtain rfl : BL = B' := (by simpa using hv'); unfold freshAtD; go_simp; exact (or_any (hn' 0 _ rfl).1 (hn' 1 _ rfl).1 HR.out).mono fun e w'' ⟨he, hw⟩ => ⟨he, hw ▸ Gr.refl _⟩
    intro v W hv; simp only [pOf, List.lookup_cons, Nat.reduceBEq, beq_self_eq_true] at hv; subst hv
    simp only [Act.put, List.setIfInBounds_toArray, List.set_cons_succ, List.set_cons_zero]
    refine wpS_nilD ?_
    intro V4 hall
    have hb := hall.1
    clear hall
    refine wpAny_ready (rs := [22]) (by kernel_rfl) (by simp) ?_
    refine AllReady.cons rfl (fun K hK => ?_) AllReady.nil
    go_simp
    refine hK _ _ ?_; clear hK K
    refine wpAny_done (by kernel_rfl) ?_ _
    go_wp2_with fail
    go_ret
    exact ⟨rfl, hG.trans hb⟩

end Go.Proofs.Ytnchhleokdkejaa

/- The library's contracts of slices.SortFunc at slices of numbers, at this translation's numbers. -/
namespace Go.Proofs
open Go.Shelf
def Try.lays125_ren : Go.Shelf.Ren := ⟨fun | 125 => 143 | 128 => 156 | 129 => 157 | n => n, fun | 46 => 176 | 3 => 3 | 51 => 188 | 53 => 190 | 4 => 4 | 5 => 5 | 9 => 9 | n => n, fun | n => n⟩
theorem Try.lays125 : Go.Proofs.Lays.n125 Try.prog Try.lays125_ren := {
  mixed := by kernel_rfl
  f125 := Try.func143.trans (congrArg some (by kernel_rfl))
  f128 := Try.func156.trans (congrArg some (by kernel_rfl))
  f129 := Try.func157.trans (congrArg some (by kernel_rfl))
  t3 := Try.underlying3
  a3 := Try.isAgg3
  z3 := Try.sizeOf3
  v3 := Try.zeroValue3
  t4 := Try.underlying4
  a4 := Try.isAgg4
  z4 := Try.sizeOf4
  v4 := Try.zeroValue4
  t5 := Try.underlying5
  a5 := Try.isAgg5
  z5 := Try.sizeOf5
  v5 := Try.zeroValue5
  t9 := Try.underlying9
  a9 := Try.isAgg9
  z9 := Try.sizeOf9
  v9 := Try.zeroValue9
  t46 := Try.underlying176
  a46 := Try.isAgg176
  z46 := Try.sizeOf176
  v46 := Try.zeroValue176
  t51 := Try.underlying188
  a51 := Try.isAgg188
  z51 := Try.sizeOf188
  v51 := Try.zeroValue188
  t53 := Try.underlying190
  a53 := Try.isAgg190
  z53 := Try.sizeOf190
  v53 := Try.zeroValue190 }
theorem Try.bits_Len (x : Int) (w : World) (h0 : 0 ≤ x) (h1 : x ≤ 18446744073709551615) :
    Calls Try.prog 143 #[.int .u64 x] w fun e w' => e = .returned (.int .i64 (Lib.bitLen x.toNat)) ∧ w' = w := Any.bits_Len Try.lays125 x w h0 h1
def Try.sortIdx_ren : Go.Shelf.Ren := ⟨fun | 6 => 129 | 15 => 143 | 14 => 142 | 28 => 156 | 29 => 157 | 20 => 148 | 21 => 149 | 22 => 150 | 23 => 151 | 24 => 152 | 25 => 153 | 26 => 154 | 27 => 155 | 46 => 158 | 47 => 159 | 48 => 160 | 49 => 161 | 50 => 162 | 57 => 163 | n => n, fun | 22 => 41 | 24 => 3 | 25 => 98 | 3 => 3 | 39 => 176 | 0 => 0 | 53 => 188 | 55 => 190 | 4 => 4 | 46 => 181 | 45 => 180 | 50 => 185 | 5 => 5 | 9 => 9 | 66 => 191 | 70 => 195 | 76 => 197 | 77 => 198 | n => n, fun | n => n⟩
theorem Try.sortIdx : Go.Proofs.SlLaysF.n6 Try.prog Try.sortIdx_ren := {
  mixed := by kernel_rfl
  f6 := ⟨Try.f129.name, by decide, Try.func129.trans (congrArg some (by kernel_rfl))⟩
  f14 := ⟨Try.f142.name, by decide, Try.func142.trans (congrArg some (by kernel_rfl))⟩
  f15 := Try.func143.trans (congrArg some (by kernel_rfl))
  f20 := ⟨Try.f148.name, by decide, Try.func148.trans (congrArg some (by kernel_rfl))⟩
  f21 := ⟨Try.f149.name, by decide, Try.func149.trans (congrArg some (by kernel_rfl))⟩
  f22 := ⟨Try.f150.name, by decide, Try.func150.trans (congrArg some (by kernel_rfl))⟩
  f23 := ⟨Try.f151.name, by decide, Try.func151.trans (congrArg some (by kernel_rfl))⟩
  f24 := ⟨Try.f152.name, by decide, Try.func152.trans (congrArg some (by kernel_rfl))⟩
  f25 := ⟨Try.f153.name, by decide, Try.func153.trans (congrArg some (by kernel_rfl))⟩
  f26 := ⟨Try.f154.name, by decide, Try.func154.trans (congrArg some (by kernel_rfl))⟩
  f27 := ⟨Try.f155.name, by decide, Try.func155.trans (congrArg some (by kernel_rfl))⟩
  f28 := Try.func156.trans (congrArg some (by kernel_rfl))
  f29 := Try.func157.trans (congrArg some (by kernel_rfl))
  f46 := ⟨Try.f158.name, by decide, Try.func158.trans (congrArg some (by kernel_rfl))⟩
  f47 := Try.func159.trans (congrArg some (by kernel_rfl))
  f48 := Try.func160.trans (congrArg some (by kernel_rfl))
  f49 := ⟨Try.f161.name, by decide, Try.func161.trans (congrArg some (by kernel_rfl))⟩
  f50 := ⟨Try.f162.name, by decide, Try.func162.trans (congrArg some (by kernel_rfl))⟩
  f57 := ⟨Try.f163.name, by decide, Try.func163.trans (congrArg some (by kernel_rfl))⟩
  t0 := Try.underlying0
  a0 := Try.isAgg0
  z0 := Try.sizeOf0
  v0 := Try.zeroValue0
  t3 := Try.underlying3
  a3 := Try.isAgg3
  z3 := Try.sizeOf3
  v3 := Try.zeroValue3
  t4 := Try.underlying4
  a4 := Try.isAgg4
  z4 := Try.sizeOf4
  v4 := Try.zeroValue4
  t5 := Try.underlying5
  a5 := Try.isAgg5
  z5 := Try.sizeOf5
  v5 := Try.zeroValue5
  t9 := Try.underlying9
  a9 := Try.isAgg9
  z9 := Try.sizeOf9
  v9 := Try.zeroValue9
  t22 := Try.underlying41
  a22 := Try.isAgg41
  z22 := Try.sizeOf41
  v22 := Try.zeroValue41
  a24 := Try.isAgg3
  z24 := Try.sizeOf3
  t25 := Try.underlying98
  a25 := Try.isAgg98
  z25 := Try.sizeOf98
  v25 := Try.zeroValue98
  t39 := Try.underlying176
  a39 := Try.isAgg176
  z39 := Try.sizeOf176
  v39 := Try.zeroValue176
  t45 := Try.underlying180
  a45 := Try.isAgg180
  z45 := Try.sizeOf180
  v45 := Try.zeroValue180
  t46 := Try.underlying181
  a46 := Try.isAgg181
  z46 := Try.sizeOf181
  v46 := Try.zeroValue181
  t50 := Try.underlying185
  a50 := Try.isAgg185
  z50 := Try.sizeOf185
  v50 := Try.zeroValue185
  t53 := Try.underlying188
  a53 := Try.isAgg188
  z53 := Try.sizeOf188
  v53 := Try.zeroValue188
  t55 := Try.underlying190
  a55 := Try.isAgg190
  z55 := Try.sizeOf190
  v55 := Try.zeroValue190
  t66 := Try.underlying191
  a66 := Try.isAgg191
  z66 := Try.sizeOf191
  v66 := Try.zeroValue191
  t70 := Try.underlying195
  a70 := Try.isAgg195
  z70 := Try.sizeOf195
  v70 := Try.zeroValue195
  t76 := Try.underlying197
  a76 := Try.isAgg197
  z76 := Try.sizeOf197
  v76 := Try.zeroValue197
  t77 := Try.underlying198
  a77 := Try.isAgg198
  z77 := Try.sizeOf198
  v77 := Try.zeroValue198 }
end Go.Proofs

/- The order of the setter's rule, and saggars in this order. -/
namespace Go.Proofs.Ytnchhleokdkejaa
open Go.RowKit Go.Pb Go.Pb.Ware Go.Pb.Sag
set_option linter.unusedVariables false
set_option linter.unusedSimpArgs false

open Go.Proofs Go.Sort Go.Pb.Bung
set_option maxHeartbeats 400000 in
theorem ins_no (p : Option Addr) (fv : Value) (w : World) : Calls Try.prog 148 #[.slice p 0 0, .int .i64 0, .int .i64 0, fv] w (fun e w' => e = .returned (.tuple #[]) ∧ w' = w) := by
  go_enter Try.func148, Try.ntmps148
  go_wp2_with fail
  refine wp_loop_rounds 1 ?_
  rw [rounds_succ]
  go_wp2_with fail
  go_end0
  exact ⟨rfl, rfl⟩
set_option maxHeartbeats 400000 in
theorem pdq_no (p : Option Addr) (lim : Int) (fv : Value) (w : World) : Calls Try.prog 142 #[.slice p 0 0, .int .i64 0, .int .i64 0, .int .i64 lim, fv] w (fun e w' => e = .returned (.tuple #[]) ∧ w' = w) := by
  go_enter Try.func142, Try.ntmps142
  go_wp2_with fail
  refine wp_loop_rounds 1 ?_
  rw [rounds_succ]
  go_wp2_with (go_at_call 148; refine (ins_no _ _ _).mono ?_; rintro e w' ⟨rfl, rfl⟩)
  (try simp only [Exit.inBlock, Exit.then])
  refine bodyPost_ret (results_none rfl _ _ _) rfl ?_
  exact ⟨rfl, rfl⟩
set_option maxHeartbeats 400000 in
theorem sort_no (p : Option Addr) (fv : Value) (w : World) : Calls Try.prog 129 #[.slice p 0 0, fv] w (fun e w' => e = .returned (.tuple #[]) ∧ w' = w) := by
  go_enter Try.func129, Try.ntmps129
  go_wp2_with (first | (go_at_call 143; refine (Try.bits_Len 0 _ (by omega) (by omega)).mono ?_; rintro e w' ⟨rfl, rfl⟩) | (go_at_call 142; refine (pdq_no _ _ _ _).mono ?_; rintro e w' ⟨rfl, rfl⟩))
  go_end0
  exact ⟨rfl, rfl⟩

set_option maxRecDepth 100000 in
set_option maxHeartbeats 800000 in
/-- Sorting the indices by the rule. -/
theorem sortRule_any {w0 w : World} {X M n : Nat} {lv : Value} {l : List Sg} (hX : w.cell? ⟨X, 0, none⟩ = some lv) (hXM : X < M) (h0 : w0.heap.size ≤ M) (hB : Below w0.heap.size w0 w) (h : RowsAt 8 w0 lv (l.map rowG)) (hok : ∀ s ∈ l, sgOk s = true) (hid : IdsN l) (hn : l.length = n) (hl : l.length ≤ 30) (hM : M < w.heap.size) (hU : UpN M n n w) :
    Calls Try.prog 129 #[.slice (some ⟨M, 0, none⟩) n n, .func (.func 130) #[] #[.pointer (some ⟨X, 0, none⟩)]] w (fun e w' => e = .returned (.tuple #[]) ∧ Below M w w' ∧ NumsAt w' (.slice (some ⟨M, 0, none⟩) n n) (ruleL l)) := by
  rcases Nat.eq_zero_or_pos n with hz | hz
  · subst hz
    rw [List.length_eq_zero_iff] at hn
    subst hn
    refine (sort_no _ _ w).mono ?_
    rintro e w' ⟨rfl, rfl⟩
    exact ⟨rfl, Below.refl _ _, .inr ⟨⟨M, 0, none⟩, 0, rfl, Nat.le_refl _, by omega, fun k z hk => by simp [ruleL, ruleN, ruleUp] at hk⟩⟩
  · obtain ⟨m, hm⟩ : ∃ m, n = m + 1 := ⟨n - 1, by omega⟩
    have hs := Any.slices_SortFunc (α := Ix m) Try.sortIdx encX (fun _ => rfl) (cmpI l) (cmpI_swo l m) 130 #[.pointer (some ⟨X, 0, none⟩)] M 0 n (valI m) w (enters_of Try.func130 (by kernel_rfl) rfl)
      (fun k os dk _ x y => by
        have hb := below_sort (w := w) (B := M) (b := M) (m := k) (d := dk) (os := os) (Nat.le_refl _) (by omega)
        have hx2 : (sortWorld encX w M 0 k dk os).cell? ⟨X, 0, none⟩ = some lv := (hb.1.cell (p := ⟨X, 0, none⟩) hXM).trans hX
        refine (ruleCmp_any hx2 (h.below (hB.trans (hb.1.mono h0))) hok (i := x.1) (j := y.1) (by have := x.2; omega) (by have := y.2; omega)).mono ?_
        rintro e w' ⟨rfl, hg⟩
        exact ⟨rfl, hg.grow⟩)
      (holds_made hm hU) hM (by rw [valI_size]; omega)
    rw [valI_size] at hs
    rw [show m + 1 = n from hm.symm] at hs
    refine hs.mono ?_
    rintro e w' ⟨rfl, d, q, os, hp, hso, rfl⟩
    rw [show n = (valI m).size by rw [valI_size]; exact hm] at hp hso
    obtain ⟨p1, p2⟩ := sorted_rule (hn.trans hm) hid hp hso
    have hb := below_sort (w := w) (B := M) (b := M) (m := q) (d := d) (os := os) (Nat.le_refl _) (by omega)
    have hh := holds_sortWorld encX w M 0 q (valI m) d os hM (holds_made hm hU) (by rw [p1, valI_size])
    refine ⟨rfl, hb.1, ?_⟩
    have hq := nums_holds (n := n) (by rw [p1]; exact hm.symm) (by omega) (by omega) hh
    rw [p2] at hq
    exact hq

theorem Try.infoIn : (Try.prog.info? 3).map (fun i => (i.zero, i.size, i.bytes)) = some (some (.int .i64 0), 1, 8) := by kernel_rfl
set_option maxRecDepth 100000 in
set_option maxHeartbeats 1000000 in
theorem rule_any {w : World} {v : Value} {l : List Sg} (h : RowsAt 8 w v (l.map rowG)) (hk : listOk l = true) :
    Calls Try.prog 99 #[v] w (fun e w' => ∃ u, e = .returned u ∧ Below w.heap.size w w' ∧ NumsAt w' u (ruleL l)) := by
  obtain ⟨i0, hi0, hz0, hz1, hz2⟩ := info_parts Try.infoIn
  obtain ⟨a, cap, rfl, hll⟩ := h.shape
  rw [List.length_map] at h hll ⊢
  obtain ⟨hl, hok, hid⟩ := listOk_iff.1 hk
  obtain ⟨n, hn⟩ : ∃ n, l.length = n := ⟨_, rfl⟩
  rw [hn] at h hll ⊢
  have HN : Hid (l.length = n) := hn
  have hmf : ∀ (fn : Fn) (first cap : Array Value) (w : World), (Instr.makeFunc fn first cap).run Try.prog w = .ok (.func fn first cap) w := fun _ _ _ _ => rfl
  go_enter Try.func99, Try.ntmps99
  go_upto_region 2 with (at_make; refine wpList_make_full _ rfl _ _ 41 rfl (w.heap.size + 1) 3 i0 (.int .i64 0) 1 Try.underlying41 hi0 hz0 hz1 .i64 .i64 _ _ n rfl rfl rfl rfl (by rw [hz2]; omega) (by unfold maxLen; omega) (by simp) ?_; intro w5 ho5 hg5)
  simp only [World.size_alloc] at ho5
  have hm5 := made_at (B := w.heap.size + 1) rfl ho5
  have hb5 : Below (w.alloc (.cells #[.slice a n cap] 24)).heap.size (w.alloc (.cells #[.slice a n cap] 24)) w5 := (Below.refl _ _).grown hg5 (Nat.le_refl _) (fun k h => by cases h)
  have hz5 : w.heap.size + 1 < w5.heap.size := by have := (World.ownsRow.lt ho5 (w.heap.size + 1) (by simp [Value.ownBlock])).2; exact this
  have hB5 : Below w.heap.size w w5 := ((Below.refl w.heap.size w).alloc (Nat.le_refl _) _).trans (hb5.mono (by simp))
  have x5 : w5.cell? ⟨w.heap.size, 0, none⟩ = some (.slice a n cap) := bkeep hb5 (by simp [go_sem])
  have U5 : UpN (w.heap.size + 1) n 0 w5 := UpN.start hm5
  clear ho5 hg5 hm5 hb5
  go_wp2_with fail
  go_loopg [10] n (fun gk iv wr => ∃ k : Nat, k ≤ n ∧ gk = n - k ∧ iv = .int .i64 k ∧ UpN (w.heap.size + 1) n k wr ∧ Below w.heap.size w wr ∧ w.heap.size + 1 < wr.heap.size ∧ wr.cell? ⟨w.heap.size, 0, none⟩ = some (.slice a n cap))
  case atStart => exact ⟨0, Nat.zero_le _, rfl, rfl, U5, hB5, hz5, x5⟩
  case round =>
    clear U5 hB5 hz5 x5
    obtain ⟨k, hk1, hgk, rfl, hU, hB, hz, hx⟩ := hrel
    have HGK : Hid (gk = n - k) := hgk; clear hgk
    by_cases hlt : k < n
    · have hki : (k : Int) < (n : Int) := by omega
      obtain ⟨q0, f0⟩ := hU k hlt
      go_wp2_with fail
      go_roundg (n - (k + 1))
      case measure => have h := HGK.out; omega
      case rel => exact ⟨k + 1, by omega, rfl, by go_num, hU.put hlt, hB.setCell (p := ⟨w.heap.size + 1, k, none⟩) (Nat.le_succ _) _, by simpa using hz, (World.cell?_setCell_other _ _ _ _ (by intro e; injection e with e _; omega)).trans hx⟩
    · obtain rfl : k = n := by omega
      go_wp2_with fail
      refine (sortRule_any (w0 := w) hx (Nat.lt_succ_self _) (Nat.le_succ _) hB h hok hid HN.out hl hz hU).mono ?_
      rintro e w9 ⟨rfl, hb9, hn9⟩
      go_wp2_with fail
      go_ret
      exact ⟨_, rfl, hB.trans (hb9.mono (Nat.le_succ _)), hn9⟩

set_option maxRecDepth 100000 in
set_option maxHeartbeats 1000000 in
theorem ruled_any {w : World} {v : Value} {l : List Sg} (h : RowsAt 8 w v (l.map rowG)) (hk : listOk l = true) :
    Calls Try.prog 101 #[v] w (NewSgs 33 (ruledL l) w) := by
  have hl := (listOk_iff.1 hk).1
  unfold NewSgs
  go_enter Try.func101, Try.ntmps101
  go_wp2_with fail
  refine (rule_any (h.below (by go_grown)) hk).mono ?_
  rintro e w2 ⟨u, rfl, hb2, hu⟩
  have hz2 := hb2.size
  go_wp2_with fail
  refine (chosenG_any (h.below hb2) (by omega) hu (by rw [ruleL_length]; omega) (ruleL_in l)).mono ?_
  unfold NewSgs
  rintro e w3 ⟨x, rfl, hb3, ho3⟩
  go_wp2_with fail
  go_ret
  exact ⟨_, rfl, hb2.trans (hb3.mono hz2), owns_base hz2 ho3⟩

end Go.Proofs.Ytnchhleokdkejaa

/- A range over an iterator that may itself range over another: the contract tells the iterator that whatever was laid since its call lies as it lay behind each round. -/
namespace Go.Pb
open Go Go.RowKit
set_option linter.unusedVariables false
variable {F : Fence} {n : Nat} {P : Program}
/-- Whatever lies at or beyond B lies as it lay. -/
structure KeepsAll (B : Nat) (W W' : World) : Prop where
  size : W.heap.size ≤ W'.heap.size
  same : ∀ k, B ≤ k → k < W.heap.size → W'.heap[k]? = W.heap[k]?
theorem KeepsAll.refl {B : Nat} {W : World} : KeepsAll B W W := ⟨Nat.le_refl _, fun _ _ _ => rfl⟩
theorem KeepsAll.trans {B : Nat} {X Y Z : World} (h : KeepsAll B X Y) (k : KeepsAll B Y Z) : KeepsAll B X Z := ⟨Nat.le_trans h.size k.size, fun i h1 h2 => (k.same i h1 (Nat.lt_of_lt_of_le h2 h.size)).trans (h.same i h1 h2)⟩
theorem KeepsAll.of_below {B : Nat} {W W' : World} (h : Below W.heap.size W W') : KeepsAll B W W' := ⟨h.size, fun k _ h2 => h.block k h2⟩
theorem KeepsAll.set {B : Nat} {W : World} {a : Addr} {v : Value} (h : a.block < B) : KeepsAll B W (W.setCell a v) := ⟨(KeepsWalks.setCell W _ v).size, fun k h1 _ => Below.heap_setCell _ _ _ k (by omega)⟩
theorem KeepsAll.from {B : Nat} {W W' : World} (h : KeepsAll B W W') : KeepsFrom B W W' := ⟨h.size, fun k o h1 h2 _ => (h.same k h1 (Array.getElem?_eq_some_iff.1 h2).1).trans h2⟩
theorem KeepsAll.mono {B C : Nat} {W W' : World} (h : KeepsAll B W W') (hB : B ≤ C) : KeepsAll C W W' := ⟨h.size, fun k h1 h2 => h.same k (Nat.le_trans hB h1) h2⟩
/-- How the body of a round may be left. -/
def ownPostA {α : Type} (B : Nat) (Kp : World → World → Prop) (I : List α → World → Prop) (Ix : Code → List α → World → Prop) (xs : List α) (W : World) : Exit → Act → World → Prop
  | .normal, _, W' => KeepsAll B W W' ∧ Kp W W' ∧ I xs W'
  | .ret, _, W' => KeepsAll B W W' ∧ Ix .ret xs W'
  | .exit id, _, W' => KeepsAll B W W' ∧ Ix (.exit id) xs W'
  | .goto t, _, W' => KeepsAll B W W' ∧ Ix (.goto t) xs W'
  | .panic _, _, _ => False
  | .outgrown, _, _ => False
/-- It speaks of what lies below B alone. -/
def Low {β : Type} (B : Nat) (I : β → World → Prop) : Prop := ∀ s A C, I s A → Below B A C → I s C
/-- As SeqMem (Xm), but: J and Jx abide the turn of whatever is no cells and was laid since the iterator's call; and each round keeps what was laid since then. -/
def SeqN {α : Type} (F : Fence) (n : Nat) (P : Program) (g : Nat) (lb : Array Value) (encs : α → Array Value) (Kp : World → World → Prop) (M : α → World → Prop) (Nx : List α → α → Prop) (S Sp : List α → Prop) (w : World) : Prop :=
  ∀ (l : Nat) (J Jx : List α → World → Prop) (W : World), Below w.heap.size w W → OwnFrom W.heap.size J → OwnFrom W.heap.size Jx → Low W.heap.size J → Low W.heap.size Jx →
    (∀ pre x V, J pre V → M x V → Nx pre x → W.heap.size ≤ V.heap.size → YieldAt F (n - 1) P l (encs x) V fun e V' => (e = .returned (.bool true) ∧ J (pre ++ [x]) V' ∧ Kp V V' ∧ KeepsAll W.heap.size V V') ∨ (e = .returned (.bool false) ∧ Jx (pre ++ [x]) V' ∧ KeepsAll W.heap.size V V')) →
    J [] W → CallsIn F n P g (#[.func (.yield l) #[] #[]] ++ lb) W fun e V => (∃ v, e = .returned v) ∧ ((∃ xs, S xs ∧ J xs V) ∨ (∃ pre, Sp pre ∧ Jx pre V))
/-- The two blocks of a loop's books: its record behind the block of what is put off. -/
def BookN (D : Nat) (r : Loop) (W : World) : Prop := W.heap[D + 1]? = some (.loop r) ∧ W.heap[D]? = some (.deferred (some []))
theorem BookN.lt {D : Nat} {r : Loop} {W : World} (h : BookN D r W) : D + 1 < W.heap.size := (Array.getElem?_eq_some_iff.1 h.1).1
theorem BookN.keep {D : Nat} {r : Loop} {W W' : World} (h : BookN D r W) (hk : KeepsFrom D W W') : BookN D r W' := ⟨hk.same _ _ (Nat.le_succ D) h.1 rfl, hk.same _ _ (Nat.le_refl D) h.2 rfl⟩
theorem BookN.turn {D : Nat} {r : Loop} {W : World} (h : BookN D r W) (r' : Loop) : BookN D r' (W.putObj (D + 1) (.loop r')) := ⟨World.putObj_heap_same h.lt, (World.putObj_heap_other (by omega)).trans h.2⟩
theorem BookN.low {D B : Nat} {r : Loop} {W W' : World} (h : BookN D r W) (hb : Below B W W') (hB : D + 1 < B) : BookN D r W' := ⟨(hb.block _ hB).trans h.1, (hb.block _ (by omega)).trans h.2⟩
theorem BookN.far {D : Nat} {r : Loop} {W W' : World} {row : Option Nat} (h : BookN D r W) (hg : W.grownBy W' row) (hr : ∀ k, row = some k → D + 1 < k) : BookN D r W' :=
  ⟨(hg.block _ h.lt (fun e => by have := hr _ e.symm; omega)).trans h.1, (hg.block _ (by have := h.lt; omega) (fun e => by have := hr _ e.symm; omega)).trans h.2⟩
theorem wpIn_rangeFunc_n {α : Type} {g : Operand} {ps : Array Tmp} {assign body : Code} {Q : Exit → Act → World → Prop} {a : Act} {w : World} (hro : F.round = none) (h1 : 1 ≤ n)
    {gf : Nat} {lb : Array Value} (hg : a.eval g = .func (.func gf) #[] lb) (hFg : F.fn gf) (eg : ∀ args w, (callFunc gf args).run P w = .ok (.enter gf args) w)
    {encs : α → Array Value} {Kp : World → World → Prop} {M : α → World → Prop} {Nx : List α → α → Prop} {S Sp : List α → Prop} {w0 : World} (hseq : SeqN F (n - 1) P gf lb encs Kp M Nx S Sp w0)
    (hKt : ∀ {A B C : World}, Kp A B → Kp B C → Kp A C) (hKb : ∀ (W : World) (l : Nat) (o o' : Obj), w.heap.size ≤ l → W.heap[l]? = some o → o.isCells = false → o.isWalk = false → Kp W (W.putObj l o'))
    (hb0 : Below w0.heap.size w0 w) (hps : ∀ x, (encs x).size = ps.size) (I : List α → World → Prop) (Ix : Code → List α → World → Prop) (hI : OwnFrom w.heap.size I) (hIx : ∀ c, OwnFrom w.heap.size (Ix c)) (hIl : Low w.heap.size I) (hIxl : ∀ c, Low w.heap.size (Ix c)) (hM : OwnFrom w.heap.size M) (h0 : I [] w) (Ax : α → Act → World → Prop) (hAx : ∀ x a', OwnFrom w.heap.size (fun (_ : Unit) W => Ax x a' W))
    (hassign : ∀ (l : Nat) (pre : List α) (x : α) (W : World) (K : Act → World → Prop), I pre W → M x W → (∀ a' W', KeepsAll w.heap.size W W' → Kp W W' → I pre W' → M x W' → Ax x a' W' → K a' W') →
      assign.wpIn (F.inRound l) (n - 1 - 1) P (Exit.then K (fun _ _ _ => False)) { tmps := (ps.zip (encs x)).foldl (fun t (p, v) => t.setIfInBounds p v) a.tmps, defers := [] } W)
    (hbody : ∀ (l : Nat) (pre : List α) (x : α) (a' : Act) (W : World), w.heap.size ≤ l → l < W.heap.size → I pre W → M x W → Ax x a' W → Nx pre x → body.wpIn (F.inRound l) (n - 1 - 1) P (ownPostA w.heap.size Kp I Ix (pre ++ [x]) W) a' W)
    (hdone : ∀ (D : Nat) (xs : List α) (W : World), w.heap.size ≤ D → S xs → I xs W → W.heap[D]? = some (.deferred (some [])) → Q .normal { a with defers := { target := .collected D, args := #[] } :: a.defers } W)
    (hstop : ∀ (D : Nat) (c : Code) (pre : List α) (W : World), w.heap.size ≤ D → Sp pre → Ix c pre W → W.heap[D]? = some (.deferred (some [])) → c.wpIn F n P Q { a with defers := { target := .collected D, args := #[] } :: a.defers } W) :
    (Code.rangeFunc g ps assign body).wpIn F n P Q a w := by
  refine wpIn_rangeFunc fun fn hfn => ?_
  rw [hro]
  obtain ⟨D, hD⟩ : ∃ D, w.heap.size = D := ⟨_, rfl⟩
  obtain ⟨rc, hrc⟩ : ∃ f : LoopState → Option Code → Loop, f = fun st pe => { state := st, pending := pe, fn, tmps := a.tmps, params := ps, assign, body, defers := w.heap.size } := ⟨_, rfl⟩
  have start : BookN D (rc .ready none) ((w.alloc (.deferred (some []))).alloc (.loop (rc .ready none))) := by
    subst hD
    refine ⟨?_, (Below.heap_alloc _ _ _ (by simp)).trans (World.alloc_heap_new w _)⟩
    have h := World.alloc_heap_new (w.alloc (.deferred (some []))) (.loop (rc .ready none))
    rwa [World.size_alloc] at h
  obtain ⟨V0, hV0⟩ : ∃ V, (w.alloc (.deferred (some []))).alloc (.loop (rc .ready none)) = V := ⟨_, rfl⟩
  have hB0 : Below w0.heap.size w0 V0 := by rw [← hV0]; exact hb0.trans ((((Below.refl _ w).alloc (Nat.le_refl _) _).alloc (by simp) _).mono hb0.size)
  have hI0 : I [] V0 := by rw [← hV0]; exact hI.alloc _ (hI.alloc _ h0)
  have hsz : D ≤ V0.heap.size := by rw [← hV0]; simp; omega
  refine ⟨D + 1, [{ target := .collected D, args := #[] }], V0, { target := .fn (.func gf) lb, args := #[.func (.yield (D + 1)) #[] #[]] }, V0, gf, #[.func (.yield (D + 1)) #[] #[]] ++ lb, V0, ?_, ?_, ?_, ?_, fun _ => h1, ?_⟩
  · subst hD; rw [← hV0, hrc]; exact run_enterLoop_outer _ _ _ _ _
  · simp only [resolve, hg]; simp [go_sem]
  · intro f' hf'; simp [Target.leads] at hf'; subst hf'; exact hFg
  · simp [invoke, go_sem, eg]
  rw [hV0] at start
  have hsz2 : D + 1 < V0.heap.size := start.lt
  refine (hseq (D + 1) (fun pre W => I pre W ∧ BookN D (rc .ready none) W) (fun pre W => ∃ c, Ix c pre W ∧ BookN D (rc .done (some c)) W) V0 hB0
    (fun s A B row hs hg' hr => ⟨hI s A B row hs.1 hg' (fun r e => ⟨by have := (hr r e).1; omega, (hr r e).2⟩), hs.2.far hg' fun k e => by have := (hr k e).1; omega⟩)
    (fun s A B row hs hg' hr => hs.imp fun c hc => ⟨hIx c s A B row hc.1 hg' (fun r e => ⟨by have := (hr r e).1; omega, (hr r e).2⟩), hc.2.far hg' fun k e => by have := (hr k e).1; omega⟩) 
    (fun s A B hs hb => ⟨hIl s A B hs.1 (hb.mono (by omega)), hs.2.low hb hsz2⟩) (fun s A B hs hb => hs.imp fun c hc => ⟨hIxl c s A B hc.1 (hb.mono (by omega)), hc.2.low hb hsz2⟩) ?_ ⟨hI0, start⟩).mono ?_
  · rintro pre x Va ⟨hi0, hk0⟩ hm0 hx hVs
    have hy := run_yield (P := P) (args := encs x) hk0.1 (by rw [hrc]; exact hps x)
    rw [hrc] at hy
    refine ⟨fn, _, assign, body, hy, roundIn_of_wpIn hfn (hassign _ pre x Va _ hi0 hm0 fun a' V hka hkq hi hm hax => ?_)⟩
    clear hy
    have hk : BookN D (rc .ready none) V := hk0.keep (hD ▸ hka.from)
    refine ⟨_, run_beginRound hk.1 (by rw [hrc]), ?_⟩
    have hkb := hk.turn { rc .ready none with state := .busy }
    have turn : ∀ {W : World} {r r' : Loop} {Z : List α → World → Prop} {ys : List α}, OwnFrom w.heap.size Z → Z ys W → BookN D r W → Z ys (W.putObj (D + 1) (.loop r')) := fun hZ hz hb => hZ.putObj _ hz (by omega) hb.1 rfl
    have hkp : Kp V (V.putObj (D + 1) (.loop { rc .ready none with state := .busy })) := hKb _ _ _ _ (by omega) hk.1 rfl rfl
    refine wpIn_mono (hbody _ pre x a' _ (by omega) (by rw [World.putObj_size]; exact hk.lt) (turn hI hi hk) (hM.putObj _ hm (by omega) hk.1 rfl) ((hAx x a').putObj (s := ()) _ hax (by omega) hk.1 rfl) hx) ?_
    have ends : ∀ (j : Option Code) (W : World), BookN D { rc .ready none with state := .busy } W → (Instr.endRound (D + 1) j).run P W = .ok (.bool j.isNone) (W.putObj (D + 1) (.loop (rc (if j.isNone then .ready else .done) j))) := fun j W hb => by
      have h := run_endRound (P := P) j hb.1
      rw [hrc] at h ⊢
      exact h
    have keepN : ∀ (W : World) (r' : Loop), KeepsAll w.heap.size (V.putObj (D + 1) (.loop { rc .ready none with state := .busy })) W → KeepsAll V0.heap.size Va (W.putObj (D + 1) (.loop r')) := fun W r' hkf => (hka.mono (by omega)).trans
      ⟨by have h1 := hkf.size; simp only [World.putObj_size] at h1 ⊢; exact h1, fun k hk2 hk3 => by
        rw [World.putObj_heap_other (by omega), hkf.same k (by omega) (by rw [World.putObj_size]; exact hk3)]
        exact World.putObj_heap_other (by omega)⟩
    have leave : ∀ (c : Code) (W : World), KeepsAll w.heap.size (V.putObj (D + 1) (.loop { rc .ready none with state := .busy })) W → Ix c (pre ++ [x]) W →
        ∃ v W', (Instr.endRound (D + 1) (some c)).run P W = .ok v W' ∧ ((Ending.returned v = .returned (.bool true) ∧ (I (pre ++ [x]) W' ∧ BookN D (rc .ready none) W') ∧ Kp Va W' ∧ KeepsAll V0.heap.size Va W') ∨ (Ending.returned v = .returned (.bool false) ∧ (∃ c, Ix c (pre ++ [x]) W' ∧ BookN D (rc .done (some c)) W') ∧ KeepsAll V0.heap.size Va W')) := fun c W hkf hc => by
      have hb := hkb.keep (hD ▸ hkf.from)
      exact ⟨_, _, ends (some c) W hb, .inr ⟨rfl, ⟨c, turn (hIx c) hc hb, hb.turn _⟩, keepN W _ hkf⟩⟩
    rintro e a3 W hp
    cases e with
    | normal =>
      obtain ⟨hkf, hkp3, hi3⟩ := hp
      have hb := hkb.keep (hD ▸ hkf.from)
      exact ⟨_, _, ends none W hb, .inl ⟨rfl, ⟨turn hI hi3 hb, hb.turn _⟩, hKt hkq (hKt hkp (hKt hkp3 (hKb _ _ _ _ (by omega) hb.1 rfl rfl))), keepN W _ hkf⟩⟩
    | ret => exact leave _ W hp.1 hp.2
    | exit id => exact leave _ W hp.1 hp.2
    | goto t => exact leave _ W hp.1 hp.2
    | panic ch => exact hp.elim
    | outgrown => exact hp.elim
  · have over : ∀ {W : World} {r : Loop}, BookN D r W → r.state ≠ .busy → (Instr.endLoop (D + 1)).run P W = .ok r.pending (W.putObj (D + 1) (.loop { r with state := .exhausted })) := fun hb hs => run_endLoop hb.1 hs
    rintro e W ⟨⟨v, rfl⟩, ⟨xs, hS, hi, hb⟩ | ⟨pre, hSp, c, hi, hb⟩⟩
    · have h := over hb (by rw [hrc]; simp)
      rw [show (rc .ready none).pending = none by rw [hrc]] at h
      exact ⟨none, _, h, hdone _ xs _ (by omega) hS (hI.putObj _ hi (by omega) hb.1 rfl) (hb.turn _).2⟩
    · have h := over hb (by rw [hrc]; simp)
      rw [show (rc .done (some c)).pending = some c by rw [hrc]] at h
      exact ⟨some c, _, h, hstop _ c pre _ (by omega) hSp ((hIx c).putObj _ hi (by omega) hb.1 rfl) (hb.turn _).2⟩
end Go.Pb

/- Loads and answers of courses, by plain maths; what a round must keep. -/
namespace Go.Pb.Bung
open Go Go.Pb Go.Pb.Ware Go.RowKit
set_option linter.unusedVariables false
set_option linter.unusedSimpArgs false
/-- The blocks of which p says so lie as they lay. -/
def KeepP (p : Nat → Prop) (W W' : World) : Prop := W.heap.size ≤ W'.heap.size ∧ ∀ k, p k → k < W.heap.size → W'.heap[k]? = W.heap[k]?
theorem KeepP.refl {p : Nat → Prop} {W : World} : KeepP p W W := ⟨Nat.le_refl _, fun _ _ _ => rfl⟩
theorem KeepP.trans {p : Nat → Prop} {A B C : World} (h : KeepP p A B) (k : KeepP p B C) : KeepP p A C := ⟨Nat.le_trans h.1 k.1, fun i hp hi => (k.2 i hp (Nat.lt_of_lt_of_le hi h.1)).trans (h.2 i hp hi)⟩
theorem KeepP.of_below {p : Nat → Prop} {W W' : World} (h : Below W.heap.size W W') : KeepP p W W' := ⟨h.size, fun k _ hk => h.block k hk⟩
theorem KeepP.set {p : Nat → Prop} {W : World} {a : Addr} {v : Value} (h : ¬ p a.block) : KeepP p W (W.setCell a v) := ⟨(KeepsWalks.setCell W _ v).size, fun k h1 _ => Below.heap_setCell _ _ _ k (fun e => h (e ▸ h1))⟩
theorem KeepP.put {p : Nat → Prop} {W : World} {l : Nat} {o' : Obj} (h : ¬ p l) : KeepP p W (W.putObj l o') := ⟨by rw [World.putObj_size]; exact Nat.le_refl _, fun k h1 _ => World.putObj_heap_other (fun e => h (e ▸ h1))⟩
theorem KeepP.cell {p : Nat → Prop} {W W' : World} (h : KeepP p W W') {a : Addr} (hp : p a.block) {v : Value} (hv : W.cell? a = some v) : W'.cell? a = some v := by
  have hlt := World.block_lt_of_cell? W a hv
  unfold World.cell? at hv ⊢
  rw [h.2 _ hp hlt]
  exact hv
/-- Of a slice's memory p says so. -/
def InP (p : Nat → Prop) (v : Value) : Prop := ∀ a n c, v = .slice (some a) n c → p a.block
theorem rows_keepP {p : Nat → Prop} {n : Nat} {W W' : World} {v : Value} {rows : List (List Int)} (h : RowsAt n W v rows) (hp : rows ≠ [] → InP p v) (hk : KeepP p W W') : RowsAt n W' v rows := by
  rcases h with h | ⟨a, cap, h1, h2, h3, h4⟩
  · exact .inl h
  · exact .inr ⟨a, cap, h1, h2, h3, fun k r hr => ⟨(h4 k r hr).1, fun j z hz => ⟨hk.cell (a := a.add (k * n + j)) (by
      have : (a.add (k * n + j)).block = a.block := by unfold Addr.add; split <;> rfl
      rw [this]; exact hp (fun e => by rw [e] at hr; simp at hr) a _ cap h1) ((h4 k r hr).2 j z hz).1, ((h4 k r hr).2 j z hz).2⟩⟩⟩
def sgV (s : Sg) : Value := .agg (cellsG s).toArray
/-- What stands on the course i weighs. -/
def loadL (l : List Sg) (i : Nat) : Int := ((l.drop (i + 1)).map (·.wl)).sum
def loadH (l : List Sg) (i : Nat) : Int := ((l.drop (i + 1)).map (·.wh)).sum
def ansS (s : Sg) (lo hi : Int) : Int := if hi ≤ s.bl then 1 else if lo > s.bh then 0 else 2
def ansL (l : List Sg) (i : Nat) : Int := ansS (l.getD i default) (loadL l i) (loadH l i)
theorem load_small {l : List Sg} (h : ∀ s ∈ l, 0 ≤ s.wl ∧ s.wl ≤ 10000000 ∧ 0 ≤ s.wh ∧ s.wh ≤ 10000000) (i : Nat) : 0 ≤ loadL l i ∧ loadL l i ≤ 10000000 * l.length ∧ 0 ≤ loadH l i ∧ loadH l i ≤ 10000000 * l.length := by
  have key : ∀ (f : Sg → Int) (m : List Sg), (∀ s ∈ m, 0 ≤ f s ∧ f s ≤ 10000000) → 0 ≤ (m.map f).sum ∧ (m.map f).sum ≤ 10000000 * m.length := by
    intro f m hm
    induction m with
    | nil => simp
    | cons s m ih =>
      have h1 := hm s (List.mem_cons_self ..)
      have h2 := ih fun x hx => hm x (List.mem_cons_of_mem _ hx)
      rw [List.map_cons, List.sum_cons, List.length_cons]
      omega
  have hd : ∀ s ∈ l.drop (i + 1), s ∈ l := fun s hs => List.mem_of_mem_drop hs
  have hl : (l.drop (i + 1)).length ≤ l.length := by rw [List.length_drop]; omega
  have h1 := key (·.wl) _ fun s hs => ⟨(h s (hd s hs)).1, (h s (hd s hs)).2.1⟩
  have h2 := key (·.wh) _ fun s hs => ⟨(h s (hd s hs)).2.2.1, (h s (hd s hs)).2.2.2⟩
  unfold loadL loadH
  omega
def accL (l : List Sg) (k : Nat) : Int := ((l.drop (l.length - k)).map (·.wl)).sum
def accH (l : List Sg) (k : Nat) : Int := ((l.drop (l.length - k)).map (·.wh)).sum
theorem acc_load {l : List Sg} {i k : Nat} (h : i + k + 1 = l.length) : loadL l i = accL l k ∧ loadH l i = accH l k := by
  unfold loadL loadH accL accH
  rw [show l.length - k = i + 1 by omega]; exact ⟨rfl, rfl⟩
theorem acc_step {l : List Sg} {i k : Nat} {s : Sg} (h : i + k + 1 = l.length) (hs : l[i]? = some s) : accL l (k + 1) = accL l k + s.wl ∧ accH l (k + 1) = accH l k + s.wh := by
  obtain ⟨hk, rfl⟩ := List.getElem?_eq_some_iff.1 hs
  unfold accL accH
  rw [show l.length - k = i + 1 by omega, show l.length - (k + 1) = i by omega, List.drop_eq_getElem_cons hk, List.map_cons, List.map_cons, List.sum_cons, List.sum_cons]
  constructor <;> omega
theorem acc_zero {l : List Sg} : accL l 0 = 0 ∧ accH l 0 = 0 := by
  unfold accL accH; rw [Nat.sub_zero, List.drop_length]; exact ⟨rfl, rfl⟩
theorem cells_keepA {W W' : World} {B n0 : Nat} {v : Value} {vs : List Value} (h : CellsAt W B (v :: vs)) (hk : KeepsAll n0 W W') (hB : n0 ≤ B) : CellsAt W' B (v :: vs) := by
  have hlt : B < W.heap.size := World.block_lt_of_cell? W ⟨B, 0, none⟩ (h 0 v rfl).1
  intro o u hu
  obtain ⟨h1, h2⟩ := h o u hu
  have e := hk.same B hB hlt
  refine ⟨?_, ?_⟩
  · unfold World.cell? at h1 ⊢; rw [e]; exact h1
  · unfold World.frozen? at h2 ⊢; rw [e]; exact h2
theorem roundIn_wide {a b : Nat} {P : Program} {l k : Nat} {f : FuncId} {tmps : Array Value} {assign body : Code} {w : World} {R : Ending → World → Prop} (h : RoundIn Fence.wide a P l f tmps assign body w R) : RoundIn (Fence.wide.inRound k) b P l f tmps assign body w R := ⟨h.1, fun c cs _ => h.2 c cs (room_wide _)⟩
def encL (l : List Sg) (i : Nat) : Array Value := #[.int .i64 (i : Int), .agg #[.int .i64 (loadL l i), .int .i64 (loadH l i)]]
theorem inP_rows {w : World} {v : Value} {l : List Sg} (h : RowsAt 8 w v (l.map rowG)) (hne : l ≠ []) : InP (fun k => k < w.heap.size) v := by
  rintro a n c rfl
  rcases h with ⟨h1, _⟩ | ⟨b, cap, h1, h2, h3, h4⟩
  · cases h1
  · injection h1 with h1 _ _
    injection h1 with h1
    subst h1
    obtain ⟨s, l', rfl⟩ := List.exists_cons_of_ne_nil hne
    have h5 := (h4 0 (rowG s) rfl).2 0 s.id rfl
    have h6 := World.block_lt_of_cell? w _ h5.1
    have : (a.add (0 * 8 + 0)).block = a.block := by unfold Addr.add; split <;> rfl
    rwa [this] at h6
/-- What all courses answer. -/
def stA (l : List Sg) : Int := if (List.range l.length).any (fun i => decide (ansL l i = 0)) then 0 else if (List.range l.length).any (fun i => decide (ansL l i = 2)) then 2 else 1
/-- Of the k upper courses none answers No. -/
def noneUp (l : List Sg) (k : Nat) : Prop := ∀ i, i < l.length → l.length ≤ i + k → ansL l i ≠ 0
def allUp (l : List Sg) (k : Nat) : Int := if ∃ i, i < l.length ∧ l.length ≤ i + k ∧ ansL l i = 2 then 2 else 1
theorem stA_no {l : List Sg} {i : Nat} (hi : i < l.length) (h : ansL l i = 0) : stA l = 0 := by
  unfold stA
  rw [if_pos (List.any_eq_true.2 ⟨i, List.mem_range.2 hi, decide_eq_true h⟩)]
theorem stA_end {l : List Sg} (h : noneUp l l.length) : stA l = allUp l l.length := by
  unfold stA allUp
  rw [if_neg (by
    rw [List.any_eq_true]
    rintro ⟨i, hi, h2⟩
    exact h i (List.mem_range.1 hi) (by omega) (of_decide_eq_true h2))]
  by_cases h2 : ∃ i, i < l.length ∧ l.length ≤ i + l.length ∧ ansL l i = 2
  · rw [if_pos h2]
    obtain ⟨i, h3, -, h4⟩ := h2
    rw [if_pos (List.any_eq_true.2 ⟨i, List.mem_range.2 h3, decide_eq_true h4⟩)]
  · rw [if_neg h2, if_neg (by
      rw [List.any_eq_true]
      rintro ⟨i, hi, h3⟩
      exact h2 ⟨i, List.mem_range.1 hi, by omega, of_decide_eq_true h3⟩)]
theorem noneUp_zero {l : List Sg} : noneUp l 0 := fun i h1 h2 => by omega
theorem allUp_zero {l : List Sg} : allUp l 0 = 1 := by
  unfold allUp; rw [if_neg]; rintro ⟨i, h1, h2, -⟩; omega
theorem noneUp_next {l : List Sg} {i k : Nat} (h : noneUp l k) (hi : i + k + 1 = l.length) (h0 : ansL l i ≠ 0) : noneUp l (k + 1) := fun j h1 h2 => by
  by_cases e : j = i
  · subst e; exact h0
  · exact h j h1 (by omega)
theorem allUp_two {l : List Sg} {i k : Nat} (hi : i + k + 1 = l.length) (h0 : ansL l i = 2) : allUp l (k + 1) = 2 := by
  unfold allUp; rw [if_pos ⟨i, by omega, by omega, h0⟩]
theorem allUp_same {l : List Sg} {i k : Nat} (hi : i + k + 1 = l.length) (h0 : ansL l i ≠ 2) : allUp l (k + 1) = allUp l k := by
  unfold allUp
  congr 1
  refine propext ⟨?_, ?_⟩
  · rintro ⟨j, h1, h2, h3⟩
    refine ⟨j, h1, ?_, h3⟩
    by_cases e : j = i
    · subst e; exact absurd h3 h0
    · omega
  · rintro ⟨j, h1, h2, h3⟩
    exact ⟨j, h1, by omega, h3⟩
theorem ansS_three (s : Sg) (lo hi : Int) : ansS s lo hi = 0 ∨ ansS s lo hi = 1 ∨ ansS s lo hi = 2 := by
  unfold ansS; split
  · exact .inr (.inl rfl)
  · split
    · exact .inl rfl
    · exact .inr (.inr rfl)
/-- How high k saggars are, with wads between them. -/
def hgtL (l : List Sg) (lo : Int) (k : Nat) : Int := ((l.take k).map (·.hl)).sum + ((k - 1 : Nat) : Int) * lo
def hgtH (l : List Sg) (hi : Int) (k : Nat) : Int := ((l.take k).map (·.hh)).sum + ((k - 1 : Nat) : Int) * hi
theorem hgt_zero {l : List Sg} {lo hi : Int} : hgtL l lo 0 = 0 ∧ hgtH l hi 0 = 0 := by unfold hgtL hgtH; simp
theorem hgt_first {l : List Sg} {lo hi : Int} {s : Sg} (h : l[0]? = some s) : hgtL l lo 1 = hgtL l lo 0 + s.hl ∧ hgtH l hi 1 = hgtH l hi 0 + s.hh := by
  unfold hgtL hgtH; rw [List.take_add_one, h]; simp
theorem hgt_next {l : List Sg} {lo hi : Int} {s : Sg} {k : Nat} (h : l[k + 1]? = some s) : hgtL l lo (k + 2) = hgtL l lo (k + 1) + lo + s.hl ∧ hgtH l hi (k + 2) = hgtH l hi (k + 1) + hi + s.hh := by
  unfold hgtL hgtH
  have e : l.take (k + 2) = l.take (k + 1) ++ [s] := by
    have e1 := List.take_add_one (i := k + 1) (l := l)
    rw [h] at e1
    exact e1
  rw [e, show k + 2 - 1 = (k + 1 - 1) + 1 by omega]
  simp only [List.map_append, List.sum_append, List.map_cons, List.map_nil, List.sum_cons, List.sum_nil]
  push_cast
  rw [Int.add_mul, Int.add_mul]
  constructor <;> omega
theorem hgt_small {l : List Sg} {lo hi : Int} (hs : ∀ s ∈ l, 0 ≤ s.hl ∧ s.hl ≤ 10000 ∧ 0 ≤ s.hh ∧ s.hh ≤ 10000) (h1 : 0 ≤ lo ∧ lo ≤ 200) (h2 : 0 ≤ hi ∧ hi ≤ 200) (k : Nat) : 0 ≤ hgtL l lo k ∧ hgtL l lo k ≤ 10200 * k ∧ 0 ≤ hgtH l hi k ∧ hgtH l hi k ≤ 10200 * k := by
  have key : ∀ (f : Sg → Int) (m : List Sg), (∀ s ∈ m, 0 ≤ f s ∧ f s ≤ 10000) → 0 ≤ (m.map f).sum ∧ (m.map f).sum ≤ 10000 * m.length := by
    intro f m hm
    induction m with
    | nil => simp
    | cons s m ih =>
      have h1 := hm s (List.mem_cons_self ..)
      have h2 := ih fun x hx => hm x (List.mem_cons_of_mem _ hx)
      rw [List.map_cons, List.sum_cons, List.length_cons]
      omega
  have ht : ∀ s ∈ l.take k, s ∈ l := fun s h => List.mem_of_mem_take h
  have hl : (l.take k).length ≤ k := by rw [List.length_take]; omega
  have a1 := key (·.hl) _ fun s h => ⟨(hs s (ht s h)).1, (hs s (ht s h)).2.1⟩
  have a2 := key (·.hh) _ fun s h => ⟨(hs s (ht s h)).2.2.1, (hs s (ht s h)).2.2.2⟩
  have m1 : 0 ≤ ((k - 1 : Nat) : Int) * lo ∧ ((k - 1 : Nat) : Int) * lo ≤ ((k - 1 : Nat) : Int) * 200 := ⟨Int.mul_nonneg (by omega) h1.1, Int.mul_le_mul_of_nonneg_left h1.2 (by omega)⟩
  have m2 : 0 ≤ ((k - 1 : Nat) : Int) * hi ∧ ((k - 1 : Nat) : Int) * hi ≤ ((k - 1 : Nat) : Int) * 200 := ⟨Int.mul_nonneg (by omega) h2.1, Int.mul_le_mul_of_nonneg_left h2.2 (by omega)⟩
  unfold hgtL hgtH
  omega
/-- The answers of the k upper courses, in a slice that was made. -/
def MadeN (M n : Nat) (f : Nat → Int) (k : Nat) (W : World) : Prop := ∀ i, i < n → W.cell? ⟨M, i, none⟩ = some (.int .i64 (if n ≤ i + k then f i else 0)) ∧ W.frozen? ⟨M, i, none⟩ = false
theorem MadeN.start {M n : Nat} {f : Nat → Int} {W : World} (h : ∀ i, i < n → W.cell? ⟨M, i, none⟩ = some (.int .i64 0) ∧ W.frozen? ⟨M, i, none⟩ = false) : MadeN M n f 0 W := fun i hi => by
  rw [if_neg (by omega)]; exact h i hi
theorem MadeN.below {M n k : Nat} {f : Nat → Int} {W W' : World} (h : MadeN M n f k W) (hb : Below W.heap.size W W') : MadeN M n f k W' := fun i hi => ⟨bkeep hb (h i hi).1, bfree hb (h i hi).1 (h i hi).2⟩
theorem MadeN.low {M n k n0 : Nat} {f : Nat → Int} {W W' : World} (h : MadeN M n f k W) (hb : Below n0 W W') (hM : M < n0) : MadeN M n f k W' := fun i hi => by
  obtain ⟨h1, h2⟩ := h i hi
  have e := hb.block M hM
  exact ⟨by unfold World.cell? at h1 ⊢; rw [e]; exact h1, by unfold World.frozen? at h2 ⊢; rw [e]; exact h2⟩
theorem MadeN.kept {M n k : Nat} {f : Nat → Int} {W W' : World} {row : Option Nat} (h : MadeN M n f k W) (hg : W.grownBy W' row) (hr : ∀ r, row = some r → ∃ o : Obj, W.heap[r]? = some o ∧ o.isCells = false) : MadeN M n f k W' := fun i hi => by
  obtain ⟨h1, h2⟩ := h i hi
  have hne : some M ≠ row := fun e => by
    obtain ⟨o, ho, hc⟩ := hr M e.symm
    unfold World.cell? at h1
    dsimp only at h1
    rw [ho] at h1
    cases o <;> simp_all [Obj.isCells]
  exact ⟨hg.cell (a := ⟨M, i, none⟩) h1 hne, grown_free hg h1 h2 hne⟩
theorem MadeN.put {M n k i : Nat} {f : Nat → Int} {W : World} (h : MadeN M n f k W) (hi : i + k + 1 = n) : MadeN M n f (k + 1) (W.setCell ⟨M, i, none⟩ (.int .i64 (f i))) := by
  intro j hj
  obtain ⟨h1, h2⟩ := h j hj
  by_cases e : j = i
  · subst e
    refine ⟨?_, by simpa [go_sem] using h2⟩
    rw [World.cell?_setCell_same _ _ _ h1, if_pos (by omega)]
  · refine ⟨?_, by simpa [go_sem] using h2⟩
    rw [World.cell?_setCell_other _ _ _ _ (by intro e2; injection e2 with _ e3; exact e e3.symm), h1]
    by_cases h3 : n ≤ j + k
    · rw [if_pos h3, if_pos (by omega)]
    · rw [if_neg h3, if_neg (by omega)]
theorem MadeN.nums {M n : Nat} {f : Nat → Int} {W : World} (h : MadeN M n f n W) (hn : n ≤ 1000) (hi : ∀ i, i < n → I64 (f i)) : NumsAt W (.slice (some ⟨M, 0, none⟩) n n) ((List.range n).map f) := by
  refine .inr ⟨⟨M, 0, none⟩, n, by simp, by simp, by omega, fun k z hk => ?_⟩
  rw [List.getElem?_map] at hk
  obtain ⟨j, hj, rfl⟩ := Option.map_eq_some_iff.1 hk
  obtain ⟨hj1, hj2⟩ := List.getElem?_eq_some_iff.1 hj
  rw [List.getElem_range] at hj2
  subst hj2
  have hk2 : k < n := by simpa using hj1
  refine ⟨?_, hi k hk2⟩
  have h1 := (h k hk2).1
  rw [if_pos (by omega)] at h1
  rw [Go.WideShapes.add_plain, Nat.zero_add]
  exact h1
end Go.Pb.Bung

/- Sums of ranges, a course's answer, saggars from the top. -/
namespace Go.Proofs.Ytnchhleokdkejaa
open Go.RowKit Go.Pb Go.Pb.Ware Go.Pb.Sag
set_option linter.unusedVariables false
set_option linter.unusedSimpArgs false

open Go.Shelf Go.Pb.Bung
attribute [local go_sem] Oper.semAt_some
set_option maxRecDepth 100000 in
set_option maxHeartbeats 400000 in
theorem ans_any {w : World} {sid swl swh sbl sbh shl shh sti lo hi r : Int} (hr : ansS ⟨sid, swl, swh, sbl, sbh, shl, shh, sti⟩ lo hi = r) :
    Calls Try.prog 127 #[.agg #[.int .i64 sid, .int .i64 swl, .int .i64 swh, .int .i64 sbl, .int .i64 sbh, .int .i64 shl, .int .i64 shh, .int .i64 sti], .agg #[.int .i64 lo, .int .i64 hi]] w (Ret w (.int .i64 r)) := by
  unfold Ret
  have HR := hid hr; clear hr
  by_cases h1 : hi ≤ sbl
  · obtain rfl : r = 1 := by rw [← HR.out]; unfold ansS; rw [if_pos h1]
    go_enter Try.func127, Try.ntmps127
    go_wp2_with fail
    go_ret
    exact ⟨rfl, by go_grown⟩
  · by_cases h2 : lo > sbh
    · obtain rfl : r = 0 := by rw [← HR.out]; unfold ansS; rw [if_neg h1, if_pos h2]
      go_enter Try.func127, Try.ntmps127
      go_wp2_with fail
      go_ret
      exact ⟨rfl, by go_grown⟩
    · obtain rfl : r = 2 := by rw [← HR.out]; unfold ansS; rw [if_neg h1, if_neg h2]
      go_enter Try.func127, Try.ntmps127
      go_wp2_with fail
      go_ret
      exact ⟨rfl, by go_grown⟩

theorem two_other {W : World} {B C : Nat} {vs : List Value} (h : CellsAt W B vs) (hne : B ≠ C) (x y : Value) : CellsAt ((W.setCell ⟨C, 0, none⟩ x).setCell ⟨C, 1, none⟩ y) B vs := (h.other hne _).other hne _
theorem acc_put {W : World} {B : Nat} {u v : Value} (h : CellsAt W B [u, v]) (o : Obj) (x y : Value) : CellsAt (((W.alloc o).setCell ⟨B, 0, none⟩ x).setCell ⟨B, 1, none⟩ y) B [x, y] := cells_store (o := 1) (u := y) (cells_store (o := 0) (u := x) (h.alloc o))
theorem acc_below {n0 B : Nat} {w0 W : World} (h : Below n0 w0 W) (o : Obj) (x y : Value) (hB : n0 ≤ B ∧ n0 ≤ W.heap.size) : Below n0 w0 (((W.alloc o).setCell ⟨B, 0, none⟩ x).setCell ⟨B, 1, none⟩ y) := ((h.alloc hB.2 o).setCell (p := ⟨B, 0, none⟩) hB.1 _).setCell (p := ⟨B, 1, none⟩) hB.1 _

set_option maxRecDepth 100000 in
set_option maxHeartbeats 1000000 in
theorem sum2_any {w : World} {a b c d : Int} {g : Nat} (h0 : w.cell? ⟨g, 0, none⟩ = some (.int .i64 a)) (h1 : w.cell? ⟨g, 1, none⟩ = some (.int .i64 b)) (h2 : w.cell? ⟨g, 2, none⟩ = some (.int .i64 c)) (h3 : w.cell? ⟨g, 3, none⟩ = some (.int .i64 d)) (hb : (0 ≤ a ∧ a ≤ 1000000000) ∧ (0 ≤ b ∧ b ≤ 1000000000) ∧ (0 ≤ c ∧ c ≤ 1000000000) ∧ 0 ≤ d ∧ d ≤ 1000000000) :
    Calls Try.prog 126 #[.slice (some ⟨g, 0, none⟩) 2 2] w (Ret w (.agg #[.int .i64 (a + c), .int .i64 (b + d)])) := by
  unfold Ret
  have H0 := hid h0
  have H1 := hid h1
  have H2 := hid h2
  have H3 := hid h3
  go_enter Try.func126, Try.ntmps126
  go_upto_region 2 with fail
  generalize hW : World.alloc (World.alloc w _) _ = v1
  have hB1 : Below w.heap.size w v1 := by rw [← hW]; exact ((Below.refl _ w).alloc (Nat.le_refl _) _).alloc (by simp) _
  have hz1 : v1.heap.size = w.heap.size + 2 := by rw [← hW]; simp
  have b0 : CellsAt v1 w.heap.size [.int .i64 0, .int .i64 0] := by rw [← hW]; exact (CellsAt.new w _ 23).alloc _
  have b1 : CellsAt v1 (w.heap.size + 1) [.int .i64 0, .int .i64 0] := by rw [← hW]; have h := CellsAt.new (w.alloc (.cells #[.int .i64 0, .int .i64 0] 23)) [.int .i64 0, .int .i64 0] 23; rwa [World.size_alloc] at h
  have e0 := bkeep hB1 h0
  have e1 := bkeep hB1 h1
  have e2 := bkeep hB1 h2
  have e3 := bkeep hB1 h3
  have HZ := hid hz1; clear hW hz1 h0 h1 h2 h3
  go_wp2_with fail
  go_loopg [8] 2 (fun gk iv wr => ∃ k : Nat, k ≤ 2 ∧ gk = 2 - k ∧ iv = .int .i64 k ∧ CellsAt wr w.heap.size [.int .i64 0, .int .i64 0] ∧ CellsAt wr (w.heap.size + 1) [.int .i64 (if k = 0 then 0 else if k = 1 then a else a + c), .int .i64 (if k = 0 then 0 else if k = 1 then b else b + d)] ∧ Below w.heap.size w wr ∧ w.heap.size + 2 ≤ wr.heap.size)
  case atStart => exact ⟨0, by omega, rfl, rfl, b0, b1, hB1, by have := HZ.out; omega⟩
  case round =>
    clear b0 b1 e0 e1 e2 e3 hB1
    obtain ⟨k, hk, hgk, rfl, b0, b1, hB, hz⟩ := hrel
    have HGK := hid hgk; clear hgk
    have e0 := bkeep hB H0.out
    have e1 := bkeep hB H1.out
    have e2 := bkeep hB H2.out
    have e3 := bkeep hB H3.out
    have q0 := (b1 0 _ rfl).1
    have f0 := (b1 0 _ rfl).2
    have q1 := (b1 1 _ rfl).1
    have f1 := (b1 1 _ rfl).2
    have p0 := (b0 0 _ rfl).1
    have g0 := (b0 0 _ rfl).2
    have p1 := (b0 1 _ rfl).1
    have g1 := (b0 1 _ rfl).2
    rcases (show k = 0 ∨ k = 1 ∨ k = 2 by omega) with rfl | rfl | rfl
    · simp at q0 q1
      go_wp2_with fail
      go_roundg 1
      case measure => have h := HGK.out; omega
      case rel => exact ⟨1, by omega, rfl, by first | rfl | go_num, two_other (b0.alloc _) (by omega) _ _, by simpa using acc_put b1 _ _ _, acc_below hB _ _ _ (by omega), by simp; omega⟩
    · simp at q0 q1
      go_wp2_with fail
      go_roundg 0
      case measure => have h := HGK.out; omega
      case rel => exact ⟨2, by omega, rfl, by first | rfl | go_num, two_other (b0.alloc _) (by omega) _ _, by simpa using acc_put b1 _ _ _, acc_below hB _ _ _ (by omega), by simp; omega⟩
    · simp at q0 q1
      go_wp2_with fail
      exact bodyPost_ret (v := .agg #[.int .i64 (a + c), .int .i64 (b + d)]) (by simp [results, Try.results126, go_sem, *]) rfl ⟨rfl, (hB.setCell (p := ⟨w.heap.size, 0, none⟩) (Nat.le_refl _) _).setCell (p := ⟨w.heap.size, 1, none⟩) (Nat.le_refl _) _⟩

/-- What is handed over for the course i: its index and its saggar. -/
def encB (l : List Sg) (i : Nat) : Array Value := #[.int .i64 (i : Int), sgV (l.getD i default)]
def NxB (n : Nat) (pre : List Nat) (i : Nat) : Prop := i + pre.length + 1 = n
theorem encB_at {l : List Sg} {i : Nat} {sid swl swh sbl sbh shl shh sti : Int} (h : l[i]? = some ⟨sid, swl, swh, sbl, sbh, shl, shh, sti⟩) : encB l i = #[.int .i64 (i : Int), .agg #[.int .i64 sid, .int .i64 swl, .int .i64 swh, .int .i64 sbl, .int .i64 sbh, .int .i64 shl, .int .i64 shh, .int .i64 sti]] := by
  unfold encB
  rw [show l.getD i default = (⟨sid, swl, swh, sbl, sbh, shl, shh, sti⟩ : Sg) by rw [List.getD, h]; rfl]; rfl

set_option maxRecDepth 100000 in
set_option maxHeartbeats 2000000 in
theorem back_n {m : Nat} (hm : 1 ≤ m) {w : World} {b : Nat} {v : Value} {l : List Sg} {p : Nat → Prop} (c0 : w.cell? ⟨b, 0, none⟩ = some v) (h : RowsAt 8 w v (l.map rowG)) (hl : l.length ≤ 1000) (hpb : p b) (hpv : l ≠ [] → InP p v) :
    SeqN Fence.wide m Try.prog 140 #[.pointer (some ⟨b, 0, none⟩)] (encB l) (KeepP p) (fun _ _ => True) (NxB l.length) (fun xs => xs.length = l.length) (fun _ => True) w := fun lr J Jx W hW hJ hJx hJl hJxl hY hj0 => by
  have hWs := hW.size
  have c1 := bkeep hW c0
  have hr1 := h.below hW
  clear c0 h
  obtain ⟨a, cap, rfl, hll⟩ := hr1.shape
  rw [List.length_map] at c1 hr1 hll hpv
  obtain ⟨n, hn⟩ : ∃ n, l.length = n := ⟨_, rfl⟩
  rw [hn] at c1 hr1 hll hl hpv hY ⊢
  have HN := hid hn; clear hn
  have HPV := hid hpv; have HPB := hid hpb; clear hpv hpb
  refine callsIn_of_wp Try.func140 rfl trivial ?_ rfl
  simp only [Try.ntmps140, List.size_toArray, List.length_cons, List.length_nil, Nat.reduceAdd, Nat.reduceSub, Array.replicate_succ, Array.replicate_zero, List.push_toArray, List.append_toArray, List.nil_append, List.cons_append]
  gi_wp2
  gi_loopw [3] (fun iv wr => ∃ (j : Nat) (z : Int), z + 1 = j ∧ j ≤ n ∧ iv = .int .i64 z ∧ (∃ pre : List Nat, pre.length + j = n ∧ J pre wr) ∧ wr.cell? ⟨b, 0, none⟩ = some (.slice a n cap) ∧ RowsAt 8 wr (.slice a n cap) (l.map rowG) ∧ W.heap.size ≤ wr.heap.size) (fun iv _ => (intOf iv + 1).toNat)
  case atStart => exact ⟨n, (n : Int) - 1, by omega, Nat.le_refl _, by go_num, ⟨[], by simp, hj0⟩, c1, hr1, Nat.le_refl _⟩
  case round =>
    clear c1 hr1 hj0
    obtain ⟨j, z, hzj, hjn, rfl, ⟨pre, hpre, hJk⟩, c1, hr1, hz1⟩ := hrel
    by_cases hlt : 0 ≤ z
    · obtain ⟨i, rfl⟩ : ∃ i : Nat, z = (i : Int) := ⟨z.toNat, by omega⟩
      obtain rfl : j = i + 1 := by omega
      have hil : i < n := by omega
      have hii : (i : Int) < (n : Int) := by omega
      have hil2 : i < l.length := by rw [HN.out]; exact hil
      obtain ⟨s, hs⟩ : ∃ s, l[i]? = some s := ⟨_, List.getElem?_eq_getElem hil2⟩
      obtain ⟨a', ha, r0, hc, -⟩ := sg_row (by rw [HN.out]; exact hr1) hs
      subst ha
      obtain ⟨sid, swl, swh, sbl, sbh, shl, shh, sti⟩ := s
      dsimp only at r0
      have r1 := hc 1 _ (by decide) rfl
      have r2 := hc 2 _ (by decide) rfl
      have r3 := hc 3 _ (by decide) rfl
      have r4 := hc 4 _ (by decide) rfl
      have r5 := hc 5 _ (by decide) rfl
      have r6 := hc 6 _ (by decide) rfl
      have r7 := hc 7 _ (by decide) rfl
      dsimp only at r1 r2 r3 r4 r5 r6 r7
      clear hc
      obtain ⟨fn, tmps, assign, body, hyy, hR⟩ := hY pre i _ hJk trivial (show i + pre.length + 1 = n by omega) hz1
      rw [encB_at hs] at hyy
      clear hs hil2
      have HR := hid hr1; have C1 := hid c1; clear hr1 hzj hjn
      have hwr : wrap64 ((i : Int) - 1) = (i : Int) - 1 := IntWalk.wrap64_in _ (by omega)
      have HPR := hid hpre; clear hpre
      have c1 := C1.out
      gi_wp2
      refine RoundIn.mono hR ?_
      rintro e W3 (⟨rfl, hJ5, hk5, hka⟩ | ⟨rfl, hJx5, hka⟩)
      · gi_wp2
        go_roundw
        case rel => exact ⟨i, (i : Int) - 1, by omega, by omega, by first | rfl | go_num, ⟨pre ++ [i], by rw [List.length_append, List.length_singleton]; have := HPR.out; omega, hJ5⟩, hk5.cell HPB.out C1.out, rows_keepP HR.out (fun hne => HPV.out (fun e => hne (by rw [e]; rfl))) hk5, by have := hka.size; omega⟩
        case measure => first | (simp [intOf]; done) | (simp [intOf]; omega)
      · gi_wp2
        refine bodyPost_ret (results_none rfl _ _ _) rfl ?_
        exact ⟨⟨_, rfl⟩, .inr ⟨_, trivial, hJx5⟩⟩
    · obtain rfl : j = 0 := by omega
      gi_wp2
      go_end0
      exact ⟨⟨_, rfl⟩, .inl ⟨pre, by omega, hJk⟩⟩

set_option maxRecDepth 100000 in
set_option maxHeartbeats 400000 in
theorem back_any {w : World} {a : Option Addr} {n c : Nat} :
    Calls Try.prog 125 #[.slice a n c] w (fun e w' => e = .returned (.func (.func 140) #[] #[.pointer (some ⟨w.heap.size, 0, none⟩)]) ∧ w'.cell? ⟨w.heap.size, 0, none⟩ = some (.slice a n c) ∧ Below w.heap.size w w' ∧ w.heap.size < w'.heap.size) := by
  go_enter Try.func125, Try.ntmps125
  go_wp2
  go_ret
  exact ⟨rfl, by simp [go_sem], by go_grown, by simp⟩

end Go.Proofs.Ytnchhleokdkejaa

/- The loads of courses, from the top down. -/
namespace Go.Proofs.Ytnchhleokdkejaa
open Go.RowKit Go.Pb Go.Pb.Ware Go.Pb.Sag
set_option linter.unusedVariables false
set_option linter.unusedSimpArgs false

open Go.Shelf Go.Pb.Bung
attribute [local go_sem] Oper.semAt_some
theorem cells_low {A C : World} {B n0 : Nat} {v : Value} {vs : List Value} (h : CellsAt A B (v :: vs)) (hb : Below n0 A C) (hB : B < n0) : CellsAt C B (v :: vs) := by
  intro o u hu
  obtain ⟨h1, h2⟩ := h o u hu
  have e := hb.block B hB
  refine ⟨?_, ?_⟩
  · unfold World.cell? at h1 ⊢; rw [e]; exact h1
  · unfold World.frozen? at h2 ⊢; rw [e]; exact h2
theorem np {p : Nat → Prop} {w W W2 : World} (h : ∀ k, p k → k < w.heap.size) (h2 : W2.heap.size = W.heap.size + 2) (hs : w.heap.size ≤ W.heap.size) {o : Nat} : ¬ (fun k => p k ∨ k = W2.heap.size) (⟨W.heap.size + 1, o, none⟩ : Addr).block := by
  rintro (hp | hp)
  · have := h _ hp; dsimp only at this; omega
  · dsimp only at hp; omega

set_option maxRecDepth 100000 in
set_option maxHeartbeats 2000000 in
theorem loads_n {m : Nat} (hm : 2 ≤ m) {w : World} {b : Nat} {v : Value} {l : List Sg} {p : Nat → Prop} (c0 : w.cell? ⟨b, 0, none⟩ = some v) (h : RowsAt 8 w v (l.map rowG)) (hl : l.length ≤ 30) (hs : ∀ s ∈ l, 0 ≤ s.wl ∧ s.wl ≤ 10000000 ∧ 0 ≤ s.wh ∧ s.wh ≤ 10000000) (hpb : p b) (hpv : l ≠ [] → InP p v) (hpw : ∀ k, p k → k < w.heap.size) :
    SeqN Fence.wide m Try.prog 124 #[.pointer (some ⟨b, 0, none⟩)] (encL l) (KeepP p) (fun _ _ => True) (NxB l.length) (fun xs => xs.length = l.length) (fun _ => True) w := fun lr J Jx W hW hJ hJx hJl hJxl hY hj0 => by
  have hm1 : 1 ≤ m := by omega
  have hWs := hW.size
  have c1 := bkeep hW c0
  have hr1 := h.below hW
  clear c0 h
  obtain ⟨a, cap, rfl, hll⟩ := hr1.shape
  rw [List.length_map] at c1 hr1 hll hpv
  obtain ⟨n, hn⟩ : ∃ n, l.length = n := ⟨_, rfl⟩
  rw [hn] at c1 hr1 hll hpv hY hl ⊢
  have HN := hid hn; clear hn
  have HPV := hid hpv; have HPB := hid hpb; have HPW := hid hpw; have HS := hid hs; clear hpv hpb hpw hs
  refine callsIn_of_wp_marks Try.func124 rfl trivial ?_ rfl
  simp only [Try.ntmps124, List.size_toArray, List.length_cons, List.length_nil, Nat.reduceAdd, Nat.reduceSub, Array.replicate_succ, Array.replicate_zero, List.push_toArray, List.append_toArray, List.nil_append, List.cons_append]
  gi_upto_region 2 with (fail)
  generalize hW2 : World.alloc (World.alloc W _) _ = W2
  have y2 : CellsAt W2 W.heap.size [.func (.yield lr) #[] #[]] := by rw [← hW2]; exact (CellsAt.new W _ 160).alloc _
  have y3 : CellsAt W2 (W.heap.size + 1) [.int .i64 0, .int .i64 0] := by rw [← hW2]; have h := CellsAt.new (W.alloc (.cells #[.func (.yield lr) #[] #[]] 160)) [.int .i64 0, .int .i64 0] 23; rwa [World.size_alloc] at h
  have hB2 : Below W.heap.size W W2 := by rw [← hW2]; exact ((Below.refl _ W).alloc (Nat.le_refl _) _).alloc (by simp) _
  have HZ2 := hid (show W2.heap.size = W.heap.size + 2 by rw [← hW2]; simp)
  clear hW2
  replace c1 := bkeep hB2 c1
  replace hr1 := hr1.below hB2
  gi_wp2_with (refine ⟨trivial, ?_⟩; gi_at_call 125; refine (callsIn_wide.2 back_any).mono ?_; rintro e w4 ⟨rfl, c4, hb4, hz4⟩)
  have hB4 : Below W.heap.size W w4 := hB2.trans (hb4.mono (by have := HZ2.out; omega))
  have hr4 := hr1.below hb4
  replace y2 := y2.below hb4
  replace y3 := y3.below hb4
  have hj4 := hJl _ _ _ hj0 hB4
  have HZ4 := hid hz4; clear hr1 c1 hb4 hB2 hj0 hz4
  refine wpIn_rangeFunc_n (F := Fence.wide) (n := m) rfl (by omega) (gf := 140) (lb := #[.pointer (some ⟨W2.heap.size, 0, none⟩)]) rfl trivial (enters_of Try.func140 (by kernel_rfl) rfl) (back_n (m := m - 1) (by omega) (p := (fun k => p k ∨ k = W2.heap.size)) c4 hr4 (by rw [HN.out]; omega) (Or.inr rfl) (fun hne a n c e => Or.inl (HPV.out hne a n c e))) (fun h k => h.trans k) (fun V q o o' hq _ _ _ => KeepP.put (fun hp => by have := HZ4.out; have := HZ2.out; rcases hp with hp | rfl; have := HPW.out _ hp; omega; omega)) (Below.refl _ _) (fun _ => rfl)
    (fun (pre : List Nat) V => J pre V ∧ CellsAt V W.heap.size [.func (.yield lr) #[] #[]] ∧ CellsAt V (W.heap.size + 1) [.int .i64 (accL l pre.length), .int .i64 (accH l pre.length)] ∧ w4.heap.size ≤ V.heap.size) (fun c (pre : List Nat) V => c = .ret ∧ Jx pre V) ?own ?ownx ?low ?lowx (fun _ _ _ _ hs _ _ => hs) ?start
    (fun x a' V => ∃ Bx, w4.heap.size ≤ Bx ∧ CellsAt V Bx (cellsG (l.getD x default)) ∧ a' = { tmps := #[.func (.yield lr) #[] #[], .pointer (some ⟨b, 0, none⟩), .pointer (some ⟨W.heap.size, 0, none⟩), .pointer (some ⟨W.heap.size + 1, 0, none⟩), .int .i64 (x : Int), .pointer (some ⟨Bx, 0, none⟩), .slice a n cap, .func (.func 140) #[] #[.pointer (some ⟨W2.heap.size, 0, none⟩)], .int .i64 (x : Int), sgV (l.getD x default), undef, undef, undef, undef, undef, undef, undef, undef, undef, undef], defers := [] })
    (fun x a' _ X Y row hs hg hr => by obtain ⟨Bx, h1, h2, h3⟩ := hs; exact ⟨Bx, h1, h2.kept hg (fun r e => (hr r e).2), h3⟩)
    ?assign ?body ?done ?stop
  case own => rintro s X Y row ⟨h1, h2, h3, h4⟩ hg hr; exact ⟨hJ s X Y row h1 hg (fun r e => ⟨by have := (hr r e).1; have := HZ4.out; have := HZ2.out; omega, (hr r e).2⟩), h2.kept hg (fun r e => (hr r e).2), h3.kept hg (fun r e => (hr r e).2), by have := hg.size; omega⟩
  case ownx => rintro c s X Y row ⟨h1, h2⟩ hg hr; exact ⟨h1, hJx s X Y row h2 hg (fun r e => ⟨by have := (hr r e).1; have := HZ4.out; have := HZ2.out; omega, (hr r e).2⟩)⟩
  case low => rintro s X Y ⟨h1, h2, h3, h4⟩ hb; exact ⟨hJl s X Y h1 (hb.mono (by have := HZ4.out; have := HZ2.out; omega)), cells_low h2 hb (by have := HZ4.out; have := HZ2.out; omega), cells_low h3 hb (by have := HZ4.out; have := HZ2.out; omega), by have := hb.size; omega⟩
  case lowx => rintro c s X Y ⟨h1, h2⟩ hb; exact ⟨h1, hJxl s X Y h2 (hb.mono (by have := HZ4.out; have := HZ2.out; omega))⟩
  case start => exact ⟨hj4, y2, by have h := acc_zero (l := l); rw [List.length_nil, h.1, h.2]; exact y3, Nat.le_refl _⟩
  case assign =>
    rintro q pre x V K2 ⟨h1, h2, h3, h4⟩ - hK2
    obtain ⟨s, hs⟩ : ∃ s, l.getD x default = s := ⟨_, rfl⟩
    unfold encB
    rw [hs]
    obtain ⟨sid, swl, swh, sbl, sbh, shl, shh, sti⟩ := s
    have HS3 := hid hs; clear hs
    simp only [sgV, cellsG, rowG, List.map_cons, List.map_nil]
    gi_wp2
    exact hK2 _ _ (KeepsAll.of_below ((Below.refl _ _).alloc (Nat.le_refl _) _)) (KeepP.of_below ((Below.refl _ _).alloc (Nat.le_refl _) _)) ⟨hJl _ _ _ h1 ((Below.refl _ _).alloc (by have := hB4.size; omega) _), h2.alloc _, h3.alloc _, by simp; omega⟩ trivial ⟨V.heap.size, h4, by rw [HS3.out]; exact CellsAt.new V _ 33, by rw [HS3.out]; rfl⟩
  case body =>
    rintro q pre i a' V hq1 hq2 ⟨hj, y2, y3, hzv⟩ - ⟨Bx, hBx, bX, rfl⟩ hNx
    have hNX := hNx
    unfold NxB at hNX
    have hil : i < l.length := by omega
    obtain ⟨s, hs⟩ : ∃ s, l[i]? = some s := ⟨_, List.getElem?_eq_getElem hil⟩
    have hgd : l.getD i default = s := by rw [List.getD, hs]; rfl
    have hsm := HS.out s (List.mem_of_getElem? hs)
    obtain ⟨hl1, hl2⟩ := acc_load (l := l) (i := i) (k := pre.length) (by omega)
    obtain ⟨hs1, hs2⟩ := acc_step (l := l) (i := i) (k := pre.length) (by omega) hs
    obtain ⟨hb1, hb2, hb3, hb4⟩ := load_small HS.out i
    rw [hl1] at hb1 hb2; rw [hl2] at hb3 hb4
    rw [HN.out] at hb2 hb4
    rw [hgd] at bX ⊢
    obtain ⟨sid, swl, swh, sbl, sbh, shl, shh, sti⟩ := s
    dsimp only at hs1 hs2 hsm
    obtain ⟨fn, tmps, assign, body, hyy, hR⟩ := hY pre i V hj trivial (HN.out ▸ hNx) (by have := hB4.size; omega)
    unfold encL at hyy
    rw [hl1, hl2] at hyy
    obtain ⟨x, hx⟩ : ∃ x, accL l pre.length = x := ⟨_, rfl⟩
    obtain ⟨y, hy⟩ : ∃ y, accH l pre.length = y := ⟨_, rfl⟩
    rw [hx] at y3 hyy hb1 hb2 hs1; rw [hy] at y3 hyy hb3 hb4 hs2
    have HX1 := hid hs1; have HX2 := hid hs2; have HXX := hid hx; have HYY := hid hy; have HNX := hid hNX; clear hs1 hs2 hl1 hl2 hs hgd hx hy hNx hNX hil
    have q0 := (y2 0 _ rfl).1; have q1 := (y3 0 _ rfl).1; have q2 := (y3 1 _ rfl).1
    gi_wp2
    refine ⟨fun h => (by cases h), RoundIn.mono (roundIn_wide hR) ?_⟩
    rintro e V3 (⟨rfl, hJ5, hk5, hka⟩ | ⟨rfl, hJx5, hka⟩)
    · replace y2 := cells_keepA y2 hka (Nat.le_refl _)
      replace y3 := cells_keepA y3 hka (Nat.le_succ _)
      replace bX := cells_keepA bX hka (by have := hB4.size; omega)
      clear q0 q1 q2 hyy hR
      have q1 := (y3 0 _ rfl).1; have q2 := (y3 1 _ rfl).1; have g1 := (y3 0 _ rfl).2; have g2 := (y3 1 _ rfl).2
      have r1 := (bX 1 _ rfl).1; have r2 := (bX 2 _ rfl).1
      have hk3 := hka.size
      gi_wp2_with (refine ⟨trivial, fun h => (by cases h), ?_⟩; gi_at_call 126; refine (callsIn_wide.2 (sum2_any (a := x) (b := y) (c := swl) (d := swh) (by simp [go_sem]) (by simp [go_sem]) (by simp [go_sem]) (by simp [go_sem]) (by omega))).mono ?_; rintro e w6 ⟨rfl, hb6⟩; have hb7 : Below V3.heap.size V3 w6 := ((Below.refl _ V3).alloc (Nat.le_refl _) _).trans (hb6.mono (by simp)); replace y2 := y2.below hb7; replace y3 := y3.below hb7; replace q1 := (y3 0 _ rfl).1; replace q2 := (y3 1 _ rfl).1; replace g1 := (y3 0 _ rfl).2; replace g2 := (y3 1 _ rfl).2; clear hb6)
      have hs6 := hb7.size
      refine ⟨((hka.mono (by have := hB4.size; omega)).trans (KeepsAll.of_below hb7)).trans ((KeepsAll.set (by have := HZ4.out; have := HZ2.out; show W.heap.size + 1 < _; omega)).trans (KeepsAll.set (by have := HZ4.out; have := HZ2.out; show W.heap.size + 1 < _; omega))), ?_, ?_⟩
      · refine KeepP.trans ⟨hk3, fun k hp hk => ?_⟩ ((KeepP.of_below hb7).trans ((KeepP.set (np HPW.out HZ2.out hWs)).trans (KeepP.set (np HPW.out HZ2.out hWs))))
        rcases hp with hp | rfl
        · exact hk5.2 k hp hk
        · exact hka.same _ (by have := HZ2.out; omega) hk
      · refine ⟨hJl _ _ _ hJ5 ?_, two_other y2 (by omega) _ _, ?_, by simp; omega⟩
        · exact ((hb7.mono (by have := hB4.size; omega)).setCell (p := ⟨W.heap.size + 1, 0, none⟩) (Nat.le_succ _) _).setCell (p := ⟨W.heap.size + 1, 1, none⟩) (Nat.le_succ _) _
        · rw [List.length_append, List.length_singleton, HX1.out, HX2.out]; exact cells_store (o := 1) (cells_store (o := 0) y3)
    · gi_wp2
      exact ⟨hka.mono (by have := hB4.size; omega), rfl, hJx5⟩
  case done =>
    rintro D xs V hD hS ⟨hj, y2, y3, hzv⟩ hK2
    gi_wp2
    refine ⟨by simp, .inl ⟨_, _, rfl, run_takeDeferred hK2, ?_⟩⟩
    exact ⟨.tuple #[], by simp [results, Try.results124, go_sem], ⟨_, rfl⟩, .inl ⟨xs, by rw [← HN.out]; exact hS, hJ.putObj _ hj (by have := hB4.size; omega) hK2 rfl⟩⟩
  case stop =>
    rintro D c pre V hD hpre ⟨rfl, hj⟩ hK2
    gi_wp2
    refine ⟨by simp, .inl ⟨_, _, rfl, run_takeDeferred hK2, ?_⟩⟩
    exact ⟨.tuple #[], by simp [results, Try.results124, go_sem], ⟨_, rfl⟩, .inr ⟨pre, trivial, hJx.putObj _ hj (by have := hB4.size; omega) hK2 rfl⟩⟩

set_option maxRecDepth 100000 in
set_option maxHeartbeats 400000 in
theorem loads_any {w : World} {a : Option Addr} {n c : Nat} :
    Calls Try.prog 84 #[.slice a n c] w (fun e w' => e = .returned (.func (.func 124) #[] #[.pointer (some ⟨w.heap.size, 0, none⟩)]) ∧ w'.cell? ⟨w.heap.size, 0, none⟩ = some (.slice a n c) ∧ Below w.heap.size w w' ∧ w.heap.size < w'.heap.size) := by
  go_enter Try.func84, Try.ntmps84
  go_wp2
  go_ret
  exact ⟨rfl, by simp [go_sem], by go_grown, by simp⟩

end Go.Proofs.Ytnchhleokdkejaa

/- Whether saggars stand. -/
namespace Go.Proofs.Ytnchhleokdkejaa
open Go.RowKit Go.Pb Go.Pb.Ware Go.Pb.Sag
set_option linter.unusedVariables false
set_option linter.unusedSimpArgs false

open Go.Shelf Go.Pb.Bung
attribute [local go_sem] Oper.semAt_some
set_option maxRecDepth 100000 in
set_option maxHeartbeats 2000000 in
theorem stands_any {w : World} {v : Value} {l : List Sg} (h : RowsAt 8 w v (l.map rowG)) (hl : l.length ≤ 30) (hs : ∀ s ∈ l, 0 ≤ s.wl ∧ s.wl ≤ 10000000 ∧ 0 ≤ s.wh ∧ s.wh ≤ 10000000) :
    Calls Try.prog 88 #[v] w (Ret w (.int .i64 (stA l))) := by
  unfold Ret
  obtain ⟨a, cap, rfl, hll⟩ := h.shape
  rw [List.length_map] at h hll ⊢
  obtain ⟨n, hn⟩ : ∃ n, l.length = n := ⟨_, rfl⟩
  have HPV0 := hid (fun hne => inP_rows h hne : l ≠ [] → InP (fun k => k < w.heap.size) (.slice a l.length cap))
  rw [hn] at h hll HPV0 ⊢
  have HN := hid hn; have HS := hid hs; clear hn hs
  refine (callsIn_wide (n := 8)).1 ?_
  refine callsIn_of_wp_marks Try.func88 rfl trivial ?_ rfl
  simp only [Try.ntmps88, List.size_toArray, List.length_cons, List.length_nil, Nat.reduceAdd, Nat.reduceSub, Array.replicate_succ, Array.replicate_zero, List.push_toArray, List.append_toArray, List.nil_append, List.cons_append]
  refine (wpIn_wide (n := 8)).2 ?_
  go_upto_region 2 with fail
  generalize hW : World.alloc (World.alloc (World.alloc w _) _) _ = v1
  have y0 : CellsAt v1 w.heap.size [.slice a n cap] := by rw [← hW]; exact ((CellsAt.new w [.slice a n cap] 24).alloc _).alloc _
  have y1 : CellsAt v1 (w.heap.size + 1) [.int .i64 0] := by rw [← hW]; have h := (CellsAt.new (w.alloc (.cells #[.slice a n cap] 24)) [.int .i64 0] 3).alloc (.cells #[.int .i64 1] 3); rwa [World.size_alloc] at h
  have y2 : CellsAt v1 (w.heap.size + 2) [.int .i64 1] := by rw [← hW]; have h := CellsAt.new ((w.alloc (.cells #[.slice a n cap] 24)).alloc (.cells #[.int .i64 0] 3)) [.int .i64 1] 3; rwa [World.size_alloc, World.size_alloc] at h
  have hB1 : Below w.heap.size w v1 := by rw [← hW]; exact (((Below.refl _ w).alloc (Nat.le_refl _) _).alloc (by simp) _).alloc (by simp; omega) _
  have HZ1 := hid (show v1.heap.size = w.heap.size + 3 by rw [← hW]; simp)
  clear hW
  have q0 := (y0 0 _ rfl).1
  have h1 := h.below hB1
  go_wp2_with fail
  refine loads_any.mono ?_
  rintro e w4 ⟨rfl, c4, hb, hz4⟩
  have hB4 := hB1.trans (hb.mono (by have := HZ1.out; omega))
  replace y0 := y0.below hb; replace y1 := y1.below hb; replace y2 := y2.below hb
  have h4 := h1.below hb
  have HZ4 := hid hz4
  clear q0 hb h1 hz4
  go_wp2_with fail
  refine (wpIn_wide (n := 8)).1 ?_
  refine wpIn_rangeFunc_n (F := Fence.wide) (n := 8) rfl (by omega) (gf := 124) (lb := #[.pointer (some ⟨v1.heap.size, 0, none⟩)]) rfl trivial (enters_of Try.func124 (by kernel_rfl) rfl) (loads_n (m := 7) (by omega) (p := (fun k => k ≠ w.heap.size + 1 ∧ k ≠ w.heap.size + 2 ∧ k < w4.heap.size)) c4 h4 hl HS.out (by have := HZ4.out; have := HZ1.out; exact ⟨by omega, by omega, by omega⟩) (fun hne a n c e => by have h1 := HPV0.out hne a n c e; have := HZ4.out; have := HZ1.out; dsimp only at h1; exact ⟨by omega, by omega, by omega⟩) (fun k hk => hk.2.2)) (fun h k => h.trans k) (fun V q o o' hq _ _ _ => KeepP.put (fun hp => by have := hp.2.2; omega)) (Below.refl _ _) (fun _ => rfl)
    (fun (pre : List Nat) V => Below w.heap.size w V ∧ CellsAt V (w.heap.size + 1) [.int .i64 0] ∧ CellsAt V (w.heap.size + 2) [.int .i64 (allUp l pre.length)] ∧ CellsAt V w.heap.size [.slice a n cap] ∧ noneUp l pre.length ∧ w4.heap.size ≤ V.heap.size) (fun c (pre : List Nat) V => c = .ret ∧ Below w.heap.size w V ∧ CellsAt V (w.heap.size + 1) [.int .i64 0] ∧ stA l = 0 ∧ w4.heap.size ≤ V.heap.size) ?own ?ownx ?low ?lowx (fun _ _ _ _ hs _ _ => hs) ?start
    (fun x a' V => ∃ Bx, w4.heap.size ≤ Bx ∧ CellsAt V Bx [.int .i64 (loadL l x), .int .i64 (loadH l x)] ∧ a' = { tmps := #[.slice a n cap, .pointer (some ⟨w.heap.size, 0, none⟩), .pointer (some ⟨w.heap.size + 1, 0, none⟩), .pointer (some ⟨w.heap.size + 1 + 1, 0, none⟩), .int .i64 (x : Int), .pointer (some ⟨Bx, 0, none⟩), .slice a n cap, .func (.func 124) #[] #[.pointer (some ⟨v1.heap.size, 0, none⟩)], .int .i64 (x : Int), .agg #[.int .i64 (loadL l x), .int .i64 (loadH l x)], undef, undef, undef, undef, undef, undef, undef, undef, undef, undef, undef], defers := [] })
    (fun x a' _ X Y row hs hg hr => by obtain ⟨Bx, h1, h2, h3⟩ := hs; exact ⟨Bx, h1, h2.kept hg (fun r e => (hr r e).2), h3⟩)
    ?assign ?body ?done ?stop
  case own => rintro s X Y row ⟨h1, h2, h3, h4, h5, h6⟩ hg hr; exact ⟨h1.grown hg (Nat.le_trans (Nat.le_refl _) h1.size) (fun k e => by have := (hr k e).1; have := HZ4.out; have := HZ1.out; omega), h2.kept hg (fun r e => (hr r e).2), h3.kept hg (fun r e => (hr r e).2), h4.kept hg (fun r e => (hr r e).2), h5, by have := hg.size; omega⟩
  case ownx => rintro c s X Y row ⟨h0, h1, h2, h3, h4⟩ hg hr; exact ⟨h0, h1.grown hg (Nat.le_trans (Nat.le_refl _) h1.size) (fun k e => by have := (hr k e).1; have := HZ4.out; have := HZ1.out; omega), h2.kept hg (fun r e => (hr r e).2), h3, by have := hg.size; omega⟩
  case low => rintro s X Y ⟨h1, h2, h3, h4, h5, h6⟩ hb; exact ⟨h1.trans (hb.mono (by have := HZ4.out; have := HZ1.out; omega)), cells_low h2 hb (by have := HZ4.out; have := HZ1.out; omega), cells_low h3 hb (by have := HZ4.out; have := HZ1.out; omega), cells_low h4 hb (by have := HZ4.out; have := HZ1.out; omega), h5, by have := hb.size; omega⟩
  case lowx => rintro c s X Y ⟨h0, h1, h2, h3, h4⟩ hb; exact ⟨h0, h1.trans (hb.mono (by have := HZ4.out; have := HZ1.out; omega)), cells_low h2 hb (by have := HZ4.out; have := HZ1.out; omega), h3, by have := hb.size; omega⟩
  case start => exact ⟨hB4, y1, by rw [List.length_nil, allUp_zero]; exact y2, y0, noneUp_zero, Nat.le_refl _⟩
  case assign =>
    rintro q pre x V K2 ⟨h1, h2, h3, h4, h5, h6⟩ - hK2
    unfold encL
    gi_wp2
    exact hK2 _ _ (KeepsAll.of_below ((Below.refl _ _).alloc (Nat.le_refl _) _)) (KeepP.of_below ((Below.refl _ _).alloc (Nat.le_refl _) _)) ⟨h1.alloc h1.size _, h2.alloc _, h3.alloc _, h4.alloc _, h5, by simp; omega⟩ trivial ⟨V.heap.size, h6, CellsAt.new V [.int .i64 (loadL l x), .int .i64 (loadH l x)] 23, rfl⟩
  case body =>
    rintro q pre i a' V hq1 hq2 ⟨h1, y1, y2, y0, hnu, hzv⟩ - ⟨Bx, hBx, bX, rfl⟩ hNx
    unfold NxB at hNx
    have hil : i < l.length := by omega
    obtain ⟨s, hs⟩ : ∃ s, l[i]? = some s := ⟨_, List.getElem?_eq_getElem hil⟩
    have hgd : l.getD i default = s := by rw [List.getD, hs]; rfl
    have hil2 : (i : Int) < (n : Int) := by have := HN.out; omega
    obtain ⟨a', ha, r0, hc, -⟩ := sg_row (by rw [HN.out]; exact h.below h1) hs
    subst ha
    obtain ⟨lo, hlo⟩ : ∃ x, loadL l i = x := ⟨_, rfl⟩
    obtain ⟨hi, hhi⟩ : ∃ x, loadH l i = x := ⟨_, rfl⟩
    obtain ⟨r, hr⟩ : ∃ r, ansL l i = r := ⟨_, rfl⟩
    have hr2 : ansS s lo hi = r := by rw [← hr, ← hlo, ← hhi]; unfold ansL; rw [hgd]
    have h3 := ansS_three s lo hi
    rw [hr2] at h3
    rw [hlo, hhi] at bX ⊢
    obtain ⟨sid, swl, swh, sbl, sbh, shl, shh, sti⟩ := s
    dsimp only at r0
    have r1 := hc 1 _ (by decide) rfl
    have r2 := hc 2 _ (by decide) rfl
    have r3 := hc 3 _ (by decide) rfl
    have r4 := hc 4 _ (by decide) rfl
    have r5 := hc 5 _ (by decide) rfl
    have r6 := hc 6 _ (by decide) rfl
    have r7 := hc 7 _ (by decide) rfl
    dsimp only at r1 r2 r3 r4 r5 r6 r7
    have q0 := (y0 0 _ rfl).1; have p0 := (bX 0 _ rfl).1; have p1 := (bX 1 _ rfl).1
    have HR := hid hr2; have HA := hid hr; have HNX := hid hNx; have HNU := hid hnu; clear hc hr2 hr hNx hnu hs hgd hlo hhi hil
    gi_upto_region 5 with (fail)
    refine wpIn_region_F (by kernel_rfl) [] (by kernel_rfl) [(5, fun v _ => v = .int .i64 r)] [0, 1, 2, 3, 4, 5] 0 (by kernel_rfl) rfl (by simp only [List.forall_mem_cons]; exact ⟨keeps_eq, fun _ h => by cases h⟩) (by kernel_rfl) ?_
    simp only [numbered, List.filterMap_cons, List.filterMap_nil, List.getElem?_toArray, List.getElem?_cons_succ, List.getElem?_cons_zero, Option.map_some]
    show wpS _ _ _ _ _ _ _ [(_, _), (_, _), (_, _), (_, _), (_, _), (_, _)] _ _
    (refine wpS_quiet rfl rfl ?_; intro K hK inst hx; have s0 := fun x => (fun _ => bkeep (BQ.below x) r0) (hx x); have s1 := fun x => (fun _ => bkeep (BQ.below x) r1) (hx x); have s2 := fun x => (fun _ => bkeep (BQ.below x) r2) (hx x); have s3 := fun x => (fun _ => bkeep (BQ.below x) r3) (hx x); have s4 := fun x => (fun _ => bkeep (BQ.below x) r4) (hx x); have s5 := fun x => (fun _ => bkeep (BQ.below x) r5) (hx x); have s6 := fun x => (fun _ => bkeep (BQ.below x) r6) (hx x); have s7 := fun x => (fun _ => bkeep (BQ.below x) r7) (hx x); have u0 := fun x => (fun _ => bkeep (BQ.below x) q0) (hx x); have u1 := fun x => (fun _ => bkeep (BQ.below x) p0) (hx x); have u2 := fun x => (fun _ => bkeep (BQ.below x) p1) (hx x); go_big_quiet_op; (first | go_big_quiet_on | (refine ⟨_, fun _ => rfl, ?_⟩; go_big_quiet_on)); clear hx inst)
    (refine wpS_quiet rfl rfl ?_; intro K hK inst hx; have s0 := fun x => (fun _ => bkeep (BQ.below x) r0) (hx x); have s1 := fun x => (fun _ => bkeep (BQ.below x) r1) (hx x); have s2 := fun x => (fun _ => bkeep (BQ.below x) r2) (hx x); have s3 := fun x => (fun _ => bkeep (BQ.below x) r3) (hx x); have s4 := fun x => (fun _ => bkeep (BQ.below x) r4) (hx x); have s5 := fun x => (fun _ => bkeep (BQ.below x) r5) (hx x); have s6 := fun x => (fun _ => bkeep (BQ.below x) r6) (hx x); have s7 := fun x => (fun _ => bkeep (BQ.below x) r7) (hx x); have u0 := fun x => (fun _ => bkeep (BQ.below x) q0) (hx x); have u1 := fun x => (fun _ => bkeep (BQ.below x) p0) (hx x); have u2 := fun x => (fun _ => bkeep (BQ.below x) p1) (hx x); go_big_quiet_op; (first | go_big_quiet_on | (refine ⟨_, fun _ => rfl, ?_⟩; go_big_quiet_on)); clear hx inst)
    (refine wpS_quiet rfl rfl ?_; intro K hK inst hx; have s0 := fun x => (fun _ => bkeep (BQ.below x) r0) (hx x); have s1 := fun x => (fun _ => bkeep (BQ.below x) r1) (hx x); have s2 := fun x => (fun _ => bkeep (BQ.below x) r2) (hx x); have s3 := fun x => (fun _ => bkeep (BQ.below x) r3) (hx x); have s4 := fun x => (fun _ => bkeep (BQ.below x) r4) (hx x); have s5 := fun x => (fun _ => bkeep (BQ.below x) r5) (hx x); have s6 := fun x => (fun _ => bkeep (BQ.below x) r6) (hx x); have s7 := fun x => (fun _ => bkeep (BQ.below x) r7) (hx x); have u0 := fun x => (fun _ => bkeep (BQ.below x) q0) (hx x); have u1 := fun x => (fun _ => bkeep (BQ.below x) p0) (hx x); have u2 := fun x => (fun _ => bkeep (BQ.below x) p1) (hx x); go_big_quiet_op; (first | go_big_quiet_on | (refine ⟨_, fun _ => rfl, ?_⟩; go_big_quiet_on)); clear hx inst)
    (refine wpS_quiet rfl rfl ?_; intro K hK inst hx; have s0 := fun x => (fun _ => bkeep (BQ.below x) r0) (hx x); have s1 := fun x => (fun _ => bkeep (BQ.below x) r1) (hx x); have s2 := fun x => (fun _ => bkeep (BQ.below x) r2) (hx x); have s3 := fun x => (fun _ => bkeep (BQ.below x) r3) (hx x); have s4 := fun x => (fun _ => bkeep (BQ.below x) r4) (hx x); have s5 := fun x => (fun _ => bkeep (BQ.below x) r5) (hx x); have s6 := fun x => (fun _ => bkeep (BQ.below x) r6) (hx x); have s7 := fun x => (fun _ => bkeep (BQ.below x) r7) (hx x); have u0 := fun x => (fun _ => bkeep (BQ.below x) q0) (hx x); have u1 := fun x => (fun _ => bkeep (BQ.below x) p0) (hx x); have u2 := fun x => (fun _ => bkeep (BQ.below x) p1) (hx x); go_big_quiet_op; (first | go_big_quiet_on | (refine ⟨_, fun _ => rfl, ?_⟩; go_big_quiet_on)); clear hx inst)
    (refine wpS_quiet rfl rfl ?_; intro K hK inst hx; have s0 := fun x => (fun _ => bkeep (BQ.below x) r0) (hx x); have s1 := fun x => (fun _ => bkeep (BQ.below x) r1) (hx x); have s2 := fun x => (fun _ => bkeep (BQ.below x) r2) (hx x); have s3 := fun x => (fun _ => bkeep (BQ.below x) r3) (hx x); have s4 := fun x => (fun _ => bkeep (BQ.below x) r4) (hx x); have s5 := fun x => (fun _ => bkeep (BQ.below x) r5) (hx x); have s6 := fun x => (fun _ => bkeep (BQ.below x) r6) (hx x); have s7 := fun x => (fun _ => bkeep (BQ.below x) r7) (hx x); have u0 := fun x => (fun _ => bkeep (BQ.below x) q0) (hx x); have u1 := fun x => (fun _ => bkeep (BQ.below x) p0) (hx x); have u2 := fun x => (fun _ => bkeep (BQ.below x) p1) (hx x); go_big_quiet_op; (first | go_big_quiet_on | (refine ⟨_, fun _ => rfl, ?_⟩; go_big_quiet_on)); clear hx inst)
    refine wpS_fresh rfl rfl (fun w' hb hF => ?_) ?_
    · change freshAt _ _ _ (fun v _ => v = .int .i64 r) _; unfold freshAt; go_simp; exact ans_any HR.out
    intro v W hv; simp only [pOf, List.lookup_cons, Nat.reduceBEq, beq_self_eq_true] at hv; subst hv
    simp only [Act.put, List.setIfInBounds_toArray, List.set_cons_succ, List.set_cons_zero]
    refine wpS_nil ?_
    intro V2 hall
    have hb := hall.1
    clear hall
    replace y0 := y0.below hb; replace y1 := y1.below hb; replace y2 := y2.below hb
    have hb2 := h1.trans (hb.mono h1.size)
    have hz2 := hb.size
    clear r0 r1 r2 r3 r4 r5 r6 r7 q0 p0 p1 bX
    refine wpAny_done (by kernel_rfl) ?_ _
    refine ⟨rfl, ?_⟩
    have e1 := (y1 0 _ rfl).1; have f1 := (y1 0 _ rfl).2; have e2 := (y2 0 _ rfl).1; have f2 := (y2 0 _ rfl).2
    rcases h3 with rfl | rfl | rfl
    · gi_wp2
      exact ⟨(KeepsAll.of_below hb).trans (KeepsAll.set (by have := HZ4.out; have := HZ1.out; show w.heap.size + 1 < _; omega)), rfl, hb2.setCell (p := ⟨w.heap.size + 1, 0, none⟩) (Nat.le_succ _) _, cells_store (o := 0) y1, stA_no (by have := HNX.out; omega) HA.out, by simp; omega⟩
    · gi_wp2
      exact ⟨(KeepsAll.of_below hb), (KeepP.of_below hb), hb2, y1, by rw [List.length_append, List.length_singleton, allUp_same HNX.out (by rw [HA.out]; decide)]; exact y2, y0, by rw [List.length_append, List.length_singleton]; exact noneUp_next HNU.out HNX.out (by rw [HA.out]; decide), by omega⟩
    · gi_wp2
      exact ⟨(KeepsAll.of_below hb).trans (KeepsAll.set (by have := HZ4.out; have := HZ1.out; show w.heap.size + 2 < _; omega)), (KeepP.of_below hb).trans (KeepP.set (fun hp => hp.2.1 rfl)), hb2.setCell (p := ⟨w.heap.size + 2, 0, none⟩) (by show w.heap.size ≤ w.heap.size + 2; omega) _, y1.other (by omega) _, by rw [List.length_append, List.length_singleton, allUp_two HNX.out HA.out]; exact cells_store (o := 0) y2, y0.other (by omega) _, by rw [List.length_append, List.length_singleton]; exact noneUp_next HNU.out HNX.out (by rw [HA.out]; decide), by simp; omega⟩
  case done =>
    rintro D xs V hD hS ⟨h1, y1, y2, y0, hnu, hzv⟩ hK2
    rw [hS] at y2 hnu
    have hres := stA_end hnu
    obtain ⟨u, hu⟩ : ∃ u, allUp l l.length = u := ⟨_, rfl⟩
    rw [hu] at y2 hres
    have HU := hid hres; clear hres hu hS hnu
    have e1 := (y1 0 _ rfl).1; have f1 := (y1 0 _ rfl).2; have e2 := (y2 0 _ rfl).1
    go_wp2_with fail
    have y3 := cells_store (o := 0) (u := .int .i64 u) y1
    have hB3 := h1.setCell (p := ⟨w.heap.size + 1, 0, none⟩) (Nat.le_succ _) (.int .i64 u)
    have hK3 := (KeepsOthers.setCell V ⟨w.heap.size + 1, 0, none⟩ (.int .i64 u)).same D _ hK2 rfl
    refine ⟨by simp, .inl ⟨_, _, rfl, run_takeDeferred hK3, ?_⟩⟩
    have d1 := (CellsAt.kept y3 (grownBy_putObj' _ D (.deferred none)) (fun r e => by cases e; exact ⟨_, hK3, rfl⟩) 0 _ rfl).1
    exact ⟨.int .i64 u, by simp [results, Try.results88, d1, go_sem], ⟨by rw [HU.out], Below.trans hB3 (belowK_b (w := w) (Nat.le_refl _) _ D _ (.deferred none) (by have := hB4.size; omega) hK3 rfl rfl)⟩⟩
  case stop =>
    rintro D c pre V hD hpre ⟨rfl, h1, y1, h3, hzv⟩ hK2
    gi_wp2
    refine ⟨by simp, .inl ⟨_, _, rfl, run_takeDeferred hK2, ?_⟩⟩
    have d1 := (CellsAt.kept y1 (grownBy_putObj' _ D (.deferred none)) (fun r e => by cases e; exact ⟨_, hK2, rfl⟩) 0 _ rfl).1
    exact ⟨.int .i64 0, by simp [results, Try.results88, d1, go_sem], ⟨by rw [h3], Below.trans h1 (belowK_b (w := w) (Nat.le_refl _) _ D _ (.deferred none) (by have := hB4.size; omega) hK2 rfl rfl)⟩⟩

end Go.Proofs.Ytnchhleokdkejaa

/- What each course answers. -/
namespace Go.Proofs.Ytnchhleokdkejaa
open Go.RowKit Go.Pb Go.Pb.Ware Go.Pb.Sag
set_option linter.unusedVariables false
set_option linter.unusedSimpArgs false

open Go.Shelf Go.Pb.Bung
attribute [local go_sem] Oper.semAt_some
theorem Try.infoInt : (Try.prog.info? 3).map (fun i => (i.zero, i.size, i.bytes)) = some (some (.int .i64 0), 1, 8) := by kernel_rfl
theorem ans_i64 (s : Sg) (lo hi : Int) : I64 (ansS s lo hi) := by rcases ansS_three s lo hi with h | h | h <;> rw [h] <;> unfold I64 <;> decide
set_option maxRecDepth 100000 in
set_option maxHeartbeats 2000000 in
theorem courses_any {w : World} {v : Value} {l : List Sg} (h : RowsAt 8 w v (l.map rowG)) (hl : l.length ≤ 30) (hs : ∀ s ∈ l, 0 ≤ s.wl ∧ s.wl ≤ 10000000 ∧ 0 ≤ s.wh ∧ s.wh ≤ 10000000) :
    Calls Try.prog 86 #[v] w (fun e w' => ∃ u, e = .returned u ∧ Below w.heap.size w w' ∧ NumsAt w' u ((List.range l.length).map (ansL l))) := by
  obtain ⟨i0, hi0, hz0, hz1, hz2⟩ := info_parts Try.infoInt
  obtain ⟨a, cap, rfl, hll⟩ := h.shape
  rw [List.length_map] at h hll ⊢
  obtain ⟨n, hn⟩ : ∃ n, l.length = n := ⟨_, rfl⟩
  have HPV0 := hid (fun hne => inP_rows h hne : l ≠ [] → InP (fun k => k < w.heap.size) (.slice a l.length cap))
  rw [hn] at h hll hl HPV0 ⊢
  have HN := hid hn; have HS := hid hs; clear hn hs
  refine (callsIn_wide (n := 8)).1 ?_
  refine callsIn_of_wp_marks Try.func86 rfl trivial ?_ rfl
  simp only [Try.ntmps86, List.size_toArray, List.length_cons, List.length_nil, Nat.reduceAdd, Nat.reduceSub, Array.replicate_succ, Array.replicate_zero, List.push_toArray, List.append_toArray, List.nil_append, List.cons_append]
  refine (wpIn_wide (n := 8)).2 ?_
  go_upto_region 2 with (at_make; refine wpList_make_full _ rfl _ _ 41 rfl (w.heap.size + 1) 3 i0 (.int .i64 0) 1 Try.underlying41 hi0 hz0 hz1 .i64 .i64 _ _ n rfl rfl rfl rfl (by rw [hz2]; omega) (by unfold maxLen; omega) (by simp) ?_; intro w5 ho5 hg5)
  simp only [World.size_alloc] at ho5
  have hm5 := made_at (B := w.heap.size + 1) rfl ho5
  have hb5 : Below (w.alloc (.cells #[.slice a n cap] 24)).heap.size (w.alloc (.cells #[.slice a n cap] 24)) w5 := (Below.refl _ _).grown hg5 (Nat.le_refl _) (fun k h => by cases h)
  have hz5 : w.heap.size + 1 < w5.heap.size := by have := (World.ownsRow.lt ho5 (w.heap.size + 1) (by simp [Value.ownBlock])).2; exact this
  have hB5 : Below w.heap.size w w5 := ((Below.refl w.heap.size w).alloc (Nat.le_refl _) _).trans (hb5.mono (by simp))
  have y05 : CellsAt w5 w.heap.size [.slice a n cap] := (CellsAt.new w [.slice a n cap] 24).below hb5
  have m5 : MadeN (w.heap.size + 1) n (ansL l) 0 w5 := MadeN.start hm5
  generalize hW : World.alloc w5 _ = v1
  have hb6 : Below w5.heap.size w5 v1 := by rw [← hW]; exact (Below.refl _ _).alloc (Nat.le_refl _) _
  have y2 : CellsAt v1 w5.heap.size [.slice (some ⟨w.heap.size + 1, 0, none⟩) n n] := by rw [← hW]; exact CellsAt.new w5 _ 41
  have HZ1 := hid (show v1.heap.size = w5.heap.size + 1 by rw [← hW]; simp)
  have y0 := y05.below hb6; have m1 := m5.below hb6
  have hB1 := hB5.trans (hb6.mono hB5.size)
  have HZ5 := hid hz5
  clear hW hb5 hb6 hB5 y05 m5 hm5 ho5 hg5 hz5 hi0 hz0 hz1 hz2
  have q0 := (y0 0 _ rfl).1
  have h1 := h.below hB1
  go_wp2_with fail
  refine loads_any.mono ?_
  rintro e w4 ⟨rfl, c4, hb, hz4⟩
  have hB4 := hB1.trans (hb.mono (by have := HZ1.out; have := HZ5.out; omega))
  replace y0 := y0.below hb; replace y2 := y2.below hb; replace m1 := m1.below hb
  have h4 := h1.below hb
  have HZ4 := hid hz4
  clear q0 hb h1 hz4
  go_wp2_with fail
  refine (wpIn_wide (n := 8)).1 ?_
  refine wpIn_rangeFunc_n (F := Fence.wide) (n := 8) rfl (by omega) (gf := 124) (lb := #[.pointer (some ⟨v1.heap.size, 0, none⟩)]) rfl trivial (enters_of Try.func124 (by kernel_rfl) rfl) (loads_n (m := 7) (by omega) (p := (fun k => k ≠ w.heap.size + 1 ∧ k < w4.heap.size)) c4 h4 (by rw [HN.out]; exact hl) HS.out (by have := HZ4.out; have := HZ1.out; have := HZ5.out; exact ⟨by omega, by omega⟩) (fun hne a n c e => by have h1 := HPV0.out hne a n c e; have := HZ4.out; have := HZ1.out; have := HZ5.out; dsimp only at h1; exact ⟨by omega, by omega⟩) (fun k hk => hk.2)) (fun h k => h.trans k) (fun V q o o' hq _ _ _ => KeepP.put (fun hp => by have := hp.2; omega)) (Below.refl _ _) (fun _ => rfl)
    (fun (pre : List Nat) V => Below w.heap.size w V ∧ CellsAt V w.heap.size [.slice a n cap] ∧ CellsAt V w5.heap.size [.slice (some ⟨w.heap.size + 1, 0, none⟩) n n] ∧ MadeN (w.heap.size + 1) n (ansL l) pre.length V ∧ w4.heap.size ≤ V.heap.size) (fun c (pre : List Nat) V => False) ?own ?ownx ?low ?lowx (fun _ _ _ _ hs _ _ => hs) ?start
    (fun x a' V => ∃ Bx, w4.heap.size ≤ Bx ∧ CellsAt V Bx [.int .i64 (loadL l x), .int .i64 (loadH l x)] ∧ a' = { tmps := #[.slice a n cap, .pointer (some ⟨w.heap.size, 0, none⟩), .slice none 0 0, .pointer (some ⟨w5.heap.size, 0, none⟩), .int .i64 (x : Int), .pointer (some ⟨Bx, 0, none⟩), .slice a n cap, .int .i64 (n : Int), .slice (some ⟨w.heap.size + 1, 0, none⟩) n n, .slice a n cap, .func (.func 124) #[] #[.pointer (some ⟨v1.heap.size, 0, none⟩)], .int .i64 (x : Int), .agg #[.int .i64 (loadL l x), .int .i64 (loadH l x)], undef, undef, undef, undef, undef, undef, undef, undef, undef, undef], defers := [] })
    (fun x a' _ X Y row hs hg hr => by obtain ⟨Bx, h1, h2, h3⟩ := hs; exact ⟨Bx, h1, h2.kept hg (fun r e => (hr r e).2), h3⟩)
    ?assign ?body ?done ?stop
  case own => rintro s X Y row ⟨h1, h2, h3, h4, h5⟩ hg hr; exact ⟨h1.grown hg (Nat.le_trans (Nat.le_refl _) h1.size) (fun k e => by have := (hr k e).1; have := HZ4.out; have := HZ1.out; have := HZ5.out; omega), h2.kept hg (fun r e => (hr r e).2), h3.kept hg (fun r e => (hr r e).2), h4.kept hg (fun r e => (hr r e).2), by have := hg.size; omega⟩
  case ownx => exact fun c s X Y row hs _ _ => hs
  case low => rintro s X Y ⟨h1, h2, h3, h4, h5⟩ hb; exact ⟨h1.trans (hb.mono (by have := HZ4.out; have := HZ1.out; have := HZ5.out; omega)), cells_low h2 hb (by have := HZ4.out; have := HZ1.out; have := HZ5.out; omega), cells_low h3 hb (by have := HZ4.out; have := HZ1.out; have := HZ5.out; omega), h4.low hb (by have := HZ4.out; have := HZ1.out; have := HZ5.out; omega), by have := hb.size; omega⟩
  case lowx => exact fun c s X Y hs _ => hs
  case start => exact ⟨hB4, y0, y2, m1, Nat.le_refl _⟩
  case assign =>
    rintro q pre x V K2 ⟨h1, h2, h3, h4, h5⟩ - hK2
    unfold encL
    gi_wp2
    exact hK2 _ _ (KeepsAll.of_below ((Below.refl _ _).alloc (Nat.le_refl _) _)) (KeepP.of_below ((Below.refl _ _).alloc (Nat.le_refl _) _)) ⟨h1.alloc h1.size _, h2.alloc _, h3.alloc _, h4.below ((Below.refl _ _).alloc (Nat.le_refl _) _), by simp; omega⟩ trivial ⟨V.heap.size, h5, CellsAt.new V [.int .i64 (loadL l x), .int .i64 (loadH l x)] 23, rfl⟩
  case body =>
    rintro q pre i a' V hq1 hq2 ⟨h1, y0, y2, hm, hzv⟩ - ⟨Bx, hBx, bX, rfl⟩ hNx
    unfold NxB at hNx
    have hil : i < l.length := by omega
    obtain ⟨s, hs⟩ : ∃ s, l[i]? = some s := ⟨_, List.getElem?_eq_getElem hil⟩
    have hgd : l.getD i default = s := by rw [List.getD, hs]; rfl
    have hin : i < n := by have := HN.out; omega
    have hil2 : (i : Int) < (n : Int) := by omega
    obtain ⟨a', ha, r0, hc, -⟩ := sg_row (by rw [HN.out]; exact h.below h1) hs
    subst ha
    obtain ⟨lo, hlo⟩ : ∃ x, loadL l i = x := ⟨_, rfl⟩
    obtain ⟨hi, hhi⟩ : ∃ x, loadH l i = x := ⟨_, rfl⟩
    obtain ⟨r, hr⟩ : ∃ r, ansL l i = r := ⟨_, rfl⟩
    have hr2 : ansS s lo hi = r := by rw [← hr, ← hlo, ← hhi]; unfold ansL; rw [hgd]
    rw [hlo, hhi] at bX ⊢
    obtain ⟨sid, swl, swh, sbl, sbh, shl, shh, sti⟩ := s
    dsimp only at r0
    have r1 := hc 1 _ (by decide) rfl
    have r2 := hc 2 _ (by decide) rfl
    have r3 := hc 3 _ (by decide) rfl
    have r4 := hc 4 _ (by decide) rfl
    have r5 := hc 5 _ (by decide) rfl
    have r6 := hc 6 _ (by decide) rfl
    have r7 := hc 7 _ (by decide) rfl
    dsimp only at r1 r2 r3 r4 r5 r6 r7
    have q0 := (y0 0 _ rfl).1; have p0 := (bX 0 _ rfl).1; have p1 := (bX 1 _ rfl).1; have q1 := (y2 0 _ rfl).1
    have HR := hid hr2; have HA := hid hr; have HNX := hid hNx; clear hc hr2 hr hNx hs hgd hlo hhi hil
    gi_upto_region 5 with (fail)
    refine wpIn_region_F (by kernel_rfl) [] (by kernel_rfl) [(7, fun v _ => v = .int .i64 r)] [0, 1, 2, 3, 4, 5, 6, 7, 8] 1 (by kernel_rfl) rfl (by simp only [List.forall_mem_cons]; exact ⟨keeps_eq, fun _ h => by cases h⟩) (by kernel_rfl) ?_
    simp only [numbered, List.filterMap_cons, List.filterMap_nil, List.getElem?_toArray, List.getElem?_cons_succ, List.getElem?_cons_zero, Option.map_some]
    show wpS _ _ _ _ _ _ _ [(_, _), (_, _), (_, _), (_, _), (_, _), (_, _), (_, _), (_, _), (_, _)] _ _
    (refine wpS_quiet rfl rfl ?_; intro K hK inst hx; have s0 := fun x => (fun _ => bkeep (BQ.below x) r0) (hx x); have s1 := fun x => (fun _ => bkeep (BQ.below x) r1) (hx x); have s2 := fun x => (fun _ => bkeep (BQ.below x) r2) (hx x); have s3 := fun x => (fun _ => bkeep (BQ.below x) r3) (hx x); have s4 := fun x => (fun _ => bkeep (BQ.below x) r4) (hx x); have s5 := fun x => (fun _ => bkeep (BQ.below x) r5) (hx x); have s6 := fun x => (fun _ => bkeep (BQ.below x) r6) (hx x); have s7 := fun x => (fun _ => bkeep (BQ.below x) r7) (hx x); have u0 := fun x => (fun _ => bkeep (BQ.below x) q0) (hx x); have u1 := fun x => (fun _ => bkeep (BQ.below x) p0) (hx x); have u2 := fun x => (fun _ => bkeep (BQ.below x) p1) (hx x); have u3 := fun x => (fun _ => bkeep (BQ.below x) q1) (hx x); go_big_quiet_op; (first | go_big_quiet_on | (refine ⟨_, fun _ => rfl, ?_⟩; go_big_quiet_on)); clear hx inst)
    (refine wpS_quiet rfl rfl ?_; intro K hK inst hx; have s0 := fun x => (fun _ => bkeep (BQ.below x) r0) (hx x); have s1 := fun x => (fun _ => bkeep (BQ.below x) r1) (hx x); have s2 := fun x => (fun _ => bkeep (BQ.below x) r2) (hx x); have s3 := fun x => (fun _ => bkeep (BQ.below x) r3) (hx x); have s4 := fun x => (fun _ => bkeep (BQ.below x) r4) (hx x); have s5 := fun x => (fun _ => bkeep (BQ.below x) r5) (hx x); have s6 := fun x => (fun _ => bkeep (BQ.below x) r6) (hx x); have s7 := fun x => (fun _ => bkeep (BQ.below x) r7) (hx x); have u0 := fun x => (fun _ => bkeep (BQ.below x) q0) (hx x); have u1 := fun x => (fun _ => bkeep (BQ.below x) p0) (hx x); have u2 := fun x => (fun _ => bkeep (BQ.below x) p1) (hx x); have u3 := fun x => (fun _ => bkeep (BQ.below x) q1) (hx x); go_big_quiet_op; (first | go_big_quiet_on | (refine ⟨_, fun _ => rfl, ?_⟩; go_big_quiet_on)); clear hx inst)
    (refine wpS_quiet rfl rfl ?_; intro K hK inst hx; have s0 := fun x => (fun _ => bkeep (BQ.below x) r0) (hx x); have s1 := fun x => (fun _ => bkeep (BQ.below x) r1) (hx x); have s2 := fun x => (fun _ => bkeep (BQ.below x) r2) (hx x); have s3 := fun x => (fun _ => bkeep (BQ.below x) r3) (hx x); have s4 := fun x => (fun _ => bkeep (BQ.below x) r4) (hx x); have s5 := fun x => (fun _ => bkeep (BQ.below x) r5) (hx x); have s6 := fun x => (fun _ => bkeep (BQ.below x) r6) (hx x); have s7 := fun x => (fun _ => bkeep (BQ.below x) r7) (hx x); have u0 := fun x => (fun _ => bkeep (BQ.below x) q0) (hx x); have u1 := fun x => (fun _ => bkeep (BQ.below x) p0) (hx x); have u2 := fun x => (fun _ => bkeep (BQ.below x) p1) (hx x); have u3 := fun x => (fun _ => bkeep (BQ.below x) q1) (hx x); go_big_quiet_op; (first | go_big_quiet_on | (refine ⟨_, fun _ => rfl, ?_⟩; go_big_quiet_on)); clear hx inst)
    (refine wpS_quiet rfl rfl ?_; intro K hK inst hx; have s0 := fun x => (fun _ => bkeep (BQ.below x) r0) (hx x); have s1 := fun x => (fun _ => bkeep (BQ.below x) r1) (hx x); have s2 := fun x => (fun _ => bkeep (BQ.below x) r2) (hx x); have s3 := fun x => (fun _ => bkeep (BQ.below x) r3) (hx x); have s4 := fun x => (fun _ => bkeep (BQ.below x) r4) (hx x); have s5 := fun x => (fun _ => bkeep (BQ.below x) r5) (hx x); have s6 := fun x => (fun _ => bkeep (BQ.below x) r6) (hx x); have s7 := fun x => (fun _ => bkeep (BQ.below x) r7) (hx x); have u0 := fun x => (fun _ => bkeep (BQ.below x) q0) (hx x); have u1 := fun x => (fun _ => bkeep (BQ.below x) p0) (hx x); have u2 := fun x => (fun _ => bkeep (BQ.below x) p1) (hx x); have u3 := fun x => (fun _ => bkeep (BQ.below x) q1) (hx x); go_big_quiet_op; (first | go_big_quiet_on | (refine ⟨_, fun _ => rfl, ?_⟩; go_big_quiet_on)); clear hx inst)
    (refine wpS_quiet rfl rfl ?_; intro K hK inst hx; have s0 := fun x => (fun _ => bkeep (BQ.below x) r0) (hx x); have s1 := fun x => (fun _ => bkeep (BQ.below x) r1) (hx x); have s2 := fun x => (fun _ => bkeep (BQ.below x) r2) (hx x); have s3 := fun x => (fun _ => bkeep (BQ.below x) r3) (hx x); have s4 := fun x => (fun _ => bkeep (BQ.below x) r4) (hx x); have s5 := fun x => (fun _ => bkeep (BQ.below x) r5) (hx x); have s6 := fun x => (fun _ => bkeep (BQ.below x) r6) (hx x); have s7 := fun x => (fun _ => bkeep (BQ.below x) r7) (hx x); have u0 := fun x => (fun _ => bkeep (BQ.below x) q0) (hx x); have u1 := fun x => (fun _ => bkeep (BQ.below x) p0) (hx x); have u2 := fun x => (fun _ => bkeep (BQ.below x) p1) (hx x); have u3 := fun x => (fun _ => bkeep (BQ.below x) q1) (hx x); go_big_quiet_op; (first | go_big_quiet_on | (refine ⟨_, fun _ => rfl, ?_⟩; go_big_quiet_on)); clear hx inst)
    (refine wpS_quiet rfl rfl ?_; intro K hK inst hx; have s0 := fun x => (fun _ => bkeep (BQ.below x) r0) (hx x); have s1 := fun x => (fun _ => bkeep (BQ.below x) r1) (hx x); have s2 := fun x => (fun _ => bkeep (BQ.below x) r2) (hx x); have s3 := fun x => (fun _ => bkeep (BQ.below x) r3) (hx x); have s4 := fun x => (fun _ => bkeep (BQ.below x) r4) (hx x); have s5 := fun x => (fun _ => bkeep (BQ.below x) r5) (hx x); have s6 := fun x => (fun _ => bkeep (BQ.below x) r6) (hx x); have s7 := fun x => (fun _ => bkeep (BQ.below x) r7) (hx x); have u0 := fun x => (fun _ => bkeep (BQ.below x) q0) (hx x); have u1 := fun x => (fun _ => bkeep (BQ.below x) p0) (hx x); have u2 := fun x => (fun _ => bkeep (BQ.below x) p1) (hx x); have u3 := fun x => (fun _ => bkeep (BQ.below x) q1) (hx x); go_big_quiet_op; (first | go_big_quiet_on | (refine ⟨_, fun _ => rfl, ?_⟩; go_big_quiet_on)); clear hx inst)
    (refine wpS_quiet rfl rfl ?_; intro K hK inst hx; have s0 := fun x => (fun _ => bkeep (BQ.below x) r0) (hx x); have s1 := fun x => (fun _ => bkeep (BQ.below x) r1) (hx x); have s2 := fun x => (fun _ => bkeep (BQ.below x) r2) (hx x); have s3 := fun x => (fun _ => bkeep (BQ.below x) r3) (hx x); have s4 := fun x => (fun _ => bkeep (BQ.below x) r4) (hx x); have s5 := fun x => (fun _ => bkeep (BQ.below x) r5) (hx x); have s6 := fun x => (fun _ => bkeep (BQ.below x) r6) (hx x); have s7 := fun x => (fun _ => bkeep (BQ.below x) r7) (hx x); have u0 := fun x => (fun _ => bkeep (BQ.below x) q0) (hx x); have u1 := fun x => (fun _ => bkeep (BQ.below x) p0) (hx x); have u2 := fun x => (fun _ => bkeep (BQ.below x) p1) (hx x); have u3 := fun x => (fun _ => bkeep (BQ.below x) q1) (hx x); go_big_quiet_op; (first | go_big_quiet_on | (refine ⟨_, fun _ => rfl, ?_⟩; go_big_quiet_on)); clear hx inst)
    refine wpS_fresh rfl rfl (fun w' hb hF => ?_) ?_
    · change freshAt _ _ _ (fun v _ => v = .int .i64 r) _; unfold freshAt; go_simp; exact ans_any HR.out
    intro v W hv; simp only [pOf, List.lookup_cons, Nat.reduceBEq, beq_self_eq_true] at hv; subst hv
    simp only [Act.put, List.setIfInBounds_toArray, List.set_cons_succ, List.set_cons_zero]
    (refine wpS_quiet rfl rfl ?_; intro K hK inst hx; have s0 := fun x => (fun _ => bkeep (BQ.below x) r0) (hx x); have s1 := fun x => (fun _ => bkeep (BQ.below x) r1) (hx x); have s2 := fun x => (fun _ => bkeep (BQ.below x) r2) (hx x); have s3 := fun x => (fun _ => bkeep (BQ.below x) r3) (hx x); have s4 := fun x => (fun _ => bkeep (BQ.below x) r4) (hx x); have s5 := fun x => (fun _ => bkeep (BQ.below x) r5) (hx x); have s6 := fun x => (fun _ => bkeep (BQ.below x) r6) (hx x); have s7 := fun x => (fun _ => bkeep (BQ.below x) r7) (hx x); have u0 := fun x => (fun _ => bkeep (BQ.below x) q0) (hx x); have u1 := fun x => (fun _ => bkeep (BQ.below x) p0) (hx x); have u2 := fun x => (fun _ => bkeep (BQ.below x) p1) (hx x); have u3 := fun x => (fun _ => bkeep (BQ.below x) q1) (hx x); go_big_quiet_op; (first | go_big_quiet_on | (refine ⟨_, fun _ => rfl, ?_⟩; go_big_quiet_on)); clear hx inst)
    refine wpS_nil ?_
    intro V2 hall
    have hb := hall.1
    clear hall
    replace y0 := y0.below hb; replace y2 := y2.below hb; replace hm := hm.below hb
    have hb2 := h1.trans (hb.mono h1.size)
    have hz2 := hb.size
    clear r0 r1 r2 r3 r4 r5 r6 r7 q0 q1 p0 p1 bX
    obtain ⟨e1, f1⟩ := hm i hin
    refine wpAny_ready (rs := [9]) (by kernel_rfl) (by simp) ?_
    refine AllReady.cons rfl (fun K hK => ?_) AllReady.nil
    go_simp
    refine hK _ _ ?_; clear hK K
    refine wpAny_done (by kernel_rfl) ?_ _
    refine ⟨rfl, ?_⟩
    exact ⟨(KeepsAll.of_below hb).trans (KeepsAll.set (by have := HZ4.out; have := HZ1.out; have := HZ5.out; show w.heap.size + 1 < _; omega)), (KeepP.of_below hb).trans (KeepP.set (fun hp => hp.1 rfl)), hb2.setCell (p := ⟨w.heap.size + 1, i, none⟩) (Nat.le_succ _) _, y0.other (by omega) _, y2.other (by have := HZ4.out; have := HZ1.out; have := HZ5.out; omega) _, by rw [List.length_append, List.length_singleton, ← HA.out]; exact hm.put (by have := HNX.out; have := HN.out; omega), by simp; omega⟩
  case done =>
    rintro D xs V hD hS ⟨h1, y0, y2, hm, hzv⟩ hK2
    rw [hS, HN.out] at hm
    have e2 := (y2 0 _ rfl).1
    go_wp2_with fail
    refine ⟨by simp, .inl ⟨_, _, rfl, run_takeDeferred hK2, ?_⟩⟩
    have m2 := hm.kept (grownBy_putObj' V D (.deferred none)) (fun r e => by cases e; exact ⟨_, hK2, rfl⟩)
    exact ⟨.slice (some ⟨w.heap.size + 1, 0, none⟩) n n, by simp [results, Try.results86, go_sem], ⟨_, rfl, Below.trans h1 (belowK_b (w := w) (Nat.le_refl _) _ D _ (.deferred none) (by have := hB4.size; omega) hK2 rfl rfl), m2.nums (by omega) (fun i _ => ans_i64 _ _ _)⟩⟩
  case stop => exact fun D c pre V hD hpre hs hK2 => hs.elim

end Go.Proofs.Ytnchhleokdkejaa

/- The loads of courses, in a slice that was made. -/
namespace Go.Pb.Bung
open Go Go.Pb Go.Pb.Ware Go.RowKit
set_option linter.unusedVariables false
set_option linter.unusedSimpArgs false
theorem made_two {w : World} {base n B : Nat} {T : TypeId} {z : Value} {x y : Value} (hz : z.cells = #[x, y]) (h : w.ownsRow base T 2 (.slice (some ⟨B, 0, none⟩) n n) n (madeCells z.cells (n * 2)).toList) : ∀ i, i < n → (w.cell? ⟨B, i * 2, none⟩ = some x ∧ w.frozen? ⟨B, i * 2, none⟩ = false) ∧ w.cell? ⟨B, i * 2 + 1, none⟩ = some y ∧ w.frozen? ⟨B, i * 2 + 1, none⟩ = false := by
  obtain ⟨_, h⟩ := h
  rcases h with ⟨h1, _⟩ | ⟨g, cap, cur, h1, h2, h3, h4, h5, h6, h7⟩
  · cases h1
  injection h1 with e1 _ e2
  injection e1 with e1
  injection e1 with e1
  subst e1; subst e2
  have key : ∀ j, j < n * 2 → cur[j]? = some ((#[x, y] : Array Value)[j % 2]!) := by
    intro j hj
    have h8 : (cur.toList.take (n * 2))[j]? = some ((#[x, y] : Array Value)[j % 2]!) := by
      rw [h7, Array.getElem?_toList]
      unfold madeCells
      rw [Array.getElem?_map, Array.getElem?_range, if_pos hj, hz]
      rfl
    rw [List.getElem?_take, if_pos hj] at h8
    simpa using h8
  intro i hi
  have k0 := key (i * 2) (by omega)
  have k1 := key (i * 2 + 1) (by omega)
  rw [show i * 2 % 2 = 0 by omega] at k0
  rw [show (i * 2 + 1) % 2 = 1 by omega] at k1
  refine ⟨⟨?_, ?_⟩, ?_, ?_⟩
  · simp only [World.cell?, h3]; exact k0
  · simp [World.frozen?, h3]
  · simp only [World.cell?, h3]; exact k1
  · simp [World.frozen?, h3]
/-- The k upper ranges, in a slice that was made. -/
def MadeR (M n : Nat) (f g : Nat → Int) (k : Nat) (W : World) : Prop := ∀ i, i < n → (W.cell? ⟨M, i * 2, none⟩ = some (.int .i64 (if n ≤ i + k then f i else 0)) ∧ W.frozen? ⟨M, i * 2, none⟩ = false) ∧ W.cell? ⟨M, i * 2 + 1, none⟩ = some (.int .i64 (if n ≤ i + k then g i else 0)) ∧ W.frozen? ⟨M, i * 2 + 1, none⟩ = false
theorem MadeR.start {M n : Nat} {f g : Nat → Int} {W : World} (h : ∀ i, i < n → (W.cell? ⟨M, i * 2, none⟩ = some (.int .i64 0) ∧ W.frozen? ⟨M, i * 2, none⟩ = false) ∧ W.cell? ⟨M, i * 2 + 1, none⟩ = some (.int .i64 0) ∧ W.frozen? ⟨M, i * 2 + 1, none⟩ = false) : MadeR M n f g 0 W := fun i hi => by
  rw [if_neg (by omega), if_neg (by omega)]; exact h i hi
theorem MadeR.low {M n k n0 : Nat} {f g : Nat → Int} {W W' : World} (h : MadeR M n f g k W) (hb : Below n0 W W') (hM : M < n0) : MadeR M n f g k W' := fun i hi => by
  obtain ⟨⟨h1, h2⟩, h3, h4⟩ := h i hi
  have e := hb.block M hM
  exact ⟨⟨by unfold World.cell? at h1 ⊢; rw [e]; exact h1, by unfold World.frozen? at h2 ⊢; rw [e]; exact h2⟩, by unfold World.cell? at h3 ⊢; rw [e]; exact h3, by unfold World.frozen? at h4 ⊢; rw [e]; exact h4⟩
theorem MadeR.below {M n k : Nat} {f g : Nat → Int} {W W' : World} (h : MadeR M n f g k W) (hb : Below W.heap.size W W') : MadeR M n f g k W' := fun i hi => by
  obtain ⟨⟨h1, h2⟩, h3, h4⟩ := h i hi
  exact ⟨⟨bkeep hb h1, bfree hb h1 h2⟩, bkeep hb h3, bfree hb h3 h4⟩
theorem MadeR.kept {M n k : Nat} {f g : Nat → Int} {W W' : World} {row : Option Nat} (h : MadeR M n f g k W) (hg : W.grownBy W' row) (hr : ∀ r, row = some r → ∃ o : Obj, W.heap[r]? = some o ∧ o.isCells = false) : MadeR M n f g k W' := fun i hi => by
  obtain ⟨⟨h1, h2⟩, h3, h4⟩ := h i hi
  have hne : some M ≠ row := fun e => by
    obtain ⟨o, ho, hc⟩ := hr M e.symm
    unfold World.cell? at h1
    dsimp only at h1
    rw [ho] at h1
    cases o <;> simp_all [Obj.isCells]
  exact ⟨⟨hg.cell (a := ⟨M, i * 2, none⟩) h1 hne, grown_free hg h1 h2 hne⟩, hg.cell (a := ⟨M, i * 2 + 1, none⟩) h3 hne, grown_free hg h3 h4 hne⟩
theorem MadeR.put {M n k i : Nat} {f g : Nat → Int} {W : World} (h : MadeR M n f g k W) (hi : i + k + 1 = n) : MadeR M n f g (k + 1) ((W.setCell ⟨M, i * 2, none⟩ (.int .i64 (f i))).setCell ⟨M, i * 2 + 1, none⟩ (.int .i64 (g i))) := by
  intro j hj
  obtain ⟨⟨h1, h2⟩, h3, h4⟩ := h j hj
  have ad : ∀ {x y : Nat}, x ≠ y → (⟨M, x, none⟩ : Addr) ≠ ⟨M, y, none⟩ := fun hxy e => by injection e with _ e; exact hxy e
  by_cases e : j = i
  · subst e
    refine ⟨⟨?_, by simpa [go_sem] using h2⟩, ?_, by simpa [go_sem] using h4⟩
    · rw [World.cell?_setCell_other _ _ _ _ (ad (by omega)), World.cell?_setCell_same _ _ _ h1, if_pos (by omega)]
    · have h5 := (World.cell?_setCell_other W ⟨M, j * 2, none⟩ ⟨M, j * 2 + 1, none⟩ (.int .i64 (f j)) (ad (by omega))).trans h3
      rw [World.cell?_setCell_same _ _ _ h5, if_pos (by omega)]
  · refine ⟨⟨?_, by simpa [go_sem] using h2⟩, ?_, by simpa [go_sem] using h4⟩
    · rw [World.cell?_setCell_other _ _ _ _ (ad (by omega)), World.cell?_setCell_other _ _ _ _ (ad (by omega)), h1]
      by_cases h5 : n ≤ j + k
      · rw [if_pos h5, if_pos (by omega)]
      · rw [if_neg h5, if_neg (by omega)]
    · rw [World.cell?_setCell_other _ _ _ _ (ad (by omega)), World.cell?_setCell_other _ _ _ _ (ad (by omega)), h3]
      by_cases h5 : n ≤ j + k
      · rw [if_pos h5, if_pos (by omega)]
      · rw [if_neg h5, if_neg (by omega)]
theorem MadeR.rows {M n : Nat} {f g : Nat → Int} {W : World} (h : MadeR M n f g n W) (hn : n ≤ 1000) (hi : ∀ i, i < n → I64 (f i) ∧ I64 (g i)) : RowsAt 2 W (.slice (some ⟨M, 0, none⟩) n n) ((List.range n).map fun i => [f i, g i]) := by
  refine .inr ⟨⟨M, 0, none⟩, n, by simp, by simp, by omega, fun k r hk => ?_⟩
  rw [List.getElem?_map] at hk
  obtain ⟨j, hj, rfl⟩ := Option.map_eq_some_iff.1 hk
  obtain ⟨hj1, hj2⟩ := List.getElem?_eq_some_iff.1 hj
  rw [List.getElem_range] at hj2
  subst hj2
  have hk2 : k < n := by simpa using hj1
  refine ⟨rfl, fun o z hz => ?_⟩
  obtain ⟨⟨h1, -⟩, h3, -⟩ := h k hk2
  rw [if_pos (by omega)] at h1 h3
  rw [Go.WideShapes.add_plain, Nat.zero_add]
  match o, hz with
  | 0, hz => injection hz with hz; subst hz; exact ⟨h1, (hi k hk2).1⟩
  | 1, hz => injection hz with hz; subst hz; exact ⟨h3, (hi k hk2).2⟩
  | o + 2, hz => simp at hz
end Go.Pb.Bung

/- What each course bears. -/
namespace Go.Proofs.Ytnchhleokdkejaa
open Go.RowKit Go.Pb Go.Pb.Ware Go.Pb.Sag
set_option linter.unusedVariables false
set_option linter.unusedSimpArgs false

open Go.Shelf Go.Pb.Bung
attribute [local go_sem] Oper.semAt_some
theorem Try.infoRng : (Try.prog.info? 23).map (fun i => (i.zero, i.size, i.bytes)) = some (some (.agg #[.int .i64 0, .int .i64 0]), 2, 16) := by kernel_rfl
theorem bungOk_list {lo hi : Int} {l : List Sg} (h : bungOk lo hi l = true) : listOk l = true := by unfold bungOk at h; simp only [Bool.and_eq_true] at h; exact h.2
theorem bungOk_len {lo hi : Int} {l : List Sg} (h : bungOk lo hi l = true) : l.length ≤ 30 := by
  have h1 := bungOk_list h
  unfold listOk at h1
  rw [Bool.and_eq_true, decide_eq_true_eq] at h1
  exact h1.1
theorem okUp_all {l : List Sg} : ∀ k, okUp l k = true → ∀ s ∈ l.take k, sgOk s = true
  | 0, _, s, hs => by simp at hs
  | k + 1, h, s, hs => by
    rw [okUp, Bool.and_eq_true] at h
    rw [List.take_add_one] at hs
    rcases List.mem_append.1 hs with hs | hs
    · exact okUp_all k h.1 s hs
    · cases hk : l[k]? with
      | none => rw [hk] at hs; simp at hs
      | some y =>
        rw [hk] at hs h
        simp at hs
        subst hs
        have h2 := h.2
        simp only [Bool.and_eq_true] at h2
        exact h2.1
theorem listOk_all {l : List Sg} (h : listOk l = true) : ∀ s ∈ l, sgOk s = true := by
  unfold listOk at h
  rw [Bool.and_eq_true] at h
  have := okUp_all l.length h.2
  rwa [List.take_length] at this
theorem sg_bounds {l : List Sg} (h : listOk l = true) : ∀ s ∈ l, 0 ≤ s.wl ∧ s.wl ≤ 10000000 ∧ 0 ≤ s.wh ∧ s.wh ≤ 10000000 := fun s hs => by
  have h1 := listOk_all h s hs
  unfold sgOk rgOk at h1
  simp only [Bool.and_eq_true, decide_eq_true_eq] at h1
  omega
theorem load_i64 {l : List Sg} (h : ∀ s ∈ l, 0 ≤ s.wl ∧ s.wl ≤ 10000000 ∧ 0 ≤ s.wh ∧ s.wh ≤ 10000000) (hl : l.length ≤ 30) (i : Nat) : I64 (loadL l i) ∧ I64 (loadH l i) := by
  obtain ⟨h1, h2, h3, h4⟩ := load_small h i
  exact ⟨I64.mk (by omega) (by omega), I64.mk (by omega) (by omega)⟩

set_option maxRecDepth 100000 in
set_option maxHeartbeats 2000000 in
theorem Loads_good {w : World} {v : Value} {l : List Sg} {wl wh : Int} (h : RowsAt 8 w v (l.map rowG)) (hb : bungOk wl wh l = true) :
    Calls Try.prog 28 #[.agg #[.int .i64 wl, .int .i64 wh, v]] w (fun e w' => ∃ u, e = .returned (.tuple #[u, .int .i64 0]) ∧ Below w.heap.size w w' ∧ RowsAt 2 w' u ((List.range l.length).map fun i => [loadL l i, loadH l i])) := by
  obtain ⟨i0, hi0, hz0, hz1, hz2⟩ := info_parts Try.infoRng
  obtain ⟨a, cap, rfl, hll⟩ := h.shape
  rw [List.length_map] at h hll ⊢
  obtain ⟨n, hn⟩ : ∃ n, l.length = n := ⟨_, rfl⟩
  have HPV0 := hid (fun hne => inP_rows h hne : l ≠ [] → InP (fun k => k < w.heap.size) (.slice a l.length cap))
  rw [hn] at h hll HPV0 ⊢
  have HN := hid hn; clear hn
  have hcb : ckBg wl wh l = 0 := by unfold ckBg; rw [if_pos hb]
  have HCB := hid hcb; have HS := hid (sg_bounds (bungOk_list hb)); have hl : n ≤ 30 := by rw [← HN.out]; exact (bungOk_len hb)
  clear hcb
  refine (callsIn_wide (n := 8)).1 ?_
  refine callsIn_of_wp_marks Try.func28 rfl trivial ?_ rfl
  simp only [Try.ntmps28, List.size_toArray, List.length_cons, List.length_nil, Nat.reduceAdd, Nat.reduceSub, Array.replicate_succ, Array.replicate_zero, List.push_toArray, List.append_toArray, List.nil_append, List.cons_append]
  refine (wpIn_wide (n := 8)).2 ?_
  go_upto_region 1 with fail
  generalize hW0 : World.alloc w _ = wa
  have ya : CellsAt wa w.heap.size [.int .i64 wl, .int .i64 wh, .slice a n cap] := by rw [← hW0]; exact CellsAt.new w _ 26
  have hBa : Below w.heap.size w wa := by rw [← hW0]; exact (Below.refl _ _).alloc (Nat.le_refl _) _
  have HZa := hid (show wa.heap.size = w.heap.size + 1 by rw [← hW0]; simp)
  have ha1 := h.below hBa
  clear hW0
  have q0 := (ya 0 _ rfl).1; have q1 := (ya 1 _ rfl).1; have q2 := (ya 2 _ rfl).1
  go_wp2_with fail
  refine (ckBg_any ha1 HCB.out).mono ?_
  rintro e wc ⟨rfl, hbc⟩
  replace ya := ya.below hbc
  have hBc := hBa.trans (hbc.mono (by have := HZa.out; omega))
  have hzc : w.heap.size + 1 ≤ wc.heap.size := by have := HZa.out; have := hbc.size; omega
  clear ha1 hbc q0 q1 q2
  have q0 := (ya 0 _ rfl).1; have q1 := (ya 1 _ rfl).1; have q2 := (ya 2 _ rfl).1
  go_upto_region 5 with (at_make; refine wpList_make_full _ rfl _ _ 38 rfl wc.heap.size 23 i0 (.agg #[.int .i64 0, .int .i64 0]) 2 Try.underlying38 hi0 hz0 hz1 .i64 .i64 _ _ n rfl rfl rfl rfl (by rw [hz2]; omega) (by unfold maxLen; omega) (Nat.le_refl _) ?_; intro w5 ho5 hg5)
  have hm5 := made_two (B := wc.heap.size) rfl ho5
  have hb5 : Below wc.heap.size wc w5 := (Below.refl _ _).grown hg5 (Nat.le_refl _) (fun k h => by cases h)
  have hz5 : wc.heap.size < w5.heap.size := by have := (World.ownsRow.lt ho5 wc.heap.size (by simp [Value.ownBlock])).2; exact this
  have hB5 : Below w.heap.size w w5 := hBc.trans (hb5.mono hBc.size)
  have y05 := ya.below hb5
  have m5 : MadeR wc.heap.size n (loadL l) (loadH l) 0 w5 := MadeR.start hm5
  clear ya q0 q1 q2
  generalize hW : World.alloc w5 _ = v1
  have hb6 : Below w5.heap.size w5 v1 := by rw [← hW]; exact (Below.refl _ _).alloc (Nat.le_refl _) _
  have y2 : CellsAt v1 w5.heap.size [.slice (some ⟨wc.heap.size, 0, none⟩) n n] := by rw [← hW]; exact CellsAt.new w5 _ 38
  have HZ1 := hid (show v1.heap.size = w5.heap.size + 1 by rw [← hW]; simp)
  have y0 := y05.below hb6; have m1 := m5.below hb6
  have hB1 := hB5.trans (hb6.mono hB5.size)
  have HZ5 := hid hz5
  have HZC := hid hzc; clear hW hb5 hb6 hB5 y05 m5 hm5 ho5 hg5 hz5 hi0 hz0 hz1 hz2 hzc
  have q0 := (y0 0 _ rfl).1; have q1 := (y0 1 _ rfl).1; have q2 := (y0 2 _ rfl).1
  have h1 := h.below hB1
  go_wp2_with fail
  refine loads_any.mono ?_
  rintro e w4 ⟨rfl, c4, hb, hz4⟩
  have hB4 := hB1.trans (hb.mono hB1.size)
  replace y0 := y0.below hb; replace y2 := y2.below hb; replace m1 := m1.below hb
  have h4 := h1.below hb
  have HZ4 := hid hz4
  clear q0 q1 q2 hb h1 hz4
  go_wp2_with fail
  refine (wpIn_wide (n := 8)).1 ?_
  refine wpIn_rangeFunc_n (F := Fence.wide) (n := 8) rfl (by omega) (gf := 124) (lb := #[.pointer (some ⟨v1.heap.size, 0, none⟩)]) rfl trivial (enters_of Try.func124 (by kernel_rfl) rfl) (loads_n (m := 7) (by omega) (p := (fun k => k ≠ wc.heap.size ∧ k < w4.heap.size)) c4 h4 (by rw [HN.out]; exact hl) HS.out (by have := HZ4.out; have := HZ1.out; have := HZ5.out; have := HZC.out; exact ⟨by omega, by omega⟩) (fun hne a n c e => by have h1 := HPV0.out hne a n c e; have := HZ4.out; have := HZ1.out; have := HZ5.out; have := HZC.out; dsimp only at h1; exact ⟨by omega, by omega⟩) (fun k hk => hk.2)) (fun h k => h.trans k) (fun V q o o' hq _ _ _ => KeepP.put (fun hp => by have := hp.2; omega)) (Below.refl _ _) (fun _ => rfl)
    (fun (pre : List Nat) V => Below w.heap.size w V ∧ CellsAt V w.heap.size [.int .i64 wl, .int .i64 wh, .slice a n cap] ∧ CellsAt V w5.heap.size [.slice (some ⟨wc.heap.size, 0, none⟩) n n] ∧ MadeR wc.heap.size n (loadL l) (loadH l) pre.length V ∧ w4.heap.size ≤ V.heap.size) (fun c (pre : List Nat) V => False) ?own ?ownx ?low ?lowx (fun _ _ _ _ hs _ _ => hs) ?start
    (fun x a' V => ∃ Bx, w4.heap.size ≤ Bx ∧ CellsAt V Bx [.int .i64 (loadL l x), .int .i64 (loadH l x)] ∧ a' = { tmps := #[.agg #[.int .i64 wl, .int .i64 wh, .slice a n cap], .pointer (some ⟨w.heap.size, 0, none⟩), .slice none 0 0, .int .i64 0, .int .i64 0, .pointer (some ⟨w5.heap.size, 0, none⟩), .int .i64 (x : Int), .pointer (some ⟨Bx, 0, none⟩), .agg #[.int .i64 wl, .int .i64 wh, .slice a n cap], .int .i64 0, .int .i64 0, .bool false, undef, .pointer (some ⟨w.heap.size, 2, none⟩), .slice a n cap, .int .i64 (n : Int), .slice (some ⟨wc.heap.size, 0, none⟩) n n, .pointer (some ⟨w.heap.size, 2, none⟩), .slice a n cap, .func (.func 124) #[] #[.pointer (some ⟨v1.heap.size, 0, none⟩)], .int .i64 (x : Int), .agg #[.int .i64 (loadL l x), .int .i64 (loadH l x)], undef, undef, undef, undef, undef], defers := [] })
    (fun x a' _ X Y row hs hg hr => by obtain ⟨Bx, h1, h2, h3⟩ := hs; exact ⟨Bx, h1, h2.kept hg (fun r e => (hr r e).2), h3⟩)
    ?assign ?body ?done ?stop
  case own => rintro s X Y row ⟨h1, h2, h3, h4, h5⟩ hg hr; exact ⟨h1.grown hg (Nat.le_trans (Nat.le_refl _) h1.size) (fun k e => by have := (hr k e).1; have := HZ4.out; have := HZ1.out; have := HZ5.out; have := HZC.out; omega), h2.kept hg (fun r e => (hr r e).2), h3.kept hg (fun r e => (hr r e).2), h4.kept hg (fun r e => (hr r e).2), by have := hg.size; omega⟩
  case ownx => exact fun c s X Y row hs _ _ => hs
  case low => rintro s X Y ⟨h1, h2, h3, h4, h5⟩ hb; exact ⟨h1.trans (hb.mono (by have := HZ4.out; have := HZ1.out; have := HZ5.out; have := HZC.out; omega)), cells_low h2 hb (by have := HZ4.out; have := HZ1.out; have := HZ5.out; have := HZC.out; omega), cells_low h3 hb (by have := HZ4.out; have := HZ1.out; have := HZ5.out; have := HZC.out; omega), h4.low hb (by have := HZ4.out; have := HZ1.out; have := HZ5.out; have := HZC.out; omega), by have := hb.size; omega⟩
  case lowx => exact fun c s X Y hs _ => hs
  case start => exact ⟨hB4, y0, y2, m1, Nat.le_refl _⟩
  case assign =>
    rintro q pre x V K2 ⟨h1, h2, h3, h4, h5⟩ - hK2
    unfold encL
    gi_wp2
    exact hK2 _ _ (KeepsAll.of_below ((Below.refl _ _).alloc (Nat.le_refl _) _)) (KeepP.of_below ((Below.refl _ _).alloc (Nat.le_refl _) _)) ⟨h1.alloc h1.size _, h2.alloc _, h3.alloc _, h4.below ((Below.refl _ _).alloc (Nat.le_refl _) _), by simp; omega⟩ trivial ⟨V.heap.size, h5, CellsAt.new V [.int .i64 (loadL l x), .int .i64 (loadH l x)] 23, rfl⟩
  case body =>
    rintro q pre i a' V hq1 hq2 ⟨h1, y0, y2, hm, hzv⟩ - ⟨Bx, hBx, bX, rfl⟩ hNx
    unfold NxB at hNx
    have hin : i < n := by have := HN.out; omega
    have hil2 : (i : Int) < (n : Int) := by omega
    have p0 := (bX 0 _ rfl).1; have p1 := (bX 1 _ rfl).1; have q1 := (y2 0 _ rfl).1
    obtain ⟨⟨e1, f1⟩, e2, f2⟩ := hm i hin
    have hm2 := hm.put (i := i) (by have := HN.out; omega)
    have HM := hid hm2; clear hm hm2 hNx
    gi_wp2
    exact ⟨(KeepsAll.set (by have := HZ4.out; have := HZ1.out; have := HZ5.out; have := HZC.out; show wc.heap.size < _; omega)).trans (KeepsAll.set (by have := HZ4.out; have := HZ1.out; have := HZ5.out; have := HZC.out; show wc.heap.size < _; omega)), (KeepP.set (fun hp => hp.1 rfl)).trans (KeepP.set (fun hp => hp.1 rfl)), (h1.setCell (p := ⟨wc.heap.size, i * 2, none⟩) (by have := HZ4.out; have := HZ1.out; have := HZ5.out; have := HZC.out; show w.heap.size ≤ wc.heap.size; omega) _).setCell (p := ⟨wc.heap.size, i * 2 + 1, none⟩) (by have := HZ4.out; have := HZ1.out; have := HZ5.out; have := HZC.out; show w.heap.size ≤ wc.heap.size; omega) _, (y0.other (by have := HZ4.out; have := HZ1.out; have := HZ5.out; have := HZC.out; omega) _).other (by have := HZ4.out; have := HZ1.out; have := HZ5.out; have := HZC.out; omega) _, (y2.other (by have := HZ4.out; have := HZ1.out; have := HZ5.out; have := HZC.out; omega) _).other (by have := HZ4.out; have := HZ1.out; have := HZ5.out; have := HZC.out; omega) _, by rw [List.length_append, List.length_singleton]; exact HM.out, by simp; omega⟩
  case done =>
    rintro D xs V hD hS ⟨h1, y0, y2, hm, hzv⟩ hK2
    rw [hS, HN.out] at hm
    have e2 := (y2 0 _ rfl).1
    go_wp2_with fail
    refine ⟨by simp, .inl ⟨_, _, rfl, run_takeDeferred hK2, ?_⟩⟩
    have m2 := hm.kept (grownBy_putObj' V D (.deferred none)) (fun r e => by cases e; exact ⟨_, hK2, rfl⟩)
    exact ⟨.tuple #[.slice (some ⟨wc.heap.size, 0, none⟩) n n, .int .i64 0], by simp [results, Try.results28, go_sem], ⟨_, rfl, Below.trans h1 (belowK_b (w := w) (Nat.le_refl _) _ D _ (.deferred none) (by have := hB4.size; omega) hK2 rfl rfl), m2.rows (by omega) (fun i _ => load_i64 HS.out (by rw [HN.out]; exact hl) i)⟩⟩
  case stop => exact fun D c pre V hD hpre hs hK2 => hs.elim

end Go.Proofs.Ytnchhleokdkejaa

/- How high saggars are. -/
namespace Go.Proofs.Ytnchhleokdkejaa
open Go.RowKit Go.Pb Go.Pb.Ware Go.Pb.Sag
set_option linter.unusedVariables false
set_option linter.unusedSimpArgs false

open Go.Pb.Bung
theorem ne_blk {a b : Nat} (h : a ≠ b) (o p : Nat) : (⟨a, o, none⟩ : Addr) ≠ ⟨b, p, none⟩ := by intro e; injection e with e _; exact h e
set_option maxRecDepth 100000 in
set_option maxHeartbeats 2000000 in
theorem height_any {w : World} {v : Value} {l : List Sg} {lo hi : Int} (h : RowsAt 8 w v (l.map rowG)) (hl : l.length ≤ 30) (hs : ∀ s ∈ l, 0 ≤ s.hl ∧ s.hl ≤ 10000 ∧ 0 ≤ s.hh ∧ s.hh ≤ 10000) (h1 : 0 ≤ lo ∧ lo ≤ 200) (h2 : 0 ≤ hi ∧ hi ≤ 200) :
    Calls Try.prog 90 #[.agg #[.int .i64 lo, .int .i64 hi], v] w (Ret w (.agg #[.int .i64 (hgtL l lo l.length), .int .i64 (hgtH l hi l.length)])) := by
  unfold Ret
  obtain ⟨a, cap, rfl, hll⟩ := h.shape
  rw [List.length_map] at h hll ⊢
  obtain ⟨n, hn⟩ : ∃ n, l.length = n := ⟨_, rfl⟩
  have HN := hid hn
  rw [hn] at h hll hl ⊢
  have HS := hid hs; have HL1 := hid h1; have HL2 := hid h2; clear hn hs h1 h2
  go_enter Try.func90, Try.ntmps90
  go_upto_region 2 with fail
  generalize hW : World.alloc (World.alloc (World.alloc w _) _) _ = v1
  have y0 : CellsAt v1 w.heap.size [.int .i64 lo, .int .i64 hi] := by rw [← hW]; exact ((CellsAt.new w [.int .i64 lo, .int .i64 hi] 23).alloc _).alloc _
  have y1 : CellsAt v1 (w.heap.size + 1) [.int .i64 0, .int .i64 0] := by rw [← hW]; have h := (CellsAt.new (w.alloc (.cells #[.int .i64 lo, .int .i64 hi] 23)) [.int .i64 0, .int .i64 0] 23).alloc (.cells #[.int .i64 0, .int .i64 0] 23); rwa [World.size_alloc] at h
  have y2 : CellsAt v1 (w.heap.size + 2) [.int .i64 0, .int .i64 0] := by rw [← hW]; have h := CellsAt.new ((w.alloc (.cells #[.int .i64 lo, .int .i64 hi] 23)).alloc (.cells #[.int .i64 0, .int .i64 0] 23)) [.int .i64 0, .int .i64 0] 23; rwa [World.size_alloc, World.size_alloc] at h
  have hB1 : Below w.heap.size w v1 := by rw [← hW]; exact (((Below.refl _ w).alloc (Nat.le_refl _) _).alloc (by simp) _).alloc (by simp; omega) _
  have hz1 : w.heap.size + 3 ≤ v1.heap.size := by rw [← hW]; simp
  have HZ := hid hz1
  clear hW hz1
  go_wp2_with fail
  go_loopg [10] n (fun gk iv wr => ∃ k : Nat, k ≤ n ∧ gk = n - k ∧ iv = .int .i64 k ∧ CellsAt wr w.heap.size [.int .i64 lo, .int .i64 hi] ∧ CellsAt wr (w.heap.size + 1) [.int .i64 0, .int .i64 0] ∧ CellsAt wr (w.heap.size + 2) [.int .i64 (hgtL l lo k), .int .i64 (hgtH l hi k)] ∧ Below w.heap.size w wr ∧ w.heap.size + 3 ≤ wr.heap.size)
  case atStart => exact ⟨0, Nat.zero_le _, rfl, rfl, y0, y1, by rw [(hgt_zero (l := l) (lo := lo) (hi := hi)).1, (hgt_zero (l := l) (lo := lo) (hi := hi)).2]; exact y2, hB1, HZ.out⟩
  case round =>
    clear y0 y1 y2 hB1
    obtain ⟨k, hk, hgk, rfl, y0, y1, y2, hB, hz⟩ := hrel
    have HGK := hid hgk; clear hgk
    by_cases hlt : k < n
    · have hki : (k : Int) < (n : Int) := by omega
      have hkl : k < l.length := by rw [HN.out]; exact hlt
      obtain ⟨s, hs⟩ : ∃ s, l[k]? = some s := ⟨_, List.getElem?_eq_getElem hkl⟩
      have hsm := HS.out s (List.mem_of_getElem? hs)
      obtain ⟨a', ha, r0, hc, hi8⟩ := sg_row (by rw [HN.out]; exact h.below hB) hs
      subst ha
      have hsmall := hgt_small HS.out HL1.out HL2.out k
      obtain ⟨x, hx⟩ : ∃ x, hgtL l lo k = x := ⟨_, rfl⟩
      obtain ⟨y, hy⟩ : ∃ y, hgtH l hi k = y := ⟨_, rfl⟩
      rw [hx] at y2 hsmall; rw [hy] at y2 hsmall
      have hL1 := HL1.out; have hL2 := HL2.out
      have HS1 := hid hs; have HX := hid hx; have HY := hid hy; clear hs hx hy hkl
      obtain ⟨sid, swl, swh, sbl, sbh, shl, shh, sti⟩ := s
      dsimp only at r0 hsm
      have r1 := hc 1 _ (by decide) rfl
      have r2 := hc 2 _ (by decide) rfl
      have r3 := hc 3 _ (by decide) rfl
      have r4 := hc 4 _ (by decide) rfl
      have r5 := hc 5 _ (by decide) rfl
      have r6 := hc 6 _ (by decide) rfl
      have r7 := hc 7 _ (by decide) rfl
      dsimp only at r1 r2 r3 r4 r5 r6 r7
      clear hc hi8
      obtain ⟨v3, hv3⟩ : ∃ v, v = wr := ⟨_, rfl⟩
      subst hv3
      go_upto_region 5 with fail
      generalize hW : World.alloc v3 _ = v5
      have t5 : v5.cell? ⟨v3.heap.size, 5, none⟩ = some (.int .i64 shl) := by rw [← hW]; simp [go_sem]
      have t6 : v5.cell? ⟨v3.heap.size, 6, none⟩ = some (.int .i64 shh) := by rw [← hW]; simp [go_sem]
      have hb5 : Below v3.heap.size v3 v5 := by rw [← hW]; exact (Below.refl _ _).alloc (Nat.le_refl _) _
      replace hB := hB.trans (hb5.mono hB.size)
      replace y0 := y0.below hb5; replace y1 := y1.below hb5; replace y2 := y2.below hb5
      have hz5 := hb5.size
      have hlt3 : v3.heap.size < v5.heap.size := by rw [← hW]; simp
      clear hW hb5 r0 r1 r2 r3 r4 r5 r6 r7
      by_cases hk0 : k = 0
      · subst hk0
        have q0 := (y2 0 _ rfl).1; have q1 := (y2 1 _ rfl).1; have f0 := (y2 0 _ rfl).2; have f1 := (y2 1 _ rfl).2; have p0 := (y0 0 _ rfl).1; have p1 := (y0 1 _ rfl).1
        go_wp2_with (go_at_call 126; refine (sum2_any (a := x) (b := y) (c := shl) (d := shh) (by simp [go_sem]) (by simp [go_sem]) (by simp [go_sem]) (by simp [go_sem]) (by omega)).mono ?_; rintro e w6 ⟨rfl, hb6⟩; have hb7 : Below v5.heap.size v5 w6 := ((Below.refl _ _).alloc (Nat.le_refl _) _).trans (hb6.mono (by simp)); have hz7 := hb7.size; replace y0 := y0.below hb7; replace y1 := y1.below hb7; replace y2 := y2.below hb7; replace t5 := bkeep hb7 t5; replace t6 := bkeep hb7 t6; replace hB := hB.trans (hb7.mono hB.size); clear hb6 hb7; replace q0 := (y2 0 _ rfl).1; replace q1 := (y2 1 _ rfl).1; replace f0 := (y2 0 _ rfl).2; replace f1 := (y2 1 _ rfl).2)
        obtain ⟨e1, e2⟩ := hgt_first (lo := lo) (hi := hi) HS1.out
        go_roundg (n - (0 + 1))
        case measure => have h := HGK.out; omega
        case rel => exact ⟨0 + 1, by omega, rfl, by go_num, two_other y0 (by omega) _ _, two_other y1 (by omega) _ _, by rw [e1, e2, HX.out, HY.out]; exact cells_store (o := 1) (cells_store (o := 0) y2), (hB.setCell (p := ⟨w.heap.size + 2, 0, none⟩) (by show w.heap.size ≤ w.heap.size + 2; omega) _).setCell (p := ⟨w.heap.size + 2, 1, none⟩) (by show w.heap.size ≤ w.heap.size + 2; omega) _, by simp; omega⟩
      · obtain ⟨j, rfl⟩ : ∃ j, k = j + 1 := ⟨k - 1, by omega⟩
        obtain ⟨kk, hkk⟩ : ∃ kk, kk = j + 1 := ⟨_, rfl⟩
        have HKK := hid hkk
        rw [← hkk] at hk hlt hki HGK HS1 HX HY hsmall ⊢
        clear hkk hk0
        have hkp : (0 : Int) < (kk : Int) := by have := HKK.out; omega
        have q0 := (y2 0 _ rfl).1; have q1 := (y2 1 _ rfl).1; have f0 := (y2 0 _ rfl).2; have f1 := (y2 1 _ rfl).2; have p0 := (y0 0 _ rfl).1; have p1 := (y0 1 _ rfl).1
        go_upto_region 7 with (go_at_call 126; refine (sum2_any (a := x) (b := y) (c := lo) (d := hi) (by simp [go_sem]) (by simp [go_sem]) (by simp [go_sem]) (by simp [go_sem]) (by omega)).mono ?_; rintro e w6 ⟨rfl, hb6⟩; have hb7 : Below v5.heap.size v5 w6 := ((Below.refl _ _).alloc (Nat.le_refl _) _).trans (hb6.mono (by simp)); have hz7 := hb7.size; replace y0 := y0.below hb7; replace y1 := y1.below hb7; replace y2 := y2.below hb7; replace t5 := bkeep hb7 t5; replace t6 := bkeep hb7 t6; replace hB := hB.trans (hb7.mono hB.size); clear hb6 hb7; replace q0 := (y2 0 _ rfl).1; replace q1 := (y2 1 _ rfl).1; replace f0 := (y2 0 _ rfl).2; replace f1 := (y2 1 _ rfl).2)
        generalize hW8 : World.setCell _ _ _ = v8
        have hz8 : v8.heap.size = w6.heap.size := by rw [← hW8]; simp
        have z0 : CellsAt v8 w.heap.size [.int .i64 lo, .int .i64 hi] := by rw [← hW8]; exact two_other y0 (by omega) _ _
        have z1 : CellsAt v8 (w.heap.size + 1) [.int .i64 0, .int .i64 0] := by rw [← hW8]; exact two_other y1 (by omega) _ _
        have z2 : CellsAt v8 (w.heap.size + 2) [.int .i64 (x + lo), .int .i64 (y + hi)] := by rw [← hW8]; exact cells_store (o := 1) (cells_store (o := 0) y2)
        have hB8 : Below w.heap.size w v8 := by rw [← hW8]; exact (hB.setCell (p := ⟨w.heap.size + 2, 0, none⟩) (by show w.heap.size ≤ w.heap.size + 2; omega) _).setCell (p := ⟨w.heap.size + 2, 1, none⟩) (by show w.heap.size ≤ w.heap.size + 2; omega) _
        have t58 : v8.cell? ⟨v3.heap.size, 5, none⟩ = some (.int .i64 shl) := by rw [← hW8]; simp only [World.cell?_setCell_other _ _ _ _ (ne_blk (show w.heap.size + 2 ≠ v3.heap.size by omega) _ _)]; exact t5
        have t68 : v8.cell? ⟨v3.heap.size, 6, none⟩ = some (.int .i64 shh) := by rw [← hW8]; simp only [World.cell?_setCell_other _ _ _ _ (ne_blk (show w.heap.size + 2 ≠ v3.heap.size by omega) _ _)]; exact t6
        have hg8 : w.heap.size + 3 ≤ v8.heap.size := by omega
        clear hz8 hW8 y0 y1 y2 t5 t6 q0 q1 f0 f1 p0 p1 hB
        have y0 := z0; have y1 := z1; have y2 := z2; have hB := hB8; have t5 := t58; have t6 := t68; clear z0 z1 z2 hB8 t58 t68
        have q0 := (y2 0 _ rfl).1; have q1 := (y2 1 _ rfl).1; have f0 := (y2 0 _ rfl).2; have f1 := (y2 1 _ rfl).2; have p0 := (y0 0 _ rfl).1; have p1 := (y0 1 _ rfl).1
        go_wp2_with (go_at_call 126; refine (sum2_any (a := (x + lo)) (b := (y + hi)) (c := shl) (d := shh) (by simp [go_sem]) (by simp [go_sem]) (by simp [go_sem]) (by simp [go_sem]) (by omega)).mono ?_; rintro e w6 ⟨rfl, hb6⟩; have hb7 : Below v8.heap.size v8 w6 := ((Below.refl _ _).alloc (Nat.le_refl _) _).trans (hb6.mono (by simp)); have hz7 := hb7.size; replace y0 := y0.below hb7; replace y1 := y1.below hb7; replace y2 := y2.below hb7; replace t5 := bkeep hb7 t5; replace t6 := bkeep hb7 t6; replace hB := hB.trans (hb7.mono hB.size); clear hb6 hb7; replace q0 := (y2 0 _ rfl).1; replace q1 := (y2 1 _ rfl).1; replace f0 := (y2 0 _ rfl).2; replace f1 := (y2 1 _ rfl).2)
        obtain ⟨e1, e2⟩ := hgt_next (lo := lo) (hi := hi) (k := j) (by rw [← HKK.out]; exact HS1.out)
        go_roundg (n - (kk + 1))
        case measure => have h := HGK.out; omega
        case rel => exact ⟨kk + 1, by omega, rfl, by go_num, two_other y0 (by omega) _ _, two_other y1 (by omega) _ _, by rw [show kk + 1 = j + 2 by have := HKK.out; omega, e1, e2, ← HKK.out, HX.out, HY.out]; exact cells_store (o := 1) (cells_store (o := 0) y2), (hB.setCell (p := ⟨w.heap.size + 2, 0, none⟩) (by show w.heap.size ≤ w.heap.size + 2; omega) _).setCell (p := ⟨w.heap.size + 2, 1, none⟩) (by show w.heap.size ≤ w.heap.size + 2; omega) _, by simp; omega⟩
    · obtain rfl : k = n := by omega
      have HE := hid HN.out
      have q0 := (y2 0 _ rfl).1; have q1 := (y2 1 _ rfl).1
      have g0 := (y1 0 _ rfl).1; have g1 := (y1 1 _ rfl).1; have f0 := (y1 0 _ rfl).2; have f1 := (y1 1 _ rfl).2
      go_wp2_with fail
      have z1 := cells_store (o := 1) (u := .int .i64 (hgtH l hi k)) (cells_store (o := 0) (u := .int .i64 (hgtL l lo k)) y1)
      have d0 := (z1 0 _ rfl).1; have d1 := (z1 1 _ rfl).1
      exact bodyPost_ret (v := .agg #[.int .i64 (hgtL l lo k), .int .i64 (hgtH l hi k)]) (by simp [results, Try.results90, go_sem, *]) rfl ⟨by first | rfl | rw [HE.out], (hB.setCell (p := ⟨w.heap.size + 1, 0, none⟩) (Nat.le_succ _) _).setCell (p := ⟨w.heap.size + 1, 1, none⟩) (Nat.le_succ _) _⟩

end Go.Proofs.Ytnchhleokdkejaa

/- Whether bungs stand, and how high they are. -/
namespace Go.Proofs.Ytnchhleokdkejaa
open Go.RowKit Go.Pb Go.Pb.Ware Go.Pb.Sag
set_option linter.unusedVariables false
set_option linter.unusedSimpArgs false

open Go.Pb.Bung
theorem sg_highs {l : List Sg} (h : listOk l = true) : ∀ s ∈ l, 0 ≤ s.hl ∧ s.hl ≤ 10000 ∧ 0 ≤ s.hh ∧ s.hh ≤ 10000 := fun s hs => by
  have h1 := listOk_all h s hs
  unfold sgOk rgOk at h1
  simp only [Bool.and_eq_true, decide_eq_true_eq] at h1
  omega
theorem wad_bounds {lo hi : Int} {l : List Sg} (h : bungOk lo hi l = true) : (0 ≤ lo ∧ lo ≤ 200) ∧ 0 ≤ hi ∧ hi ≤ 200 := by
  unfold bungOk wadOk rgOk at h
  simp only [Bool.and_eq_true, decide_eq_true_eq] at h
  omega

set_option maxRecDepth 100000 in
set_option maxHeartbeats 800000 in
theorem Stands_any {w : World} {v : Value} {l : List Sg} {wl wh : Int} (h : RowsAt 8 w v (l.map rowG)) {r : Int × Int} (hr : (if bungOk wl wh l = true then (stA l, 0) else (0, 31)) = r) :
    Calls Try.prog 32 #[.agg #[.int .i64 wl, .int .i64 wh, v]] w (Ret w (.tuple #[.int .i64 r.1, .int .i64 r.2])) := by
  unfold Ret
  obtain ⟨a, cap, rfl, hll⟩ := h.shape
  rw [List.length_map] at hll ⊢
  obtain ⟨n, hn⟩ : ∃ n, l.length = n := ⟨_, rfl⟩
  have HN := hid hn
  rw [List.length_map] at h
  rw [hn] at h hll ⊢
  clear hn
  obtain ⟨b, hb⟩ : ∃ b, bungOk wl wh l = b := ⟨_, rfl⟩
  have hcb : ckBg wl wh l = if b = true then 0 else 31 := by unfold ckBg; rw [hb]
  have hr2 : r = if b = true then (stA l, 0) else (0, 31) := by rw [← hr, hb]
  clear hr
  cases b
  · rw [if_neg (by simp)] at hcb hr2
    subst hr2
    have HC := hid hcb; clear hcb
    go_enter Try.func32, Try.ntmps32
    go_wp2_with fail
    refine (ckBg_any (h.below (by go_grown)) HC.out).mono ?_
    rintro e w1 ⟨rfl, hb⟩
    replace hb0 := bnext (w := w) (by go_grown) hb; have hz := hb.size; (try simp only [World.size_alloc, World.size_setCell] at hz); replace q0 : w1.cell? ⟨w.heap.size, 0, none⟩ = some (.int .i64 wl) := bkeep hb (by first | (with_reducible exact q0) | (with_reducible exact akeep q0) | simp [*, go_sem]); replace q1 : w1.cell? ⟨w.heap.size, 1, none⟩ = some (.int .i64 wh) := bkeep hb (by first | (with_reducible exact q1) | (with_reducible exact akeep q1) | simp [*, go_sem]); replace q2 : w1.cell? ⟨w.heap.size, 2, none⟩ = some (.slice a n cap) := bkeep hb (by first | (with_reducible exact q2) | (with_reducible exact akeep q2) | simp [*, go_sem]); skip
    clear hb
    go_wp2_with fail
    go_ret2
    exact ⟨rfl, by first | exact hb0 | go_grown⟩
  · rw [if_pos rfl] at hcb hr2
    subst hr2
    have HC := hid hcb; have HL := hid (bungOk_len hb); have HK := hid (bungOk_list hb); have HW := hid (wad_bounds hb); clear hcb hb
    go_enter Try.func32, Try.ntmps32
    go_wp2_with fail
    refine (ckBg_any (h.below (by go_grown)) HC.out).mono ?_
    rintro e w1 ⟨rfl, hb⟩
    replace hb0 := bnext (w := w) (by go_grown) hb; have hz := hb.size; (try simp only [World.size_alloc, World.size_setCell] at hz); replace q0 : w1.cell? ⟨w.heap.size, 0, none⟩ = some (.int .i64 wl) := bkeep hb (by first | (with_reducible exact q0) | (with_reducible exact akeep q0) | simp [*, go_sem]); replace q1 : w1.cell? ⟨w.heap.size, 1, none⟩ = some (.int .i64 wh) := bkeep hb (by first | (with_reducible exact q1) | (with_reducible exact akeep q1) | simp [*, go_sem]); replace q2 : w1.cell? ⟨w.heap.size, 2, none⟩ = some (.slice a n cap) := bkeep hb (by first | (with_reducible exact q2) | (with_reducible exact akeep q2) | simp [*, go_sem]); skip
    clear hb
    go_wp2_with fail
    refine (stands_any (h.below (by go_grown)) HL.out (sg_bounds HK.out)).mono ?_
    rintro e w1 ⟨rfl, hb⟩
    replace hb0 := bnext (w := w) (by go_grown) hb; have hz := hb.size; (try simp only [World.size_alloc, World.size_setCell] at hz); replace q0 : w1.cell? ⟨w.heap.size, 0, none⟩ = some (.int .i64 wl) := bkeep hb (by first | (with_reducible exact q0) | (with_reducible exact akeep q0) | simp [*, go_sem]); replace q1 : w1.cell? ⟨w.heap.size, 1, none⟩ = some (.int .i64 wh) := bkeep hb (by first | (with_reducible exact q1) | (with_reducible exact akeep q1) | simp [*, go_sem]); replace q2 : w1.cell? ⟨w.heap.size, 2, none⟩ = some (.slice a n cap) := bkeep hb (by first | (with_reducible exact q2) | (with_reducible exact akeep q2) | simp [*, go_sem]); skip
    clear hb
    go_wp2_with fail
    go_ret2
    exact ⟨rfl, by first | exact hb0 | go_grown⟩

end Go.Proofs.Ytnchhleokdkejaa
