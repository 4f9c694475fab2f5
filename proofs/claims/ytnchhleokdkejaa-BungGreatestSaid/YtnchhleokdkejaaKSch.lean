/- The plain mathematics of layer 2 (saggar), part 3: cells of a floor as bits; stands. -/
import Derived.Test.YtnchhleokdkejaaKLibh
import Derived.Laws.BitsAllLaws
import Derived.Sort.LotA
import Derived.Shelf.SlSortCmp.Kit1
import Derived.RangeFuncNested
import Derived.RangeFuncBound
namespace Go.Pb.Sag
open Go Go.Pb Go.Pb.Ware Go.RowKit
set_option linter.unusedVariables false
structure St where
  y : Nat
  x : Nat
  turned : Bool
deriving DecidableEq
def bitAt (y x : Nat) : Nat := 2 ^ (y * 6 + x)
def rowM (y x : Nat) : Nat → Nat
  | 0 => 0
  | k + 1 => rowM y x k ||| bitAt y (x + k)
def boxM (y x wide : Nat) : Nat → Nat
  | 0 => 0
  | k + 1 => boxM y x wide k ||| rowM (y + k) x wide
def sideV (f : Ft) (t : Bool) : Int × Int := if t = true then (f.deep, f.wide) else (f.wide, f.deep)
/-- A stand of a floor of six by six, and how much it covers. -/
def maskOf (f : Ft) (p : St) : Nat := boxM p.y p.x (sideV f p.turned).1.toNat (sideV f p.turned).2.toNat
def cellsP (p : St) : List Value := [.int .i64 (p.y : Int), .int .i64 (p.x : Int), .bool p.turned]
def areaL (fs : List Ft) : Int := (fs.map fun f => f.wide * f.deep).sum
def weightL (fs : List Ft) : Int := (fs.map fun f => f.weight).sum
end Go.Pb.Sag

/- The plain mathematics of layer 2 (saggar), part 4: the stands of a box, in order. -/
namespace Go.Pb.Sag
open Go Go.Pb Go.Pb.Ware Go.RowKit
set_option linter.unusedVariables false
def ways (f : Ft) : List Bool := if f.wide = f.deep then [false] else [false, true]
def okAt (s : Bx) (f : Ft) (p : St) : Bool := decide ((p.x : Int) + (sideV f p.turned).1 ≤ s.wide) && decide ((p.y : Int) + (sideV f p.turned).2 ≤ s.deep)
def cellL (s : Bx) (f : Ft) (y x k : Nat) : List St := (((ways f).take k).map fun t => (⟨y, x, t⟩ : St)).filter (okAt s f)
def rowL (s : Bx) (f : Ft) (y : Nat) : Nat → List St
  | 0 => []
  | m + 1 => rowL s f y m ++ cellL s f y m (ways f).length
def standsN (s : Bx) (f : Ft) : Nat → List St
  | 0 => []
  | n + 1 => standsN s f n ++ rowL s f n s.wide.toNat
def standsL (s : Bx) (f : Ft) : List St := standsN s f s.deep.toNat
/-- One segment of memory is as it was. -/
def KeepSeg (lo hi : Nat) (W W' : World) : Prop := W.heap.size ≤ W'.heap.size ∧ ∀ k, lo ≤ k → k < hi → W'.heap[k]? = W.heap[k]?
theorem KeepSeg.refl {lo hi : Nat} {W : World} : KeepSeg lo hi W W := ⟨Nat.le_refl _, fun _ _ _ => rfl⟩
theorem KeepSeg.trans {lo hi : Nat} {A B C : World} (h : KeepSeg lo hi A B) (k : KeepSeg lo hi B C) : KeepSeg lo hi A C := ⟨Nat.le_trans h.1 k.1, fun i h1 h2 => (k.2 i h1 h2).trans (h.2 i h1 h2)⟩
theorem KeepSeg.of_below {lo hi : Nat} {W W' : World} (h : Below hi W W') : KeepSeg lo hi W W' := ⟨h.size, fun i _ h2 => h.block i h2⟩
theorem keepSeg_b {lo hi : Nat} {w : World} (hn : hi ≤ w.heap.size) (W : World) (l : Nat) (o o' : Obj) (hl : w.heap.size ≤ l) (h : W.heap[l]? = some o) (h1 : o.isCells = false) (h2 : o.isWalk = false) : KeepSeg lo hi W (W.putObj l o') :=
  KeepSeg.of_below (belowK_b hn W l o o' hl h h1 h2)
theorem KeepSeg.cell {lo hi : Nat} {W W' : World} (h : KeepSeg lo hi W W') {k o : Nat} {v : Value} (h1 : lo ≤ k) (h2 : k < hi) (hc : W.cell? ⟨k, o, none⟩ = some v) : W'.cell? ⟨k, o, none⟩ = some v := by
  rw [World.cell?_of_block (w := W) (h.2 k h1 h2)]; exact hc
/-- What the closure of stands holds on to. -/
def StandsIn (lo hi : Nat) (s : Bx) (f : Ft) (lb : Array Value) (W : World) : Prop := ∃ p q r b : Nat, (lo ≤ p ∧ p < hi) ∧ (lo ≤ q ∧ q < hi) ∧ (lo ≤ r ∧ r < hi) ∧ (lo ≤ b ∧ b < hi) ∧
  lb = #[.pointer (some ⟨p, 0, none⟩), .pointer (some ⟨q, 0, none⟩), .pointer (some ⟨r, 0, none⟩)] ∧
  W.cell? ⟨p, 1, none⟩ = some (.int .i64 s.wide) ∧ W.cell? ⟨p, 2, none⟩ = some (.int .i64 s.deep) ∧ W.cell? ⟨q, 0, none⟩ = some (.slice (some ⟨b, 0, none⟩) (ways f).length 2) ∧
  (W.cell? ⟨b, 0, none⟩ = some (.bool false) ∧ W.cell? ⟨b, 1, none⟩ = some (.bool true)) ∧
  W.cell? ⟨r, 0, none⟩ = some (.int .i64 f.wide) ∧ W.cell? ⟨r, 1, none⟩ = some (.int .i64 f.deep) ∧ W.cell? ⟨r, 2, none⟩ = some (.int .i64 f.high) ∧ W.cell? ⟨r, 3, none⟩ = some (.int .i64 f.weight)
theorem StandsIn.keep {lo hi : Nat} {s : Bx} {f : Ft} {lb : Array Value} {W W' : World} (h : StandsIn lo hi s f lb W) (hk : KeepSeg lo hi W W') : StandsIn lo hi s f lb W' := by
  obtain ⟨p, q, r, b, hp, hq, hr, hb, e, c1, c2, c3, ⟨c4, c5⟩, c6, c7, c8, c9⟩ := h
  exact ⟨p, q, r, b, hp, hq, hr, hb, e, hk.cell hp.1 hp.2 c1, hk.cell hp.1 hp.2 c2, hk.cell hq.1 hq.2 c3, ⟨hk.cell hb.1 hb.2 c4, hk.cell hb.1 hb.2 c5⟩, hk.cell hr.1 hr.2 c6, hk.cell hr.1 hr.2 c7, hk.cell hr.1 hr.2 c8, hk.cell hr.1 hr.2 c9⟩
end Go.Pb.Sag
namespace Go.Pb
open Go Go.RowKit
end Go.Pb
namespace Go.Pb.Sag
open Go Go.Pb Go.Pb.Ware Go.RowKit
def highB (s : Bx) (f : Ft) : Bool := decide (s.high < f.high)
def noStand (s : Bx) (f : Ft) : Bool := (standsL s f).isEmpty
/-- Trouble that is seen without a search. -/
def troubleB (s : Bx) (fs : List Ft) (kind : Int) : Bool :=
  if kind = 1 then fs.any (highB s) else if kind = 2 then fs.any (noStand s) else if kind = 3 then decide (s.bears < weightL fs) else if kind = 4 then decide (s.wide * s.deep < areaL fs) else false
def plainB (s : Bx) (fs : List Ft) : Bool := troubleB s fs 1 || (troubleB s fs 2 || (troubleB s fs 3 || troubleB s fs 4))
end Go.Pb.Sag

/- The plain mathematics of layer 2 (saggar), part 5: packings that are given. -/
namespace Go.Pb.Sag
open Go Go.Pb Go.Pb.Ware Go.RowKit
set_option linter.unusedVariables false
/-- A stand as it is given. -/
structure Sq where
  y : Int
  x : Int
  turned : Bool
def cellsQ (q : Sq) : List Value := [.int .i64 q.y, .int .i64 q.x, .bool q.turned]
/-- In the world w the slice v reads as these stands. -/
def StAt (w : World) (v : Value) (qs : List Sq) : Prop :=
  (v = .slice none 0 0 ∧ qs = []) ∨ ∃ (a : Addr) (cap : Nat), v = .slice (some a) qs.length cap ∧ qs.length ≤ cap ∧ cap ≤ 9223372036854775807 ∧
    ∀ k q, qs[k]? = some q → ∀ j u, (cellsQ q)[j]? = some u → w.cell? (a.add (k * 3 + j)) = some u
theorem StAt.below {w w' : World} {v : Value} {qs : List Sq} (h : StAt w v qs) (hb : Below w.heap.size w w') : StAt w' v qs := by
  rcases h with h | ⟨a, cap, h1, h2, h3, h4⟩
  · exact .inl h
  · exact .inr ⟨a, cap, h1, h2, h3, fun k q hq j u hu => bkeep hb (h4 k q hq j u hu)⟩
theorem StAt.shape {w : World} {v : Value} {qs : List Sq} (h : StAt w v qs) : ∃ (a : Option Addr) (cap : Nat), v = .slice a qs.length cap ∧ qs.length ≤ cap ∧ cap ≤ 9223372036854775807 := by
  rcases h with ⟨h1, h2⟩ | ⟨a, cap, h1, h2, h3, _⟩
  · subst h2; exact ⟨none, 0, h1, by simp, by omega⟩
  · exact ⟨_, cap, h1, h2, h3⟩
theorem StAt.row {w : World} {a : Option Addr} {cap : Nat} {qs : List Sq} (h : StAt w (.slice a qs.length cap) qs) {k : Nat} (hk : k < qs.length) :
    ∃ a', a = some a' ∧ w.cell? (a'.add (k * 3)) = some (.int .i64 qs[k].y) ∧ w.cell? ⟨(a'.add (k * 3)).block, (a'.add (k * 3)).off + 1, none⟩ = some (.int .i64 qs[k].x) ∧ w.cell? ⟨(a'.add (k * 3)).block, (a'.add (k * 3)).off + 2, none⟩ = some (.bool qs[k].turned) := by
  rcases h with ⟨h1, h2⟩ | ⟨a', cap', h1, h2, h3, h4⟩
  · subst h2; simp at hk
  · injection h1 with h1 _ _
    have h5 := h4 k _ (List.getElem?_eq_getElem hk)
    have e : ∀ (p : Addr) (j : Nat), j ≠ 0 → p.add j = ⟨p.block, p.off + j, none⟩ := fun p j hj => by unfold Addr.add; rw [if_neg hj]
    refine ⟨a', h1, h5 0 _ rfl, ?_, ?_⟩
    · have := h5 1 _ rfl; rw [← Go.Deep.add_add, e _ 1 (by decide)] at this; exact this
    · have := h5 2 _ rfl; rw [← Go.Deep.add_add, e _ 2 (by decide)] at this; exact this
end Go.Pb.Sag
namespace Go.Pb.Sag
open Go Go.Pb Go.Pb.Ware Go.RowKit
end Go.Pb.Sag

/- Arguments opened: numbers that make a floor (two slices of rows, and an array between them); a slice of stands; a reason. -/
namespace Go.Pb
open Go.RowKit Go.ChangeShapes Go.WideShapes Go.ChangeAt Go.Deep
section
variable {H : Type} {enc : TypeId × Value → H} {P : Program} {w : World} {base : Nat} {spare : Nat → Bool} {held : Bool}
theorem rows1_nums {v : Value} {rows : List (List Int)} (h : RowsAt 1 w v rows) : ∃ zs, NumsAt w v zs := by
  rcases h with ⟨h1, h2⟩ | ⟨a, cap, h1, h2, h3, h4⟩
  · exact ⟨[], .inl ⟨h1, rfl⟩⟩
  · refine ⟨rows.map fun r => r.getD 0 0, .inr ⟨a, cap, by rw [List.length_map]; exact h1, by rw [List.length_map]; exact h2, h3, fun k z hz => ?_⟩⟩
    rw [List.getElem?_map] at hz
    cases hr : rows[k]? with
    | none => rw [hr] at hz; cases hz
    | some r =>
      rw [hr] at hz
      simp only [Option.map_some, Option.some.injEq] at hz
      obtain ⟨h5, h6⟩ := h4 k r hr
      have h7 := h6 0 z (by
        match r, h5, hz with
        | [x], _, hz => simpa using hz)
      rw [Nat.mul_one, Nat.add_zero] at h7
      exact h7
end
end Go.Pb

/- Saggars of bungs, by plain maths: which are valid. -/
namespace Go.Pb.Bung
open Go Go.Pb Go.Pb.Ware Go.RowKit
set_option linter.unusedVariables false
set_option linter.unusedSimpArgs false
structure Sg where
  id : Int
  wl : Int
  wh : Int
  bl : Int
  bh : Int
  hl : Int
  hh : Int
  ti : Int
def rowG (s : Sg) : List Int := [s.id, s.wl, s.wh, s.bl, s.bh, s.hl, s.hh, s.ti]
def sgOk (s : Sg) : Bool := btw s.id 1 999 && rgOk ⟨s.wl, s.wh⟩ 0 10000000 && rgOk ⟨s.bl, s.bh⟩ 0 10000000 && rgOk ⟨s.hl, s.hh⟩ 1 10000 && btw s.ti 0 200
def ckSg (s : Sg) : Int := if sgOk s = true then 0 else 30
def hasL (l : List Sg) (id : Int) : Bool := l.any fun s => decide (s.id = id)
/-- The first k are valid, each of another Id than those ahead of it. -/
def okUp (l : List Sg) : Nat → Bool
  | 0 => true
  | k + 1 => okUp l k && (match l[k]? with | some s => sgOk s && !hasL (l.take k) s.id | none => true)
def listOk (l : List Sg) : Bool := decide (l.length ≤ 30) && okUp l l.length
def ckLs (l : List Sg) : Int := if listOk l = true then 0 else 30
def wadOk (lo hi : Int) : Bool := rgOk ⟨lo, hi⟩ 0 200
def ckWd (lo hi : Int) : Int := if wadOk lo hi = true then 0 else 32
def bungOk (lo hi : Int) (l : List Sg) : Bool := wadOk lo hi && decide (l ≠ []) && listOk l
def ckBg (lo hi : Int) (l : List Sg) : Int := if bungOk lo hi l = true then 0 else 31
def ckSp (cr le : Int) : Int := if (btw cr 0 400000 && btw le 0 100000) = true then 0 else 33
theorem okUp_mono {l : List Sg} {k : Nat} (h : okUp l k = false) : ∀ n, k ≤ n → okUp l n = false := by
  intro n hn
  induction n with
  | zero =>
    obtain rfl : k = 0 := by omega
    exact h
  | succ n ih =>
    rcases Nat.lt_or_ge n k with hk | hk
    · obtain rfl : k = n + 1 := by omega
      exact h
    · rw [okUp, ih hk, Bool.false_and]
theorem okUp_next {l : List Sg} {k : Nat} {s : Sg} (h : okUp l k = true) (hk : l[k]? = some s) (h1 : sgOk s = true) (h2 : hasL (l.take k) s.id = false) : okUp l (k + 1) = true := by
  rw [okUp, h, hk]; simp [h1, h2]
theorem listOk_no {l : List Sg} {k : Nat} {s : Sg} (hk : l[k]? = some s) (h : (sgOk s && !hasL (l.take k) s.id) = false) : listOk l = false := by
  have hlt : k < l.length := (List.getElem?_eq_some_iff.1 hk).1
  have h1 : okUp l (k + 1) = false := by rw [okUp, hk]; simp only [h, Bool.and_false]
  unfold listOk
  rw [okUp_mono h1 l.length hlt, Bool.and_false]
theorem listOk_yes {l : List Sg} (h : l.length ≤ 30) (h2 : okUp l l.length = true) : listOk l = true := by
  unfold listOk; rw [decide_eq_true h, h2]; rfl
theorem listOk_long {l : List Sg} (h : ¬ l.length ≤ 30) : listOk l = false := by
  unfold listOk; rw [decide_eq_false h]; rfl
theorem hasL_yes {l : List Sg} {k : Nat} {s : Sg} {id : Int} (hk : l[k]? = some s) (h : s.id = id) : hasL l id = true := by
  unfold hasL
  rw [List.any_eq_true]
  exact ⟨s, List.mem_of_getElem? hk, decide_eq_true h⟩
theorem hasL_snoc {l : List Sg} {k : Nat} {s : Sg} {id : Int} (hk : l[k]? = some s) (h0 : hasL (l.take k) id = false) (h : ¬ s.id = id) : hasL (l.take (k + 1)) id = false := by
  unfold hasL at h0 ⊢
  rw [List.take_add_one, hk, List.any_append, h0]
  simp [h]
/-- A slice of the first k rows. -/
theorem RowsAt.take {n : Nat} {w : World} {a : Option Addr} {m cap k : Nat} {rows : List (List Int)} (h : RowsAt n w (.slice a m cap) rows) (hk : k ≤ rows.length) (h0 : a = none → k = 0 ∧ cap = 0) : RowsAt n w (.slice a k cap) (rows.take k) := by
  rcases h with ⟨h1, h2⟩ | ⟨b, c, h1, h2, h3, h4⟩
  · injection h1 with e1 e2 e3
    subst e1
    obtain ⟨rfl, rfl⟩ := h0 rfl
    exact .inl ⟨rfl, by simp⟩
  · injection h1 with e1 e2 e3
    subst e1
    refine .inr ⟨b, c, by rw [List.length_take, Nat.min_eq_left hk, e3], by rw [List.length_take]; omega, h3, fun j r hr => h4 j r ?_⟩
    rw [List.getElem?_take] at hr
    split at hr
    · exact hr
    · cases hr
theorem RowsAt.take' {n : Nat} {w : World} {b : Addr} {cap k : Nat} {rows : List (List Int)} (h : RowsAt n w (.slice (some b) rows.length cap) rows) (hk : k ≤ rows.length) : RowsAt n w (.slice (some b) k cap) (rows.take k) := RowsAt.take h hk (fun e => by cases e)
/-- A saggar in a list. -/
theorem sg_row {w : World} {a : Option Addr} {cap k : Nat} {l : List Sg} {s : Sg} (h : RowsAt 8 w (.slice a l.length cap) (l.map rowG)) (hk : l[k]? = some s) : ∃ a', a = some a' ∧ w.cell? (a'.add (k * 8)) = some (.int .i64 s.id) ∧ (∀ j z, j ≠ 0 → (rowG s)[j]? = some z → w.cell? ⟨(a'.add (k * 8)).block, (a'.add (k * 8)).off + j, none⟩ = some (.int .i64 z)) ∧ ∀ z ∈ rowG s, I64 z := by
  have hlt : k < l.length := (List.getElem?_eq_some_iff.1 hk).1
  have hm : k < (l.map rowG).length := by rw [List.length_map]; exact hlt
  obtain ⟨a', ha, hr, h0, hc⟩ := RowsAt.row (show RowsAt 8 w (.slice a (l.map rowG).length cap) (l.map rowG) by rw [List.length_map]; exact h) hm
  have e : (l.map rowG)[k] = rowG s := by
    have h1 := List.getElem?_eq_getElem hm
    rw [List.getElem?_map, hk] at h1
    exact (Option.some.inj h1).symm
  rw [e] at h0 hc hr
  refine ⟨a', ha, h0 _ rfl, fun j z hj hz => hc j z hj hz, ?_⟩
  have h2 := (RowsAt.i64 h) (rowG s) (by
    have h3 : (l.map rowG)[k]? = some (rowG s) := by rw [List.getElem?_map, hk]; rfl
    exact List.mem_of_getElem? h3)
  exact h2.2
end Go.Pb.Bung

/- Saggars by their indices, by plain maths. -/
namespace Go.Pb.Bung
open Go Go.Pb Go.Pb.Ware Go.RowKit
set_option linter.unusedVariables false
set_option linter.unusedSimpArgs false
instance : Inhabited Sg := ⟨⟨0, 0, 0, 0, 0, 0, 0, 0⟩⟩
/-- The first k numbers are indices below n, each of which is among them once. -/
def idxUp (zs : List Int) (n : Nat) : Nat → Bool
  | 0 => true
  | k + 1 => idxUp zs n k && (match zs[k]? with | some z => btw z 0 ((n : Int) - 1) && !decide (z ∈ zs.take k) | none => true)
def idxOk (zs : List Int) (n : Nat) : Bool := idxUp zs n zs.length
theorem idxUp_mono {zs : List Int} {n k : Nat} (h : idxUp zs n k = false) : ∀ m, k ≤ m → idxUp zs n m = false := by
  intro m hm
  induction m with
  | zero =>
    obtain rfl : k = 0 := by omega
    exact h
  | succ m ih =>
    rcases Nat.lt_or_ge m k with hk | hk
    · obtain rfl : k = m + 1 := by omega
      exact h
    · rw [idxUp, ih hk, Bool.false_and]
theorem idxUp_next {zs : List Int} {n k : Nat} {z : Int} (h : idxUp zs n k = true) (hk : zs[k]? = some z) (h1 : btw z 0 ((n : Int) - 1) = true) (h2 : ¬ z ∈ zs.take k) : idxUp zs n (k + 1) = true := by
  rw [idxUp, h, hk]; simp [h1, h2]
theorem idxOk_no {zs : List Int} {n k : Nat} {z : Int} (hk : zs[k]? = some z) (h : (btw z 0 ((n : Int) - 1) && !decide (z ∈ zs.take k)) = false) : idxOk zs n = false := by
  have hlt : k < zs.length := (List.getElem?_eq_some_iff.1 hk).1
  have h1 : idxUp zs n (k + 1) = false := by rw [idxUp, hk]; simp only [h, Bool.and_false]
  exact idxUp_mono h1 zs.length hlt
theorem idx_in {zs : List Int} {n : Nat} : ∀ k, idxUp zs n k = true → ∀ z ∈ zs.take k, 0 ≤ z ∧ z < n
  | 0, _, z, hz => by simp at hz
  | k + 1, h, z, hz => by
    rw [idxUp, Bool.and_eq_true] at h
    rw [List.take_add_one] at hz
    rcases List.mem_append.1 hz with hz | hz
    · exact idx_in k h.1 z hz
    · cases hk : zs[k]? with
      | none => rw [hk] at hz; simp at hz
      | some y =>
        rw [hk] at hz h
        simp at hz
        subst hz
        have h2 := h.2
        simp only [Bool.and_eq_true, btw_iff] at h2
        omega
theorem idxOk_in {zs : List Int} {n : Nat} (h : idxOk zs n = true) : ∀ z ∈ zs, 0 ≤ z ∧ z < n := by
  have := idx_in zs.length h
  rwa [List.take_length] at this
def chosenG (l : List Sg) (zs : List Int) : List Sg := zs.map fun z => l.getD z.toNat default
theorem chosenG_snoc {l : List Sg} {zs : List Int} {k m : Nat} {s : Sg} (hk : k < zs.length) (hm : zs[k] = (m : Int)) (hs : l[m]? = some s) : chosenG l (zs.take k) ++ [s] = chosenG l (zs.take (k + 1)) := by
  unfold chosenG
  rw [List.take_succ_eq_append_getElem hk, List.map_append, hm]
  simp [List.getD, hs]
def cellsG (s : Sg) : List Value := (rowG s).map (Value.int .i64)
theorem cells_flat (l : List Sg) : (l.map rowG).flatten.map (Value.int .i64) = l.flatMap cellsG := by
  induction l with
  | nil => rfl
  | cons s l ih =>
    rw [List.map_cons, List.flatten_cons, List.map_append, ih, List.flatMap_cons]; rfl
theorem rows_of_owns {w : World} {base : Nat} {e : TypeId} {v : Value} {l : List Sg} (h : w.ownsRow base e 8 v l.length (l.flatMap cellsG)) (hi : ∀ s ∈ l, ∀ z ∈ rowG s, I64 z) : RowsAt 8 w v (l.map rowG) := by
  refine rowsAt_of_owns (base := base) (e := e) (fun r hr => ?_) (by rw [List.length_map, cells_flat]; exact h) (fun r hr z hz => ?_)
  · obtain ⟨s, -, rfl⟩ := List.mem_map.1 hr; rfl
  · obtain ⟨s, hs, rfl⟩ := List.mem_map.1 hr; exact hi s hs z hz
theorem i64_rows {w : World} {v : Value} {l : List Sg} (h : RowsAt 8 w v (l.map rowG)) : ∀ s ∈ l, ∀ z ∈ rowG s, I64 z := fun s hs => (h.i64 (rowG s) (List.mem_map.2 ⟨s, hs, rfl⟩)).2
theorem i64_def : ∀ z ∈ rowG (default : Sg), I64 z := by
  intro z hz
  have : z = 0 := by simpa [rowG, default, Inhabited.default] using hz
  subst this
  unfold I64; decide
theorem i64_chosen {l : List Sg} {zs : List Int} (h : ∀ s ∈ l, ∀ z ∈ rowG s, I64 z) : ∀ s ∈ chosenG l zs, ∀ z ∈ rowG s, I64 z := by
  intro s hs
  obtain ⟨z, -, rfl⟩ := List.mem_map.1 hs
  unfold List.getD
  cases hk : l[z.toNat]? with
  | none => exact i64_def
  | some s => exact h s (List.mem_of_getElem? hk)
theorem one_cellsG (s : Sg) : ∀ u ∈ cellsG s, u.oneCell' = true := by
  intro u hu
  obtain ⟨z, -, rfl⟩ := List.mem_map.1 hu
  rfl
theorem new_cellsG (w : World) (s : Sg) (t : TypeId) (n : Nat) (hn : w.heap.size = n) : ∀ j u, (cellsG s)[j]? = some u → (w.alloc (.cells (cellsG s).toArray t)).cell? ((⟨n, 0, none⟩ : Addr).add j) = some u := by
  intro j u h
  subst hn
  rw [Go.WideShapes.add_plain, Nat.zero_add]
  show (match (w.alloc (.cells (cellsG s).toArray t)).heap[w.heap.size]? with | some (.cells c _ _) => c[j]? | _ => none) = some u
  rw [World.alloc_heap_new]
  simpa using h
/-- What has been seen among n. -/
def SeenAt (B n : Nat) (zs : List Int) (W : World) : Prop := ∀ i, i < n → W.cell? ⟨B, i, none⟩ = some (.bool (decide ((i : Int) ∈ zs))) ∧ W.frozen? ⟨B, i, none⟩ = false
theorem made_at {w : World} {base n B : Nat} {T : TypeId} {z : Value} (hz : z.cells = #[z]) (h : w.ownsRow base T 1 (.slice (some ⟨B, 0, none⟩) n n) n (madeCells z.cells (n * 1)).toList) : ∀ i, i < n → w.cell? ⟨B, i, none⟩ = some z ∧ w.frozen? ⟨B, i, none⟩ = false := by
  obtain ⟨_, h⟩ := h
  rcases h with ⟨h1, _⟩ | ⟨g, cap, cur, h1, h2, h3, h4, h5, h6, h7⟩
  · cases h1
  injection h1 with e1 _ e2
  injection e1 with e1
  injection e1 with e1
  subst e1; subst e2
  intro i hk
  have hlt : i < n * 1 := by omega
  have h8 : (cur.toList.take (n * 1))[i]? = some z := by
    rw [h7, Array.getElem?_toList]
    unfold madeCells
    rw [Array.getElem?_map, Array.getElem?_range, if_pos hlt, hz]
    show some (#[z] : Array Value)[i % 1]! = _
    rw [Nat.mod_one]; rfl
  rw [List.getElem?_take, if_pos hlt] at h8
  refine ⟨?_, ?_⟩
  · simp only [World.cell?, h3]; simpa using h8
  · simp [World.frozen?, h3]
theorem SeenAt.start {w : World} {B n : Nat} (h : ∀ i, i < n → w.cell? ⟨B, i, none⟩ = some (.bool false) ∧ w.frozen? ⟨B, i, none⟩ = false) : SeenAt B n [] w := fun i hi => by
  have := h i hi
  simpa using this
theorem SeenAt.below {B n : Nat} {zs : List Int} {W W' : World} (h : SeenAt B n zs W) (hb : Below W.heap.size W W') : SeenAt B n zs W' := fun i hi => ⟨bkeep hb (h i hi).1, bfree hb (h i hi).1 (h i hi).2⟩
theorem SeenAt.put {B n m : Nat} {zs : List Int} {W : World} (h : SeenAt B n zs W) (hm : m < n) : SeenAt B n (zs ++ [(m : Int)]) (W.setCell ⟨B, m, none⟩ (.bool true)) := by
  intro i hi
  obtain ⟨h1, h2⟩ := h i hi
  by_cases e : i = m
  · subst e
    refine ⟨?_, ?_⟩
    · rw [World.cell?_setCell_same _ _ _ h1]; simp
    · simpa [go_sem] using h2
  · refine ⟨?_, ?_⟩
    · rw [World.cell?_setCell_other _ _ _ _ (by intro e2; injection e2 with _ e3; exact e e3.symm), h1]
      have hne : ¬ (i : Int) = (m : Int) := by omega
      simp [hne]
    · simpa [go_sem] using h2
end Go.Pb.Bung

/- The setter's rule, by plain maths; sorting indices. -/
namespace Go.Pb.Bung
open Go Go.Pb Go.Pb.Ware Go.RowKit Go.Proofs Go.Sort
set_option linter.unusedVariables false
set_option linter.unusedSimpArgs false
def atG (l : List Sg) (i : Nat) : Sg := l.getD i default
def keyG (s : Sg) : Int := s.wh + s.bl
/-- a stands lower than b. -/
def lowB (a b : Sg) : Bool := decide (keyG b < keyG a) || (decide (keyG a = keyG b) && decide (a.id < b.id))
theorem lowB_iff {a b : Sg} : lowB a b = true ↔ keyG b < keyG a ∨ keyG a = keyG b ∧ a.id < b.id := by unfold lowB; simp
theorem lowB_no {a b : Sg} : lowB a b = false ↔ ¬ (keyG b < keyG a ∨ keyG a = keyG b ∧ a.id < b.id) := by rw [← lowB_iff]; simp
def insR (l : List Sg) (i : Nat) : List Nat → List Nat
  | [] => [i]
  | j :: t => if lowB (atG l j) (atG l i) = true then j :: insR l i t else i :: j :: t
def ruleUp (l : List Sg) : Nat → List Nat
  | 0 => []
  | k + 1 => insR l k (ruleUp l k)
def ruleN (l : List Sg) : List Nat := ruleUp l l.length
def ruleL (l : List Sg) : List Int := (ruleN l).map fun n : Nat => (n : Int)
/-- Saggars in the order of the rule. -/
def ruledL (l : List Sg) : List Sg := chosenG l (ruleL l)
theorem insR_perm (l : List Sg) (i : Nat) : ∀ t, (insR l i t).Perm (i :: t)
  | [] => List.Perm.refl _
  | j :: t => by
    unfold insR
    split
    · exact ((insR_perm l i t).cons j).trans (List.Perm.swap ..)
    · exact List.Perm.refl _
theorem ruleUp_perm (l : List Sg) : ∀ k, (ruleUp l k).Perm (List.range k)
  | 0 => List.Perm.refl _
  | k + 1 => by
    rw [ruleUp, List.range_succ]
    exact (insR_perm l k _).trans (((ruleUp_perm l k).cons k).trans (List.perm_append_singleton k (List.range k)).symm)
theorem ruleN_perm (l : List Sg) : (ruleN l).Perm (List.range l.length) := ruleUp_perm l _
theorem ruleN_length (l : List Sg) : (ruleN l).length = l.length := by rw [(ruleN_perm l).length_eq, List.length_range]
theorem ruleL_length (l : List Sg) : (ruleL l).length = l.length := by unfold ruleL; rw [List.length_map, ruleN_length]
theorem ruleL_in (l : List Sg) : ∀ z ∈ ruleL l, 0 ≤ z ∧ z < (l.length : Int) := by
  intro z hz
  unfold ruleL at hz
  obtain ⟨n, hn, rfl⟩ := List.mem_map.1 hz
  have := List.mem_range.1 ((ruleN_perm l).mem_iff.1 hn)
  omega
/-- No later one stands lower than an earlier one. -/
def NotLow (l : List Sg) (i j : Nat) : Prop := lowB (atG l j) (atG l i) = false
theorem insR_sorted {l : List Sg} {i : Nat} : ∀ {t : List Nat}, t.Pairwise (NotLow l) → (insR l i t).Pairwise (NotLow l)
  | [], _ => List.pairwise_singleton _ _
  | j :: t, h => by
    obtain ⟨h1, h2⟩ := List.pairwise_cons.1 h
    unfold insR
    split
    · rename_i hl
      refine List.pairwise_cons.2 ⟨fun x hx => ?_, insR_sorted h2⟩
      rcases List.mem_cons.1 ((insR_perm l i t).mem_iff.1 hx) with rfl | hx
      · unfold NotLow; rw [lowB_no]; rw [lowB_iff] at hl; omega
      · exact h1 x hx
    · rename_i hl
      rw [Bool.not_eq_true] at hl
      refine List.pairwise_cons.2 ⟨fun x hx => ?_, h⟩
      rcases List.mem_cons.1 hx with rfl | hx
      · exact hl
      · have h3 := h1 x hx
        unfold NotLow at h3 ⊢
        rw [lowB_no] at *
        omega
theorem ruleUp_sorted (l : List Sg) : ∀ k, (ruleUp l k).Pairwise (NotLow l)
  | 0 => List.Pairwise.nil
  | k + 1 => insR_sorted (ruleUp_sorted l k)
/-- Each has an Id of its own. -/
def IdsN (l : List Sg) : Prop := (l.map (·.id)).Pairwise (· ≠ ·)
theorem ids_at {l : List Sg} (h : IdsN l) {i j : Nat} (hi : i < l.length) (hj : j < l.length) (e : (atG l i).id = (atG l j).id) : i = j := by
  unfold IdsN at h
  rw [List.pairwise_map, List.pairwise_iff_getElem] at h
  unfold atG at e
  rw [List.getD_eq_getElem?_getD, List.getD_eq_getElem?_getD, List.getElem?_eq_getElem hi, List.getElem?_eq_getElem hj] at e
  simp only [Option.getD_some] at e
  rcases Nat.lt_trichotomy i j with h1 | h1 | h1
  · exact absurd e (h i j hi hj h1)
  · exact h1
  · exact absurd e.symm (h j i hj hi h1)
theorem ids_of {l : List Sg} : ∀ {k : Nat}, k ≤ l.length → okUp l k = true → IdsN (l.take k)
  | 0, _, _ => List.Pairwise.nil
  | k + 1, hk, h => by
    rw [okUp, Bool.and_eq_true] at h
    have ih := ids_of (by omega) h.1
    have hk2 : k < l.length := by omega
    have h2 := h.2
    rw [List.getElem?_eq_getElem hk2] at h2
    simp only [Bool.and_eq_true, Bool.not_eq_true'] at h2
    unfold IdsN at ih ⊢
    rw [List.take_succ_eq_append_getElem hk2, List.map_append, List.pairwise_append]
    refine ⟨ih, List.pairwise_singleton _ _, fun a ha b hb => ?_⟩
    obtain ⟨s, hs, rfl⟩ := List.mem_map.1 ha
    have hb2 : b = l[k].id := by simpa using hb
    subst hb2
    intro e
    have h3 : hasL (l.take k) l[k].id = true := by unfold hasL; exact List.any_eq_true.2 ⟨s, hs, decide_eq_true e⟩
    rw [h2.2] at h3; cases h3
theorem listOk_ids {l : List Sg} (h : listOk l = true) : IdsN l := by
  unfold listOk at h
  rw [Bool.and_eq_true] at h
  have h1 := ids_of (Nat.le_refl _) h.2
  rwa [List.take_length] at h1
theorem ids_chosen {l : List Sg} {zs : List Int} (h : IdsN l) (hz : ∀ z ∈ zs, 0 ≤ z ∧ z < (l.length : Int)) (hd : zs.Pairwise (· ≠ ·)) : IdsN (chosenG l zs) := by
  unfold IdsN chosenG
  rw [List.map_map, List.pairwise_map]
  refine hd.imp_of_mem fun {a b} ha hb hab e => hab ?_
  have h1 := hz a ha
  have h2 := hz b hb
  have h3 := ids_at h (i := a.toNat) (j := b.toNat) (by omega) (by omega) e
  omega
theorem rule_unique {l : List Sg} (h : IdsN l) {t : List Nat} (hp : t.Perm (List.range l.length)) (hs : t.Pairwise (NotLow l)) : t = ruleN l := by
  refine List.Perm.eq_of_pairwise (le := NotLow l) (fun a b ha hb h1 h2 => ?_) hs (ruleUp_sorted l _) (hp.trans (ruleN_perm l).symm)
  have h3 := List.mem_range.1 (hp.mem_iff.1 ha)
  have h4 := List.mem_range.1 ((ruleN_perm l).mem_iff.1 hb)
  unfold NotLow at h1 h2
  rw [lowB_no] at h1 h2
  exact ids_at h h3 h4 (by omega)
theorem okUp_all {l : List Sg} : ∀ k, k ≤ l.length → okUp l k = true → ∀ s ∈ l.take k, sgOk s = true
  | 0, _, _, s, hs => by simp at hs
  | k + 1, hk, h, s, hs => by
    rw [okUp, Bool.and_eq_true] at h
    have hk2 : k < l.length := by omega
    have h2 := h.2
    rw [List.getElem?_eq_getElem hk2] at h2
    simp only [Bool.and_eq_true] at h2
    rw [List.take_succ_eq_append_getElem hk2] at hs
    rcases List.mem_append.1 hs with hs | hs
    · exact okUp_all k (by omega) h.1 s hs
    · have : s = l[k] := by simpa using hs
      subst this; exact h2.1
theorem okUp_of {l : List Sg} (ha : ∀ s ∈ l, sgOk s = true) (hi : IdsN l) : ∀ k, k ≤ l.length → okUp l k = true
  | 0, _ => rfl
  | k + 1, hk => by
    have hk2 : k < l.length := by omega
    refine okUp_next (okUp_of ha hi k (by omega)) (List.getElem?_eq_getElem hk2) (ha _ (List.getElem_mem hk2)) ?_
    unfold hasL
    rw [List.any_eq_false]
    intro s hs
    rw [decide_eq_true_iff]
    intro e
    obtain ⟨j, hj, hj2⟩ := List.mem_take_iff_getElem.1 hs
    have h1 : (atG l j).id = (atG l k).id := by
      unfold atG
      rw [List.getD_eq_getElem?_getD, List.getD_eq_getElem?_getD, List.getElem?_eq_getElem (by omega), List.getElem?_eq_getElem hk2, Option.getD_some, Option.getD_some, hj2]
      exact e
    have := ids_at hi (by omega) hk2 h1
    omega
theorem listOk_iff {l : List Sg} : listOk l = true ↔ l.length ≤ 30 ∧ (∀ s ∈ l, sgOk s = true) ∧ IdsN l := by
  constructor
  · intro h
    have h3 := listOk_ids h
    unfold listOk at h
    rw [Bool.and_eq_true, decide_eq_true_iff] at h
    have h1 := okUp_all l.length (Nat.le_refl _) h.2
    rw [List.take_length] at h1
    exact ⟨h.1, h1, h3⟩
  · intro h
    exact listOk_yes h.1 (okUp_of h.2.1 h.2.2 _ (Nat.le_refl _))
theorem chosen_mem {l : List Sg} {zs : List Int} (hz : ∀ z ∈ zs, 0 ≤ z ∧ z < (l.length : Int)) {s : Sg} (h : s ∈ chosenG l zs) : s ∈ l := by
  unfold chosenG at h
  obtain ⟨z, h1, rfl⟩ := List.mem_map.1 h
  have h2 := hz z h1
  rw [List.getD_eq_getElem?_getD, List.getElem?_eq_getElem (by omega), Option.getD_some]
  exact List.getElem_mem _
theorem chosen_length (l : List Sg) (zs : List Int) : (chosenG l zs).length = zs.length := by unfold chosenG; rw [List.length_map]
theorem listOk_chosen {l : List Sg} {zs : List Int} (h : listOk l = true) (hz : ∀ z ∈ zs, 0 ≤ z ∧ z < (l.length : Int)) (hd : zs.Pairwise (· ≠ ·)) (hn : zs.length ≤ 30) : listOk (chosenG l zs) = true := by
  rw [listOk_iff] at h ⊢
  exact ⟨by rw [chosen_length]; exact hn, fun s hs => h.2.1 s (chosen_mem hz hs), ids_chosen h.2.2 hz hd⟩
theorem ruleL_apart (l : List Sg) : (ruleL l).Pairwise (· ≠ ·) := by
  unfold ruleL
  rw [List.pairwise_map]
  have h := (ruleN_perm l).symm.nodup List.nodup_range
  exact h.imp fun {a b} hab e => hab (by have e2 : (a : Int) = (b : Int) := e; omega)
theorem listOk_ruled {l : List Sg} (h : listOk l = true) : listOk (ruledL l) = true := by
  have h1 := (listOk_iff.1 h).1
  exact listOk_chosen h (ruleL_in l) (ruleL_apart l) (by rw [ruleL_length]; exact h1)
/-! The sort. -/
abbrev Ix (n : Nat) := {i : Nat // i < n + 1}
instance (n : Nat) : Inhabited (Ix n) := ⟨⟨0, by omega⟩⟩
def encX {n : Nat} (i : Ix n) : Value := .int .i64 (i.1 : Int)
def cmpR (l : List Sg) (i j : Nat) : Int := if Lib.compareInt (keyG (atG l j)) (keyG (atG l i)) ≠ 0 then Lib.compareInt (keyG (atG l j)) (keyG (atG l i)) else Lib.compareInt (atG l i).id (atG l j).id
def cmpI (l : List Sg) {n : Nat} (x y : Ix n) : Int := cmpR l x.1 y.1
theorem cmpR_low (l : List Sg) (i j : Nat) : decide (cmpR l i j < 0) = lowB (atG l i) (atG l j) := by
  rw [Bool.eq_iff_iff, decide_eq_true_iff, lowB_iff]
  unfold cmpR Lib.compareInt
  split <;> split <;> (try split) <;> (try split) <;> (try split) <;> (try split) <;> omega
theorem cmpI_low (l : List Sg) {n : Nat} (x y : Ix n) : ltOf (cmpI l) x y = lowB (atG l x.1) (atG l y.1) := cmpR_low l x.1 y.1
theorem cmpI_swo (l : List Sg) (n : Nat) : SWO (ltOf (cmpI l (n := n))) where
  irrefl x := by rw [cmpI_low, lowB_no]; omega
  trans x y z h1 h2 := by rw [cmpI_low, lowB_iff] at *; omega
  ntrans x y z h1 h2 := by rw [cmpI_low, lowB_no] at *; omega
def valI (m : Nat) : Array (Ix m) := ((List.range (m + 1)).attachWith (· < m + 1) fun i hi => List.mem_range.1 hi).toArray
theorem valI_size (m : Nat) : (valI m).size = m + 1 := by simp [valI]
theorem valI_map (m : Nat) : (valI m).toList.map (·.1) = List.range (m + 1) := by unfold valI; simp
theorem valI_get {m i : Nat} (h : i < m + 1) : ((valI m)[i]!).1 = i := by
  have h2 : i < (valI m).size := by rw [valI_size]; exact h
  rw [getElem!_pos (valI m) i h2]
  have h1 : ((valI m).toList.map (·.1))[i]? = some i := by rw [valI_map, List.getElem?_range h]
  rw [List.getElem?_map, Array.getElem?_toList, Array.getElem?_eq_getElem h2] at h1
  simpa using h1
/-- What the library's sort leaves is the order of the rule. -/
theorem sorted_rule {l : List Sg} {m : Nat} (hm : l.length = m + 1) (h : IdsN l) {d : Array (Ix m)} (hp : PermIn 0 (valI m).size (valI m) d) (hs : SortedIn (ltOf (cmpI l)) 0 (valI m).size d) : d.size = m + 1 ∧ d.toList.map (·.1) = ruleN l := by
  obtain ⟨h1, _, h3⟩ := hp
  have e0 : (valI m).size = d.size := h1.symm
  rw [valI_size] at h1 hs
  refine ⟨h1, rule_unique h ?_ ?_⟩
  · have e1 : d.extract 0 (valI m).size = d := by rw [e0]; simp
    have e2 : (valI m).extract 0 (valI m).size = valI m := by simp
    rw [e1, e2] at h3
    have h4 := h3.map (fun x : Ix m => x.1)
    rw [valI_map] at h4
    rw [hm]
    exact h4
  · rw [List.pairwise_map, List.pairwise_iff_getElem]
    intro i j hi hj hij
    rw [Array.length_toList] at hi hj
    have h5 := hs i j (Nat.zero_le _) hij (by omega)
    rw [cmpI_low, getElem!_pos d j hj, getElem!_pos d i hi] at h5
    exact h5
/-- A slice that was made, of whose cells the first k hold their indices. -/
def UpN (M n k : Nat) (W : World) : Prop := ∀ i, i < n → W.cell? ⟨M, i, none⟩ = some (.int .i64 (if i < k then (i : Int) else 0)) ∧ W.frozen? ⟨M, i, none⟩ = false
theorem UpN.start {M n : Nat} {W : World} (h : ∀ i, i < n → W.cell? ⟨M, i, none⟩ = some (.int .i64 0) ∧ W.frozen? ⟨M, i, none⟩ = false) : UpN M n 0 W := fun i hi => by
  rw [if_neg (by omega)]; exact h i hi
theorem UpN.put {M n k : Nat} {W : World} (h : UpN M n k W) (hk : k < n) : UpN M n (k + 1) (W.setCell ⟨M, k, none⟩ (.int .i64 (k : Int))) := by
  intro j hj
  obtain ⟨h1, h2⟩ := h j hj
  by_cases e : j = k
  · subst e
    refine ⟨?_, by simpa [go_sem] using h2⟩
    rw [World.cell?_setCell_same _ _ _ h1, if_pos (by omega)]
  · refine ⟨?_, by simpa [go_sem] using h2⟩
    rw [World.cell?_setCell_other _ _ _ _ (by intro e2; injection e2 with _ e3; exact e e3.symm), h1]
    by_cases h3 : j < k
    · rw [if_pos h3, if_pos (by omega)]
    · rw [if_neg h3, if_neg (by omega)]
theorem holds_made {M n m : Nat} {W : World} (hm : n = m + 1) (h : UpN M n n W) : Holds encX W M 0 (valI m) := by
  subst hm
  intro j hj
  rw [valI_size] at hj
  obtain ⟨h1, h2⟩ := h j hj
  rw [if_pos hj] at h1
  rw [Nat.zero_add]
  refine ⟨?_, h2⟩
  unfold encX
  rw [valI_get hj]
  exact h1
theorem nums_holds {W : World} {b n : Nat} {m : Nat} {d : Array (Ix m)} (hn : d.size = n) (hm : n ≤ 1000) (hm2 : m ≤ 1000) (h : Holds encX W b 0 d) : NumsAt W (.slice (some ⟨b, 0, none⟩) n n) ((d.toList.map (fun x : Ix m => x.1)).map fun i : Nat => (i : Int)) := by
  subst hn
  refine .inr ⟨⟨b, 0, none⟩, d.size, by simp, by simp, by omega, fun k z hk => ?_⟩
  rw [List.getElem?_map, List.getElem?_map, Array.getElem?_toList] at hk
  have hlt : k < d.size := by
    rcases Nat.lt_or_ge k d.size with h1 | h1
    · exact h1
    · rw [Array.getElem?_eq_none h1] at hk; simp at hk
  rw [Array.getElem?_eq_getElem hlt] at hk
  have hk2 : ((d[k].1 : Nat) : Int) = z := by simpa using hk
  subst hk2
  have h1 := (h k hlt).1
  rw [getElem!_pos d k hlt, Nat.zero_add] at h1
  refine ⟨by rw [Go.WideShapes.add_plain, Nat.zero_add]; exact h1, ?_⟩
  have := d[k].2
  exact I64.mk (by omega) (by omega)
theorem below_sort {n : Nat} {w : World} {B b m : Nat} {d : Array (Ix n)} {os : Array Obj} (hb : B ≤ b) (hB : B ≤ w.heap.size) : Below B w (sortWorld encX w b 0 m d os) ∧ w.heap.size ≤ (sortWorld encX w b 0 m d os).heap.size := by
  have hz : w.heap.size ≤ (sortWorld encX w b 0 m d os).heap.size := by
    unfold sortWorld
    simp [grow, putRow, mapBlock, Sort.ahead]
  refine ⟨⟨rfl, rfl, rfl, hz, fun k hk => ?_⟩, hz⟩
  unfold sortWorld
  rw [heap_grow_old _ _ (by simp [putRow, mapBlock, Sort.ahead]; omega)]
  unfold putRow mapBlock
  rw [Array.getElem?_modify, if_neg (by omega)]
  rfl
end Go.Pb.Bung

/- A range over an iterator that may itself range over another: the contract tells the iterator that whatever was laid since its call lies as it lay behind each round. -/
namespace Go.Pb
open Go Go.RowKit
set_option linter.unusedVariables false
variable {F : Fence} {n : Nat} {P : Program}
/-- Whatever lies at or beyond B lies as it lay. -/
structure KeepsAll (B : Nat) (W W' : World) : Prop where
  size : W.heap.size ≤ W'.heap.size
  same : ∀ k, B ≤ k → k < W.heap.size → W'.heap[k]? = W.heap[k]?
theorem KeepsAll.refl {B : Nat} {W : World} : KeepsAll B W W := ⟨Nat.le_refl _, fun _ _ _ => rfl⟩
theorem KeepsAll.trans {B : Nat} {X Y Z : World} (h : KeepsAll B X Y) (k : KeepsAll B Y Z) : KeepsAll B X Z := ⟨Nat.le_trans h.size k.size, fun i h1 h2 => (k.same i h1 (Nat.lt_of_lt_of_le h2 h.size)).trans (h.same i h1 h2)⟩
theorem KeepsAll.of_below {B : Nat} {W W' : World} (h : Below W.heap.size W W') : KeepsAll B W W' := ⟨h.size, fun k _ h2 => h.block k h2⟩
theorem KeepsAll.set {B : Nat} {W : World} {a : Addr} {v : Value} (h : a.block < B) : KeepsAll B W (W.setCell a v) := ⟨(KeepsWalks.setCell W _ v).size, fun k h1 _ => Below.heap_setCell _ _ _ k (by omega)⟩
theorem KeepsAll.from {B : Nat} {W W' : World} (h : KeepsAll B W W') : KeepsFrom B W W' := ⟨h.size, fun k o h1 h2 _ => (h.same k h1 (Array.getElem?_eq_some_iff.1 h2).1).trans h2⟩
theorem KeepsAll.mono {B C : Nat} {W W' : World} (h : KeepsAll B W W') (hB : B ≤ C) : KeepsAll C W W' := ⟨h.size, fun k h1 h2 => h.same k (Nat.le_trans hB h1) h2⟩
/-- How the body of a round may be left. -/
def ownPostA {α : Type} (B : Nat) (Kp : World → World → Prop) (I : List α → World → Prop) (Ix : Code → List α → World → Prop) (xs : List α) (W : World) : Exit → Act → World → Prop
  | .normal, _, W' => KeepsAll B W W' ∧ Kp W W' ∧ I xs W'
  | .ret, _, W' => KeepsAll B W W' ∧ Ix .ret xs W'
  | .exit id, _, W' => KeepsAll B W W' ∧ Ix (.exit id) xs W'
  | .goto t, _, W' => KeepsAll B W W' ∧ Ix (.goto t) xs W'
  | .panic _, _, _ => False
  | .outgrown, _, _ => False
/-- It speaks of what lies below B alone. -/
def Low {β : Type} (B : Nat) (I : β → World → Prop) : Prop := ∀ s A C, I s A → Below B A C → I s C
/-- As SeqMem (Xm), but: J and Jx abide the turn of whatever is no cells and was laid since the iterator's call; and each round keeps what was laid since then. -/
def SeqN {α : Type} (F : Fence) (n : Nat) (P : Program) (g : Nat) (lb : Array Value) (encs : α → Array Value) (Kp : World → World → Prop) (M : α → World → Prop) (Nx : List α → α → Prop) (S Sp : List α → Prop) (w : World) : Prop :=
  ∀ (l : Nat) (J Jx : List α → World → Prop) (W : World), Below w.heap.size w W → OwnFrom W.heap.size J → OwnFrom W.heap.size Jx → Low W.heap.size J → Low W.heap.size Jx →
    (∀ pre x V, J pre V → M x V → Nx pre x → W.heap.size ≤ V.heap.size → YieldAt F (n - 1) P l (encs x) V fun e V' => (e = .returned (.bool true) ∧ J (pre ++ [x]) V' ∧ Kp V V' ∧ KeepsAll W.heap.size V V') ∨ (e = .returned (.bool false) ∧ Jx (pre ++ [x]) V' ∧ KeepsAll W.heap.size V V')) →
    J [] W → CallsIn F n P g (#[.func (.yield l) #[] #[]] ++ lb) W fun e V => (∃ v, e = .returned v) ∧ ((∃ xs, S xs ∧ J xs V) ∨ (∃ pre, Sp pre ∧ Jx pre V))
/-- The two blocks of a loop's books: its record behind the block of what is put off. -/
def BookN (D : Nat) (r : Loop) (W : World) : Prop := W.heap[D + 1]? = some (.loop r) ∧ W.heap[D]? = some (.deferred (some []))
theorem BookN.lt {D : Nat} {r : Loop} {W : World} (h : BookN D r W) : D + 1 < W.heap.size := (Array.getElem?_eq_some_iff.1 h.1).1
theorem BookN.keep {D : Nat} {r : Loop} {W W' : World} (h : BookN D r W) (hk : KeepsFrom D W W') : BookN D r W' := ⟨hk.same _ _ (Nat.le_succ D) h.1 rfl, hk.same _ _ (Nat.le_refl D) h.2 rfl⟩
theorem BookN.turn {D : Nat} {r : Loop} {W : World} (h : BookN D r W) (r' : Loop) : BookN D r' (W.putObj (D + 1) (.loop r')) := ⟨World.putObj_heap_same h.lt, (World.putObj_heap_other (by omega)).trans h.2⟩
theorem BookN.low {D B : Nat} {r : Loop} {W W' : World} (h : BookN D r W) (hb : Below B W W') (hB : D + 1 < B) : BookN D r W' := ⟨(hb.block _ hB).trans h.1, (hb.block _ (by omega)).trans h.2⟩
theorem BookN.far {D : Nat} {r : Loop} {W W' : World} {row : Option Nat} (h : BookN D r W) (hg : W.grownBy W' row) (hr : ∀ k, row = some k → D + 1 < k) : BookN D r W' :=
  ⟨(hg.block _ h.lt (fun e => by have := hr _ e.symm; omega)).trans h.1, (hg.block _ (by have := h.lt; omega) (fun e => by have := hr _ e.symm; omega)).trans h.2⟩
theorem wpIn_rangeFunc_n {α : Type} {g : Operand} {ps : Array Tmp} {assign body : Code} {Q : Exit → Act → World → Prop} {a : Act} {w : World} (hro : F.round = none) (h1 : 1 ≤ n)
    {gf : Nat} {lb : Array Value} (hg : a.eval g = .func (.func gf) #[] lb) (hFg : F.fn gf) (eg : ∀ args w, (callFunc gf args).run P w = .ok (.enter gf args) w)
    {encs : α → Array Value} {Kp : World → World → Prop} {M : α → World → Prop} {Nx : List α → α → Prop} {S Sp : List α → Prop} {w0 : World} (hseq : SeqN F (n - 1) P gf lb encs Kp M Nx S Sp w0)
    (hKt : ∀ {A B C : World}, Kp A B → Kp B C → Kp A C) (hKb : ∀ (W : World) (l : Nat) (o o' : Obj), w.heap.size ≤ l → W.heap[l]? = some o → o.isCells = false → o.isWalk = false → Kp W (W.putObj l o'))
    (hb0 : Below w0.heap.size w0 w) (hps : ∀ x, (encs x).size = ps.size) (I : List α → World → Prop) (Ix : Code → List α → World → Prop) (hI : OwnFrom w.heap.size I) (hIx : ∀ c, OwnFrom w.heap.size (Ix c)) (hIl : Low w.heap.size I) (hIxl : ∀ c, Low w.heap.size (Ix c)) (hM : OwnFrom w.heap.size M) (h0 : I [] w) (Ax : α → Act → World → Prop) (hAx : ∀ x a', OwnFrom w.heap.size (fun (_ : Unit) W => Ax x a' W))
    (hassign : ∀ (l : Nat) (pre : List α) (x : α) (W : World) (K : Act → World → Prop), I pre W → M x W → (∀ a' W', KeepsAll w.heap.size W W' → Kp W W' → I pre W' → M x W' → Ax x a' W' → K a' W') →
      assign.wpIn (F.inRound l) (n - 1 - 1) P (Exit.then K (fun _ _ _ => False)) { tmps := (ps.zip (encs x)).foldl (fun t (p, v) => t.setIfInBounds p v) a.tmps, defers := [] } W)
    (hbody : ∀ (l : Nat) (pre : List α) (x : α) (a' : Act) (W : World), w.heap.size ≤ l → l < W.heap.size → I pre W → M x W → Ax x a' W → Nx pre x → body.wpIn (F.inRound l) (n - 1 - 1) P (ownPostA w.heap.size Kp I Ix (pre ++ [x]) W) a' W)
    (hdone : ∀ (D : Nat) (xs : List α) (W : World), w.heap.size ≤ D → S xs → I xs W → W.heap[D]? = some (.deferred (some [])) → Q .normal { a with defers := { target := .collected D, args := #[] } :: a.defers } W)
    (hstop : ∀ (D : Nat) (c : Code) (pre : List α) (W : World), w.heap.size ≤ D → Sp pre → Ix c pre W → W.heap[D]? = some (.deferred (some [])) → c.wpIn F n P Q { a with defers := { target := .collected D, args := #[] } :: a.defers } W) :
    (Code.rangeFunc g ps assign body).wpIn F n P Q a w := by
  refine wpIn_rangeFunc fun fn hfn => ?_
  rw [hro]
  obtain ⟨D, hD⟩ : ∃ D, w.heap.size = D := ⟨_, rfl⟩
  obtain ⟨rc, hrc⟩ : ∃ f : LoopState → Option Code → Loop, f = fun st pe => { state := st, pending := pe, fn, tmps := a.tmps, params := ps, assign, body, defers := w.heap.size } := ⟨_, rfl⟩
  have start : BookN D (rc .ready none) ((w.alloc (.deferred (some []))).alloc (.loop (rc .ready none))) := by
    subst hD
    refine ⟨?_, (Below.heap_alloc _ _ _ (by simp)).trans (World.alloc_heap_new w _)⟩
    have h := World.alloc_heap_new (w.alloc (.deferred (some []))) (.loop (rc .ready none))
    rwa [World.size_alloc] at h
  obtain ⟨V0, hV0⟩ : ∃ V, (w.alloc (.deferred (some []))).alloc (.loop (rc .ready none)) = V := ⟨_, rfl⟩
  have hB0 : Below w0.heap.size w0 V0 := by rw [← hV0]; exact hb0.trans ((((Below.refl _ w).alloc (Nat.le_refl _) _).alloc (by simp) _).mono hb0.size)
  have hI0 : I [] V0 := by rw [← hV0]; exact hI.alloc _ (hI.alloc _ h0)
  have hsz : D ≤ V0.heap.size := by rw [← hV0]; simp; omega
  refine ⟨D + 1, [{ target := .collected D, args := #[] }], V0, { target := .fn (.func gf) lb, args := #[.func (.yield (D + 1)) #[] #[]] }, V0, gf, #[.func (.yield (D + 1)) #[] #[]] ++ lb, V0, ?_, ?_, ?_, ?_, fun _ => h1, ?_⟩
  · subst hD; rw [← hV0, hrc]; exact run_enterLoop_outer _ _ _ _ _
  · simp only [resolve, hg]; simp [go_sem]
  · intro f' hf'; simp [Target.leads] at hf'; subst hf'; exact hFg
  · simp [invoke, go_sem, eg]
  rw [hV0] at start
  have hsz2 : D + 1 < V0.heap.size := start.lt
  refine (hseq (D + 1) (fun pre W => I pre W ∧ BookN D (rc .ready none) W) (fun pre W => ∃ c, Ix c pre W ∧ BookN D (rc .done (some c)) W) V0 hB0
    (fun s A B row hs hg' hr => ⟨hI s A B row hs.1 hg' (fun r e => ⟨by have := (hr r e).1; omega, (hr r e).2⟩), hs.2.far hg' fun k e => by have := (hr k e).1; omega⟩)
    (fun s A B row hs hg' hr => hs.imp fun c hc => ⟨hIx c s A B row hc.1 hg' (fun r e => ⟨by have := (hr r e).1; omega, (hr r e).2⟩), hc.2.far hg' fun k e => by have := (hr k e).1; omega⟩) 
    (fun s A B hs hb => ⟨hIl s A B hs.1 (hb.mono (by omega)), hs.2.low hb hsz2⟩) (fun s A B hs hb => hs.imp fun c hc => ⟨hIxl c s A B hc.1 (hb.mono (by omega)), hc.2.low hb hsz2⟩) ?_ ⟨hI0, start⟩).mono ?_
  · rintro pre x Va ⟨hi0, hk0⟩ hm0 hx hVs
    have hy := run_yield (P := P) (args := encs x) hk0.1 (by rw [hrc]; exact hps x)
    rw [hrc] at hy
    refine ⟨fn, _, assign, body, hy, roundIn_of_wpIn hfn (hassign _ pre x Va _ hi0 hm0 fun a' V hka hkq hi hm hax => ?_)⟩
    clear hy
    have hk : BookN D (rc .ready none) V := hk0.keep (hD ▸ hka.from)
    refine ⟨_, run_beginRound hk.1 (by rw [hrc]), ?_⟩
    have hkb := hk.turn { rc .ready none with state := .busy }
    have turn : ∀ {W : World} {r r' : Loop} {Z : List α → World → Prop} {ys : List α}, OwnFrom w.heap.size Z → Z ys W → BookN D r W → Z ys (W.putObj (D + 1) (.loop r')) := fun hZ hz hb => hZ.putObj _ hz (by omega) hb.1 rfl
    have hkp : Kp V (V.putObj (D + 1) (.loop { rc .ready none with state := .busy })) := hKb _ _ _ _ (by omega) hk.1 rfl rfl
    refine wpIn_mono (hbody _ pre x a' _ (by omega) (by rw [World.putObj_size]; exact hk.lt) (turn hI hi hk) (hM.putObj _ hm (by omega) hk.1 rfl) ((hAx x a').putObj (s := ()) _ hax (by omega) hk.1 rfl) hx) ?_
    have ends : ∀ (j : Option Code) (W : World), BookN D { rc .ready none with state := .busy } W → (Instr.endRound (D + 1) j).run P W = .ok (.bool j.isNone) (W.putObj (D + 1) (.loop (rc (if j.isNone then .ready else .done) j))) := fun j W hb => by
      have h := run_endRound (P := P) j hb.1
      rw [hrc] at h ⊢
      exact h
    have keepN : ∀ (W : World) (r' : Loop), KeepsAll w.heap.size (V.putObj (D + 1) (.loop { rc .ready none with state := .busy })) W → KeepsAll V0.heap.size Va (W.putObj (D + 1) (.loop r')) := fun W r' hkf => (hka.mono (by omega)).trans
      ⟨by have h1 := hkf.size; simp only [World.putObj_size] at h1 ⊢; exact h1, fun k hk2 hk3 => by
        rw [World.putObj_heap_other (by omega), hkf.same k (by omega) (by rw [World.putObj_size]; exact hk3)]
        exact World.putObj_heap_other (by omega)⟩
    have leave : ∀ (c : Code) (W : World), KeepsAll w.heap.size (V.putObj (D + 1) (.loop { rc .ready none with state := .busy })) W → Ix c (pre ++ [x]) W →
        ∃ v W', (Instr.endRound (D + 1) (some c)).run P W = .ok v W' ∧ ((Ending.returned v = .returned (.bool true) ∧ (I (pre ++ [x]) W' ∧ BookN D (rc .ready none) W') ∧ Kp Va W' ∧ KeepsAll V0.heap.size Va W') ∨ (Ending.returned v = .returned (.bool false) ∧ (∃ c, Ix c (pre ++ [x]) W' ∧ BookN D (rc .done (some c)) W') ∧ KeepsAll V0.heap.size Va W')) := fun c W hkf hc => by
      have hb := hkb.keep (hD ▸ hkf.from)
      exact ⟨_, _, ends (some c) W hb, .inr ⟨rfl, ⟨c, turn (hIx c) hc hb, hb.turn _⟩, keepN W _ hkf⟩⟩
    rintro e a3 W hp
    cases e with
    | normal =>
      obtain ⟨hkf, hkp3, hi3⟩ := hp
      have hb := hkb.keep (hD ▸ hkf.from)
      exact ⟨_, _, ends none W hb, .inl ⟨rfl, ⟨turn hI hi3 hb, hb.turn _⟩, hKt hkq (hKt hkp (hKt hkp3 (hKb _ _ _ _ (by omega) hb.1 rfl rfl))), keepN W _ hkf⟩⟩
    | ret => exact leave _ W hp.1 hp.2
    | exit id => exact leave _ W hp.1 hp.2
    | goto t => exact leave _ W hp.1 hp.2
    | panic ch => exact hp.elim
    | outgrown => exact hp.elim
  · have over : ∀ {W : World} {r : Loop}, BookN D r W → r.state ≠ .busy → (Instr.endLoop (D + 1)).run P W = .ok r.pending (W.putObj (D + 1) (.loop { r with state := .exhausted })) := fun hb hs => run_endLoop hb.1 hs
    rintro e W ⟨⟨v, rfl⟩, ⟨xs, hS, hi, hb⟩ | ⟨pre, hSp, c, hi, hb⟩⟩
    · have h := over hb (by rw [hrc]; simp)
      rw [show (rc .ready none).pending = none by rw [hrc]] at h
      exact ⟨none, _, h, hdone _ xs _ (by omega) hS (hI.putObj _ hi (by omega) hb.1 rfl) (hb.turn _).2⟩
    · have h := over hb (by rw [hrc]; simp)
      rw [show (rc .done (some c)).pending = some c by rw [hrc]] at h
      exact ⟨some c, _, h, hstop _ c pre _ (by omega) hSp ((hIx c).putObj _ hi (by omega) hb.1 rfl) (hb.turn _).2⟩
end Go.Pb

/- The plain mathematics of layer 2 (saggar), part 6: some of the items, by their indices. -/
namespace Go.Pb.Sag
open Go Go.Pb Go.Pb.Ware Go.RowKit
set_option linter.unusedVariables false
/-- The feet with some indices. -/
def chosenL (fs : List Ft) (zs : List Int) : List Ft := zs.map fun z => fs.getD z.toNat zFt
end Go.Pb.Sag

/- The plain mathematics of layer 2 (saggar), part 7: the search for packings, step by step. -/
namespace Go.Pb.Sag
open Go Go.Pb Go.Pb.Ware Go.RowKit
set_option linter.unusedVariables false
/-- A stand with the cells that are covered there. -/
abbrev Sp := St × Nat
def spotsL (s : Bx) (f : Ft) : List Sp := (standsL s f).map fun p => (p, maskOf f p)
/-- All packings, in order, of items with such spots, on cells that are not used. -/
def packsF : List (List Sp) → Nat → List (List St)
  | [], _ => [[]]
  | l :: ls, used => l.flatMap fun a => if (used &&& a.2 != 0) = true then [] else (packsF ls (used ||| a.2)).map (a.1 :: ·)
def allPacks (s : Bx) (fs : List Ft) : List (List St) := packsF (fs.map (spotsL s)) 0
/-- What the search shows. -/
def shownL (s : Bx) (fs : List Ft) : List (List St) := if plainB s fs = true then [] else allPacks s fs
/-- A function that is changed at one place. -/
def upd1 (g : Nat → Nat) (i v : Nat) : Nat → Nat := fun k => if k = i then v else g k
theorem upd1_at (g : Nat → Nat) (i v : Nat) : upd1 g i v i = v := by simp [upd1]
theorem upd1_ne (g : Nat → Nat) {i k : Nat} (v : Nat) (h : k ≠ i) : upd1 g i v k = g k := by simp [upd1, h]
theorem take_set {p : List St} {i : Nat} {a : St} (h : i < p.length) : (p.set i a).take (i + 1) = p.take i ++ [a] := by
  rw [List.take_succ_eq_append_getElem (by rw [List.length_set]; exact h), List.getElem_set_self, List.take_set]
  congr 1
  rw [List.set_eq_of_length_le (by rw [List.length_take]; omega)]
/-- How many steps are left, at most: digits of a base that is beyond all lengths. -/
def left (B n : Nat) (len nx : Nat → Nat) : Nat → Nat
  | 0 => 0
  | j + 1 => left B n len nx j + (len j - nx j) * B ^ (n - j)
end Go.Pb.Sag
namespace Go.Pb.Sag
end Go.Pb.Sag

/- The plain mathematics of layer 2 (saggar), part 8: cells of lists of stands and feet; copies. -/
namespace Go.Pb.Sag
open Go Go.Pb Go.Pb.Ware Go.RowKit
set_option linter.unusedVariables false
theorem owns_empty (w : World) (e : TypeId) (size : Nat) : (w.alloc (.cells #[] e)).ownsRow w.heap.size e size (.slice (some ⟨w.heap.size, 0, none⟩) 0 0) 0 [] :=
  ⟨by simp, .inr ⟨w.heap.size, 0, #[], rfl, Nat.le_refl _, heap_alloc_new w _, Nat.le_refl _, by simp [maxLen], by simp, by simp⟩⟩
end Go.Pb.Sag

/- What the search holds in memory: spots, the stands that are chosen, the next spots, what is taken. -/
namespace Go.Pb.Sag
open Go Go.Pb Go.Pb.Ware Go.RowKit
set_option linter.unusedVariables false
def cellsA (a : Sp) : List Value := [.int .i64 (a.1.y : Int), .int .i64 (a.1.x : Int), .bool a.1.turned, .int .u64 (a.2 : Int)]
/-- The slice v of slices reads as these lists of spots; all of it lies in [lo, hi). -/
def SpotsIn (lo hi : Nat) (v : Value) (sp : List (List Sp)) (W : World) : Prop := ∃ g : Nat, (lo ≤ g ∧ g < hi) ∧ v = .slice (some ⟨g, 0, none⟩) sp.length sp.length ∧
  ∀ i l, sp[i]? = some l → ∃ (a : Option Addr) (cap : Nat), W.cell? ⟨g, i, none⟩ = some (.slice a l.length cap) ∧ (l.length : Int) ≤ 1000 ∧
    ∀ k x, l[k]? = some x → ∃ b : Nat, (lo ≤ b ∧ b < hi) ∧ a = some ⟨b, 0, none⟩ ∧ ∀ j u, (cellsA x)[j]? = some u → W.cell? ⟨b, k * 4 + j, none⟩ = some u
theorem SpotsIn.keep {lo hi : Nat} {v : Value} {sp : List (List Sp)} {W W' : World} (h : SpotsIn lo hi v sp W) (hk : KeepSeg lo hi W W') : SpotsIn lo hi v sp W' := by
  obtain ⟨g, hg, e, h⟩ := h
  refine ⟨g, hg, e, fun i l hl => ?_⟩
  obtain ⟨a, cap, h1, h0, h2⟩ := h i l hl
  refine ⟨a, cap, hk.cell hg.1 hg.2 h1, h0, fun k x hx => ?_⟩
  obtain ⟨b, hb, e2, h3⟩ := h2 k x hx
  exact ⟨b, hb, e2, fun j u hu => hk.cell hb.1 hb.2 (h3 j u hu)⟩
/-- The stands that are chosen so far. -/
def PAt (W : World) (B : Nat) (p : List St) : Prop := ∀ k q, p[k]? = some q → ∀ j u, (cellsP q)[j]? = some u → W.cell? ⟨B, k * 3 + j, none⟩ = some u ∧ W.frozen? ⟨B, k * 3 + j, none⟩ = false
/-- Six numbers of a kind. -/
def NAt (q : IntKind) (W : World) (B : Nat) (nx : Nat → Nat) : Prop := ∀ k, k < 6 → W.cell? ⟨B, k, none⟩ = some (.int q (nx k : Int)) ∧ W.frozen? ⟨B, k, none⟩ = false
theorem block_same {W W' : World} {B o : Nat} (h : W'.heap[B]? = W.heap[B]?) {u : Value} (hc : W.cell? ⟨B, o, none⟩ = some u ∧ W.frozen? ⟨B, o, none⟩ = false) : W'.cell? ⟨B, o, none⟩ = some u ∧ W'.frozen? ⟨B, o, none⟩ = false :=
  ⟨(World.cell?_of_block (w := W) h).trans hc.1, (World.frozen?_of_block (a := ⟨B, o, none⟩) (w := W) h).trans hc.2⟩
theorem PAt.keep {W W' : World} {B : Nat} {p : List St} (h : PAt W B p) (hb : W'.heap[B]? = W.heap[B]?) : PAt W' B p := fun k q hq j u hu => block_same hb (h k q hq j u hu)
theorem NAt.keep {q : IntKind} {W W' : World} {B : Nat} {nx : Nat → Nat} (h : NAt q W B nx) (hb : W'.heap[B]? = W.heap[B]?) : NAt q W' B nx := fun k hk => block_same hb (h k hk)
theorem set_free {W : World} {a b : Addr} {u v : Value} (hc : W.cell? a = some u) (hf : W.frozen? a = false) : (W.setCell b v).frozen? a = false := by simp [go_sem, hf]
theorem setc_same {W : World} {a : Addr} {u v : Value} (h : W.cell? a = some u) : (W.setCell a v).cell? a = some v := by simp [go_sem, h]
theorem setc_other {W : World} {B o o' : Nat} {u v : Value} (h : W.cell? ⟨B, o, none⟩ = some u) (hne : o ≠ o') : (W.setCell ⟨B, o', none⟩ v).cell? ⟨B, o, none⟩ = some u := by
  simp [go_sem, h]
theorem setc_block {W : World} {B B' o o' : Nat} {u v : Value} (h : W.cell? ⟨B, o, none⟩ = some u) (hne : B ≠ B') : (W.setCell ⟨B', o', none⟩ v).cell? ⟨B, o, none⟩ = some u := by
  simp [go_sem, h]
theorem NAt.set {q : IntKind} {W : World} {B i v : Nat} {nx : Nat → Nat} (h : NAt q W B nx) (hi : i < 6) : NAt q (W.setCell ⟨B, i, none⟩ (.int q (v : Int))) B (upd1 nx i v) := by
  intro k hk
  have h1 := h k hk
  refine ⟨?_, set_free h1.1 h1.2⟩
  by_cases e : k = i
  · subst e; rw [upd1_at]; exact setc_same h1.1
  · rw [upd1_ne _ _ e]; exact setc_other h1.1 e
theorem PAt.set {W : World} {B i : Nat} {p : List St} {a : St} (h : PAt W B p) (hi : i < p.length) :
    PAt (((W.setCell ⟨B, i * 3, none⟩ (.int .i64 (a.y : Int))).setCell ⟨B, i * 3 + 1, none⟩ (.int .i64 (a.x : Int))).setCell ⟨B, i * 3 + 2, none⟩ (.bool a.turned)) B (p.set i a) := by
  intro k q hq j u hu
  have hj : j < 3 := by have := (List.getElem?_eq_some_iff.1 hu).1; simpa [cellsP] using this
  have hk : k < p.length := by have := (List.getElem?_eq_some_iff.1 hq).1; simpa using this
  obtain ⟨u0, hu0⟩ : ∃ u0, (cellsP p[k])[j]? = some u0 := ⟨(cellsP p[k])[j]'(show j < 3 from hj), List.getElem?_eq_getElem _⟩
  have h1 := h k p[k] (List.getElem?_eq_getElem hk) j u0 hu0
  refine ⟨?_, by simp [go_sem, h1.2]⟩
  by_cases e : k = i
  · subst e
    rw [List.getElem?_set_self hk] at hq
    injection hq with hq
    subst hq
    rcases (show j = 0 ∨ j = 1 ∨ j = 2 by omega) with rfl | rfl | rfl
    · have hu2 : Value.int .i64 (a.y : Int) = u := by injection hu
      rw [← hu2, Nat.add_zero]
      rw [Nat.add_zero] at h1
      exact setc_other (setc_other (setc_same h1.1) (by omega)) (by omega)
    · have hu2 : Value.int .i64 (a.x : Int) = u := by injection hu
      rw [← hu2]
      exact setc_other (setc_same (setc_other h1.1 (by omega))) (by omega)
    · have hu2 : Value.bool a.turned = u := by injection hu
      rw [← hu2]
      exact setc_same (setc_other (setc_other h1.1 (by omega)) (by omega))
  · rw [List.getElem?_set_ne (Ne.symm e), List.getElem?_eq_getElem hk] at hq
    injection hq with hq
    subst hq
    rw [hu] at hu0
    injection hu0 with hu0
    subst hu0
    exact setc_other (setc_other (setc_other h1.1 (by omega)) (by omega)) (by omega)
end Go.Pb.Sag
namespace Go.Pb.Sag
open Go Go.Pb Go.Pb.Ware Go.RowKit
end Go.Pb.Sag

/- In a region that draws: an operation that yields a fixed value may be bound ahead of another. -/
namespace Go.Pb
set_option linter.unusedVariables false
open Go Go.RowKit
section
variable {P : Program} {ops : Array Oper} {Q : Exit → Act → World → Prop}
/-- Only the normal end. -/
def Only (Q : Exit → Act → World → Prop) : Exit → Act → World → Prop := fun e a w => e = .normal ∧ Q .normal a w
theorem only_lets (h : LetsOut (Only Q)) : False := by obtain ⟨a, w, h, _⟩ := h; cases h
theorem upon_only {o : Oper} {a : Act} {K : Act → World → Prop} {r : Result Next} (h : o.upon P a K (Only Q) r) : o.upon P a K Q r := by
  rcases r with ⟨n, w'⟩ | ⟨hh, w'⟩
  · cases n with
    | value v => exact h
    | skip => exact h
    | defer d => exact h
    | enter f args =>
      refine Calls.mono (show Calls P f args w' _ from h) fun e w'' h2 => ?_
      cases e with
      | returned v => exact h2
      | panicked c => exact absurd h2.1 (by simp)
      | outgrown => exact (only_lets h2).elim
    | row row args => exact h
    | _ => exact h
  · cases hh with
    | panic v => exact absurd h.1 (by simp)
    | _ => exact h
theorem wpOp_only {i : Nat} {K : Act → World → Prop} {a : Act} {w : World} (h : wpOp P ops (Only Q) i K a w) : wpOp P ops Q i K a w := by
  unfold wpOp at *
  cases ho : ops[i]? with
  | none => simpa [ho] using h
  | some o =>
    simp only [ho] at h ⊢
    split at h
    · rename_i hw
      rw [if_pos hw]
      rcases h with h | ⟨_, h⟩
      · exact .inl (upon_only h)
      · exact (only_lets h).elim
    · rename_i hw
      rw [if_neg hw]; exact h
theorem wpAny_only {md : Region.Mode} : ∀ {n : Nat} {L : Array Bool} {a : Act} {w : World}, wpAny P md ops (Only Q) n L a w → wpAny P md ops Q n L a w
  | 0, _, _, _, h => ⟨h.1, h.2.2⟩
  | n + 1, _, _, _, h => ⟨fun hr => (h.1 hr).2, fun i hi => wpOp_only (wpOp_mono (fun _ _ h => wpAny_only h) (h.2 i hi))⟩
/-- The operation waits for one more. -/
def bound (o : Oper) (e : Nat) : Oper := { o with after := o.after.push { on := e, ground := .data } }
def late (ops : Array Oper) (s : Nat) (os : Oper) (e : Nat) : Array Oper := ops.setIfInBounds s (bound os e)
theorem late_ne {s e i : Nat} {os : Oper} (h : i ≠ s) : (late ops s os e)[i]? = ops[i]? := by unfold late; rw [Array.getElem?_setIfInBounds_ne (Ne.symm h)]
theorem late_at {s e : Nat} {os : Oper} (h : ops[s]? = some os) : (late ops s os e)[s]? = some (bound os e) := by
  have : s < ops.size := (Array.getElem?_eq_some_iff.1 h).1
  unfold late; rw [Array.getElem?_setIfInBounds_self_of_lt this]
theorem late_yielded {s e : Nat} {os : Oper} (h : ops[s]? = some os) (t : Array Value) : yielded (late ops s os e) t = yielded ops t := by
  funext j
  unfold yielded
  by_cases hj : j = s
  · subst hj; rw [late_at h, h]; rfl
  · rw [late_ne hj]
theorem late_op {s e i : Nat} {os : Oper} (h : ops[s]? = some os) {K : Act → World → Prop} {a : Act} {w : World} (hh : wpOp P (late ops s os e) Q i K a w) : wpOp P ops Q i K a w := by
  unfold wpOp at *
  rw [late_yielded h] at hh
  by_cases hi : i = s
  · subst hi
    rw [late_at h] at hh
    rw [h]
    exact hh
  · rw [late_ne hi] at hh; exact hh
theorem late_ready {md : Region.Mode} {s e i : Nat} {os : Oper} (h : ops[s]? = some os) {L : Array Bool} (hi : i ∈ Region.ready md (late ops s os e) L) : i ∈ Region.ready md ops L := by
  obtain ⟨h1, o, ho, h2⟩ := mem_ready.1 hi
  by_cases hs : i = s
  · subst hs
    rw [late_at h] at ho
    obtain rfl : bound os e = o := by simpa using ho
    exact mem_ready.2 ⟨h1, os, h, fun x hx => h2 x (by unfold bound; exact Array.mem_push.2 (.inl hx))⟩
  · rw [late_ne hs] at ho
    exact mem_ready.2 ⟨h1, o, ho, h2⟩
theorem ready_late {md : Region.Mode} {s e i : Nat} {os : Oper} (h : ops[s]? = some os) {L : Array Bool} (hi : i ∈ Region.ready md ops L) (hse : i ≠ s ∨ L.getD e false = true) : i ∈ Region.ready md (late ops s os e) L := by
  obtain ⟨h1, o, ho, h2⟩ := mem_ready.1 hi
  by_cases hs : i = s
  · subst hs
    rw [h] at ho
    obtain rfl : os = o := by simpa using ho
    refine mem_ready.2 ⟨h1, bound os e, late_at h, fun x hx hb => ?_⟩
    unfold bound at hx
    rcases Array.mem_push.1 hx with hx | rfl
    · exact h2 x hx hb
    · exact hse.resolve_left (fun h => h rfl)
  · exact mem_ready.2 ⟨h1, o, by rw [late_ne hs]; exact ho, h2⟩
/-- Whatever is still open when e may come up waits for it or is apart from it. -/
def freeB (md : Region.Mode) (ops : Array Oper) (e : Nat) (oe : Oper) : Bool := (List.range ops.size).all fun j => j == e || oe.after.any (fun x => Region.binds md x && x.on == j) || match ops[j]? with
  | some oj => oj.after.any (fun x => Region.binds md x && x.on == e) || oe.apart ops oj
  | none => true
theorem freeB_spec {md : Region.Mode} {e : Nat} {oe : Oper} {L : Array Bool} (he : ops[e]? = some oe) (h : freeB md ops e oe = true) (hr : e ∈ Region.ready md ops L) (j : Nat) (oj : Oper) (hj : ops[j]? = some oj) (hne : j ≠ e) (hun : L.getD j true = false)
    (hno : ∀ x ∈ oj.after, Region.binds md x = true → x.on ≠ e) : oe.apart ops oj = true := by
  obtain ⟨_, o, ho, h2⟩ := mem_ready.1 hr
  rw [he] at ho
  obtain rfl : oe = o := by simpa using ho
  have h1 := List.all_eq_true.1 h j (List.mem_range.2 (Array.getElem?_eq_some_iff.1 hj).1)
  simp only [hj, Bool.or_eq_true, beq_iff_eq, hne, false_or] at h1
  rcases h1 with h1 | h1 | h1
  · obtain ⟨x, hx, hb⟩ := Array.any_eq_true'.1 h1
    simp only [Bool.and_eq_true, beq_iff_eq] at hb
    have h3 := h2 x hx hb.1
    rw [hb.2] at h3
    rcases Nat.lt_or_ge j L.size with h' | h'
    · simp [h'] at hun h3; rw [hun] at h3; cases h3
    · simp [Array.getElem?_eq_none h'] at h3
  · obtain ⟨x, hx, hb⟩ := Array.any_eq_true'.1 h1
    simp only [Bool.and_eq_true, beq_iff_eq] at hb
    exact absurd hb.2 (hno x hx hb.1)
  · exact h1
theorem wpAny_late {md : Region.Mode} {s e : Nat} {os oe : Oper} (hs : ops[s]? = some os) (he : ops[e]? = some oe) (hse : e ≠ s) (hsel : Region.noSelect ops = true)
    (hdeps : ∀ x ∈ oe.after, Region.binds md x = true → ∃ y ∈ os.after, Region.binds md y = true ∧ y.on = x.on)
    (hfree : freeB md ops e oe = true)
    (hy : ∀ (a : Act) (w : World) (K : Act → World → Prop), wpOp P ops (Only Q) e K a w → ∃ v, Yields P ops oe v a ∧ K (a.put oe.dst v) w) :
    ∀ {n : Nat} {L : Array Bool} {a : Act} {w : World}, L.size = ops.size → wpAny P md (late ops s os e) (Only Q) n L a w → wpAny P md ops (Only Q) n L a w := by
  have hes : e < ops.size := (Array.getElem?_eq_some_iff.1 he).1
  have key : ∀ {L : Array Bool}, L.size = ops.size → s ∈ Region.ready md ops L → L.getD e false = true ∨ e ∈ Region.ready md ops L := by
    intro L hL h
    obtain ⟨h1, o, ho, h2⟩ := mem_ready.1 h
    rw [hs] at ho
    obtain rfl : os = o := by simpa using ho
    cases hle : L.getD e false
    · refine .inr (mem_ready.2 ⟨?_, oe, he, fun x hx hb => ?_⟩)
      · have hlt : e < L.size := by omega
        simp [hlt] at hle ⊢; exact hle
      · obtain ⟨y, hy1, hy2, hy3⟩ := hdeps x hx hb
        rw [← hy3]; exact h2 y hy1 hy2
    · exact .inl rfl
  intro n
  induction n with
  | zero =>
    intro L a w hL h
    refine ⟨?_, h.2⟩
    refine List.eq_nil_iff_forall_not_mem.2 fun i hi => ?_
    have hno : ∀ i, i ∉ Region.ready md (late ops s os e) L := fun i => by rw [h.1]; simp
    by_cases his : i = s
    · subst his
      rcases key hL hi with h3 | h3
      · exact hno i (ready_late hs hi (.inr h3))
      · exact hno e (ready_late hs h3 (.inl hse))
    · exact hno i (ready_late hs hi (.inl his))
  | succ n ih =>
    intro L a w hL h
    by_cases hr : e ∈ Region.ready md ops L
    · have h1 := late_op hs (h.2 e (ready_late hs hr (.inl hse)))
      obtain ⟨v, hv, hk⟩ := hy a w _ h1
      refine wpAny_first he (Region.noSelect_spec hsel) (fun c a w h => by cases h.1) n L a w (fun j oj hj hne hun hno => ?_) hr hv (ih (by simpa using hL) hk)
      exact freeB_spec he hfree hr j oj hj hne hun hno
    · refine ⟨fun h0 => h.1 (List.eq_nil_iff_forall_not_mem.2 fun i hi => by have := late_ready hs hi; rw [h0] at this; cases this), fun i hi => ?_⟩
      have hi2 : i ∈ Region.ready md (late ops s os e) L := by
        by_cases his : i = s
        · subst his
          rcases key hL hi with h3 | h3
          · exact ready_late hs hi (.inr h3)
          · exact absurd h3 hr
        · exact ready_late hs hi (.inl his)
      exact wpOp_mono (fun a' w' h => ih (by simpa using hL) h) (late_op hs (h.2 i hi2))
theorem extract_yields {oe : Oper} {t : Operand} {ix : Nat} (hop : oe.op = .extract t ix) (hg : oe.guard = none) {e : Nat} (he : ops[e]? = some oe) (a : Act) (w : World) (K : Act → World → Prop)
    (h : wpOp P ops (Only Q) e K a w) : ∃ v, Yields P ops oe v a ∧ K (a.put oe.dst v) w := by
  have hw : Region.wanted oe (yielded ops a.tmps) = true := by unfold Region.wanted; rw [hg]
  unfold wpOp at h
  simp only [he, hw, if_true] at h
  have h1 : oe.wp P a w K (Only Q) := h.resolve_right fun h => only_lets h.2
  have hr : (∃ v, ∀ w, (execOp a.eval oe).run P w = .ok (.value v) w) ∨ ∀ w, ∃ m, (execOp a.eval oe).run P w = .halt m w ∧ ∀ v, m ≠ .panic v := by
    have h0 : ∀ w, (execOp a.eval oe).run P w = (do let v ← Instr.extract (a.eval t) ix; pure (Next.value v) : Sem Next).run P w := fun w => by unfold execOp; rw [hop]
    simp only [h0]
    generalize a.eval t = x
    unfold Instr.extract
    cases x with
    | tuple vs =>
      cases hx : vs[ix]? with
      | some v => exact .inl ⟨v, fun w => by simp [hx, go_sem]⟩
      | none => exact .inr fun w => ⟨.stuck "Extract: no such component", by simp [hx, go_sem], fun v h => by cases h⟩
    | _ => exact .inr fun w => ⟨.stuck "Extract: tuple expected", by simp [go_sem], fun v h => by cases h⟩
  rcases hr with ⟨v, hv⟩ | hr
  · refine ⟨v, .inl ⟨hw, hv⟩, ?_⟩
    unfold Oper.wp at h1
    rw [hv w] at h1; exact h1
  · obtain ⟨m, hm, hne⟩ := hr w
    unfold Oper.wp at h1
    rw [hm] at h1
    cases m with
    | panic v => exact absurd rfl (hne v)
    | _ => exact h1.elim
end
/-- A region that draws and stores what a call returned, with a second result that is taken out at any time. -/
theorem wp_region_Rl {P : Program} {id : Nat} {Q : Exit → Act → World → Prop} {a : Act} {w : World} {l l' : List Oper} (s e : Nat) {os oe : Oper} {t : Operand} {ix : Nat} (hos : l[s]? = some os) (hoe : l[e]? = some oe) (hl : l' = l.set s (bound os e)) (hop : oe.op = .extract t ix) (hg : oe.guard = none)
    (hC : ((e != s) && Region.noSelect l.toArray && freeB .any l.toArray e oe && (oe.after.all fun x => !Region.binds .any x || os.after.any fun y => Region.binds .any y && y.on == x.on)) = true)
    (ps : List (Nat × (Value → World → Prop))) (hs : List Nat) (g : Nat) (hm : P.follows .mixedOrders = true)
    (hn : hs.length + g = l'.length) (hkeep : ∀ x ∈ ps, Keeps x.2)
    (hB : (groupB .any l'.toArray (Array.replicate l'.length false) hs && pairsB .any l'.toArray ((ps.map (·.1)).contains ·) hs && plainsB l'.toArray ((ps.map (·.1)).contains ·) hs) = true)
    (h : wpS P .any l'.toArray w ((ps.map (·.1)).contains ·) (pOf ps) (fun Γ' a' => ∀ w', All w (pOf ps) Γ' w' → wpAny P .any l'.toArray (Only Q) g (mark hs (Array.replicate l'.length false)) a' w') (numbered l'.toArray hs) (fun _ => none) a) :
    (Code.region id l.toArray true).wp P Q a w := by
  have hl2 : late l.toArray s os e = l'.toArray := by rw [hl]; unfold late; simp
  have hlen : l'.length = l.length := by rw [hl]; simp
  simp only [Bool.and_eq_true, bne_iff_ne] at hC
  obtain ⟨⟨⟨hse, hsel⟩, hfree⟩, hdeps⟩ := hC
  refine wp_region_any hm (wpAny_only ?_)
  refine wpAny_late (ops := l.toArray) (s := s) (e := e) (os := os) (oe := oe) (by simpa using hos) (by simpa using hoe) hse hsel (fun x hx hb => ?_) (by simpa using hfree) (fun a w K h => extract_yields hop hg (by simpa using hoe) a w K h) (by simp) ?_
  · have h1 := Array.all_eq_true'.1 hdeps x hx
    simp only [hb, Bool.not_true, Bool.false_or] at h1
    obtain ⟨y, hy, hb2⟩ := Array.any_eq_true'.1 h1
    simp only [Bool.and_eq_true, beq_iff_eq] at hb2
    exact ⟨y, hy, hb2.1, hb2.2⟩
  · rw [hl2]
    have h2 := wpR_of_wpS (fun k hk => by
      simp only [groupB, Bool.and_eq_true] at hB
      obtain ⟨_, hmem, _⟩ := orderB_spec hB.1.1.2
      exact (hmem k hk).2.2) h
    have := wpAny_R (P := P) (Q := Only Q) (w0 := w) (w := w.drew) (a := a) (ps.map (·.1)) hs g (pOf_keeps hkeep) hB (Below.refl _ w).drew h2
    rw [hn, hlen] at this
    simpa using this
end Go.Pb

/- In a region that draws: an operation that yields a fixed value may be waited for; reslicing is such a one. -/
namespace Go.Pb
set_option linter.unusedVariables false
open Go Go.RowKit
section
variable {P : Program} {α β : Type}
/-- It never ends well. -/
def Fails (P : Program) (s : Sem α) : Prop := ∀ w v w', s.run P w ≠ .ok v w'
/-- It returns the same in every world, which it leaves as it is; or it never ends well. -/
def Steady (P : Program) (s : Sem α) : Prop := (∃ v, ∀ w, s.run P w = .ok v w) ∨ Fails P s
theorem Steady.halt (m : Halt) : Steady P (.halt m : Sem α) := .inr fun w v w' e => by cases e
end
end Go.Pb

/- A region that draws: operations that are free of all others are run first, then a group. -/
namespace Go.Pb
set_option linter.unusedVariables false
open Go Go.RowKit
/-- These operations, one behind the other, each of which yields a value in every world. -/
def wpFirst (P : Program) (ops : Array Oper) : List Nat → (Act → Prop) → Act → Prop
  | [], H, a => H a
  | i :: is, H, a => ∃ o v, ops[i]? = some o ∧ Yields P ops o v a ∧ wpFirst P ops is H (a.put o.dst v)
/-- Each is ready when it comes up, and free of all others. -/
def firstB (md : Region.Mode) (ops : Array Oper) : List Nat → Array Bool → Bool
  | [], _ => true
  | i :: is, L => (Region.ready md ops L).contains i && (match ops[i]? with | some o => freeB md ops i o | none => false) && firstB md ops is (L.setIfInBounds i true)
/-- Of what is ready, only what it waits for is left out. -/
theorem wpFirst_any {P : Program} {ops : Array Oper} {md : Region.Mode} {Q : Exit → Act → World → Prop} (hsel : Region.noSelect ops = true) {w : World} {n : Nat} {H : Act → Prop} : ∀ (fs : List Nat) (L : Array Bool) (a : Act), firstB md ops fs L = true →
    (∀ a, H a → wpAny P md ops (Only Q) n (mark fs L) a w) → wpFirst P ops fs H a → wpAny P md ops (Only Q) (fs.length + n) L a w
  | [], L, a, _, hH, h => by simpa using hH a h
  | i :: is, L, a, hb, hH, h => by
    obtain ⟨o, v, ho, hy, h⟩ := h
    simp only [firstB, Bool.and_eq_true, ho] at hb
    obtain ⟨⟨hr, hf⟩, hb⟩ := hb
    have hr2 : i ∈ Region.ready md ops L := by simpa using hr
    have ih := wpFirst_any hsel is (L.setIfInBounds i true) _ hb hH h
    rw [List.length_cons, show is.length + 1 + n = is.length + n + 1 by omega]
    exact wpAny_first ho (Region.noSelect_spec hsel) (fun c a w h => by cases h.1) _ L a w (fun j oj hj hne hun hno => freeB_spec ho hf hr2 j oj hj hne hun hno) hr2 hy ih
theorem wp_region_F {P : Program} {id : Nat} {Q : Exit → Act → World → Prop} {a : Act} {w : World} {l : List Oper} (fs : List Nat)
    (hF : (Region.noSelect l.toArray && firstB .any l.toArray fs (Array.replicate l.length false)) = true)
    (ps : List (Nat × (Value → World → Prop))) (hs : List Nat) (g : Nat) (hm : P.follows .mixedOrders = true)
    (hn : fs.length + (hs.length + g) = l.length) (hkeep : ∀ x ∈ ps, Keeps x.2)
    (hB : (groupB .any l.toArray (mark fs (Array.replicate l.length false)) hs && pairsB .any l.toArray ((ps.map (·.1)).contains ·) hs && plainsB l.toArray ((ps.map (·.1)).contains ·) hs) = true)
    (h : wpFirst P l.toArray fs (fun a => wpS P .any l.toArray w ((ps.map (·.1)).contains ·) (pOf ps) (fun Γ' a' => ∀ w', All w (pOf ps) Γ' w' → wpAny P .any l.toArray (Only Q) g (mark hs (mark fs (Array.replicate l.length false))) a' w') (numbered l.toArray hs) (fun _ => none) a) a) :
    (Code.region id l.toArray true).wp P Q a w := by
  simp only [Bool.and_eq_true] at hF
  refine wp_region_any hm (wpAny_only ?_)
  have h1 := wpFirst_any (P := P) (Q := Q) (md := .any) hF.1 (w := w.drew) (n := hs.length + g) fs (Array.replicate l.length false) a hF.2 (fun a h => ?_) h
  · rw [hn] at h1
    simpa using h1
  · have h2 := wpR_of_wpS (fun k hk => by
      simp only [groupB, Bool.and_eq_true] at hB
      obtain ⟨_, hmem, _⟩ := orderB_spec hB.1.1.2
      exact (hmem k hk).2.2) h
    exact wpAny_R (P := P) (Q := Only Q) (w0 := w) (w := w.drew) (a := a) (ps.map (·.1)) hs g (pOf_keeps hkeep) hB (Below.refl _ w).drew h2
end Go.Pb
