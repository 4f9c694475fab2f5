/- The plain mathematics of layer 2 (saggar), part 3: cells of a floor as bits; stands. -/
import Derived.Test.YtnchhleokdkejaaKLibf
import Derived.Laws.BitsAllLaws
import Derived.Test.YtnchhleokdkejaaRows
import Derived.Deep.LoopGhost
import Derived.Laws.AppendOwn
import Derived.OwnWalk
import Derived.Sort.LotA
import Derived.Shelf.SlSortCmp.Kit1
namespace Go.Pb.Sag
open Go Go.Pb Go.Pb.Ware Go.RowKit
set_option linter.unusedVariables false
structure St where
  y : Nat
  x : Nat
  turned : Bool
deriving DecidableEq
def bitAt (y x : Nat) : Nat := 2 ^ (y * 6 + x)
def rowM (y x : Nat) : Nat → Nat
  | 0 => 0
  | k + 1 => rowM y x k ||| bitAt y (x + k)
def boxM (y x wide : Nat) : Nat → Nat
  | 0 => 0
  | k + 1 => boxM y x wide k ||| rowM (y + k) x wide
def sideV (f : Ft) (t : Bool) : Int × Int := if t = true then (f.deep, f.wide) else (f.wide, f.deep)
/-- A stand of a floor of six by six, and how much it covers. -/
def maskOf (f : Ft) (p : St) : Nat := boxM p.y p.x (sideV f p.turned).1.toNat (sideV f p.turned).2.toNat
def cellsP (p : St) : List Value := [.int .i64 (p.y : Int), .int .i64 (p.x : Int), .bool p.turned]
def areaL (fs : List Ft) : Int := (fs.map fun f => f.wide * f.deep).sum
def weightL (fs : List Ft) : Int := (fs.map fun f => f.weight).sum
end Go.Pb.Sag

/- The plain mathematics of layer 2 (saggar), part 4: the stands of a box, in order. -/
namespace Go.Pb.Sag
open Go Go.Pb Go.Pb.Ware Go.RowKit
set_option linter.unusedVariables false
def ways (f : Ft) : List Bool := if f.wide = f.deep then [false] else [false, true]
def okAt (s : Bx) (f : Ft) (p : St) : Bool := decide ((p.x : Int) + (sideV f p.turned).1 ≤ s.wide) && decide ((p.y : Int) + (sideV f p.turned).2 ≤ s.deep)
def cellL (s : Bx) (f : Ft) (y x k : Nat) : List St := (((ways f).take k).map fun t => (⟨y, x, t⟩ : St)).filter (okAt s f)
def rowL (s : Bx) (f : Ft) (y : Nat) : Nat → List St
  | 0 => []
  | m + 1 => rowL s f y m ++ cellL s f y m (ways f).length
def standsN (s : Bx) (f : Ft) : Nat → List St
  | 0 => []
  | n + 1 => standsN s f n ++ rowL s f n s.wide.toNat
def standsL (s : Bx) (f : Ft) : List St := standsN s f s.deep.toNat
/-- One segment of memory is as it was. -/
def KeepSeg (lo hi : Nat) (W W' : World) : Prop := W.heap.size ≤ W'.heap.size ∧ ∀ k, lo ≤ k → k < hi → W'.heap[k]? = W.heap[k]?
theorem KeepSeg.refl {lo hi : Nat} {W : World} : KeepSeg lo hi W W := ⟨Nat.le_refl _, fun _ _ _ => rfl⟩
theorem KeepSeg.trans {lo hi : Nat} {A B C : World} (h : KeepSeg lo hi A B) (k : KeepSeg lo hi B C) : KeepSeg lo hi A C := ⟨Nat.le_trans h.1 k.1, fun i h1 h2 => (k.2 i h1 h2).trans (h.2 i h1 h2)⟩
theorem KeepSeg.of_below {lo hi : Nat} {W W' : World} (h : Below hi W W') : KeepSeg lo hi W W' := ⟨h.size, fun i _ h2 => h.block i h2⟩
theorem KeepSeg.cell {lo hi : Nat} {W W' : World} (h : KeepSeg lo hi W W') {k o : Nat} {v : Value} (h1 : lo ≤ k) (h2 : k < hi) (hc : W.cell? ⟨k, o, none⟩ = some v) : W'.cell? ⟨k, o, none⟩ = some v := by
  rw [World.cell?_of_block (w := W) (h.2 k h1 h2)]; exact hc
/-- What the closure of stands holds on to. -/
def StandsIn (lo hi : Nat) (s : Bx) (f : Ft) (lb : Array Value) (W : World) : Prop := ∃ p q r b : Nat, (lo ≤ p ∧ p < hi) ∧ (lo ≤ q ∧ q < hi) ∧ (lo ≤ r ∧ r < hi) ∧ (lo ≤ b ∧ b < hi) ∧
  lb = #[.pointer (some ⟨p, 0, none⟩), .pointer (some ⟨q, 0, none⟩), .pointer (some ⟨r, 0, none⟩)] ∧
  W.cell? ⟨p, 1, none⟩ = some (.int .i64 s.wide) ∧ W.cell? ⟨p, 2, none⟩ = some (.int .i64 s.deep) ∧ W.cell? ⟨q, 0, none⟩ = some (.slice (some ⟨b, 0, none⟩) (ways f).length 2) ∧
  (W.cell? ⟨b, 0, none⟩ = some (.bool false) ∧ W.cell? ⟨b, 1, none⟩ = some (.bool true)) ∧
  W.cell? ⟨r, 0, none⟩ = some (.int .i64 f.wide) ∧ W.cell? ⟨r, 1, none⟩ = some (.int .i64 f.deep) ∧ W.cell? ⟨r, 2, none⟩ = some (.int .i64 f.high) ∧ W.cell? ⟨r, 3, none⟩ = some (.int .i64 f.weight)
theorem StandsIn.keep {lo hi : Nat} {s : Bx} {f : Ft} {lb : Array Value} {W W' : World} (h : StandsIn lo hi s f lb W) (hk : KeepSeg lo hi W W') : StandsIn lo hi s f lb W' := by
  obtain ⟨p, q, r, b, hp, hq, hr, hb, e, c1, c2, c3, ⟨c4, c5⟩, c6, c7, c8, c9⟩ := h
  exact ⟨p, q, r, b, hp, hq, hr, hb, e, hk.cell hp.1 hp.2 c1, hk.cell hp.1 hp.2 c2, hk.cell hq.1 hq.2 c3, ⟨hk.cell hb.1 hb.2 c4, hk.cell hb.1 hb.2 c5⟩, hk.cell hr.1 hr.2 c6, hk.cell hr.1 hr.2 c7, hk.cell hr.1 hr.2 c8, hk.cell hr.1 hr.2 c9⟩
end Go.Pb.Sag
namespace Go.Pb
open Go Go.RowKit
end Go.Pb
namespace Go.Pb.Sag
open Go Go.Pb Go.Pb.Ware Go.RowKit
def highB (s : Bx) (f : Ft) : Bool := decide (s.high < f.high)
def noStand (s : Bx) (f : Ft) : Bool := (standsL s f).isEmpty
/-- Trouble that is seen without a search. -/
def troubleB (s : Bx) (fs : List Ft) (kind : Int) : Bool :=
  if kind = 1 then fs.any (highB s) else if kind = 2 then fs.any (noStand s) else if kind = 3 then decide (s.bears < weightL fs) else if kind = 4 then decide (s.wide * s.deep < areaL fs) else false
def plainB (s : Bx) (fs : List Ft) : Bool := troubleB s fs 1 || (troubleB s fs 2 || (troubleB s fs 3 || troubleB s fs 4))
end Go.Pb.Sag

/- The plain mathematics of layer 2 (saggar), part 5: packings that are given. -/
namespace Go.Pb.Sag
open Go Go.Pb Go.Pb.Ware Go.RowKit
set_option linter.unusedVariables false
/-- A stand as it is given. -/
structure Sq where
  y : Int
  x : Int
  turned : Bool
def cellsQ (q : Sq) : List Value := [.int .i64 q.y, .int .i64 q.x, .bool q.turned]
/-- In the world w the slice v reads as these stands. -/
def StAt (w : World) (v : Value) (qs : List Sq) : Prop :=
  (v = .slice none 0 0 ∧ qs = []) ∨ ∃ (a : Addr) (cap : Nat), v = .slice (some a) qs.length cap ∧ qs.length ≤ cap ∧ cap ≤ 9223372036854775807 ∧
    ∀ k q, qs[k]? = some q → ∀ j u, (cellsQ q)[j]? = some u → w.cell? (a.add (k * 3 + j)) = some u
theorem StAt.below {w w' : World} {v : Value} {qs : List Sq} (h : StAt w v qs) (hb : Below w.heap.size w w') : StAt w' v qs := by
  rcases h with h | ⟨a, cap, h1, h2, h3, h4⟩
  · exact .inl h
  · exact .inr ⟨a, cap, h1, h2, h3, fun k q hq j u hu => bkeep hb (h4 k q hq j u hu)⟩
theorem StAt.shape {w : World} {v : Value} {qs : List Sq} (h : StAt w v qs) : ∃ (a : Option Addr) (cap : Nat), v = .slice a qs.length cap ∧ qs.length ≤ cap ∧ cap ≤ 9223372036854775807 := by
  rcases h with ⟨h1, h2⟩ | ⟨a, cap, h1, h2, h3, _⟩
  · subst h2; exact ⟨none, 0, h1, by simp, by omega⟩
  · exact ⟨_, cap, h1, h2, h3⟩
theorem StAt.row {w : World} {a : Option Addr} {cap : Nat} {qs : List Sq} (h : StAt w (.slice a qs.length cap) qs) {k : Nat} (hk : k < qs.length) :
    ∃ a', a = some a' ∧ w.cell? (a'.add (k * 3)) = some (.int .i64 qs[k].y) ∧ w.cell? ⟨(a'.add (k * 3)).block, (a'.add (k * 3)).off + 1, none⟩ = some (.int .i64 qs[k].x) ∧ w.cell? ⟨(a'.add (k * 3)).block, (a'.add (k * 3)).off + 2, none⟩ = some (.bool qs[k].turned) := by
  rcases h with ⟨h1, h2⟩ | ⟨a', cap', h1, h2, h3, h4⟩
  · subst h2; simp at hk
  · injection h1 with h1 _ _
    have h5 := h4 k _ (List.getElem?_eq_getElem hk)
    have e : ∀ (p : Addr) (j : Nat), j ≠ 0 → p.add j = ⟨p.block, p.off + j, none⟩ := fun p j hj => by unfold Addr.add; rw [if_neg hj]
    refine ⟨a', h1, h5 0 _ rfl, ?_, ?_⟩
    · have := h5 1 _ rfl; rw [← Go.Deep.add_add, e _ 1 (by decide)] at this; exact this
    · have := h5 2 _ rfl; rw [← Go.Deep.add_add, e _ 2 (by decide)] at this; exact this
end Go.Pb.Sag
namespace Go.Pb.Sag
open Go Go.Pb Go.Pb.Ware Go.RowKit
end Go.Pb.Sag

/- Arguments opened: numbers that make a floor (two slices of rows, and an array between them); a slice of stands; a reason. -/
namespace Go.Pb
open Go.RowKit Go.ChangeShapes Go.WideShapes Go.ChangeAt Go.Deep
section
variable {H : Type} {enc : TypeId × Value → H} {P : Program} {w : World} {base : Nat} {spare : Nat → Bool} {held : Bool}
theorem rows1_nums {v : Value} {rows : List (List Int)} (h : RowsAt 1 w v rows) : ∃ zs, NumsAt w v zs := by
  rcases h with ⟨h1, h2⟩ | ⟨a, cap, h1, h2, h3, h4⟩
  · exact ⟨[], .inl ⟨h1, rfl⟩⟩
  · refine ⟨rows.map fun r => r.getD 0 0, .inr ⟨a, cap, by rw [List.length_map]; exact h1, by rw [List.length_map]; exact h2, h3, fun k z hz => ?_⟩⟩
    rw [List.getElem?_map] at hz
    cases hr : rows[k]? with
    | none => rw [hr] at hz; cases hz
    | some r =>
      rw [hr] at hz
      simp only [Option.map_some, Option.some.injEq] at hz
      obtain ⟨h5, h6⟩ := h4 k r hr
      have h7 := h6 0 z (by
        match r, h5, hz with
        | [x], _, hz => simpa using hz)
      rw [Nat.mul_one, Nat.add_zero] at h7
      exact h7
end
end Go.Pb

/- Saggars of bungs, by plain maths: which are valid. -/
namespace Go.Pb.Bung
open Go Go.Pb Go.Pb.Ware Go.RowKit
set_option linter.unusedVariables false
set_option linter.unusedSimpArgs false
structure Sg where
  id : Int
  wl : Int
  wh : Int
  bl : Int
  bh : Int
  hl : Int
  hh : Int
  ti : Int
def rowG (s : Sg) : List Int := [s.id, s.wl, s.wh, s.bl, s.bh, s.hl, s.hh, s.ti]
def sgOk (s : Sg) : Bool := btw s.id 1 999 && rgOk ⟨s.wl, s.wh⟩ 0 10000000 && rgOk ⟨s.bl, s.bh⟩ 0 10000000 && rgOk ⟨s.hl, s.hh⟩ 1 10000 && btw s.ti 0 200
def ckSg (s : Sg) : Int := if sgOk s = true then 0 else 30
def hasL (l : List Sg) (id : Int) : Bool := l.any fun s => decide (s.id = id)
/-- The first k are valid, each of another Id than those ahead of it. -/
def okUp (l : List Sg) : Nat → Bool
  | 0 => true
  | k + 1 => okUp l k && (match l[k]? with | some s => sgOk s && !hasL (l.take k) s.id | none => true)
def listOk (l : List Sg) : Bool := decide (l.length ≤ 30) && okUp l l.length
def ckLs (l : List Sg) : Int := if listOk l = true then 0 else 30
def wadOk (lo hi : Int) : Bool := rgOk ⟨lo, hi⟩ 0 200
def ckWd (lo hi : Int) : Int := if wadOk lo hi = true then 0 else 32
def bungOk (lo hi : Int) (l : List Sg) : Bool := wadOk lo hi && decide (l ≠ []) && listOk l
def ckBg (lo hi : Int) (l : List Sg) : Int := if bungOk lo hi l = true then 0 else 31
def ckSp (cr le : Int) : Int := if (btw cr 0 400000 && btw le 0 100000) = true then 0 else 33
theorem okUp_mono {l : List Sg} {k : Nat} (h : okUp l k = false) : ∀ n, k ≤ n → okUp l n = false := by
  intro n hn
  induction n with
  | zero =>
    obtain rfl : k = 0 := by omega
    exact h
  | succ n ih =>
    rcases Nat.lt_or_ge n k with hk | hk
    · obtain rfl : k = n + 1 := by omega
      exact h
    · rw [okUp, ih hk, Bool.false_and]
theorem okUp_next {l : List Sg} {k : Nat} {s : Sg} (h : okUp l k = true) (hk : l[k]? = some s) (h1 : sgOk s = true) (h2 : hasL (l.take k) s.id = false) : okUp l (k + 1) = true := by
  rw [okUp, h, hk]; simp [h1, h2]
theorem listOk_no {l : List Sg} {k : Nat} {s : Sg} (hk : l[k]? = some s) (h : (sgOk s && !hasL (l.take k) s.id) = false) : listOk l = false := by
  have hlt : k < l.length := (List.getElem?_eq_some_iff.1 hk).1
  have h1 : okUp l (k + 1) = false := by rw [okUp, hk]; simp only [h, Bool.and_false]
  unfold listOk
  rw [okUp_mono h1 l.length hlt, Bool.and_false]
theorem listOk_yes {l : List Sg} (h : l.length ≤ 30) (h2 : okUp l l.length = true) : listOk l = true := by
  unfold listOk; rw [decide_eq_true h, h2]; rfl
theorem listOk_long {l : List Sg} (h : ¬ l.length ≤ 30) : listOk l = false := by
  unfold listOk; rw [decide_eq_false h]; rfl
theorem hasL_yes {l : List Sg} {k : Nat} {s : Sg} {id : Int} (hk : l[k]? = some s) (h : s.id = id) : hasL l id = true := by
  unfold hasL
  rw [List.any_eq_true]
  exact ⟨s, List.mem_of_getElem? hk, decide_eq_true h⟩
theorem hasL_snoc {l : List Sg} {k : Nat} {s : Sg} {id : Int} (hk : l[k]? = some s) (h0 : hasL (l.take k) id = false) (h : ¬ s.id = id) : hasL (l.take (k + 1)) id = false := by
  unfold hasL at h0 ⊢
  rw [List.take_add_one, hk, List.any_append, h0]
  simp [h]
/-- A slice of the first k rows. -/
theorem RowsAt.take {n : Nat} {w : World} {a : Option Addr} {m cap k : Nat} {rows : List (List Int)} (h : RowsAt n w (.slice a m cap) rows) (hk : k ≤ rows.length) (h0 : a = none → k = 0 ∧ cap = 0) : RowsAt n w (.slice a k cap) (rows.take k) := by
  rcases h with ⟨h1, h2⟩ | ⟨b, c, h1, h2, h3, h4⟩
  · injection h1 with e1 e2 e3
    subst e1
    obtain ⟨rfl, rfl⟩ := h0 rfl
    exact .inl ⟨rfl, by simp⟩
  · injection h1 with e1 e2 e3
    subst e1
    refine .inr ⟨b, c, by rw [List.length_take, Nat.min_eq_left hk, e3], by rw [List.length_take]; omega, h3, fun j r hr => h4 j r ?_⟩
    rw [List.getElem?_take] at hr
    split at hr
    · exact hr
    · cases hr
theorem RowsAt.take' {n : Nat} {w : World} {b : Addr} {cap k : Nat} {rows : List (List Int)} (h : RowsAt n w (.slice (some b) rows.length cap) rows) (hk : k ≤ rows.length) : RowsAt n w (.slice (some b) k cap) (rows.take k) := RowsAt.take h hk (fun e => by cases e)
/-- A saggar in a list. -/
theorem sg_row {w : World} {a : Option Addr} {cap k : Nat} {l : List Sg} {s : Sg} (h : RowsAt 8 w (.slice a l.length cap) (l.map rowG)) (hk : l[k]? = some s) : ∃ a', a = some a' ∧ w.cell? (a'.add (k * 8)) = some (.int .i64 s.id) ∧ (∀ j z, j ≠ 0 → (rowG s)[j]? = some z → w.cell? ⟨(a'.add (k * 8)).block, (a'.add (k * 8)).off + j, none⟩ = some (.int .i64 z)) ∧ ∀ z ∈ rowG s, I64 z := by
  have hlt : k < l.length := (List.getElem?_eq_some_iff.1 hk).1
  have hm : k < (l.map rowG).length := by rw [List.length_map]; exact hlt
  obtain ⟨a', ha, hr, h0, hc⟩ := RowsAt.row (show RowsAt 8 w (.slice a (l.map rowG).length cap) (l.map rowG) by rw [List.length_map]; exact h) hm
  have e : (l.map rowG)[k] = rowG s := by
    have h1 := List.getElem?_eq_getElem hm
    rw [List.getElem?_map, hk] at h1
    exact (Option.some.inj h1).symm
  rw [e] at h0 hc hr
  refine ⟨a', ha, h0 _ rfl, fun j z hj hz => hc j z hj hz, ?_⟩
  have h2 := (RowsAt.i64 h) (rowG s) (by
    have h3 : (l.map rowG)[k]? = some (rowG s) := by rw [List.getElem?_map, hk]; rfl
    exact List.mem_of_getElem? h3)
  exact h2.2
end Go.Pb.Bung

/- Contracts of layer 1's checks and firings: what each Go function returns, in plain words; below the blocks that were there nothing turns. -/
namespace Go.Proofs.Ytnchhleokdkejaa
open Go.RowKit Go.Pb Go.Pb.Ware
set_option linter.unusedVariables false
set_option linter.unusedSimpArgs false

theorem isBetween {n lo hi : Int}  {w : World} :
    Calls Try.prog 76 #[.int .i64 n, .int .i64 lo, .int .i64 hi] w (Ret w (.bool (btw n lo hi))) := by
  unfold Ret
  unfold btw
  go_enter Try.func76, Try.ntmps76
  go_wp2
  all_goals (go_ret; exact ⟨ret_bool (by rw [Bool.eq_iff_iff]; simp; omega), by go_grown⟩)

theorem isWithin {a b lo hi : Int}  {w : World} :
    Calls Try.prog 77 #[.agg #[.int .i64 a, .int .i64 b], .int .i64 lo, .int .i64 hi] w (Ret w (.bool (rgOk ⟨a, b⟩ lo hi))) := by
  unfold Ret
  unfold rgOk
  go_enter Try.func77, Try.ntmps77
  go_wp2
  all_goals (go_ret; exact ⟨ret_bool (by rw [Bool.eq_iff_iff]; simp; omega), by go_grown⟩)

end Go.Proofs.Ytnchhleokdkejaa

/- In a region that draws: an operation that yields a fixed value may be bound ahead of another. -/
namespace Go.Pb
set_option linter.unusedVariables false
open Go Go.RowKit
section
variable {P : Program} {ops : Array Oper} {Q : Exit → Act → World → Prop}
/-- Only the normal end. -/
def Only (Q : Exit → Act → World → Prop) : Exit → Act → World → Prop := fun e a w => e = .normal ∧ Q .normal a w
theorem only_lets (h : LetsOut (Only Q)) : False := by obtain ⟨a, w, h, _⟩ := h; cases h
theorem upon_only {o : Oper} {a : Act} {K : Act → World → Prop} {r : Result Next} (h : o.upon P a K (Only Q) r) : o.upon P a K Q r := by
  rcases r with ⟨n, w'⟩ | ⟨hh, w'⟩
  · cases n with
    | value v => exact h
    | skip => exact h
    | defer d => exact h
    | enter f args =>
      refine Calls.mono (show Calls P f args w' _ from h) fun e w'' h2 => ?_
      cases e with
      | returned v => exact h2
      | panicked c => exact absurd h2.1 (by simp)
      | outgrown => exact (only_lets h2).elim
    | row row args => exact h
    | _ => exact h
  · cases hh with
    | panic v => exact absurd h.1 (by simp)
    | _ => exact h
theorem wpOp_only {i : Nat} {K : Act → World → Prop} {a : Act} {w : World} (h : wpOp P ops (Only Q) i K a w) : wpOp P ops Q i K a w := by
  unfold wpOp at *
  cases ho : ops[i]? with
  | none => simpa [ho] using h
  | some o =>
    simp only [ho] at h ⊢
    split at h
    · rename_i hw
      rw [if_pos hw]
      rcases h with h | ⟨_, h⟩
      · exact .inl (upon_only h)
      · exact (only_lets h).elim
    · rename_i hw
      rw [if_neg hw]; exact h
theorem wpAny_only {md : Region.Mode} : ∀ {n : Nat} {L : Array Bool} {a : Act} {w : World}, wpAny P md ops (Only Q) n L a w → wpAny P md ops Q n L a w
  | 0, _, _, _, h => ⟨h.1, h.2.2⟩
  | n + 1, _, _, _, h => ⟨fun hr => (h.1 hr).2, fun i hi => wpOp_only (wpOp_mono (fun _ _ h => wpAny_only h) (h.2 i hi))⟩
/-- The operation waits for one more. -/
def bound (o : Oper) (e : Nat) : Oper := { o with after := o.after.push { on := e, ground := .data } }
def late (ops : Array Oper) (s : Nat) (os : Oper) (e : Nat) : Array Oper := ops.setIfInBounds s (bound os e)
theorem late_ne {s e i : Nat} {os : Oper} (h : i ≠ s) : (late ops s os e)[i]? = ops[i]? := by unfold late; rw [Array.getElem?_setIfInBounds_ne (Ne.symm h)]
theorem late_at {s e : Nat} {os : Oper} (h : ops[s]? = some os) : (late ops s os e)[s]? = some (bound os e) := by
  have : s < ops.size := (Array.getElem?_eq_some_iff.1 h).1
  unfold late; rw [Array.getElem?_setIfInBounds_self_of_lt this]
theorem late_yielded {s e : Nat} {os : Oper} (h : ops[s]? = some os) (t : Array Value) : yielded (late ops s os e) t = yielded ops t := by
  funext j
  unfold yielded
  by_cases hj : j = s
  · subst hj; rw [late_at h, h]; rfl
  · rw [late_ne hj]
theorem late_op {s e i : Nat} {os : Oper} (h : ops[s]? = some os) {K : Act → World → Prop} {a : Act} {w : World} (hh : wpOp P (late ops s os e) Q i K a w) : wpOp P ops Q i K a w := by
  unfold wpOp at *
  rw [late_yielded h] at hh
  by_cases hi : i = s
  · subst hi
    rw [late_at h] at hh
    rw [h]
    exact hh
  · rw [late_ne hi] at hh; exact hh
theorem late_ready {md : Region.Mode} {s e i : Nat} {os : Oper} (h : ops[s]? = some os) {L : Array Bool} (hi : i ∈ Region.ready md (late ops s os e) L) : i ∈ Region.ready md ops L := by
  obtain ⟨h1, o, ho, h2⟩ := mem_ready.1 hi
  by_cases hs : i = s
  · subst hs
    rw [late_at h] at ho
    obtain rfl : bound os e = o := by simpa using ho
    exact mem_ready.2 ⟨h1, os, h, fun x hx => h2 x (by unfold bound; exact Array.mem_push.2 (.inl hx))⟩
  · rw [late_ne hs] at ho
    exact mem_ready.2 ⟨h1, o, ho, h2⟩
theorem ready_late {md : Region.Mode} {s e i : Nat} {os : Oper} (h : ops[s]? = some os) {L : Array Bool} (hi : i ∈ Region.ready md ops L) (hse : i ≠ s ∨ L.getD e false = true) : i ∈ Region.ready md (late ops s os e) L := by
  obtain ⟨h1, o, ho, h2⟩ := mem_ready.1 hi
  by_cases hs : i = s
  · subst hs
    rw [h] at ho
    obtain rfl : os = o := by simpa using ho
    refine mem_ready.2 ⟨h1, bound os e, late_at h, fun x hx hb => ?_⟩
    unfold bound at hx
    rcases Array.mem_push.1 hx with hx | rfl
    · exact h2 x hx hb
    · exact hse.resolve_left (fun h => h rfl)
  · exact mem_ready.2 ⟨h1, o, by rw [late_ne hs]; exact ho, h2⟩
/-- Whatever is still open when e may come up waits for it or is apart from it. -/
def freeB (md : Region.Mode) (ops : Array Oper) (e : Nat) (oe : Oper) : Bool := (List.range ops.size).all fun j => j == e || oe.after.any (fun x => Region.binds md x && x.on == j) || match ops[j]? with
  | some oj => oj.after.any (fun x => Region.binds md x && x.on == e) || oe.apart ops oj
  | none => true
theorem freeB_spec {md : Region.Mode} {e : Nat} {oe : Oper} {L : Array Bool} (he : ops[e]? = some oe) (h : freeB md ops e oe = true) (hr : e ∈ Region.ready md ops L) (j : Nat) (oj : Oper) (hj : ops[j]? = some oj) (hne : j ≠ e) (hun : L.getD j true = false)
    (hno : ∀ x ∈ oj.after, Region.binds md x = true → x.on ≠ e) : oe.apart ops oj = true := by
  obtain ⟨_, o, ho, h2⟩ := mem_ready.1 hr
  rw [he] at ho
  obtain rfl : oe = o := by simpa using ho
  have h1 := List.all_eq_true.1 h j (List.mem_range.2 (Array.getElem?_eq_some_iff.1 hj).1)
  simp only [hj, Bool.or_eq_true, beq_iff_eq, hne, false_or] at h1
  rcases h1 with h1 | h1 | h1
  · obtain ⟨x, hx, hb⟩ := Array.any_eq_true'.1 h1
    simp only [Bool.and_eq_true, beq_iff_eq] at hb
    have h3 := h2 x hx hb.1
    rw [hb.2] at h3
    rcases Nat.lt_or_ge j L.size with h' | h'
    · simp [h'] at hun h3; rw [hun] at h3; cases h3
    · simp [Array.getElem?_eq_none h'] at h3
  · obtain ⟨x, hx, hb⟩ := Array.any_eq_true'.1 h1
    simp only [Bool.and_eq_true, beq_iff_eq] at hb
    exact absurd hb.2 (hno x hx hb.1)
  · exact h1
theorem wpAny_late {md : Region.Mode} {s e : Nat} {os oe : Oper} (hs : ops[s]? = some os) (he : ops[e]? = some oe) (hse : e ≠ s) (hsel : Region.noSelect ops = true)
    (hdeps : ∀ x ∈ oe.after, Region.binds md x = true → ∃ y ∈ os.after, Region.binds md y = true ∧ y.on = x.on)
    (hfree : freeB md ops e oe = true)
    (hy : ∀ (a : Act) (w : World) (K : Act → World → Prop), wpOp P ops (Only Q) e K a w → ∃ v, Yields P ops oe v a ∧ K (a.put oe.dst v) w) :
    ∀ {n : Nat} {L : Array Bool} {a : Act} {w : World}, L.size = ops.size → wpAny P md (late ops s os e) (Only Q) n L a w → wpAny P md ops (Only Q) n L a w := by
  have hes : e < ops.size := (Array.getElem?_eq_some_iff.1 he).1
  have key : ∀ {L : Array Bool}, L.size = ops.size → s ∈ Region.ready md ops L → L.getD e false = true ∨ e ∈ Region.ready md ops L := by
    intro L hL h
    obtain ⟨h1, o, ho, h2⟩ := mem_ready.1 h
    rw [hs] at ho
    obtain rfl : os = o := by simpa using ho
    cases hle : L.getD e false
    · refine .inr (mem_ready.2 ⟨?_, oe, he, fun x hx hb => ?_⟩)
      · have hlt : e < L.size := by omega
        simp [hlt] at hle ⊢; exact hle
      · obtain ⟨y, hy1, hy2, hy3⟩ := hdeps x hx hb
        rw [← hy3]; exact h2 y hy1 hy2
    · exact .inl rfl
  intro n
  induction n with
  | zero =>
    intro L a w hL h
    refine ⟨?_, h.2⟩
    refine List.eq_nil_iff_forall_not_mem.2 fun i hi => ?_
    have hno : ∀ i, i ∉ Region.ready md (late ops s os e) L := fun i => by rw [h.1]; simp
    by_cases his : i = s
    · subst his
      rcases key hL hi with h3 | h3
      · exact hno i (ready_late hs hi (.inr h3))
      · exact hno e (ready_late hs h3 (.inl hse))
    · exact hno i (ready_late hs hi (.inl his))
  | succ n ih =>
    intro L a w hL h
    by_cases hr : e ∈ Region.ready md ops L
    · have h1 := late_op hs (h.2 e (ready_late hs hr (.inl hse)))
      obtain ⟨v, hv, hk⟩ := hy a w _ h1
      refine wpAny_first he (Region.noSelect_spec hsel) (fun c a w h => by cases h.1) n L a w (fun j oj hj hne hun hno => ?_) hr hv (ih (by simpa using hL) hk)
      exact freeB_spec he hfree hr j oj hj hne hun hno
    · refine ⟨fun h0 => h.1 (List.eq_nil_iff_forall_not_mem.2 fun i hi => by have := late_ready hs hi; rw [h0] at this; cases this), fun i hi => ?_⟩
      have hi2 : i ∈ Region.ready md (late ops s os e) L := by
        by_cases his : i = s
        · subst his
          rcases key hL hi with h3 | h3
          · exact ready_late hs hi (.inr h3)
          · exact absurd h3 hr
        · exact ready_late hs hi (.inl his)
      exact wpOp_mono (fun a' w' h => ih (by simpa using hL) h) (late_op hs (h.2 i hi2))
theorem extract_yields {oe : Oper} {t : Operand} {ix : Nat} (hop : oe.op = .extract t ix) (hg : oe.guard = none) {e : Nat} (he : ops[e]? = some oe) (a : Act) (w : World) (K : Act → World → Prop)
    (h : wpOp P ops (Only Q) e K a w) : ∃ v, Yields P ops oe v a ∧ K (a.put oe.dst v) w := by
  have hw : Region.wanted oe (yielded ops a.tmps) = true := by unfold Region.wanted; rw [hg]
  unfold wpOp at h
  simp only [he, hw, if_true] at h
  have h1 : oe.wp P a w K (Only Q) := h.resolve_right fun h => only_lets h.2
  have hr : (∃ v, ∀ w, (execOp a.eval oe).run P w = .ok (.value v) w) ∨ ∀ w, ∃ m, (execOp a.eval oe).run P w = .halt m w ∧ ∀ v, m ≠ .panic v := by
    have h0 : ∀ w, (execOp a.eval oe).run P w = (do let v ← Instr.extract (a.eval t) ix; pure (Next.value v) : Sem Next).run P w := fun w => by unfold execOp; rw [hop]
    simp only [h0]
    generalize a.eval t = x
    unfold Instr.extract
    cases x with
    | tuple vs =>
      cases hx : vs[ix]? with
      | some v => exact .inl ⟨v, fun w => by simp [hx, go_sem]⟩
      | none => exact .inr fun w => ⟨.stuck "Extract: no such component", by simp [hx, go_sem], fun v h => by cases h⟩
    | _ => exact .inr fun w => ⟨.stuck "Extract: tuple expected", by simp [go_sem], fun v h => by cases h⟩
  rcases hr with ⟨v, hv⟩ | hr
  · refine ⟨v, .inl ⟨hw, hv⟩, ?_⟩
    unfold Oper.wp at h1
    rw [hv w] at h1; exact h1
  · obtain ⟨m, hm, hne⟩ := hr w
    unfold Oper.wp at h1
    rw [hm] at h1
    cases m with
    | panic v => exact absurd rfl (hne v)
    | _ => exact h1.elim
end
/-- A region that draws and stores what a call returned, with a second result that is taken out at any time. -/
theorem wp_region_Rl {P : Program} {id : Nat} {Q : Exit → Act → World → Prop} {a : Act} {w : World} {l l' : List Oper} (s e : Nat) {os oe : Oper} {t : Operand} {ix : Nat} (hos : l[s]? = some os) (hoe : l[e]? = some oe) (hl : l' = l.set s (bound os e)) (hop : oe.op = .extract t ix) (hg : oe.guard = none)
    (hC : ((e != s) && Region.noSelect l.toArray && freeB .any l.toArray e oe && (oe.after.all fun x => !Region.binds .any x || os.after.any fun y => Region.binds .any y && y.on == x.on)) = true)
    (ps : List (Nat × (Value → World → Prop))) (hs : List Nat) (g : Nat) (hm : P.follows .mixedOrders = true)
    (hn : hs.length + g = l'.length) (hkeep : ∀ x ∈ ps, Keeps x.2)
    (hB : (groupB .any l'.toArray (Array.replicate l'.length false) hs && pairsB .any l'.toArray ((ps.map (·.1)).contains ·) hs && plainsB l'.toArray ((ps.map (·.1)).contains ·) hs) = true)
    (h : wpS P .any l'.toArray w ((ps.map (·.1)).contains ·) (pOf ps) (fun Γ' a' => ∀ w', All w (pOf ps) Γ' w' → wpAny P .any l'.toArray (Only Q) g (mark hs (Array.replicate l'.length false)) a' w') (numbered l'.toArray hs) (fun _ => none) a) :
    (Code.region id l.toArray true).wp P Q a w := by
  have hl2 : late l.toArray s os e = l'.toArray := by rw [hl]; unfold late; simp
  have hlen : l'.length = l.length := by rw [hl]; simp
  simp only [Bool.and_eq_true, bne_iff_ne] at hC
  obtain ⟨⟨⟨hse, hsel⟩, hfree⟩, hdeps⟩ := hC
  refine wp_region_any hm (wpAny_only ?_)
  refine wpAny_late (ops := l.toArray) (s := s) (e := e) (os := os) (oe := oe) (by simpa using hos) (by simpa using hoe) hse hsel (fun x hx hb => ?_) (by simpa using hfree) (fun a w K h => extract_yields hop hg (by simpa using hoe) a w K h) (by simp) ?_
  · have h1 := Array.all_eq_true'.1 hdeps x hx
    simp only [hb, Bool.not_true, Bool.false_or] at h1
    obtain ⟨y, hy, hb2⟩ := Array.any_eq_true'.1 h1
    simp only [Bool.and_eq_true, beq_iff_eq] at hb2
    exact ⟨y, hy, hb2.1, hb2.2⟩
  · rw [hl2]
    have h2 := wpR_of_wpS (fun k hk => by
      simp only [groupB, Bool.and_eq_true] at hB
      obtain ⟨_, hmem, _⟩ := orderB_spec hB.1.1.2
      exact (hmem k hk).2.2) h
    have := wpAny_R (P := P) (Q := Only Q) (w0 := w) (w := w.drew) (a := a) (ps.map (·.1)) hs g (pOf_keeps hkeep) hB (Below.refl _ w).drew h2
    rw [hn, hlen] at this
    simpa using this
end Go.Pb

/- In a region that draws: an operation that yields a fixed value may be waited for; reslicing is such a one. -/
namespace Go.Pb
set_option linter.unusedVariables false
open Go Go.RowKit
section
variable {P : Program} {α β : Type}
/-- It never ends well. -/
def Fails (P : Program) (s : Sem α) : Prop := ∀ w v w', s.run P w ≠ .ok v w'
/-- It returns the same in every world, which it leaves as it is; or it never ends well. -/
def Steady (P : Program) (s : Sem α) : Prop := (∃ v, ∀ w, s.run P w = .ok v w) ∨ Fails P s
theorem Steady.halt (m : Halt) : Steady P (.halt m : Sem α) := .inr fun w v w' e => by cases e
end
end Go.Pb

/- A region that draws: operations that are free of all others are run first, then a group. -/
namespace Go.Pb
set_option linter.unusedVariables false
open Go Go.RowKit
/-- These operations, one behind the other, each of which yields a value in every world. -/
def wpFirst (P : Program) (ops : Array Oper) : List Nat → (Act → Prop) → Act → Prop
  | [], H, a => H a
  | i :: is, H, a => ∃ o v, ops[i]? = some o ∧ Yields P ops o v a ∧ wpFirst P ops is H (a.put o.dst v)
/-- Each is ready when it comes up, and free of all others. -/
def firstB (md : Region.Mode) (ops : Array Oper) : List Nat → Array Bool → Bool
  | [], _ => true
  | i :: is, L => (Region.ready md ops L).contains i && (match ops[i]? with | some o => freeB md ops i o | none => false) && firstB md ops is (L.setIfInBounds i true)
/-- Of what is ready, only what it waits for is left out. -/
theorem wpFirst_any {P : Program} {ops : Array Oper} {md : Region.Mode} {Q : Exit → Act → World → Prop} (hsel : Region.noSelect ops = true) {w : World} {n : Nat} {H : Act → Prop} : ∀ (fs : List Nat) (L : Array Bool) (a : Act), firstB md ops fs L = true →
    (∀ a, H a → wpAny P md ops (Only Q) n (mark fs L) a w) → wpFirst P ops fs H a → wpAny P md ops (Only Q) (fs.length + n) L a w
  | [], L, a, _, hH, h => by simpa using hH a h
  | i :: is, L, a, hb, hH, h => by
    obtain ⟨o, v, ho, hy, h⟩ := h
    simp only [firstB, Bool.and_eq_true, ho] at hb
    obtain ⟨⟨hr, hf⟩, hb⟩ := hb
    have hr2 : i ∈ Region.ready md ops L := by simpa using hr
    have ih := wpFirst_any hsel is (L.setIfInBounds i true) _ hb hH h
    rw [List.length_cons, show is.length + 1 + n = is.length + n + 1 by omega]
    exact wpAny_first ho (Region.noSelect_spec hsel) (fun c a w h => by cases h.1) _ L a w (fun j oj hj hne hun hno => freeB_spec ho hf hr2 j oj hj hne hun hno) hr2 hy ih
theorem wp_region_F {P : Program} {id : Nat} {Q : Exit → Act → World → Prop} {a : Act} {w : World} {l : List Oper} (fs : List Nat)
    (hF : (Region.noSelect l.toArray && firstB .any l.toArray fs (Array.replicate l.length false)) = true)
    (ps : List (Nat × (Value → World → Prop))) (hs : List Nat) (g : Nat) (hm : P.follows .mixedOrders = true)
    (hn : fs.length + (hs.length + g) = l.length) (hkeep : ∀ x ∈ ps, Keeps x.2)
    (hB : (groupB .any l.toArray (mark fs (Array.replicate l.length false)) hs && pairsB .any l.toArray ((ps.map (·.1)).contains ·) hs && plainsB l.toArray ((ps.map (·.1)).contains ·) hs) = true)
    (h : wpFirst P l.toArray fs (fun a => wpS P .any l.toArray w ((ps.map (·.1)).contains ·) (pOf ps) (fun Γ' a' => ∀ w', All w (pOf ps) Γ' w' → wpAny P .any l.toArray (Only Q) g (mark hs (mark fs (Array.replicate l.length false))) a' w') (numbered l.toArray hs) (fun _ => none) a) a) :
    (Code.region id l.toArray true).wp P Q a w := by
  simp only [Bool.and_eq_true] at hF
  refine wp_region_any hm (wpAny_only ?_)
  have h1 := wpFirst_any (P := P) (Q := Q) (md := .any) hF.1 (w := w.drew) (n := hs.length + g) fs (Array.replicate l.length false) a hF.2 (fun a h => ?_) h
  · rw [hn] at h1
    simpa using h1
  · have h2 := wpR_of_wpS (fun k hk => by
      simp only [groupB, Bool.and_eq_true] at hB
      obtain ⟨_, hmem, _⟩ := orderB_spec hB.1.1.2
      exact (hmem k hk).2.2) h
    exact wpAny_R (P := P) (Q := Only Q) (w0 := w) (w := w.drew) (a := a) (ps.map (·.1)) hs g (pOf_keeps hkeep) hB (Below.refl _ w).drew h2
end Go.Pb

/- Which saggars, lists, bungs and spots are valid. -/
namespace Go.Proofs.Ytnchhleokdkejaa
open Go.RowKit Go.Pb Go.Pb.Ware Go.Pb.Sag
set_option linter.unusedVariables false
set_option linter.unusedSimpArgs false

open Go.Pb.Bung
theorem bB {w : World} {n lo hi : Int} {b : Bool} (h : btw n lo hi = b) :
    Calls Try.prog 76 #[.int .i64 n, .int .i64 lo, .int .i64 hi] w (Ret w (.bool b)) := by subst h; exact isBetween

theorem bR {w : World} {a c lo hi : Int} {b : Bool} (h : rgOk ⟨a, c⟩ lo hi = b) :
    Calls Try.prog 77 #[.agg #[.int .i64 a, .int .i64 c], .int .i64 lo, .int .i64 hi] w (Ret w (.bool b)) := by subst h; exact isWithin

set_option maxRecDepth 100000 in
set_option maxHeartbeats 1000000 in
theorem ckSg_any {w : World} {sid swl swh sbl sbh shl shh sti r : Int} (hx : ckSg ⟨sid, swl, swh, sbl, sbh, shl, shh, sti⟩ = r) :
    Calls Try.prog 20 #[.agg #[.int .i64 sid, .int .i64 swl, .int .i64 swh, .int .i64 sbl, .int .i64 sbh, .int .i64 shl, .int .i64 shh, .int .i64 sti]] w (Ret w (.int .i64 r)) := by
  unfold Ret
  obtain ⟨b0, hb0⟩ : ∃ b, btw sid 1 999 = b := ⟨_, rfl⟩
  have H0 := hid hb0
  obtain ⟨b1, hb1⟩ : ∃ b, rgOk ⟨swl, swh⟩ 0 10000000 = b := ⟨_, rfl⟩
  have H1 := hid hb1
  obtain ⟨b2, hb2⟩ : ∃ b, rgOk ⟨sbl, sbh⟩ 0 10000000 = b := ⟨_, rfl⟩
  have H2 := hid hb2
  obtain ⟨b3, hb3⟩ : ∃ b, rgOk ⟨shl, shh⟩ 1 10000 = b := ⟨_, rfl⟩
  have H3 := hid hb3
  obtain ⟨b4, hb4⟩ : ∃ b, btw sti 0 200 = b := ⟨_, rfl⟩
  have H4 := hid hb4
  have hr : r = if (b0 && b1 && b2 && b3 && b4) = true then 0 else 30 := by rw [← hx]; unfold ckSg sgOk; dsimp only; simp [hb0, hb1, hb2, hb3, hb4]
  clear hx hb0 hb1 hb2 hb3 hb4
  cases b0
  · simp at hr
    subst hr
    go_enter Try.func20, Try.ntmps20
    go_wp2_with fail
    refine (bB H0.out).mono ?_
    rintro e w1 ⟨rfl, hb⟩
    replace hb0 := bnext (w := w) (by go_grown) hb; have hz := hb.size; (try simp only [World.size_alloc, World.size_setCell] at hz); replace q0 : w1.cell? ⟨w.heap.size, 0, none⟩ = some (.int .i64 sid) := bkeep hb (by first | (with_reducible exact q0) | (with_reducible exact akeep q0) | simp [*, go_sem]); replace q1 : w1.cell? ⟨w.heap.size, 1, none⟩ = some (.int .i64 swl) := bkeep hb (by first | (with_reducible exact q1) | (with_reducible exact akeep q1) | simp [*, go_sem]); replace q2 : w1.cell? ⟨w.heap.size, 2, none⟩ = some (.int .i64 swh) := bkeep hb (by first | (with_reducible exact q2) | (with_reducible exact akeep q2) | simp [*, go_sem]); replace q3 : w1.cell? ⟨w.heap.size, 3, none⟩ = some (.int .i64 sbl) := bkeep hb (by first | (with_reducible exact q3) | (with_reducible exact akeep q3) | simp [*, go_sem]); replace q4 : w1.cell? ⟨w.heap.size, 4, none⟩ = some (.int .i64 sbh) := bkeep hb (by first | (with_reducible exact q4) | (with_reducible exact akeep q4) | simp [*, go_sem]); replace q5 : w1.cell? ⟨w.heap.size, 5, none⟩ = some (.int .i64 shl) := bkeep hb (by first | (with_reducible exact q5) | (with_reducible exact akeep q5) | simp [*, go_sem]); replace q6 : w1.cell? ⟨w.heap.size, 6, none⟩ = some (.int .i64 shh) := bkeep hb (by first | (with_reducible exact q6) | (with_reducible exact akeep q6) | simp [*, go_sem]); replace q7 : w1.cell? ⟨w.heap.size, 7, none⟩ = some (.int .i64 sti) := bkeep hb (by first | (with_reducible exact q7) | (with_reducible exact akeep q7) | simp [*, go_sem]); skip
    clear hb
    go_wp2_with fail
    go_ret
    exact ⟨rfl, by first | exact hb0 | go_grown⟩
  · cases b1
    · simp at hr
      subst hr
      go_enter Try.func20, Try.ntmps20
      go_wp2_with fail
      refine (bB H0.out).mono ?_
      rintro e w1 ⟨rfl, hb⟩
      replace hb0 := bnext (w := w) (by go_grown) hb; have hz := hb.size; (try simp only [World.size_alloc, World.size_setCell] at hz); replace q0 : w1.cell? ⟨w.heap.size, 0, none⟩ = some (.int .i64 sid) := bkeep hb (by first | (with_reducible exact q0) | (with_reducible exact akeep q0) | simp [*, go_sem]); replace q1 : w1.cell? ⟨w.heap.size, 1, none⟩ = some (.int .i64 swl) := bkeep hb (by first | (with_reducible exact q1) | (with_reducible exact akeep q1) | simp [*, go_sem]); replace q2 : w1.cell? ⟨w.heap.size, 2, none⟩ = some (.int .i64 swh) := bkeep hb (by first | (with_reducible exact q2) | (with_reducible exact akeep q2) | simp [*, go_sem]); replace q3 : w1.cell? ⟨w.heap.size, 3, none⟩ = some (.int .i64 sbl) := bkeep hb (by first | (with_reducible exact q3) | (with_reducible exact akeep q3) | simp [*, go_sem]); replace q4 : w1.cell? ⟨w.heap.size, 4, none⟩ = some (.int .i64 sbh) := bkeep hb (by first | (with_reducible exact q4) | (with_reducible exact akeep q4) | simp [*, go_sem]); replace q5 : w1.cell? ⟨w.heap.size, 5, none⟩ = some (.int .i64 shl) := bkeep hb (by first | (with_reducible exact q5) | (with_reducible exact akeep q5) | simp [*, go_sem]); replace q6 : w1.cell? ⟨w.heap.size, 6, none⟩ = some (.int .i64 shh) := bkeep hb (by first | (with_reducible exact q6) | (with_reducible exact akeep q6) | simp [*, go_sem]); replace q7 : w1.cell? ⟨w.heap.size, 7, none⟩ = some (.int .i64 sti) := bkeep hb (by first | (with_reducible exact q7) | (with_reducible exact akeep q7) | simp [*, go_sem]); skip
      clear hb
      go_wp2_with fail
      refine (bR H1.out).mono ?_
      rintro e w1 ⟨rfl, hb⟩
      replace hb0 := bnext (w := w) (by go_grown) hb; have hz := hb.size; (try simp only [World.size_alloc, World.size_setCell] at hz); replace q0 : w1.cell? ⟨w.heap.size, 0, none⟩ = some (.int .i64 sid) := bkeep hb (by first | (with_reducible exact q0) | (with_reducible exact akeep q0) | simp [*, go_sem]); replace q1 : w1.cell? ⟨w.heap.size, 1, none⟩ = some (.int .i64 swl) := bkeep hb (by first | (with_reducible exact q1) | (with_reducible exact akeep q1) | simp [*, go_sem]); replace q2 : w1.cell? ⟨w.heap.size, 2, none⟩ = some (.int .i64 swh) := bkeep hb (by first | (with_reducible exact q2) | (with_reducible exact akeep q2) | simp [*, go_sem]); replace q3 : w1.cell? ⟨w.heap.size, 3, none⟩ = some (.int .i64 sbl) := bkeep hb (by first | (with_reducible exact q3) | (with_reducible exact akeep q3) | simp [*, go_sem]); replace q4 : w1.cell? ⟨w.heap.size, 4, none⟩ = some (.int .i64 sbh) := bkeep hb (by first | (with_reducible exact q4) | (with_reducible exact akeep q4) | simp [*, go_sem]); replace q5 : w1.cell? ⟨w.heap.size, 5, none⟩ = some (.int .i64 shl) := bkeep hb (by first | (with_reducible exact q5) | (with_reducible exact akeep q5) | simp [*, go_sem]); replace q6 : w1.cell? ⟨w.heap.size, 6, none⟩ = some (.int .i64 shh) := bkeep hb (by first | (with_reducible exact q6) | (with_reducible exact akeep q6) | simp [*, go_sem]); replace q7 : w1.cell? ⟨w.heap.size, 7, none⟩ = some (.int .i64 sti) := bkeep hb (by first | (with_reducible exact q7) | (with_reducible exact akeep q7) | simp [*, go_sem]); skip
      clear hb
      go_wp2_with fail
      go_ret
      exact ⟨rfl, by first | exact hb0 | go_grown⟩
    · cases b2
      · simp at hr
        subst hr
        go_enter Try.func20, Try.ntmps20
        go_wp2_with fail
        refine (bB H0.out).mono ?_
        rintro e w1 ⟨rfl, hb⟩
        replace hb0 := bnext (w := w) (by go_grown) hb; have hz := hb.size; (try simp only [World.size_alloc, World.size_setCell] at hz); replace q0 : w1.cell? ⟨w.heap.size, 0, none⟩ = some (.int .i64 sid) := bkeep hb (by first | (with_reducible exact q0) | (with_reducible exact akeep q0) | simp [*, go_sem]); replace q1 : w1.cell? ⟨w.heap.size, 1, none⟩ = some (.int .i64 swl) := bkeep hb (by first | (with_reducible exact q1) | (with_reducible exact akeep q1) | simp [*, go_sem]); replace q2 : w1.cell? ⟨w.heap.size, 2, none⟩ = some (.int .i64 swh) := bkeep hb (by first | (with_reducible exact q2) | (with_reducible exact akeep q2) | simp [*, go_sem]); replace q3 : w1.cell? ⟨w.heap.size, 3, none⟩ = some (.int .i64 sbl) := bkeep hb (by first | (with_reducible exact q3) | (with_reducible exact akeep q3) | simp [*, go_sem]); replace q4 : w1.cell? ⟨w.heap.size, 4, none⟩ = some (.int .i64 sbh) := bkeep hb (by first | (with_reducible exact q4) | (with_reducible exact akeep q4) | simp [*, go_sem]); replace q5 : w1.cell? ⟨w.heap.size, 5, none⟩ = some (.int .i64 shl) := bkeep hb (by first | (with_reducible exact q5) | (with_reducible exact akeep q5) | simp [*, go_sem]); replace q6 : w1.cell? ⟨w.heap.size, 6, none⟩ = some (.int .i64 shh) := bkeep hb (by first | (with_reducible exact q6) | (with_reducible exact akeep q6) | simp [*, go_sem]); replace q7 : w1.cell? ⟨w.heap.size, 7, none⟩ = some (.int .i64 sti) := bkeep hb (by first | (with_reducible exact q7) | (with_reducible exact akeep q7) | simp [*, go_sem]); skip
        clear hb
        go_wp2_with fail
        refine (bR H1.out).mono ?_
        rintro e w1 ⟨rfl, hb⟩
        replace hb0 := bnext (w := w) (by go_grown) hb; have hz := hb.size; (try simp only [World.size_alloc, World.size_setCell] at hz); replace q0 : w1.cell? ⟨w.heap.size, 0, none⟩ = some (.int .i64 sid) := bkeep hb (by first | (with_reducible exact q0) | (with_reducible exact akeep q0) | simp [*, go_sem]); replace q1 : w1.cell? ⟨w.heap.size, 1, none⟩ = some (.int .i64 swl) := bkeep hb (by first | (with_reducible exact q1) | (with_reducible exact akeep q1) | simp [*, go_sem]); replace q2 : w1.cell? ⟨w.heap.size, 2, none⟩ = some (.int .i64 swh) := bkeep hb (by first | (with_reducible exact q2) | (with_reducible exact akeep q2) | simp [*, go_sem]); replace q3 : w1.cell? ⟨w.heap.size, 3, none⟩ = some (.int .i64 sbl) := bkeep hb (by first | (with_reducible exact q3) | (with_reducible exact akeep q3) | simp [*, go_sem]); replace q4 : w1.cell? ⟨w.heap.size, 4, none⟩ = some (.int .i64 sbh) := bkeep hb (by first | (with_reducible exact q4) | (with_reducible exact akeep q4) | simp [*, go_sem]); replace q5 : w1.cell? ⟨w.heap.size, 5, none⟩ = some (.int .i64 shl) := bkeep hb (by first | (with_reducible exact q5) | (with_reducible exact akeep q5) | simp [*, go_sem]); replace q6 : w1.cell? ⟨w.heap.size, 6, none⟩ = some (.int .i64 shh) := bkeep hb (by first | (with_reducible exact q6) | (with_reducible exact akeep q6) | simp [*, go_sem]); replace q7 : w1.cell? ⟨w.heap.size, 7, none⟩ = some (.int .i64 sti) := bkeep hb (by first | (with_reducible exact q7) | (with_reducible exact akeep q7) | simp [*, go_sem]); skip
        clear hb
        go_wp2_with fail
        refine (bR H2.out).mono ?_
        rintro e w1 ⟨rfl, hb⟩
        replace hb0 := bnext (w := w) (by go_grown) hb; have hz := hb.size; (try simp only [World.size_alloc, World.size_setCell] at hz); replace q0 : w1.cell? ⟨w.heap.size, 0, none⟩ = some (.int .i64 sid) := bkeep hb (by first | (with_reducible exact q0) | (with_reducible exact akeep q0) | simp [*, go_sem]); replace q1 : w1.cell? ⟨w.heap.size, 1, none⟩ = some (.int .i64 swl) := bkeep hb (by first | (with_reducible exact q1) | (with_reducible exact akeep q1) | simp [*, go_sem]); replace q2 : w1.cell? ⟨w.heap.size, 2, none⟩ = some (.int .i64 swh) := bkeep hb (by first | (with_reducible exact q2) | (with_reducible exact akeep q2) | simp [*, go_sem]); replace q3 : w1.cell? ⟨w.heap.size, 3, none⟩ = some (.int .i64 sbl) := bkeep hb (by first | (with_reducible exact q3) | (with_reducible exact akeep q3) | simp [*, go_sem]); replace q4 : w1.cell? ⟨w.heap.size, 4, none⟩ = some (.int .i64 sbh) := bkeep hb (by first | (with_reducible exact q4) | (with_reducible exact akeep q4) | simp [*, go_sem]); replace q5 : w1.cell? ⟨w.heap.size, 5, none⟩ = some (.int .i64 shl) := bkeep hb (by first | (with_reducible exact q5) | (with_reducible exact akeep q5) | simp [*, go_sem]); replace q6 : w1.cell? ⟨w.heap.size, 6, none⟩ = some (.int .i64 shh) := bkeep hb (by first | (with_reducible exact q6) | (with_reducible exact akeep q6) | simp [*, go_sem]); replace q7 : w1.cell? ⟨w.heap.size, 7, none⟩ = some (.int .i64 sti) := bkeep hb (by first | (with_reducible exact q7) | (with_reducible exact akeep q7) | simp [*, go_sem]); skip
        clear hb
        go_wp2_with fail
        go_ret
        exact ⟨rfl, by first | exact hb0 | go_grown⟩
      · cases b3
        · simp at hr
          subst hr
          go_enter Try.func20, Try.ntmps20
          go_wp2_with fail
          refine (bB H0.out).mono ?_
          rintro e w1 ⟨rfl, hb⟩
          replace hb0 := bnext (w := w) (by go_grown) hb; have hz := hb.size; (try simp only [World.size_alloc, World.size_setCell] at hz); replace q0 : w1.cell? ⟨w.heap.size, 0, none⟩ = some (.int .i64 sid) := bkeep hb (by first | (with_reducible exact q0) | (with_reducible exact akeep q0) | simp [*, go_sem]); replace q1 : w1.cell? ⟨w.heap.size, 1, none⟩ = some (.int .i64 swl) := bkeep hb (by first | (with_reducible exact q1) | (with_reducible exact akeep q1) | simp [*, go_sem]); replace q2 : w1.cell? ⟨w.heap.size, 2, none⟩ = some (.int .i64 swh) := bkeep hb (by first | (with_reducible exact q2) | (with_reducible exact akeep q2) | simp [*, go_sem]); replace q3 : w1.cell? ⟨w.heap.size, 3, none⟩ = some (.int .i64 sbl) := bkeep hb (by first | (with_reducible exact q3) | (with_reducible exact akeep q3) | simp [*, go_sem]); replace q4 : w1.cell? ⟨w.heap.size, 4, none⟩ = some (.int .i64 sbh) := bkeep hb (by first | (with_reducible exact q4) | (with_reducible exact akeep q4) | simp [*, go_sem]); replace q5 : w1.cell? ⟨w.heap.size, 5, none⟩ = some (.int .i64 shl) := bkeep hb (by first | (with_reducible exact q5) | (with_reducible exact akeep q5) | simp [*, go_sem]); replace q6 : w1.cell? ⟨w.heap.size, 6, none⟩ = some (.int .i64 shh) := bkeep hb (by first | (with_reducible exact q6) | (with_reducible exact akeep q6) | simp [*, go_sem]); replace q7 : w1.cell? ⟨w.heap.size, 7, none⟩ = some (.int .i64 sti) := bkeep hb (by first | (with_reducible exact q7) | (with_reducible exact akeep q7) | simp [*, go_sem]); skip
          clear hb
          go_wp2_with fail
          refine (bR H1.out).mono ?_
          rintro e w1 ⟨rfl, hb⟩
          replace hb0 := bnext (w := w) (by go_grown) hb; have hz := hb.size; (try simp only [World.size_alloc, World.size_setCell] at hz); replace q0 : w1.cell? ⟨w.heap.size, 0, none⟩ = some (.int .i64 sid) := bkeep hb (by first | (with_reducible exact q0) | (with_reducible exact akeep q0) | simp [*, go_sem]); replace q1 : w1.cell? ⟨w.heap.size, 1, none⟩ = some (.int .i64 swl) := bkeep hb (by first | (with_reducible exact q1) | (with_reducible exact akeep q1) | simp [*, go_sem]); replace q2 : w1.cell? ⟨w.heap.size, 2, none⟩ = some (.int .i64 swh) := bkeep hb (by first | (with_reducible exact q2) | (with_reducible exact akeep q2) | simp [*, go_sem]); replace q3 : w1.cell? ⟨w.heap.size, 3, none⟩ = some (.int .i64 sbl) := bkeep hb (by first | (with_reducible exact q3) | (with_reducible exact akeep q3) | simp [*, go_sem]); replace q4 : w1.cell? ⟨w.heap.size, 4, none⟩ = some (.int .i64 sbh) := bkeep hb (by first | (with_reducible exact q4) | (with_reducible exact akeep q4) | simp [*, go_sem]); replace q5 : w1.cell? ⟨w.heap.size, 5, none⟩ = some (.int .i64 shl) := bkeep hb (by first | (with_reducible exact q5) | (with_reducible exact akeep q5) | simp [*, go_sem]); replace q6 : w1.cell? ⟨w.heap.size, 6, none⟩ = some (.int .i64 shh) := bkeep hb (by first | (with_reducible exact q6) | (with_reducible exact akeep q6) | simp [*, go_sem]); replace q7 : w1.cell? ⟨w.heap.size, 7, none⟩ = some (.int .i64 sti) := bkeep hb (by first | (with_reducible exact q7) | (with_reducible exact akeep q7) | simp [*, go_sem]); skip
          clear hb
          go_wp2_with fail
          refine (bR H2.out).mono ?_
          rintro e w1 ⟨rfl, hb⟩
          replace hb0 := bnext (w := w) (by go_grown) hb; have hz := hb.size; (try simp only [World.size_alloc, World.size_setCell] at hz); replace q0 : w1.cell? ⟨w.heap.size, 0, none⟩ = some (.int .i64 sid) := bkeep hb (by first | (with_reducible exact q0) | (with_reducible exact akeep q0) | simp [*, go_sem]); replace q1 : w1.cell? ⟨w.heap.size, 1, none⟩ = some (.int .i64 swl) := bkeep hb (by first | (with_reducible exact q1) | (with_reducible exact akeep q1) | simp [*, go_sem]); replace q2 : w1.cell? ⟨w.heap.size, 2, none⟩ = some (.int .i64 swh) := bkeep hb (by first | (with_reducible exact q2) | (with_reducible exact akeep q2) | simp [*, go_sem]); replace q3 : w1.cell? ⟨w.heap.size, 3, none⟩ = some (.int .i64 sbl) := bkeep hb (by first | (with_reducible exact q3) | (with_reducible exact akeep q3) | simp [*, go_sem]); replace q4 : w1.cell? ⟨w.heap.size, 4, none⟩ = some (.int .i64 sbh) := bkeep hb (by first | (with_reducible exact q4) | (with_reducible exact akeep q4) | simp [*, go_sem]); replace q5 : w1.cell? ⟨w.heap.size, 5, none⟩ = some (.int .i64 shl) := bkeep hb (by first | (with_reducible exact q5) | (with_reducible exact akeep q5) | simp [*, go_sem]); replace q6 : w1.cell? ⟨w.heap.size, 6, none⟩ = some (.int .i64 shh) := bkeep hb (by first | (with_reducible exact q6) | (with_reducible exact akeep q6) | simp [*, go_sem]); replace q7 : w1.cell? ⟨w.heap.size, 7, none⟩ = some (.int .i64 sti) := bkeep hb (by first | (with_reducible exact q7) | (with_reducible exact akeep q7) | simp [*, go_sem]); skip
          clear hb
          go_wp2_with fail
          refine (bR H3.out).mono ?_
          rintro e w1 ⟨rfl, hb⟩
          replace hb0 := bnext (w := w) (by go_grown) hb; have hz := hb.size; (try simp only [World.size_alloc, World.size_setCell] at hz); replace q0 : w1.cell? ⟨w.heap.size, 0, none⟩ = some (.int .i64 sid) := bkeep hb (by first | (with_reducible exact q0) | (with_reducible exact akeep q0) | simp [*, go_sem]); replace q1 : w1.cell? ⟨w.heap.size, 1, none⟩ = some (.int .i64 swl) := bkeep hb (by first | (with_reducible exact q1) | (with_reducible exact akeep q1) | simp [*, go_sem]); replace q2 : w1.cell? ⟨w.heap.size, 2, none⟩ = some (.int .i64 swh) := bkeep hb (by first | (with_reducible exact q2) | (with_reducible exact akeep q2) | simp [*, go_sem]); replace q3 : w1.cell? ⟨w.heap.size, 3, none⟩ = some (.int .i64 sbl) := bkeep hb (by first | (with_reducible exact q3) | (with_reducible exact akeep q3) | simp [*, go_sem]); replace q4 : w1.cell? ⟨w.heap.size, 4, none⟩ = some (.int .i64 sbh) := bkeep hb (by first | (with_reducible exact q4) | (with_reducible exact akeep q4) | simp [*, go_sem]); replace q5 : w1.cell? ⟨w.heap.size, 5, none⟩ = some (.int .i64 shl) := bkeep hb (by first | (with_reducible exact q5) | (with_reducible exact akeep q5) | simp [*, go_sem]); replace q6 : w1.cell? ⟨w.heap.size, 6, none⟩ = some (.int .i64 shh) := bkeep hb (by first | (with_reducible exact q6) | (with_reducible exact akeep q6) | simp [*, go_sem]); replace q7 : w1.cell? ⟨w.heap.size, 7, none⟩ = some (.int .i64 sti) := bkeep hb (by first | (with_reducible exact q7) | (with_reducible exact akeep q7) | simp [*, go_sem]); skip
          clear hb
          go_wp2_with fail
          go_ret
          exact ⟨rfl, by first | exact hb0 | go_grown⟩
        · cases b4
          · simp at hr
            subst hr
            go_enter Try.func20, Try.ntmps20
            go_wp2_with fail
            refine (bB H0.out).mono ?_
            rintro e w1 ⟨rfl, hb⟩
            replace hb0 := bnext (w := w) (by go_grown) hb; have hz := hb.size; (try simp only [World.size_alloc, World.size_setCell] at hz); replace q0 : w1.cell? ⟨w.heap.size, 0, none⟩ = some (.int .i64 sid) := bkeep hb (by first | (with_reducible exact q0) | (with_reducible exact akeep q0) | simp [*, go_sem]); replace q1 : w1.cell? ⟨w.heap.size, 1, none⟩ = some (.int .i64 swl) := bkeep hb (by first | (with_reducible exact q1) | (with_reducible exact akeep q1) | simp [*, go_sem]); replace q2 : w1.cell? ⟨w.heap.size, 2, none⟩ = some (.int .i64 swh) := bkeep hb (by first | (with_reducible exact q2) | (with_reducible exact akeep q2) | simp [*, go_sem]); replace q3 : w1.cell? ⟨w.heap.size, 3, none⟩ = some (.int .i64 sbl) := bkeep hb (by first | (with_reducible exact q3) | (with_reducible exact akeep q3) | simp [*, go_sem]); replace q4 : w1.cell? ⟨w.heap.size, 4, none⟩ = some (.int .i64 sbh) := bkeep hb (by first | (with_reducible exact q4) | (with_reducible exact akeep q4) | simp [*, go_sem]); replace q5 : w1.cell? ⟨w.heap.size, 5, none⟩ = some (.int .i64 shl) := bkeep hb (by first | (with_reducible exact q5) | (with_reducible exact akeep q5) | simp [*, go_sem]); replace q6 : w1.cell? ⟨w.heap.size, 6, none⟩ = some (.int .i64 shh) := bkeep hb (by first | (with_reducible exact q6) | (with_reducible exact akeep q6) | simp [*, go_sem]); replace q7 : w1.cell? ⟨w.heap.size, 7, none⟩ = some (.int .i64 sti) := bkeep hb (by first | (with_reducible exact q7) | (with_reducible exact akeep q7) | simp [*, go_sem]); skip
            clear hb
            go_wp2_with fail
            refine (bR H1.out).mono ?_
            rintro e w1 ⟨rfl, hb⟩
            replace hb0 := bnext (w := w) (by go_grown) hb; have hz := hb.size; (try simp only [World.size_alloc, World.size_setCell] at hz); replace q0 : w1.cell? ⟨w.heap.size, 0, none⟩ = some (.int .i64 sid) := bkeep hb (by first | (with_reducible exact q0) | (with_reducible exact akeep q0) | simp [*, go_sem]); replace q1 : w1.cell? ⟨w.heap.size, 1, none⟩ = some (.int .i64 swl) := bkeep hb (by first | (with_reducible exact q1) | (with_reducible exact akeep q1) | simp [*, go_sem]); replace q2 : w1.cell? ⟨w.heap.size, 2, none⟩ = some (.int .i64 swh) := bkeep hb (by first | (with_reducible exact q2) | (with_reducible exact akeep q2) | simp [*, go_sem]); replace q3 : w1.cell? ⟨w.heap.size, 3, none⟩ = some (.int .i64 sbl) := bkeep hb (by first | (with_reducible exact q3) | (with_reducible exact akeep q3) | simp [*, go_sem]); replace q4 : w1.cell? ⟨w.heap.size, 4, none⟩ = some (.int .i64 sbh) := bkeep hb (by first | (with_reducible exact q4) | (with_reducible exact akeep q4) | simp [*, go_sem]); replace q5 : w1.cell? ⟨w.heap.size, 5, none⟩ = some (.int .i64 shl) := bkeep hb (by first | (with_reducible exact q5) | (with_reducible exact akeep q5) | simp [*, go_sem]); replace q6 : w1.cell? ⟨w.heap.size, 6, none⟩ = some (.int .i64 shh) := bkeep hb (by first | (with_reducible exact q6) | (with_reducible exact akeep q6) | simp [*, go_sem]); replace q7 : w1.cell? ⟨w.heap.size, 7, none⟩ = some (.int .i64 sti) := bkeep hb (by first | (with_reducible exact q7) | (with_reducible exact akeep q7) | simp [*, go_sem]); skip
            clear hb
            go_wp2_with fail
            refine (bR H2.out).mono ?_
            rintro e w1 ⟨rfl, hb⟩
            replace hb0 := bnext (w := w) (by go_grown) hb; have hz := hb.size; (try simp only [World.size_alloc, World.size_setCell] at hz); replace q0 : w1.cell? ⟨w.heap.size, 0, none⟩ = some (.int .i64 sid) := bkeep hb (by first | (with_reducible exact q0) | (with_reducible exact akeep q0) | simp [*, go_sem]); replace q1 : w1.cell? ⟨w.heap.size, 1, none⟩ = some (.int .i64 swl) := bkeep hb (by first | (with_reducible exact q1) | (with_reducible exact akeep q1) | simp [*, go_sem]); replace q2 : w1.cell? ⟨w.heap.size, 2, none⟩ = some (.int .i64 swh) := bkeep hb (by first | (with_reducible exact q2) | (with_reducible exact akeep q2) | simp [*, go_sem]); replace q3 : w1.cell? ⟨w.heap.size, 3, none⟩ = some (.int .i64 sbl) := bkeep hb (by first | (with_reducible exact q3) | (with_reducible exact akeep q3) | simp [*, go_sem]); replace q4 : w1.cell? ⟨w.heap.size, 4, none⟩ = some (.int .i64 sbh) := bkeep hb (by first | (with_reducible exact q4) | (with_reducible exact akeep q4) | simp [*, go_sem]); replace q5 : w1.cell? ⟨w.heap.size, 5, none⟩ = some (.int .i64 shl) := bkeep hb (by first | (with_reducible exact q5) | (with_reducible exact akeep q5) | simp [*, go_sem]); replace q6 : w1.cell? ⟨w.heap.size, 6, none⟩ = some (.int .i64 shh) := bkeep hb (by first | (with_reducible exact q6) | (with_reducible exact akeep q6) | simp [*, go_sem]); replace q7 : w1.cell? ⟨w.heap.size, 7, none⟩ = some (.int .i64 sti) := bkeep hb (by first | (with_reducible exact q7) | (with_reducible exact akeep q7) | simp [*, go_sem]); skip
            clear hb
            go_wp2_with fail
            refine (bR H3.out).mono ?_
            rintro e w1 ⟨rfl, hb⟩
            replace hb0 := bnext (w := w) (by go_grown) hb; have hz := hb.size; (try simp only [World.size_alloc, World.size_setCell] at hz); replace q0 : w1.cell? ⟨w.heap.size, 0, none⟩ = some (.int .i64 sid) := bkeep hb (by first | (with_reducible exact q0) | (with_reducible exact akeep q0) | simp [*, go_sem]); replace q1 : w1.cell? ⟨w.heap.size, 1, none⟩ = some (.int .i64 swl) := bkeep hb (by first | (with_reducible exact q1) | (with_reducible exact akeep q1) | simp [*, go_sem]); replace q2 : w1.cell? ⟨w.heap.size, 2, none⟩ = some (.int .i64 swh) := bkeep hb (by first | (with_reducible exact q2) | (with_reducible exact akeep q2) | simp [*, go_sem]); replace q3 : w1.cell? ⟨w.heap.size, 3, none⟩ = some (.int .i64 sbl) := bkeep hb (by first | (with_reducible exact q3) | (with_reducible exact akeep q3) | simp [*, go_sem]); replace q4 : w1.cell? ⟨w.heap.size, 4, none⟩ = some (.int .i64 sbh) := bkeep hb (by first | (with_reducible exact q4) | (with_reducible exact akeep q4) | simp [*, go_sem]); replace q5 : w1.cell? ⟨w.heap.size, 5, none⟩ = some (.int .i64 shl) := bkeep hb (by first | (with_reducible exact q5) | (with_reducible exact akeep q5) | simp [*, go_sem]); replace q6 : w1.cell? ⟨w.heap.size, 6, none⟩ = some (.int .i64 shh) := bkeep hb (by first | (with_reducible exact q6) | (with_reducible exact akeep q6) | simp [*, go_sem]); replace q7 : w1.cell? ⟨w.heap.size, 7, none⟩ = some (.int .i64 sti) := bkeep hb (by first | (with_reducible exact q7) | (with_reducible exact akeep q7) | simp [*, go_sem]); skip
            clear hb
            go_wp2_with fail
            refine (bB H4.out).mono ?_
            rintro e w1 ⟨rfl, hb⟩
            replace hb0 := bnext (w := w) (by go_grown) hb; have hz := hb.size; (try simp only [World.size_alloc, World.size_setCell] at hz); replace q0 : w1.cell? ⟨w.heap.size, 0, none⟩ = some (.int .i64 sid) := bkeep hb (by first | (with_reducible exact q0) | (with_reducible exact akeep q0) | simp [*, go_sem]); replace q1 : w1.cell? ⟨w.heap.size, 1, none⟩ = some (.int .i64 swl) := bkeep hb (by first | (with_reducible exact q1) | (with_reducible exact akeep q1) | simp [*, go_sem]); replace q2 : w1.cell? ⟨w.heap.size, 2, none⟩ = some (.int .i64 swh) := bkeep hb (by first | (with_reducible exact q2) | (with_reducible exact akeep q2) | simp [*, go_sem]); replace q3 : w1.cell? ⟨w.heap.size, 3, none⟩ = some (.int .i64 sbl) := bkeep hb (by first | (with_reducible exact q3) | (with_reducible exact akeep q3) | simp [*, go_sem]); replace q4 : w1.cell? ⟨w.heap.size, 4, none⟩ = some (.int .i64 sbh) := bkeep hb (by first | (with_reducible exact q4) | (with_reducible exact akeep q4) | simp [*, go_sem]); replace q5 : w1.cell? ⟨w.heap.size, 5, none⟩ = some (.int .i64 shl) := bkeep hb (by first | (with_reducible exact q5) | (with_reducible exact akeep q5) | simp [*, go_sem]); replace q6 : w1.cell? ⟨w.heap.size, 6, none⟩ = some (.int .i64 shh) := bkeep hb (by first | (with_reducible exact q6) | (with_reducible exact akeep q6) | simp [*, go_sem]); replace q7 : w1.cell? ⟨w.heap.size, 7, none⟩ = some (.int .i64 sti) := bkeep hb (by first | (with_reducible exact q7) | (with_reducible exact akeep q7) | simp [*, go_sem]); skip
            clear hb
            go_wp2_with fail
            go_ret
            exact ⟨rfl, by first | exact hb0 | go_grown⟩
          · simp at hr
            subst hr
            go_enter Try.func20, Try.ntmps20
            go_wp2_with fail
            refine (bB H0.out).mono ?_
            rintro e w1 ⟨rfl, hb⟩
            replace hb0 := bnext (w := w) (by go_grown) hb; have hz := hb.size; (try simp only [World.size_alloc, World.size_setCell] at hz); replace q0 : w1.cell? ⟨w.heap.size, 0, none⟩ = some (.int .i64 sid) := bkeep hb (by first | (with_reducible exact q0) | (with_reducible exact akeep q0) | simp [*, go_sem]); replace q1 : w1.cell? ⟨w.heap.size, 1, none⟩ = some (.int .i64 swl) := bkeep hb (by first | (with_reducible exact q1) | (with_reducible exact akeep q1) | simp [*, go_sem]); replace q2 : w1.cell? ⟨w.heap.size, 2, none⟩ = some (.int .i64 swh) := bkeep hb (by first | (with_reducible exact q2) | (with_reducible exact akeep q2) | simp [*, go_sem]); replace q3 : w1.cell? ⟨w.heap.size, 3, none⟩ = some (.int .i64 sbl) := bkeep hb (by first | (with_reducible exact q3) | (with_reducible exact akeep q3) | simp [*, go_sem]); replace q4 : w1.cell? ⟨w.heap.size, 4, none⟩ = some (.int .i64 sbh) := bkeep hb (by first | (with_reducible exact q4) | (with_reducible exact akeep q4) | simp [*, go_sem]); replace q5 : w1.cell? ⟨w.heap.size, 5, none⟩ = some (.int .i64 shl) := bkeep hb (by first | (with_reducible exact q5) | (with_reducible exact akeep q5) | simp [*, go_sem]); replace q6 : w1.cell? ⟨w.heap.size, 6, none⟩ = some (.int .i64 shh) := bkeep hb (by first | (with_reducible exact q6) | (with_reducible exact akeep q6) | simp [*, go_sem]); replace q7 : w1.cell? ⟨w.heap.size, 7, none⟩ = some (.int .i64 sti) := bkeep hb (by first | (with_reducible exact q7) | (with_reducible exact akeep q7) | simp [*, go_sem]); skip
            clear hb
            go_wp2_with fail
            refine (bR H1.out).mono ?_
            rintro e w1 ⟨rfl, hb⟩
            replace hb0 := bnext (w := w) (by go_grown) hb; have hz := hb.size; (try simp only [World.size_alloc, World.size_setCell] at hz); replace q0 : w1.cell? ⟨w.heap.size, 0, none⟩ = some (.int .i64 sid) := bkeep hb (by first | (with_reducible exact q0) | (with_reducible exact akeep q0) | simp [*, go_sem]); replace q1 : w1.cell? ⟨w.heap.size, 1, none⟩ = some (.int .i64 swl) := bkeep hb (by first | (with_reducible exact q1) | (with_reducible exact akeep q1) | simp [*, go_sem]); replace q2 : w1.cell? ⟨w.heap.size, 2, none⟩ = some (.int .i64 swh) := bkeep hb (by first | (with_reducible exact q2) | (with_reducible exact akeep q2) | simp [*, go_sem]); replace q3 : w1.cell? ⟨w.heap.size, 3, none⟩ = some (.int .i64 sbl) := bkeep hb (by first | (with_reducible exact q3) | (with_reducible exact akeep q3) | simp [*, go_sem]); replace q4 : w1.cell? ⟨w.heap.size, 4, none⟩ = some (.int .i64 sbh) := bkeep hb (by first | (with_reducible exact q4) | (with_reducible exact akeep q4) | simp [*, go_sem]); replace q5 : w1.cell? ⟨w.heap.size, 5, none⟩ = some (.int .i64 shl) := bkeep hb (by first | (with_reducible exact q5) | (with_reducible exact akeep q5) | simp [*, go_sem]); replace q6 : w1.cell? ⟨w.heap.size, 6, none⟩ = some (.int .i64 shh) := bkeep hb (by first | (with_reducible exact q6) | (with_reducible exact akeep q6) | simp [*, go_sem]); replace q7 : w1.cell? ⟨w.heap.size, 7, none⟩ = some (.int .i64 sti) := bkeep hb (by first | (with_reducible exact q7) | (with_reducible exact akeep q7) | simp [*, go_sem]); skip
            clear hb
            go_wp2_with fail
            refine (bR H2.out).mono ?_
            rintro e w1 ⟨rfl, hb⟩
            replace hb0 := bnext (w := w) (by go_grown) hb; have hz := hb.size; (try simp only [World.size_alloc, World.size_setCell] at hz); replace q0 : w1.cell? ⟨w.heap.size, 0, none⟩ = some (.int .i64 sid) := bkeep hb (by first | (with_reducible exact q0) | (with_reducible exact akeep q0) | simp [*, go_sem]); replace q1 : w1.cell? ⟨w.heap.size, 1, none⟩ = some (.int .i64 swl) := bkeep hb (by first | (with_reducible exact q1) | (with_reducible exact akeep q1) | simp [*, go_sem]); replace q2 : w1.cell? ⟨w.heap.size, 2, none⟩ = some (.int .i64 swh) := bkeep hb (by first | (with_reducible exact q2) | (with_reducible exact akeep q2) | simp [*, go_sem]); replace q3 : w1.cell? ⟨w.heap.size, 3, none⟩ = some (.int .i64 sbl) := bkeep hb (by first | (with_reducible exact q3) | (with_reducible exact akeep q3) | simp [*, go_sem]); replace q4 : w1.cell? ⟨w.heap.size, 4, none⟩ = some (.int .i64 sbh) := bkeep hb (by first | (with_reducible exact q4) | (with_reducible exact akeep q4) | simp [*, go_sem]); replace q5 : w1.cell? ⟨w.heap.size, 5, none⟩ = some (.int .i64 shl) := bkeep hb (by first | (with_reducible exact q5) | (with_reducible exact akeep q5) | simp [*, go_sem]); replace q6 : w1.cell? ⟨w.heap.size, 6, none⟩ = some (.int .i64 shh) := bkeep hb (by first | (with_reducible exact q6) | (with_reducible exact akeep q6) | simp [*, go_sem]); replace q7 : w1.cell? ⟨w.heap.size, 7, none⟩ = some (.int .i64 sti) := bkeep hb (by first | (with_reducible exact q7) | (with_reducible exact akeep q7) | simp [*, go_sem]); skip
            clear hb
            go_wp2_with fail
            refine (bR H3.out).mono ?_
            rintro e w1 ⟨rfl, hb⟩
            replace hb0 := bnext (w := w) (by go_grown) hb; have hz := hb.size; (try simp only [World.size_alloc, World.size_setCell] at hz); replace q0 : w1.cell? ⟨w.heap.size, 0, none⟩ = some (.int .i64 sid) := bkeep hb (by first | (with_reducible exact q0) | (with_reducible exact akeep q0) | simp [*, go_sem]); replace q1 : w1.cell? ⟨w.heap.size, 1, none⟩ = some (.int .i64 swl) := bkeep hb (by first | (with_reducible exact q1) | (with_reducible exact akeep q1) | simp [*, go_sem]); replace q2 : w1.cell? ⟨w.heap.size, 2, none⟩ = some (.int .i64 swh) := bkeep hb (by first | (with_reducible exact q2) | (with_reducible exact akeep q2) | simp [*, go_sem]); replace q3 : w1.cell? ⟨w.heap.size, 3, none⟩ = some (.int .i64 sbl) := bkeep hb (by first | (with_reducible exact q3) | (with_reducible exact akeep q3) | simp [*, go_sem]); replace q4 : w1.cell? ⟨w.heap.size, 4, none⟩ = some (.int .i64 sbh) := bkeep hb (by first | (with_reducible exact q4) | (with_reducible exact akeep q4) | simp [*, go_sem]); replace q5 : w1.cell? ⟨w.heap.size, 5, none⟩ = some (.int .i64 shl) := bkeep hb (by first | (with_reducible exact q5) | (with_reducible exact akeep q5) | simp [*, go_sem]); replace q6 : w1.cell? ⟨w.heap.size, 6, none⟩ = some (.int .i64 shh) := bkeep hb (by first | (with_reducible exact q6) | (with_reducible exact akeep q6) | simp [*, go_sem]); replace q7 : w1.cell? ⟨w.heap.size, 7, none⟩ = some (.int .i64 sti) := bkeep hb (by first | (with_reducible exact q7) | (with_reducible exact akeep q7) | simp [*, go_sem]); skip
            clear hb
            go_wp2_with fail
            refine (bB H4.out).mono ?_
            rintro e w1 ⟨rfl, hb⟩
            replace hb0 := bnext (w := w) (by go_grown) hb; have hz := hb.size; (try simp only [World.size_alloc, World.size_setCell] at hz); replace q0 : w1.cell? ⟨w.heap.size, 0, none⟩ = some (.int .i64 sid) := bkeep hb (by first | (with_reducible exact q0) | (with_reducible exact akeep q0) | simp [*, go_sem]); replace q1 : w1.cell? ⟨w.heap.size, 1, none⟩ = some (.int .i64 swl) := bkeep hb (by first | (with_reducible exact q1) | (with_reducible exact akeep q1) | simp [*, go_sem]); replace q2 : w1.cell? ⟨w.heap.size, 2, none⟩ = some (.int .i64 swh) := bkeep hb (by first | (with_reducible exact q2) | (with_reducible exact akeep q2) | simp [*, go_sem]); replace q3 : w1.cell? ⟨w.heap.size, 3, none⟩ = some (.int .i64 sbl) := bkeep hb (by first | (with_reducible exact q3) | (with_reducible exact akeep q3) | simp [*, go_sem]); replace q4 : w1.cell? ⟨w.heap.size, 4, none⟩ = some (.int .i64 sbh) := bkeep hb (by first | (with_reducible exact q4) | (with_reducible exact akeep q4) | simp [*, go_sem]); replace q5 : w1.cell? ⟨w.heap.size, 5, none⟩ = some (.int .i64 shl) := bkeep hb (by first | (with_reducible exact q5) | (with_reducible exact akeep q5) | simp [*, go_sem]); replace q6 : w1.cell? ⟨w.heap.size, 6, none⟩ = some (.int .i64 shh) := bkeep hb (by first | (with_reducible exact q6) | (with_reducible exact akeep q6) | simp [*, go_sem]); replace q7 : w1.cell? ⟨w.heap.size, 7, none⟩ = some (.int .i64 sti) := bkeep hb (by first | (with_reducible exact q7) | (with_reducible exact akeep q7) | simp [*, go_sem]); skip
            clear hb
            go_wp2_with fail
            go_ret
            exact ⟨rfl, by first | exact hb0 | go_grown⟩

set_option maxRecDepth 100000 in
set_option maxHeartbeats 400000 in
theorem ckSp_any {w : World} {cr le r : Int} (hx : ckSp cr le = r) :
    Calls Try.prog 26 #[.agg #[.int .i64 cr, .int .i64 le]] w (Ret w (.int .i64 r)) := by
  unfold Ret
  obtain ⟨b0, hb0⟩ : ∃ b, btw cr 0 400000 = b := ⟨_, rfl⟩
  have H0 := hid hb0
  obtain ⟨b1, hb1⟩ : ∃ b, btw le 0 100000 = b := ⟨_, rfl⟩
  have H1 := hid hb1
  have hr : r = if (b0 && b1) = true then 0 else 33 := by rw [← hx]; unfold ckSp; simp [hb0, hb1]
  clear hx hb0 hb1
  cases b0
  · simp at hr
    subst hr
    go_enter Try.func26, Try.ntmps26
    go_wp2_with fail
    refine (bB H0.out).mono ?_
    rintro e w1 ⟨rfl, hb⟩
    replace hb0 := bnext (w := w) (by go_grown) hb; have hz := hb.size; (try simp only [World.size_alloc, World.size_setCell] at hz); replace q0 : w1.cell? ⟨w.heap.size, 0, none⟩ = some (.int .i64 cr) := bkeep hb (by first | (with_reducible exact q0) | (with_reducible exact akeep q0) | simp [*, go_sem]); replace q1 : w1.cell? ⟨w.heap.size, 1, none⟩ = some (.int .i64 le) := bkeep hb (by first | (with_reducible exact q1) | (with_reducible exact akeep q1) | simp [*, go_sem]); skip
    clear hb
    go_wp2_with fail
    go_ret
    exact ⟨rfl, by first | exact hb0 | go_grown⟩
  · cases b1
    · simp at hr
      subst hr
      go_enter Try.func26, Try.ntmps26
      go_wp2_with fail
      refine (bB H0.out).mono ?_
      rintro e w1 ⟨rfl, hb⟩
      replace hb0 := bnext (w := w) (by go_grown) hb; have hz := hb.size; (try simp only [World.size_alloc, World.size_setCell] at hz); replace q0 : w1.cell? ⟨w.heap.size, 0, none⟩ = some (.int .i64 cr) := bkeep hb (by first | (with_reducible exact q0) | (with_reducible exact akeep q0) | simp [*, go_sem]); replace q1 : w1.cell? ⟨w.heap.size, 1, none⟩ = some (.int .i64 le) := bkeep hb (by first | (with_reducible exact q1) | (with_reducible exact akeep q1) | simp [*, go_sem]); skip
      clear hb
      go_wp2_with fail
      refine (bB H1.out).mono ?_
      rintro e w1 ⟨rfl, hb⟩
      replace hb0 := bnext (w := w) (by go_grown) hb; have hz := hb.size; (try simp only [World.size_alloc, World.size_setCell] at hz); replace q0 : w1.cell? ⟨w.heap.size, 0, none⟩ = some (.int .i64 cr) := bkeep hb (by first | (with_reducible exact q0) | (with_reducible exact akeep q0) | simp [*, go_sem]); replace q1 : w1.cell? ⟨w.heap.size, 1, none⟩ = some (.int .i64 le) := bkeep hb (by first | (with_reducible exact q1) | (with_reducible exact akeep q1) | simp [*, go_sem]); skip
      clear hb
      go_wp2_with fail
      go_ret
      exact ⟨rfl, by first | exact hb0 | go_grown⟩
    · simp at hr
      subst hr
      go_enter Try.func26, Try.ntmps26
      go_wp2_with fail
      refine (bB H0.out).mono ?_
      rintro e w1 ⟨rfl, hb⟩
      replace hb0 := bnext (w := w) (by go_grown) hb; have hz := hb.size; (try simp only [World.size_alloc, World.size_setCell] at hz); replace q0 : w1.cell? ⟨w.heap.size, 0, none⟩ = some (.int .i64 cr) := bkeep hb (by first | (with_reducible exact q0) | (with_reducible exact akeep q0) | simp [*, go_sem]); replace q1 : w1.cell? ⟨w.heap.size, 1, none⟩ = some (.int .i64 le) := bkeep hb (by first | (with_reducible exact q1) | (with_reducible exact akeep q1) | simp [*, go_sem]); skip
      clear hb
      go_wp2_with fail
      refine (bB H1.out).mono ?_
      rintro e w1 ⟨rfl, hb⟩
      replace hb0 := bnext (w := w) (by go_grown) hb; have hz := hb.size; (try simp only [World.size_alloc, World.size_setCell] at hz); replace q0 : w1.cell? ⟨w.heap.size, 0, none⟩ = some (.int .i64 cr) := bkeep hb (by first | (with_reducible exact q0) | (with_reducible exact akeep q0) | simp [*, go_sem]); replace q1 : w1.cell? ⟨w.heap.size, 1, none⟩ = some (.int .i64 le) := bkeep hb (by first | (with_reducible exact q1) | (with_reducible exact akeep q1) | simp [*, go_sem]); skip
      clear hb
      go_wp2_with fail
      go_ret
      exact ⟨rfl, by first | exact hb0 | go_grown⟩

set_option maxRecDepth 100000 in
set_option maxHeartbeats 600000 in
theorem hasId_any {w : World} {v : Value} {l : List Sg} {id : Int} {b : Bool} (h : RowsAt 8 w v (l.map rowG)) (hb : hasL l id = b) :
    Calls Try.prog 82 #[v, .int .i64 id] w (Ret w (.bool b)) := by
  unfold Ret
  obtain ⟨a, cap, rfl, hll⟩ := h.shape
  rw [List.length_map] at h hll ⊢
  have HB := hid hb; clear hb
  obtain ⟨n, hn⟩ : ∃ n, l.length = n := ⟨_, rfl⟩
  have HN := hid hn
  rw [hn] at h hll ⊢
  clear hn
  go_enter Try.func82, Try.ntmps82
  go_wp2_with fail
  go_loopg [9] n (fun gk iv wr => ∃ k : Nat, k ≤ n ∧ gk = n - k ∧ iv = .int .i64 k ∧ Hid (hasL (l.take k) id = false) ∧ Below w.heap.size w wr)
  case atStart => exact ⟨0, Nat.zero_le _, rfl, rfl, hid rfl, Below.refl _ _⟩
  case round =>
    obtain ⟨k, hk, hgk, rfl, HA, hB⟩ := hrel
    have HGK := hid hgk; clear hgk
    by_cases hlt : k < n
    · have hki : (k : Int) < (n : Int) := by omega
      have hkl : k < l.length := by rw [HN.out]; exact hlt
      obtain ⟨s, hs⟩ : ∃ s, l[k]? = some s := ⟨_, List.getElem?_eq_getElem hkl⟩
      obtain ⟨a', ha, r0, hc, hi⟩ := sg_row (by rw [HN.out]; exact h.below hB) hs
      subst ha
      have HS := hid hs; clear hs hkl
      obtain ⟨sid, swl, swh, sbl, sbh, shl, shh, sti⟩ := s
      dsimp only at r0
      have r1 := hc 1 _ (by decide) rfl
      have r2 := hc 2 _ (by decide) rfl
      have r3 := hc 3 _ (by decide) rfl
      have r4 := hc 4 _ (by decide) rfl
      have r5 := hc 5 _ (by decide) rfl
      have r6 := hc 6 _ (by decide) rfl
      have r7 := hc 7 _ (by decide) rfl
      dsimp only at r1 r2 r3 r4 r5 r6 r7
      clear hc hi
      by_cases he : sid = id
      · have hbt : b = true := by rw [← HB.out]; exact hasL_yes HS.out he
        subst hbt
        have hei : (sid == id) = true := by simpa using he
        clear he
        go_wp2_with fail
        go_ret
        exact ⟨rfl, by first | exact hB | exact hB.alloc hB.size _⟩
      · have HA2 := hid (hasL_snoc HS.out HA.out he)
        have hei : (sid == id) = false := by simpa using he
        clear he HA
        go_wp2_with fail
        go_roundg (n - (k + 1))
        case measure => have h := HGK.out; omega
        case rel => exact ⟨k + 1, by omega, rfl, by go_num, HA2, by first | exact hB | exact hB.alloc hB.size _⟩
    · obtain rfl : k = n := by omega
      have hbf : b = false := by rw [← HB.out]; have h1 := HA.out; rwa [List.take_of_length_le (by rw [HN.out]; exact Nat.le_refl _)] at h1
      subst hbf
      go_wp2_with fail
      go_ret
      exact ⟨rfl, hB⟩

end Go.Proofs.Ytnchhleokdkejaa

/- Appending to an empty slice of the call's own; slices of the call's own, by predicates. -/
namespace Go.Pb
set_option linter.unusedVariables false
open Go Go.RowKit
/-- An empty slice of the call's own. -/
def NewEmpty (B0 : Nat) (e : TypeId) (v : Value) (W : World) : Prop := ∃ B, B0 ≤ B ∧ v = .slice (some ⟨B, 0, none⟩) 0 0 ∧ W.heap[B]? = some (.cells #[] e (0, 0))
theorem keeps_empty {B0 : Nat} {e : TypeId} : Keeps (NewEmpty B0 e) := fun _ _ _ ⟨B, h1, h2, h3⟩ hb => ⟨B, h1, h2, (hb.block B (Array.getElem?_eq_some_iff.1 h3).1).trans h3⟩
theorem empty_of {w w' : World} {e : TypeId} (hb : Below w.heap.size w w') :
    Below w'.heap.size w' (w'.alloc (.cells #[] e)) ∧ NewEmpty w.heap.size e (.slice (some ⟨w'.heap.size, 0, none⟩) 0 0) (w'.alloc (.cells #[] e)) :=
  ⟨(Below.refl _ _).alloc (Nat.le_refl _) _, w'.heap.size, hb.size, rfl, heap_alloc_new w' _⟩
/-- A slice of the call's own that was written out. -/
def NewList (B0 n : Nat) (cs : List Value) (v : Value) (W : World) : Prop :=
  ∃ B, B0 ≤ B ∧ v = .slice (some ⟨B, 0, none⟩) n n ∧ ∀ o c, cs[o]? = some c → W.cell? ⟨B, o, none⟩ = some c ∧ W.frozen? ⟨B, o, none⟩ = false
theorem keeps_list {B0 n : Nat} {cs : List Value} : Keeps (NewList B0 n cs) := fun _ _ _ ⟨B, h1, h2, h3⟩ hb =>
  ⟨B, h1, h2, fun o c hc => ⟨bkeep hb (h3 o c hc).1, bfree hb (h3 o c hc).1 (h3 o c hc).2⟩⟩
theorem list_of {w w' : World} {n : Nat} {cs : List Value} {t : TypeId} (hb : Below w.heap.size w w') :
    Below w'.heap.size w' (w'.alloc (.cells cs.toArray t)) ∧ NewList w.heap.size n cs (.slice (some ⟨w'.heap.size, 0, none⟩) n n) (w'.alloc (.cells cs.toArray t)) :=
  ⟨(Below.refl _ _).alloc (Nat.le_refl _) _, w'.heap.size, hb.size, rfl, fun o c hc => by
    refine ⟨?_, World.frozen?_alloc_new w' cs.toArray t o⟩
    rw [World.cell?_alloc_new]; simpa using hc⟩
theorem keeps_owns {base size n : Nat} {e : TypeId} {xs : List Value} : Keeps (fun v w => w.ownsRow base e size v n xs) := fun _ _ _ h hb => owns_below h hb
theorem append_fresh {P : Program} (w : World) (base : Nat) (t ty e : TypeId) (i : TypeInfo) (z : Value) (size bytes : Nat) (ht : P.underlying t = some (.slice e)) (hi : P.info? e = some i) (hz : i.zero = some z)
    (hsize : i.size = size) (hby : i.bytes = bytes) (hzs : z.cells.size = size) (hsz : 0 < size) {B : Nat} (hB : base ≤ B) (hg : w.heap[B]? = some (.cells #[] e (0, 0)))
    (a : Addr) (m c : Nat) (news : List Value) (hl : news.length = m * size) (hnews : ∀ j u, news[j]? = some u → w.cell? (a.add j) = some u) (h1 : ∀ u ∈ news, u.oneCell' = true)
    (h63 : m ≤ maxLen) (hbytes : m * bytes ≤ 140737488355328) (hbase : base ≤ w.heap.size) :
    ∃ v' w', (Builtin.append_ #[t, t] ty #[.slice (some ⟨B, 0, none⟩) 0 0, .slice (some a) m c]).run P w = .ok v' w' ∧ Below w.heap.size w w' ∧ w'.ownsRow base e size v' m news := by
  have hown : w.ownsRow base e size (.slice (some ⟨B, 0, none⟩) 0 0) 0 [] := ⟨by simp, .inr ⟨B, 0, #[], rfl, hB, hg, Nat.le_refl _, by simp [maxLen], by simp, by simp⟩⟩
  obtain ⟨v', w', hr, h2, h3, -⟩ := run_append_own (P := P) w base t ty e i z size bytes ht hi hz hsize hby hzs hsz _ 0 [] hown a m c news hl hnews h1 (by omega) (by simpa using hbytes) hbase
  refine ⟨v', w', hr, ?_, by simpa using h2⟩
  subst hsize; subst hby
  by_cases hm : m = 0
  · subst hm
    have hn : news = [] := List.eq_nil_of_length_eq_zero (by simpa using hl)
    subst hn
    have hr2 := run_append_room (P := P) w t ty e i ht hi B 0 0 #[] hg a 0 c [] (by simp) (by simp) (by simp) (by omega) (by simp)
    rw [hr2] at hr
    injection hr with _ hw
    subst hw
    refine ⟨rfl, rfl, rfl, by simp [World.setRow], fun k hk => ?_⟩
    by_cases hkB : k = B
    · subst hkB
      rw [setRow_heap w k #[] _ e _ hg, hg]; simp
    · exact setRow_other w B k _ hkB
  · have hcap : Builtin.nextslicecap (0 + m) 0 * i.bytes ≤ 281474976710656 := growslice_fits (by omega) (by simpa using hbytes)
    have hr2 := run_append_grow (P := P) w t ty e i z ht hi hz ⟨B, 0, none⟩ 0 0 [] (by simp) (by simp) a m c news hl hnews (by omega) (by simp only [maxLen] at h63; omega) hcap
    rw [hr2] at hr
    injection hr with _ hw
    subst hw
    exact (Below.refl _ _).drew.alloc (Nat.le_refl _) _
theorem fresh_append {P : Program} {o : Oper} {a : Act} {w : World} (s x : Operand) (t : TypeId) (ho : o.op = .call { callee := .builtin .append, args := #[s, x], argTypes := #[t, t] })
    (base : Nat) (e : TypeId) (i : TypeInfo) (z : Value) (size bytes : Nat) (ht : P.underlying t = some (.slice e)) (hi : P.info? e = some i) (hz : i.zero = some z)
    (hsize : i.size = size) (hby : i.bytes = bytes) (hzs : z.cells.size = size) (hsz : 0 < size) (v : Value) (hs : a.eval s = v) (hv : NewEmpty base e v w)
    (ad : Addr) (m c : Nat) (news : List Value) (hx : a.eval x = .slice (some ad) m c) (hl : news.length = m * size) (hnews : ∀ j u, news[j]? = some u → w.cell? (ad.add j) = some u) (h1 : ∀ u ∈ news, u.oneCell' = true)
    (h63 : m ≤ maxLen) (hbytes : m * bytes ≤ 140737488355328) (hbase : base ≤ w.heap.size) :
    freshAt P o a (fun v w => w.ownsRow base e size v m news) w := by
  obtain ⟨B, hB, rfl, hg⟩ := hv
  obtain ⟨v', w', hr, h2, h3⟩ := append_fresh (P := P) w base t o.type e i z size bytes ht hi hz hsize hby hzs hsz hB hg ad m c news hl hnews h1 h63 hbytes hbase
  unfold freshAt execOp
  simp only [ho, resolve, invoke, builtin, Sem.run_bind, Sem.run_pure, Result.andThen_ok, List.map_toArray, List.map_cons, List.map_nil, hs, hx, hr]
  exact ⟨h2, h3⟩
end Go.Pb
namespace Go.Pb.Ware
open Go Go.Pb Go.RowKit
end Go.Pb.Ware
namespace Go.Pb
theorem RowsAt.caps {n : Nat} {w : World} {a : Option Addr} {m cap : Nat} {rows : List (List Int)} (h : RowsAt n w (.slice a m cap) rows) : rows.length ≤ cap ∧ cap ≤ 9223372036854775807 := by
  rcases h with ⟨h1, h2⟩ | ⟨a', cap', h1, h2, h3, _⟩
  · injection h1 with _ _ h4; subst h2; subst h4; simp
  · injection h1 with _ _ h4; subst h4; exact ⟨h2, h3⟩
end Go.Pb
namespace Go.Pb.Ware
open Go Go.Pb Go.RowKit
end Go.Pb.Ware

/- Which lists of saggars, wads and bungs are valid. -/
namespace Go.Proofs.Ytnchhleokdkejaa
open Go.RowKit Go.Pb Go.Pb.Ware Go.Pb.Sag
set_option linter.unusedVariables false
set_option linter.unusedSimpArgs false

open Go.Pb.Bung
theorem take_rows {w : World} {b : Addr} {cap k : Nat} {l : List Sg} (h : RowsAt 8 w (.slice (some b) l.length cap) (l.map rowG)) (hk : k ≤ l.length) : RowsAt 8 w (.slice (some b) k cap) ((l.take k).map rowG) := by
  rw [List.map_take]
  exact RowsAt.take' (by rw [List.length_map]; exact h) (by rw [List.length_map]; exact hk)

set_option maxRecDepth 100000 in
set_option maxHeartbeats 1000000 in
theorem ckLs_any {w : World} {v : Value} {l : List Sg} {r : Int} (h : RowsAt 8 w v (l.map rowG)) (hr : ckLs l = r) :
    Calls Try.prog 24 #[v] w (Ret w (.int .i64 r)) := by
  unfold Ret
  obtain ⟨a, cap, rfl, hll⟩ := h.shape
  rw [List.length_map] at h hll ⊢
  obtain ⟨n, hn⟩ : ∃ n, l.length = n := ⟨_, rfl⟩
  have HN := hid hn
  obtain ⟨hcap, hcap2⟩ := RowsAt.caps h
  rw [List.length_map] at hcap
  rw [hn] at h hll hcap ⊢
  clear hn
  by_cases h30 : n ≤ 30
  · have h30i : ¬ (30 : Int) < (n : Int) := by omega
    have HR := hid hr; clear hr
    go_enter Try.func24, Try.ntmps24
    go_wp2_with fail
    go_loopg [10] n (fun gk iv wr => ∃ k : Nat, k ≤ n ∧ gk = n - k ∧ iv = .int .i64 k ∧ Hid (okUp l k = true) ∧ Below w.heap.size w wr)
    case atStart => exact ⟨0, Nat.zero_le _, rfl, rfl, hid rfl, Below.refl _ _⟩
    case round =>
      obtain ⟨k, hk, hgk, rfl, HA, hB⟩ := hrel
      have HGK := hid hgk; clear hgk
      by_cases hlt : k < n
      · have hki : (k : Int) < (n : Int) := by omega
        have hki2 : (k : Int) ≤ (cap : Int) := by omega
        have hkl : k < l.length := by rw [HN.out]; exact hlt
        obtain ⟨s, hs⟩ : ∃ s, l[k]? = some s := ⟨_, List.getElem?_eq_getElem hkl⟩
        obtain ⟨a', ha, r0, hc, hi⟩ := sg_row (by rw [HN.out]; exact h.below hB) hs
        subst ha
        have HS := hid hs; clear hs
        obtain ⟨sid, swl, swh, sbl, sbh, shl, shh, sti⟩ := s
        dsimp only at r0
        have r1 := hc 1 _ (by decide) rfl
        have r2 := hc 2 _ (by decide) rfl
        have r3 := hc 3 _ (by decide) rfl
        have r4 := hc 4 _ (by decide) rfl
        have r5 := hc 5 _ (by decide) rfl
        have r6 := hc 6 _ (by decide) rfl
        have r7 := hc 7 _ (by decide) rfl
        dsimp only at r1 r2 r3 r4 r5 r6 r7
        clear hc hi
        obtain ⟨v3, hv3⟩ : ∃ v, v = wr := ⟨_, rfl⟩
        subst hv3
        have T1 := take_rows (k := k) (show RowsAt 8 v3 (.slice (some a') l.length cap) (l.map rowG) by rw [HN.out]; exact h.below hB) (by omega)
        obtain ⟨b, hb⟩ : ∃ b, sgOk ⟨sid, swl, swh, sbl, sbh, shl, shh, sti⟩ = b := ⟨_, rfl⟩
        obtain ⟨e, he⟩ : ∃ e, hasL (l.take k) sid = e := ⟨_, rfl⟩
        have hck : ckSg ⟨sid, swl, swh, sbl, sbh, shl, shh, sti⟩ = if b = true then 0 else 30 := by unfold ckSg; rw [hb]
        have HB := hid hb; have HE := hid he; clear hb he hkl
        go_upto_region 6 with fail
        generalize hW : World.alloc v3 _ = v5
        have q0 : v5.cell? ⟨v3.heap.size, 0, none⟩ = some (.int .i64 sid) := by rw [← hW]; simp [go_sem]
        have q1 : v5.cell? ⟨v3.heap.size, 1, none⟩ = some (.int .i64 swl) := by rw [← hW]; simp [go_sem]
        have q2 : v5.cell? ⟨v3.heap.size, 2, none⟩ = some (.int .i64 swh) := by rw [← hW]; simp [go_sem]
        have q3 : v5.cell? ⟨v3.heap.size, 3, none⟩ = some (.int .i64 sbl) := by rw [← hW]; simp [go_sem]
        have q4 : v5.cell? ⟨v3.heap.size, 4, none⟩ = some (.int .i64 sbh) := by rw [← hW]; simp [go_sem]
        have q5 : v5.cell? ⟨v3.heap.size, 5, none⟩ = some (.int .i64 shl) := by rw [← hW]; simp [go_sem]
        have q6 : v5.cell? ⟨v3.heap.size, 6, none⟩ = some (.int .i64 shh) := by rw [← hW]; simp [go_sem]
        have q7 : v5.cell? ⟨v3.heap.size, 7, none⟩ = some (.int .i64 sti) := by rw [← hW]; simp [go_sem]
        have hb5 : Below v3.heap.size v3 v5 := by rw [← hW]; exact (Below.refl _ _).alloc (Nat.le_refl _) _
        replace hB := hB.trans (hb5.mono hB.size)
        replace T1 := T1.below hb5
        clear hW hb5 r0 r1 r2 r3 r4 r5 r6 r7
        have x0 := fun x : BW v5 => bkeep x.below q0
        have x1 := fun x : BW v5 => bkeep x.below q1
        have x2 := fun x : BW v5 => bkeep x.below q2
        have x3 := fun x : BW v5 => bkeep x.below q3
        have x4 := fun x : BW v5 => bkeep x.below q4
        have x5 := fun x : BW v5 => bkeep x.below q5
        have x6 := fun x : BW v5 => bkeep x.below q6
        have x7 := fun x : BW v5 => bkeep x.below q7
        cases b
        · rw [if_neg (by simp)] at hck
          have HCK := hid hck; clear hck
          refine wp_region_qb (by kernel_rfl) (by kernel_rfl) fun hc => ?_
          repeat (go_big_quiet_step ((first | (go_at_call 20; exact BW.call _ (ckSg_any HCK.out)) | (go_at_call 82; exact BW.call _ (hasId_any (T1.below (BW.below _)) HE.out)))))
          refine wpQuiet_nil ?_
          intro w9 hb
          replace hB := hB.trans (hb.mono hB.size)
          go_wp2_with fail
          obtain rfl : r = 30 := by rw [← HR.out]; unfold ckLs; rw [listOk_no HS.out (by dsimp only; rw [HB.out, Bool.false_and])]; rfl
          go_ret
          exact ⟨rfl, hB⟩
        · rw [if_pos rfl] at hck
          have HCK := hid hck; clear hck
          cases e
          · refine wp_region_qb (by kernel_rfl) (by kernel_rfl) fun hc => ?_
            repeat (go_big_quiet_step ((first | (go_at_call 20; exact BW.call _ (ckSg_any HCK.out)) | (go_at_call 82; exact BW.call _ (hasId_any (T1.below (BW.below _)) HE.out)))))
            refine wpQuiet_nil ?_
            intro w9 hb
            replace hB := hB.trans (hb.mono hB.size)
            go_wp2_with fail
            go_roundg (n - (k + 1))
            case measure => have h := HGK.out; omega
            case rel => exact ⟨k + 1, by omega, rfl, by go_num, hid (okUp_next HA.out HS.out HB.out HE.out), hB⟩
          · refine wp_region_qb (by kernel_rfl) (by kernel_rfl) fun hc => ?_
            repeat (go_big_quiet_step ((first | (go_at_call 20; exact BW.call _ (ckSg_any HCK.out)) | (go_at_call 82; exact BW.call _ (hasId_any (T1.below (BW.below _)) HE.out)))))
            refine wpQuiet_nil ?_
            intro w9 hb
            replace hB := hB.trans (hb.mono hB.size)
            go_wp2_with fail
            obtain rfl : r = 30 := by rw [← HR.out]; unfold ckLs; rw [listOk_no HS.out (by dsimp only; rw [HB.out, HE.out]; rfl)]; rfl
            go_ret
            exact ⟨rfl, hB⟩
      · obtain rfl : k = n := by omega
        obtain rfl : r = 0 := by rw [← HR.out]; unfold ckLs; rw [listOk_yes (by rw [HN.out]; exact h30) (by rw [HN.out]; exact HA.out)]; rfl
        go_wp2_with fail
        go_ret
        exact ⟨rfl, hB⟩
  · obtain rfl : r = 30 := by rw [← hr]; unfold ckLs; rw [listOk_long (by rw [HN.out]; exact h30)]; rfl
    have h30i : (30 : Int) < (n : Int) := by omega
    go_enter Try.func24, Try.ntmps24
    go_wp2_with fail
    go_ret
    exact ⟨rfl, Below.refl _ _⟩

set_option maxRecDepth 100000 in
set_option maxHeartbeats 400000 in
theorem ckWd_any {w : World} {lo hi r : Int} (hr : ckWd lo hi = r) :
    Calls Try.prog 80 #[.agg #[.int .i64 lo, .int .i64 hi]] w (Ret w (.int .i64 r)) := by
  unfold Ret
  obtain ⟨b, hb⟩ : ∃ b, rgOk ⟨lo, hi⟩ 0 200 = b := ⟨_, rfl⟩
  have hr2 : r = if b = true then 0 else 32 := by rw [← hr]; unfold ckWd wadOk; rw [hb]
  clear hr
  have HB := hid hb; clear hb
  cases b
  · simp at hr2
    subst hr2
    go_enter Try.func80, Try.ntmps80
    go_wp2_with fail
    refine (bR HB.out).mono ?_
    rintro e w1 ⟨rfl, hb⟩
    replace hb0 := bnext (w := w) (by go_grown) hb; have hz := hb.size; (try simp only [World.size_alloc, World.size_setCell] at hz); obtain ⟨hc, hf⟩ := bcell hb; skip
    clear hb
    go_wp2_with fail
    go_ret
    exact ⟨rfl, by first | exact hb0 | go_grown⟩
  · simp at hr2
    subst hr2
    go_enter Try.func80, Try.ntmps80
    go_wp2_with fail
    refine (bR HB.out).mono ?_
    rintro e w1 ⟨rfl, hb⟩
    replace hb0 := bnext (w := w) (by go_grown) hb; have hz := hb.size; (try simp only [World.size_alloc, World.size_setCell] at hz); obtain ⟨hc, hf⟩ := bcell hb; skip
    clear hb
    go_wp2_with fail
    go_ret
    exact ⟨rfl, by first | exact hb0 | go_grown⟩

set_option maxRecDepth 100000 in
set_option maxHeartbeats 1000000 in
theorem ckBg_any {w : World} {v : Value} {l : List Sg} {lo hi r : Int} (h : RowsAt 8 w v (l.map rowG)) (hr : ckBg lo hi l = r) :
    Calls Try.prog 22 #[.agg #[.int .i64 lo, .int .i64 hi, v]] w (Ret w (.int .i64 r)) := by
  unfold Ret
  obtain ⟨a, cap, rfl, hll⟩ := h.shape
  rw [List.length_map] at hll ⊢
  obtain ⟨n, hn⟩ : ∃ n, l.length = n := ⟨_, rfl⟩
  have HN := hid hn
  rw [List.length_map] at h
  rw [hn] at h hll ⊢
  obtain ⟨b1, h1⟩ : ∃ b, wadOk lo hi = b := ⟨_, rfl⟩
  obtain ⟨b3, h3⟩ : ∃ b, listOk l = b := ⟨_, rfl⟩
  have hw : ckWd lo hi = if b1 = true then 0 else 32 := by unfold ckWd; rw [h1]
  have hl : ckLs l = if b3 = true then 0 else 30 := by unfold ckLs; rw [h3]
  have hr2 : r = if (b1 && decide (n ≠ 0) && b3) = true then 0 else 31 := by rw [← hr]; unfold ckBg bungOk; rw [h1, h3]; congr 3; congr 1; congr 1; rw [← hn]; exact propext ⟨fun h e => h (List.eq_nil_of_length_eq_zero e), fun h e => h (by rw [e]; rfl)⟩
  clear hr hn h3
  cases b1
  · simp at hr2
    subst hr2
    have HW := hid (hw.trans (if_neg (by simp)))
    clear hw h1
    go_enter Try.func22, Try.ntmps22
    go_wp2_with fail
    refine (ckWd_any HW.out).mono ?_
    rintro e w1 ⟨rfl, hb⟩
    replace hb0 := bnext (w := w) (by go_grown) hb; have hz := hb.size; (try simp only [World.size_alloc, World.size_setCell] at hz); replace q0 : w1.cell? ⟨w.heap.size, 0, none⟩ = some (.int .i64 lo) := bkeep hb (by first | (with_reducible exact q0) | (with_reducible exact akeep q0) | simp [*, go_sem]); replace q1 : w1.cell? ⟨w.heap.size, 1, none⟩ = some (.int .i64 hi) := bkeep hb (by first | (with_reducible exact q1) | (with_reducible exact akeep q1) | simp [*, go_sem]); replace q2 : w1.cell? ⟨w.heap.size, 2, none⟩ = some (.slice a n cap) := bkeep hb (by first | (with_reducible exact q2) | (with_reducible exact akeep q2) | simp [*, go_sem]); skip
    clear hb
    go_wp2_with fail
    go_ret
    exact ⟨rfl, by first | exact hb0 | go_grown⟩
  · have HW := hid (hw.trans (if_pos rfl))
    clear hw h1
    by_cases h0 : n = 0
    · subst h0
      simp at hr2
      subst hr2
      go_enter Try.func22, Try.ntmps22
      go_wp2_with fail
      refine (ckWd_any HW.out).mono ?_
      rintro e w1 ⟨rfl, hb⟩
      replace hb0 := bnext (w := w) (by go_grown) hb; have hz := hb.size; (try simp only [World.size_alloc, World.size_setCell] at hz); replace q0 : w1.cell? ⟨w.heap.size, 0, none⟩ = some (.int .i64 lo) := bkeep hb (by first | (with_reducible exact q0) | (with_reducible exact akeep q0) | simp [*, go_sem]); replace q1 : w1.cell? ⟨w.heap.size, 1, none⟩ = some (.int .i64 hi) := bkeep hb (by first | (with_reducible exact q1) | (with_reducible exact akeep q1) | simp [*, go_sem]); replace q2 : w1.cell? ⟨w.heap.size, 2, none⟩ = some (.slice a 0 cap) := bkeep hb (by first | (with_reducible exact q2) | (with_reducible exact akeep q2) | simp [*, go_sem]); skip
      clear hb
      go_wp2_with fail
      go_ret
      exact ⟨rfl, by first | exact hb0 | go_grown⟩
    · have h0i : (0 : Int) < (n : Int) := by omega
      have h0b : ((n : Int) == 0) = false := beq_eq_false_iff_ne.mpr (by omega)
      rw [decide_eq_true h0] at hr2
      cases b3
      · simp at hr2
        subst hr2
        have HL := hid (hl.trans (if_neg (by simp)))
        clear hl
        go_enter Try.func22, Try.ntmps22
        go_wp2_with fail
        refine (ckWd_any HW.out).mono ?_
        rintro e w1 ⟨rfl, hb⟩
        replace hb0 := bnext (w := w) (by go_grown) hb; have hz := hb.size; (try simp only [World.size_alloc, World.size_setCell] at hz); replace q0 : w1.cell? ⟨w.heap.size, 0, none⟩ = some (.int .i64 lo) := bkeep hb (by first | (with_reducible exact q0) | (with_reducible exact akeep q0) | simp [*, go_sem]); replace q1 : w1.cell? ⟨w.heap.size, 1, none⟩ = some (.int .i64 hi) := bkeep hb (by first | (with_reducible exact q1) | (with_reducible exact akeep q1) | simp [*, go_sem]); replace q2 : w1.cell? ⟨w.heap.size, 2, none⟩ = some (.slice a n cap) := bkeep hb (by first | (with_reducible exact q2) | (with_reducible exact akeep q2) | simp [*, go_sem]); skip
        clear hb
        go_wp2_with fail
        refine (ckLs_any (h.below (by go_grown)) HL.out).mono ?_
        rintro e w1 ⟨rfl, hb⟩
        replace hb0 := bnext (w := w) (by go_grown) hb; have hz := hb.size; (try simp only [World.size_alloc, World.size_setCell] at hz); replace q0 : w1.cell? ⟨w.heap.size, 0, none⟩ = some (.int .i64 lo) := bkeep hb (by first | (with_reducible exact q0) | (with_reducible exact akeep q0) | simp [*, go_sem]); replace q1 : w1.cell? ⟨w.heap.size, 1, none⟩ = some (.int .i64 hi) := bkeep hb (by first | (with_reducible exact q1) | (with_reducible exact akeep q1) | simp [*, go_sem]); replace q2 : w1.cell? ⟨w.heap.size, 2, none⟩ = some (.slice a n cap) := bkeep hb (by first | (with_reducible exact q2) | (with_reducible exact akeep q2) | simp [*, go_sem]); skip
        clear hb
        go_wp2_with fail
        go_ret
        exact ⟨rfl, by first | exact hb0 | go_grown⟩
      · simp at hr2
        subst hr2
        have HL := hid (hl.trans (if_pos rfl))
        clear hl
        go_enter Try.func22, Try.ntmps22
        go_wp2_with fail
        refine (ckWd_any HW.out).mono ?_
        rintro e w1 ⟨rfl, hb⟩
        replace hb0 := bnext (w := w) (by go_grown) hb; have hz := hb.size; (try simp only [World.size_alloc, World.size_setCell] at hz); replace q0 : w1.cell? ⟨w.heap.size, 0, none⟩ = some (.int .i64 lo) := bkeep hb (by first | (with_reducible exact q0) | (with_reducible exact akeep q0) | simp [*, go_sem]); replace q1 : w1.cell? ⟨w.heap.size, 1, none⟩ = some (.int .i64 hi) := bkeep hb (by first | (with_reducible exact q1) | (with_reducible exact akeep q1) | simp [*, go_sem]); replace q2 : w1.cell? ⟨w.heap.size, 2, none⟩ = some (.slice a n cap) := bkeep hb (by first | (with_reducible exact q2) | (with_reducible exact akeep q2) | simp [*, go_sem]); skip
        clear hb
        go_wp2_with fail
        refine (ckLs_any (h.below (by go_grown)) HL.out).mono ?_
        rintro e w1 ⟨rfl, hb⟩
        replace hb0 := bnext (w := w) (by go_grown) hb; have hz := hb.size; (try simp only [World.size_alloc, World.size_setCell] at hz); replace q0 : w1.cell? ⟨w.heap.size, 0, none⟩ = some (.int .i64 lo) := bkeep hb (by first | (with_reducible exact q0) | (with_reducible exact akeep q0) | simp [*, go_sem]); replace q1 : w1.cell? ⟨w.heap.size, 1, none⟩ = some (.int .i64 hi) := bkeep hb (by first | (with_reducible exact q1) | (with_reducible exact akeep q1) | simp [*, go_sem]); replace q2 : w1.cell? ⟨w.heap.size, 2, none⟩ = some (.slice a n cap) := bkeep hb (by first | (with_reducible exact q2) | (with_reducible exact akeep q2) | simp [*, go_sem]); skip
        clear hb
        go_wp2_with fail
        go_ret
        exact ⟨rfl, by first | exact hb0 | go_grown⟩

end Go.Proofs.Ytnchhleokdkejaa

/- Saggars by their indices, by plain maths. -/
namespace Go.Pb.Bung
open Go Go.Pb Go.Pb.Ware Go.RowKit
set_option linter.unusedVariables false
set_option linter.unusedSimpArgs false
instance : Inhabited Sg := ⟨⟨0, 0, 0, 0, 0, 0, 0, 0⟩⟩
/-- The first k numbers are indices below n, each of which is among them once. -/
def idxUp (zs : List Int) (n : Nat) : Nat → Bool
  | 0 => true
  | k + 1 => idxUp zs n k && (match zs[k]? with | some z => btw z 0 ((n : Int) - 1) && !decide (z ∈ zs.take k) | none => true)
def idxOk (zs : List Int) (n : Nat) : Bool := idxUp zs n zs.length
theorem idxUp_mono {zs : List Int} {n k : Nat} (h : idxUp zs n k = false) : ∀ m, k ≤ m → idxUp zs n m = false := by
  intro m hm
  induction m with
  | zero =>
    obtain rfl : k = 0 := by omega
    exact h
  | succ m ih =>
    rcases Nat.lt_or_ge m k with hk | hk
    · obtain rfl : k = m + 1 := by omega
      exact h
    · rw [idxUp, ih hk, Bool.false_and]
theorem idxUp_next {zs : List Int} {n k : Nat} {z : Int} (h : idxUp zs n k = true) (hk : zs[k]? = some z) (h1 : btw z 0 ((n : Int) - 1) = true) (h2 : ¬ z ∈ zs.take k) : idxUp zs n (k + 1) = true := by
  rw [idxUp, h, hk]; simp [h1, h2]
theorem idxOk_no {zs : List Int} {n k : Nat} {z : Int} (hk : zs[k]? = some z) (h : (btw z 0 ((n : Int) - 1) && !decide (z ∈ zs.take k)) = false) : idxOk zs n = false := by
  have hlt : k < zs.length := (List.getElem?_eq_some_iff.1 hk).1
  have h1 : idxUp zs n (k + 1) = false := by rw [idxUp, hk]; simp only [h, Bool.and_false]
  exact idxUp_mono h1 zs.length hlt
theorem idx_in {zs : List Int} {n : Nat} : ∀ k, idxUp zs n k = true → ∀ z ∈ zs.take k, 0 ≤ z ∧ z < n
  | 0, _, z, hz => by simp at hz
  | k + 1, h, z, hz => by
    rw [idxUp, Bool.and_eq_true] at h
    rw [List.take_add_one] at hz
    rcases List.mem_append.1 hz with hz | hz
    · exact idx_in k h.1 z hz
    · cases hk : zs[k]? with
      | none => rw [hk] at hz; simp at hz
      | some y =>
        rw [hk] at hz h
        simp at hz
        subst hz
        have h2 := h.2
        simp only [Bool.and_eq_true, btw_iff] at h2
        omega
theorem idxOk_in {zs : List Int} {n : Nat} (h : idxOk zs n = true) : ∀ z ∈ zs, 0 ≤ z ∧ z < n := by
  have := idx_in zs.length h
  rwa [List.take_length] at this
def chosenG (l : List Sg) (zs : List Int) : List Sg := zs.map fun z => l.getD z.toNat default
theorem chosenG_snoc {l : List Sg} {zs : List Int} {k m : Nat} {s : Sg} (hk : k < zs.length) (hm : zs[k] = (m : Int)) (hs : l[m]? = some s) : chosenG l (zs.take k) ++ [s] = chosenG l (zs.take (k + 1)) := by
  unfold chosenG
  rw [List.take_succ_eq_append_getElem hk, List.map_append, hm]
  simp [List.getD, hs]
def cellsG (s : Sg) : List Value := (rowG s).map (Value.int .i64)
theorem cells_flat (l : List Sg) : (l.map rowG).flatten.map (Value.int .i64) = l.flatMap cellsG := by
  induction l with
  | nil => rfl
  | cons s l ih =>
    rw [List.map_cons, List.flatten_cons, List.map_append, ih, List.flatMap_cons]; rfl
theorem rows_of_owns {w : World} {base : Nat} {e : TypeId} {v : Value} {l : List Sg} (h : w.ownsRow base e 8 v l.length (l.flatMap cellsG)) (hi : ∀ s ∈ l, ∀ z ∈ rowG s, I64 z) : RowsAt 8 w v (l.map rowG) := by
  refine rowsAt_of_owns (base := base) (e := e) (fun r hr => ?_) (by rw [List.length_map, cells_flat]; exact h) (fun r hr z hz => ?_)
  · obtain ⟨s, -, rfl⟩ := List.mem_map.1 hr; rfl
  · obtain ⟨s, hs, rfl⟩ := List.mem_map.1 hr; exact hi s hs z hz
theorem i64_rows {w : World} {v : Value} {l : List Sg} (h : RowsAt 8 w v (l.map rowG)) : ∀ s ∈ l, ∀ z ∈ rowG s, I64 z := fun s hs => (h.i64 (rowG s) (List.mem_map.2 ⟨s, hs, rfl⟩)).2
theorem i64_def : ∀ z ∈ rowG (default : Sg), I64 z := by
  intro z hz
  have : z = 0 := by simpa [rowG, default, Inhabited.default] using hz
  subst this
  unfold I64; decide
theorem i64_chosen {l : List Sg} {zs : List Int} (h : ∀ s ∈ l, ∀ z ∈ rowG s, I64 z) : ∀ s ∈ chosenG l zs, ∀ z ∈ rowG s, I64 z := by
  intro s hs
  obtain ⟨z, -, rfl⟩ := List.mem_map.1 hs
  unfold List.getD
  cases hk : l[z.toNat]? with
  | none => exact i64_def
  | some s => exact h s (List.mem_of_getElem? hk)
theorem one_cellsG (s : Sg) : ∀ u ∈ cellsG s, u.oneCell' = true := by
  intro u hu
  obtain ⟨z, -, rfl⟩ := List.mem_map.1 hu
  rfl
theorem new_cellsG (w : World) (s : Sg) (t : TypeId) (n : Nat) (hn : w.heap.size = n) : ∀ j u, (cellsG s)[j]? = some u → (w.alloc (.cells (cellsG s).toArray t)).cell? ((⟨n, 0, none⟩ : Addr).add j) = some u := by
  intro j u h
  subst hn
  rw [Go.WideShapes.add_plain, Nat.zero_add]
  show (match (w.alloc (.cells (cellsG s).toArray t)).heap[w.heap.size]? with | some (.cells c _ _) => c[j]? | _ => none) = some u
  rw [World.alloc_heap_new]
  simpa using h
/-- What has been seen among n. -/
def SeenAt (B n : Nat) (zs : List Int) (W : World) : Prop := ∀ i, i < n → W.cell? ⟨B, i, none⟩ = some (.bool (decide ((i : Int) ∈ zs))) ∧ W.frozen? ⟨B, i, none⟩ = false
theorem made_at {w : World} {base n B : Nat} {T : TypeId} {z : Value} (hz : z.cells = #[z]) (h : w.ownsRow base T 1 (.slice (some ⟨B, 0, none⟩) n n) n (madeCells z.cells (n * 1)).toList) : ∀ i, i < n → w.cell? ⟨B, i, none⟩ = some z ∧ w.frozen? ⟨B, i, none⟩ = false := by
  obtain ⟨_, h⟩ := h
  rcases h with ⟨h1, _⟩ | ⟨g, cap, cur, h1, h2, h3, h4, h5, h6, h7⟩
  · cases h1
  injection h1 with e1 _ e2
  injection e1 with e1
  injection e1 with e1
  subst e1; subst e2
  intro i hk
  have hlt : i < n * 1 := by omega
  have h8 : (cur.toList.take (n * 1))[i]? = some z := by
    rw [h7, Array.getElem?_toList]
    unfold madeCells
    rw [Array.getElem?_map, Array.getElem?_range, if_pos hlt, hz]
    show some (#[z] : Array Value)[i % 1]! = _
    rw [Nat.mod_one]; rfl
  rw [List.getElem?_take, if_pos hlt] at h8
  refine ⟨?_, ?_⟩
  · simp only [World.cell?, h3]; simpa using h8
  · simp [World.frozen?, h3]
theorem SeenAt.start {w : World} {B n : Nat} (h : ∀ i, i < n → w.cell? ⟨B, i, none⟩ = some (.bool false) ∧ w.frozen? ⟨B, i, none⟩ = false) : SeenAt B n [] w := fun i hi => by
  have := h i hi
  simpa using this
theorem SeenAt.below {B n : Nat} {zs : List Int} {W W' : World} (h : SeenAt B n zs W) (hb : Below W.heap.size W W') : SeenAt B n zs W' := fun i hi => ⟨bkeep hb (h i hi).1, bfree hb (h i hi).1 (h i hi).2⟩
theorem SeenAt.put {B n m : Nat} {zs : List Int} {W : World} (h : SeenAt B n zs W) (hm : m < n) : SeenAt B n (zs ++ [(m : Int)]) (W.setCell ⟨B, m, none⟩ (.bool true)) := by
  intro i hi
  obtain ⟨h1, h2⟩ := h i hi
  by_cases e : i = m
  · subst e
    refine ⟨?_, ?_⟩
    · rw [World.cell?_setCell_same _ _ _ h1]; simp
    · simpa [go_sem] using h2
  · refine ⟨?_, ?_⟩
    · rw [World.cell?_setCell_other _ _ _ _ (by intro e2; injection e2 with _ e3; exact e e3.symm), h1]
      have hne : ¬ (i : Int) = (m : Int) := by omega
      simp [hne]
    · simpa [go_sem] using h2
end Go.Pb.Bung

/- Indices of saggars, and the saggars that have them. -/
namespace Go.Proofs.Ytnchhleokdkejaa
open Go.RowKit Go.Pb Go.Pb.Ware Go.Pb.Sag
set_option linter.unusedVariables false
set_option linter.unusedSimpArgs false

open Go.Pb.Bung
theorem Try.infoG : (Try.prog.info? 33).map (fun i => (i.zero, i.size, i.bytes)) = some (some (.agg #[.int .i64 0, .int .i64 0, .int .i64 0, .int .i64 0, .int .i64 0, .int .i64 0, .int .i64 0, .int .i64 0]), 8, 64) := by kernel_rfl
theorem Try.infoBo : (Try.prog.info? 4).map (fun i => (i.zero, i.size, i.bytes)) = some (some (.bool false), 1, 1) := by kernel_rfl
set_option maxRecDepth 100000 in
set_option maxHeartbeats 1000000 in
theorem idx_any {w : World} {v : Value} {zs : List Int} {n : Nat} {b : Bool} (hi : NumsAt w v zs) (hn : n ≤ 1000) (hb : idxOk zs n = b) :
    Calls Try.prog 103 #[v, .int .i64 (n : Int)] w (Ret w (.bool b)) := by
  unfold Ret
  obtain ⟨a, cap, rfl, hl1, hl2⟩ := hi.shape
  obtain ⟨i0, hi0, hz0, hz1, hz2⟩ := info_parts Try.infoBo
  have HB := hid hb; clear hb
  go_enter Try.func103, Try.ntmps103
  go_wp2_with (at_make; refine wpList_make_full _ rfl _ _ 154 rfl w.heap.size 4 i0 (.bool false) 1 Try.underlying154 hi0 hz0 hz1 .i64 .i64 _ _ n rfl rfl rfl rfl (by rw [hz2]; omega) (by unfold maxLen; omega) (Nat.le_refl _) ?_; intro w5 ho5 hg5)
  have hm5 := made_at (B := w.heap.size) rfl ho5
  have hB5 : Below w.heap.size w w5 := (Below.refl _ _).grown hg5 (Nat.le_refl _) (fun k h => by cases h)
  have hlt5 : w.heap.size < w5.heap.size := by have := (World.ownsRow.lt ho5 w.heap.size (by simp [Value.ownBlock])).2; exact this
  have hS5 := SeenAt.start hm5
  clear ho5 hg5 hm5
  go_wp2_with fail
  go_loopg [12] zs.length (fun gk iv wr => ∃ k : Nat, k ≤ zs.length ∧ gk = zs.length - k ∧ iv = .int .i64 k ∧ Hid (idxUp zs n k = true) ∧ SeenAt w.heap.size n (zs.take k) wr ∧ Below w.heap.size w wr ∧ w.heap.size < wr.heap.size)
  case atStart => exact ⟨0, Nat.zero_le _, rfl, rfl, hid rfl, by simpa using hS5, hB5, hlt5⟩
  case round =>
    clear hS5 hB5 hlt5
    obtain ⟨k, hk, hgk, rfl, HA, hS, hB, hz⟩ := hrel
    have HGK := hid hgk; clear hgk
    by_cases hlt : k < zs.length
    · have hki : (k : Int) < (zs.length : Int) := by omega
      obtain ⟨a', ha, r0⟩ := (hi.below hB).elem hlt
      subst ha
      obtain ⟨z, hz0⟩ : ∃ z, zs[k] = z := ⟨_, rfl⟩
      have hzi := hi.i64 zs[k] (List.getElem_mem hlt)
      rw [hz0] at r0 hzi
      have hks : zs[k]? = some z := by rw [List.getElem?_eq_getElem hlt, hz0]
      have HZ := hid hz0; have HK := hid hks; clear hz0 hks
      obtain ⟨b1, hb1⟩ : ∃ b, btw z 0 ((n : Int) - 1) = b := ⟨_, rfl⟩
      have HB1 := hid hb1
      cases b1
      · clear hb1 hzi
        go_wp2_with (go_at_call 76; refine (bB HB1.out).mono ?_; rintro e w9 ⟨rfl, hb⟩; replace hS := hS.below hb; replace hB := hB.trans (hb.mono hB.size); replace hz := Nat.lt_of_lt_of_le hz hb.size)
        obtain rfl : b = false := by rw [← HB.out]; exact idxOk_no HK.out (by rw [HB1.out, Bool.false_and])
        go_ret
        exact ⟨rfl, hB⟩
      · rw [btw_iff] at hb1
        obtain ⟨m, rfl⟩ : ∃ m : Nat, z = (m : Int) := ⟨z.toNat, by omega⟩
        have hmn : m < n := by omega
        have hmi : (m : Int) < (n : Int) := by omega
        clear hb1 hzi
        by_cases hse : (m : Int) ∈ zs.take k
        · have HM := hid (show decide ((m : Int) ∈ zs.take k) = true by exact decide_eq_true hse)
          have HSE := hid hse; clear hse
          go_wp2_with (go_at_call 76; refine (bB HB1.out).mono ?_; rintro e w9 ⟨rfl, hb⟩; replace hS := hS.below hb; replace hB := hB.trans (hb.mono hB.size); replace hz := Nat.lt_of_lt_of_le hz hb.size; obtain ⟨q0, f0⟩ := hS m hmn; rw [HM.out] at q0)
          obtain rfl : b = false := by rw [← HB.out]; exact idxOk_no HK.out (by rw [HB1.out, HM.out]; rfl)
          go_ret
          exact ⟨rfl, hB⟩
        · have HM := hid (show decide ((m : Int) ∈ zs.take k) = false by exact decide_eq_false hse)
          have HSE := hid hse; clear hse
          go_wp2_with (go_at_call 76; refine (bB HB1.out).mono ?_; rintro e w9 ⟨rfl, hb⟩; replace hS := hS.below hb; replace hB := hB.trans (hb.mono hB.size); replace hz := Nat.lt_of_lt_of_le hz hb.size; obtain ⟨q0, f0⟩ := hS m hmn; rw [HM.out] at q0)
          have hS2 := hS.put hmn
          go_roundg (zs.length - (k + 1))
          case measure => have h := HGK.out; omega
          case rel => exact ⟨k + 1, by omega, rfl, by go_num, hid (idxUp_next HA.out HK.out HB1.out HSE.out), by rw [List.take_succ_eq_append_getElem hlt, HZ.out]; exact hS2, hB.setCell (p := ⟨w.heap.size, m, none⟩) (Nat.le_refl _) _, by simpa using hz⟩
    · obtain rfl : k = zs.length := by omega
      obtain rfl : b = true := by rw [← HB.out]; exact HA.out
      go_wp2_with fail
      go_ret
      exact ⟨rfl, hB⟩

def NewSgs (T : TypeId) (l : List Sg) (W : World) (e : Ending) (w' : World) : Prop := ∃ v, e = .returned v ∧ Below W.heap.size W w' ∧ w'.ownsRow W.heap.size T 8 v l.length (l.flatMap cellsG)

set_option maxRecDepth 100000 in
set_option maxHeartbeats 1000000 in
theorem chosenG_any {w : World} {lv v : Value} {l : List Sg} {zs : List Int} (hl : RowsAt 8 w lv (l.map rowG)) (hn : l.length ≤ 1000) (hi : NumsAt w v zs) (hzn : zs.length ≤ 1000) (hz : ∀ z ∈ zs, 0 ≤ z ∧ z < (l.length : Int)) :
    Calls Try.prog 104 #[lv, v] w (NewSgs 33 (chosenG l zs) w) := by
  obtain ⟨i0, hi0, hz0, hz1, hz2⟩ := info_parts Try.infoG
  obtain ⟨a, cap, rfl, hl1, hl2⟩ := hi.shape
  obtain ⟨la, lc, rfl, hll⟩ := hl.shape
  rw [List.length_map] at hl hll ⊢
  unfold NewSgs
  go_enter Try.func104, Try.ntmps104
  go_wp2_with (at_make; refine wpList_make_own _ rfl _ _ 24 rfl w.heap.size 33 i0 (.agg #[.int .i64 0, .int .i64 0, .int .i64 0, .int .i64 0, .int .i64 0, .int .i64 0, .int .i64 0, .int .i64 0]) 8 Try.underlying24 hi0 hz0 hz1 .i64 .i64 _ zs.length rfl rfl rfl (by rw [hz2]; omega) (by unfold maxLen; omega) (Nat.le_refl _) ?_; intro w2 ho hg; have hb0 : Below w.heap.size w w2 := (Below.refl _ w).grown hg (Nat.le_refl _) (fun k h => by cases h); have hz3 := hg.size; clear hg)
  go_wp2_with fail
  go_loopg [5, 13] zs.length (fun gk fv iv wr => ∃ k : Nat, k ≤ zs.length ∧ gk = zs.length - k ∧ iv = .int .i64 k ∧ wr.ownsRow w.heap.size 33 8 fv k ((chosenG l (zs.take k)).flatMap cellsG) ∧ Below w.heap.size w wr)
  case atStart => exact ⟨0, Nat.zero_le _, rfl, rfl, by simpa [chosenG] using ho, hb0⟩
  case round =>
    clear hb0 hz3 ho
    obtain ⟨k, hk, hgk, rfl, ho, hb0⟩ := hrel
    have HGK := hid hgk; clear hgk
    have hzr := hb0.size
    obtain ⟨ua, uc, rfl, hul⟩ := owns_shape ho
    by_cases hlt : k < zs.length
    · have hki : (k : Int) < (zs.length : Int) := by omega
      obtain ⟨a', ha, r0⟩ := (hi.below hb0).elem hlt
      subst ha
      obtain ⟨m, hm⟩ : ∃ m : Nat, zs[k] = (m : Int) := ⟨zs[k].toNat, by have := hz zs[k] (List.getElem_mem hlt); omega⟩
      have hmb : m < l.length := by have := hz zs[k] (List.getElem_mem hlt); omega
      rw [hm] at r0
      obtain ⟨s, hs⟩ : ∃ s, l[m]? = some s := ⟨_, List.getElem?_eq_getElem hmb⟩
      obtain ⟨b', hb', p0, hcc, hii⟩ := sg_row (hl.below hb0) hs
      subst hb'
      have HE := hid (chosenG_snoc hlt hm hs)
      clear hm hs
      obtain ⟨sid, swl, swh, sbl, sbh, shl, shh, sti⟩ := s
      dsimp only at p0
      have p1 := hcc 1 _ (by decide) rfl
      have p2 := hcc 2 _ (by decide) rfl
      have p3 := hcc 3 _ (by decide) rfl
      have p4 := hcc 4 _ (by decide) rfl
      have p5 := hcc 5 _ (by decide) rfl
      have p6 := hcc 6 _ (by decide) rfl
      have p7 := hcc 7 _ (by decide) rfl
      dsimp only at p1 p2 p3 p4 p5 p6 p7
      clear hcc hii
      have hmi : (m : Int) < (l.length : Int) := by omega
      have HCG := hid (new_cellsG wr (⟨sid, swl, swh, sbl, sbh, shl, shh, sti⟩ : Sg) 33 _ rfl)
      go_wp2_with (at_builtin; go_must (refine wpList_append_own _ rfl _ _ 24 rfl w.heap.size 33 i0 (.agg #[.int .i64 0, .int .i64 0, .int .i64 0, .int .i64 0, .int .i64 0, .int .i64 0, .int .i64 0, .int .i64 0]) 8 64 Try.underlying24 hi0 hz0 hz1 hz2 rfl (by decide) _ _ _ rfl (ho.alloc _) ⟨wr.heap.size, 0, none⟩ 1 1 (cellsG (⟨sid, swl, swh, sbl, sbh, shl, shh, sti⟩ : Sg)) rfl rfl HCG.out (one_cellsG _) (by unfold maxLen; omega) (by omega) (by simp; omega) ?_; intro v' w4 ho4 hg4 hnil; replace hb0 := Pb.below_grown (hb0.alloc (by omega) _) hg4 (ho.alloc _) (by simp; omega) (by omega); clear hg4 hnil ho))
      go_roundg (zs.length - (k + 1))
      case measure => have h := HGK.out; omega
      case rel => exact ⟨k + 1, by omega, rfl, by go_num, by rw [← HE.out, List.flatMap_append]; simpa using ho4, hb0⟩
    · obtain rfl : k = zs.length := by omega
      rw [List.take_length] at ho
      go_wp2_with fail
      go_ret
      exact ⟨_, rfl, hb0, by rw [show (chosenG l zs).length = zs.length from List.length_map ..]; exact ho⟩

end Go.Proofs.Ytnchhleokdkejaa

/- The setter's rule, by plain maths; sorting indices. -/
namespace Go.Pb.Bung
open Go Go.Pb Go.Pb.Ware Go.RowKit Go.Proofs Go.Sort
set_option linter.unusedVariables false
set_option linter.unusedSimpArgs false
def atG (l : List Sg) (i : Nat) : Sg := l.getD i default
def keyG (s : Sg) : Int := s.wh + s.bl
/-- a stands lower than b. -/
def lowB (a b : Sg) : Bool := decide (keyG b < keyG a) || (decide (keyG a = keyG b) && decide (a.id < b.id))
theorem lowB_iff {a b : Sg} : lowB a b = true ↔ keyG b < keyG a ∨ keyG a = keyG b ∧ a.id < b.id := by unfold lowB; simp
theorem lowB_no {a b : Sg} : lowB a b = false ↔ ¬ (keyG b < keyG a ∨ keyG a = keyG b ∧ a.id < b.id) := by rw [← lowB_iff]; simp
def insR (l : List Sg) (i : Nat) : List Nat → List Nat
  | [] => [i]
  | j :: t => if lowB (atG l j) (atG l i) = true then j :: insR l i t else i :: j :: t
def ruleUp (l : List Sg) : Nat → List Nat
  | 0 => []
  | k + 1 => insR l k (ruleUp l k)
def ruleN (l : List Sg) : List Nat := ruleUp l l.length
def ruleL (l : List Sg) : List Int := (ruleN l).map fun n : Nat => (n : Int)
/-- Saggars in the order of the rule. -/
def ruledL (l : List Sg) : List Sg := chosenG l (ruleL l)
theorem insR_perm (l : List Sg) (i : Nat) : ∀ t, (insR l i t).Perm (i :: t)
  | [] => List.Perm.refl _
  | j :: t => by
    unfold insR
    split
    · exact ((insR_perm l i t).cons j).trans (List.Perm.swap ..)
    · exact List.Perm.refl _
theorem ruleUp_perm (l : List Sg) : ∀ k, (ruleUp l k).Perm (List.range k)
  | 0 => List.Perm.refl _
  | k + 1 => by
    rw [ruleUp, List.range_succ]
    exact (insR_perm l k _).trans (((ruleUp_perm l k).cons k).trans (List.perm_append_singleton k (List.range k)).symm)
theorem ruleN_perm (l : List Sg) : (ruleN l).Perm (List.range l.length) := ruleUp_perm l _
theorem ruleN_length (l : List Sg) : (ruleN l).length = l.length := by rw [(ruleN_perm l).length_eq, List.length_range]
theorem ruleL_length (l : List Sg) : (ruleL l).length = l.length := by unfold ruleL; rw [List.length_map, ruleN_length]
theorem ruleL_in (l : List Sg) : ∀ z ∈ ruleL l, 0 ≤ z ∧ z < (l.length : Int) := by
  intro z hz
  unfold ruleL at hz
  obtain ⟨n, hn, rfl⟩ := List.mem_map.1 hz
  have := List.mem_range.1 ((ruleN_perm l).mem_iff.1 hn)
  omega
/-- No later one stands lower than an earlier one. -/
def NotLow (l : List Sg) (i j : Nat) : Prop := lowB (atG l j) (atG l i) = false
theorem insR_sorted {l : List Sg} {i : Nat} : ∀ {t : List Nat}, t.Pairwise (NotLow l) → (insR l i t).Pairwise (NotLow l)
  | [], _ => List.pairwise_singleton _ _
  | j :: t, h => by
    obtain ⟨h1, h2⟩ := List.pairwise_cons.1 h
    unfold insR
    split
    · rename_i hl
      refine List.pairwise_cons.2 ⟨fun x hx => ?_, insR_sorted h2⟩
      rcases List.mem_cons.1 ((insR_perm l i t).mem_iff.1 hx) with rfl | hx
      · unfold NotLow; rw [lowB_no]; rw [lowB_iff] at hl; omega
      · exact h1 x hx
    · rename_i hl
      rw [Bool.not_eq_true] at hl
      refine List.pairwise_cons.2 ⟨fun x hx => ?_, h⟩
      rcases List.mem_cons.1 hx with rfl | hx
      · exact hl
      · have h3 := h1 x hx
        unfold NotLow at h3 ⊢
        rw [lowB_no] at *
        omega
theorem ruleUp_sorted (l : List Sg) : ∀ k, (ruleUp l k).Pairwise (NotLow l)
  | 0 => List.Pairwise.nil
  | k + 1 => insR_sorted (ruleUp_sorted l k)
/-- Each has an Id of its own. -/
def IdsN (l : List Sg) : Prop := (l.map (·.id)).Pairwise (· ≠ ·)
theorem ids_at {l : List Sg} (h : IdsN l) {i j : Nat} (hi : i < l.length) (hj : j < l.length) (e : (atG l i).id = (atG l j).id) : i = j := by
  unfold IdsN at h
  rw [List.pairwise_map, List.pairwise_iff_getElem] at h
  unfold atG at e
  rw [List.getD_eq_getElem?_getD, List.getD_eq_getElem?_getD, List.getElem?_eq_getElem hi, List.getElem?_eq_getElem hj] at e
  simp only [Option.getD_some] at e
  rcases Nat.lt_trichotomy i j with h1 | h1 | h1
  · exact absurd e (h i j hi hj h1)
  · exact h1
  · exact absurd e.symm (h j i hj hi h1)
theorem ids_of {l : List Sg} : ∀ {k : Nat}, k ≤ l.length → okUp l k = true → IdsN (l.take k)
  | 0, _, _ => List.Pairwise.nil
  | k + 1, hk, h => by
    rw [okUp, Bool.and_eq_true] at h
    have ih := ids_of (by omega) h.1
    have hk2 : k < l.length := by omega
    have h2 := h.2
    rw [List.getElem?_eq_getElem hk2] at h2
    simp only [Bool.and_eq_true, Bool.not_eq_true'] at h2
    unfold IdsN at ih ⊢
    rw [List.take_succ_eq_append_getElem hk2, List.map_append, List.pairwise_append]
    refine ⟨ih, List.pairwise_singleton _ _, fun a ha b hb => ?_⟩
    obtain ⟨s, hs, rfl⟩ := List.mem_map.1 ha
    have hb2 : b = l[k].id := by simpa using hb
    subst hb2
    intro e
    have h3 : hasL (l.take k) l[k].id = true := by unfold hasL; exact List.any_eq_true.2 ⟨s, hs, decide_eq_true e⟩
    rw [h2.2] at h3; cases h3
theorem listOk_ids {l : List Sg} (h : listOk l = true) : IdsN l := by
  unfold listOk at h
  rw [Bool.and_eq_true] at h
  have h1 := ids_of (Nat.le_refl _) h.2
  rwa [List.take_length] at h1
theorem ids_chosen {l : List Sg} {zs : List Int} (h : IdsN l) (hz : ∀ z ∈ zs, 0 ≤ z ∧ z < (l.length : Int)) (hd : zs.Pairwise (· ≠ ·)) : IdsN (chosenG l zs) := by
  unfold IdsN chosenG
  rw [List.map_map, List.pairwise_map]
  refine hd.imp_of_mem fun {a b} ha hb hab e => hab ?_
  have h1 := hz a ha
  have h2 := hz b hb
  have h3 := ids_at h (i := a.toNat) (j := b.toNat) (by omega) (by omega) e
  omega
theorem rule_unique {l : List Sg} (h : IdsN l) {t : List Nat} (hp : t.Perm (List.range l.length)) (hs : t.Pairwise (NotLow l)) : t = ruleN l := by
  refine List.Perm.eq_of_pairwise (le := NotLow l) (fun a b ha hb h1 h2 => ?_) hs (ruleUp_sorted l _) (hp.trans (ruleN_perm l).symm)
  have h3 := List.mem_range.1 (hp.mem_iff.1 ha)
  have h4 := List.mem_range.1 ((ruleN_perm l).mem_iff.1 hb)
  unfold NotLow at h1 h2
  rw [lowB_no] at h1 h2
  exact ids_at h h3 h4 (by omega)
theorem okUp_all {l : List Sg} : ∀ k, k ≤ l.length → okUp l k = true → ∀ s ∈ l.take k, sgOk s = true
  | 0, _, _, s, hs => by simp at hs
  | k + 1, hk, h, s, hs => by
    rw [okUp, Bool.and_eq_true] at h
    have hk2 : k < l.length := by omega
    have h2 := h.2
    rw [List.getElem?_eq_getElem hk2] at h2
    simp only [Bool.and_eq_true] at h2
    rw [List.take_succ_eq_append_getElem hk2] at hs
    rcases List.mem_append.1 hs with hs | hs
    · exact okUp_all k (by omega) h.1 s hs
    · have : s = l[k] := by simpa using hs
      subst this; exact h2.1
theorem okUp_of {l : List Sg} (ha : ∀ s ∈ l, sgOk s = true) (hi : IdsN l) : ∀ k, k ≤ l.length → okUp l k = true
  | 0, _ => rfl
  | k + 1, hk => by
    have hk2 : k < l.length := by omega
    refine okUp_next (okUp_of ha hi k (by omega)) (List.getElem?_eq_getElem hk2) (ha _ (List.getElem_mem hk2)) ?_
    unfold hasL
    rw [List.any_eq_false]
    intro s hs
    rw [decide_eq_true_iff]
    intro e
    obtain ⟨j, hj, hj2⟩ := List.mem_take_iff_getElem.1 hs
    have h1 : (atG l j).id = (atG l k).id := by
      unfold atG
      rw [List.getD_eq_getElem?_getD, List.getD_eq_getElem?_getD, List.getElem?_eq_getElem (by omega), List.getElem?_eq_getElem hk2, Option.getD_some, Option.getD_some, hj2]
      exact e
    have := ids_at hi (by omega) hk2 h1
    omega
theorem listOk_iff {l : List Sg} : listOk l = true ↔ l.length ≤ 30 ∧ (∀ s ∈ l, sgOk s = true) ∧ IdsN l := by
  constructor
  · intro h
    have h3 := listOk_ids h
    unfold listOk at h
    rw [Bool.and_eq_true, decide_eq_true_iff] at h
    have h1 := okUp_all l.length (Nat.le_refl _) h.2
    rw [List.take_length] at h1
    exact ⟨h.1, h1, h3⟩
  · intro h
    exact listOk_yes h.1 (okUp_of h.2.1 h.2.2 _ (Nat.le_refl _))
theorem chosen_mem {l : List Sg} {zs : List Int} (hz : ∀ z ∈ zs, 0 ≤ z ∧ z < (l.length : Int)) {s : Sg} (h : s ∈ chosenG l zs) : s ∈ l := by
  unfold chosenG at h
  obtain ⟨z, h1, rfl⟩ := List.mem_map.1 h
  have h2 := hz z h1
  rw [List.getD_eq_getElem?_getD, List.getElem?_eq_getElem (by omega), Option.getD_some]
  exact List.getElem_mem _
theorem chosen_length (l : List Sg) (zs : List Int) : (chosenG l zs).length = zs.length := by unfold chosenG; rw [List.length_map]
theorem listOk_chosen {l : List Sg} {zs : List Int} (h : listOk l = true) (hz : ∀ z ∈ zs, 0 ≤ z ∧ z < (l.length : Int)) (hd : zs.Pairwise (· ≠ ·)) (hn : zs.length ≤ 30) : listOk (chosenG l zs) = true := by
  rw [listOk_iff] at h ⊢
  exact ⟨by rw [chosen_length]; exact hn, fun s hs => h.2.1 s (chosen_mem hz hs), ids_chosen h.2.2 hz hd⟩
theorem ruleL_apart (l : List Sg) : (ruleL l).Pairwise (· ≠ ·) := by
  unfold ruleL
  rw [List.pairwise_map]
  have h := (ruleN_perm l).symm.nodup List.nodup_range
  exact h.imp fun {a b} hab e => hab (by have e2 : (a : Int) = (b : Int) := e; omega)
theorem listOk_ruled {l : List Sg} (h : listOk l = true) : listOk (ruledL l) = true := by
  have h1 := (listOk_iff.1 h).1
  exact listOk_chosen h (ruleL_in l) (ruleL_apart l) (by rw [ruleL_length]; exact h1)
/-! The sort. -/
abbrev Ix (n : Nat) := {i : Nat // i < n + 1}
instance (n : Nat) : Inhabited (Ix n) := ⟨⟨0, by omega⟩⟩
def encX {n : Nat} (i : Ix n) : Value := .int .i64 (i.1 : Int)
def cmpR (l : List Sg) (i j : Nat) : Int := if Lib.compareInt (keyG (atG l j)) (keyG (atG l i)) ≠ 0 then Lib.compareInt (keyG (atG l j)) (keyG (atG l i)) else Lib.compareInt (atG l i).id (atG l j).id
def cmpI (l : List Sg) {n : Nat} (x y : Ix n) : Int := cmpR l x.1 y.1
theorem cmpR_low (l : List Sg) (i j : Nat) : decide (cmpR l i j < 0) = lowB (atG l i) (atG l j) := by
  rw [Bool.eq_iff_iff, decide_eq_true_iff, lowB_iff]
  unfold cmpR Lib.compareInt
  split <;> split <;> (try split) <;> (try split) <;> (try split) <;> (try split) <;> omega
theorem cmpI_low (l : List Sg) {n : Nat} (x y : Ix n) : ltOf (cmpI l) x y = lowB (atG l x.1) (atG l y.1) := cmpR_low l x.1 y.1
theorem cmpI_swo (l : List Sg) (n : Nat) : SWO (ltOf (cmpI l (n := n))) where
  irrefl x := by rw [cmpI_low, lowB_no]; omega
  trans x y z h1 h2 := by rw [cmpI_low, lowB_iff] at *; omega
  ntrans x y z h1 h2 := by rw [cmpI_low, lowB_no] at *; omega
def valI (m : Nat) : Array (Ix m) := ((List.range (m + 1)).attachWith (· < m + 1) fun i hi => List.mem_range.1 hi).toArray
theorem valI_size (m : Nat) : (valI m).size = m + 1 := by simp [valI]
theorem valI_map (m : Nat) : (valI m).toList.map (·.1) = List.range (m + 1) := by unfold valI; simp
theorem valI_get {m i : Nat} (h : i < m + 1) : ((valI m)[i]!).1 = i := by
  have h2 : i < (valI m).size := by rw [valI_size]; exact h
  rw [getElem!_pos (valI m) i h2]
  have h1 : ((valI m).toList.map (·.1))[i]? = some i := by rw [valI_map, List.getElem?_range h]
  rw [List.getElem?_map, Array.getElem?_toList, Array.getElem?_eq_getElem h2] at h1
  simpa using h1
/-- What the library's sort leaves is the order of the rule. -/
theorem sorted_rule {l : List Sg} {m : Nat} (hm : l.length = m + 1) (h : IdsN l) {d : Array (Ix m)} (hp : PermIn 0 (valI m).size (valI m) d) (hs : SortedIn (ltOf (cmpI l)) 0 (valI m).size d) : d.size = m + 1 ∧ d.toList.map (·.1) = ruleN l := by
  obtain ⟨h1, _, h3⟩ := hp
  have e0 : (valI m).size = d.size := h1.symm
  rw [valI_size] at h1 hs
  refine ⟨h1, rule_unique h ?_ ?_⟩
  · have e1 : d.extract 0 (valI m).size = d := by rw [e0]; simp
    have e2 : (valI m).extract 0 (valI m).size = valI m := by simp
    rw [e1, e2] at h3
    have h4 := h3.map (fun x : Ix m => x.1)
    rw [valI_map] at h4
    rw [hm]
    exact h4
  · rw [List.pairwise_map, List.pairwise_iff_getElem]
    intro i j hi hj hij
    rw [Array.length_toList] at hi hj
    have h5 := hs i j (Nat.zero_le _) hij (by omega)
    rw [cmpI_low, getElem!_pos d j hj, getElem!_pos d i hi] at h5
    exact h5
/-- A slice that was made, of whose cells the first k hold their indices. -/
def UpN (M n k : Nat) (W : World) : Prop := ∀ i, i < n → W.cell? ⟨M, i, none⟩ = some (.int .i64 (if i < k then (i : Int) else 0)) ∧ W.frozen? ⟨M, i, none⟩ = false
theorem UpN.start {M n : Nat} {W : World} (h : ∀ i, i < n → W.cell? ⟨M, i, none⟩ = some (.int .i64 0) ∧ W.frozen? ⟨M, i, none⟩ = false) : UpN M n 0 W := fun i hi => by
  rw [if_neg (by omega)]; exact h i hi
theorem UpN.put {M n k : Nat} {W : World} (h : UpN M n k W) (hk : k < n) : UpN M n (k + 1) (W.setCell ⟨M, k, none⟩ (.int .i64 (k : Int))) := by
  intro j hj
  obtain ⟨h1, h2⟩ := h j hj
  by_cases e : j = k
  · subst e
    refine ⟨?_, by simpa [go_sem] using h2⟩
    rw [World.cell?_setCell_same _ _ _ h1, if_pos (by omega)]
  · refine ⟨?_, by simpa [go_sem] using h2⟩
    rw [World.cell?_setCell_other _ _ _ _ (by intro e2; injection e2 with _ e3; exact e e3.symm), h1]
    by_cases h3 : j < k
    · rw [if_pos h3, if_pos (by omega)]
    · rw [if_neg h3, if_neg (by omega)]
theorem holds_made {M n m : Nat} {W : World} (hm : n = m + 1) (h : UpN M n n W) : Holds encX W M 0 (valI m) := by
  subst hm
  intro j hj
  rw [valI_size] at hj
  obtain ⟨h1, h2⟩ := h j hj
  rw [if_pos hj] at h1
  rw [Nat.zero_add]
  refine ⟨?_, h2⟩
  unfold encX
  rw [valI_get hj]
  exact h1
theorem nums_holds {W : World} {b n : Nat} {m : Nat} {d : Array (Ix m)} (hn : d.size = n) (hm : n ≤ 1000) (hm2 : m ≤ 1000) (h : Holds encX W b 0 d) : NumsAt W (.slice (some ⟨b, 0, none⟩) n n) ((d.toList.map (fun x : Ix m => x.1)).map fun i : Nat => (i : Int)) := by
  subst hn
  refine .inr ⟨⟨b, 0, none⟩, d.size, by simp, by simp, by omega, fun k z hk => ?_⟩
  rw [List.getElem?_map, List.getElem?_map, Array.getElem?_toList] at hk
  have hlt : k < d.size := by
    rcases Nat.lt_or_ge k d.size with h1 | h1
    · exact h1
    · rw [Array.getElem?_eq_none h1] at hk; simp at hk
  rw [Array.getElem?_eq_getElem hlt] at hk
  have hk2 : ((d[k].1 : Nat) : Int) = z := by simpa using hk
  subst hk2
  have h1 := (h k hlt).1
  rw [getElem!_pos d k hlt, Nat.zero_add] at h1
  refine ⟨by rw [Go.WideShapes.add_plain, Nat.zero_add]; exact h1, ?_⟩
  have := d[k].2
  exact I64.mk (by omega) (by omega)
theorem below_sort {n : Nat} {w : World} {B b m : Nat} {d : Array (Ix n)} {os : Array Obj} (hb : B ≤ b) (hB : B ≤ w.heap.size) : Below B w (sortWorld encX w b 0 m d os) ∧ w.heap.size ≤ (sortWorld encX w b 0 m d os).heap.size := by
  have hz : w.heap.size ≤ (sortWorld encX w b 0 m d os).heap.size := by
    unfold sortWorld
    simp [grow, putRow, mapBlock, Sort.ahead]
  refine ⟨⟨rfl, rfl, rfl, hz, fun k hk => ?_⟩, hz⟩
  unfold sortWorld
  rw [heap_grow_old _ _ (by simp [putRow, mapBlock, Sort.ahead]; omega)]
  unfold putRow mapBlock
  rw [Array.getElem?_modify, if_neg (by omega)]
  rfl
end Go.Pb.Bung
