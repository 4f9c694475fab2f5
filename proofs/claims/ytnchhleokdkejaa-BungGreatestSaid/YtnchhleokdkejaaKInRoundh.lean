/- A region in the body of a range over a function: what goes anywhere goes there, where nothing is deferred. -/
import Derived.Test.YtnchhleokdkejaaKSch
import Derived.OrdersIn
import Derived.RangeFuncCalls
import Derived.RangeFuncLeaves
import Derived.RangeFuncNested
import Derived.Deep.LoopGhost
import Derived.Shelf.SlSortCmp.SmallK
import Derived.Laws.CopyOwn
import Derived.Test.YtnchhleokdkejaaKLibh
namespace Go.Pb
set_option linter.unusedVariables false
open Go Go.RowKit
theorem oper_inRound {P : Program} {o : Oper} {a : Act} {w : World} {K : Act → World → Prop} {Q : Exit → Act → World → Prop} {l n : Nat} (hd : ∀ c, o.op ≠ .defer c) (h : o.wp P a w K Q) : o.wpIn (Fence.wide.inRound l) n P a w K Q := by
  refine ⟨fun _ _ => trivial, ?_⟩
  rw [Oper.semAt_eq _ _ _ hd]
  unfold Oper.wp at h
  generalize (execOp a.eval o).run P w = r at h ⊢
  cases r with
  | ok x w' =>
    cases x with
    | enter f args => exact ⟨fun h => by simp [Fence.wide] at h, CallsIn.inRound l (callsIn_wide.2 h)⟩
    | row r args => exact ⟨fun h => by simp [Fence.wide] at h, fun c cs hr => by obtain ⟨v, w', hR, hs⟩ := h c cs; exact ⟨v, w', hR, stepsIn_wide.2 hs⟩⟩
    | round _ _ _ _ _ => exact False.elim h
    | _ => exact h
  | halt x w' => cases x <;> exact h
theorem wpAny_inRound {P : Program} {md : Region.Mode} {ops : Array Oper} {Q : Exit → Act → World → Prop} {l n : Nat} (hd : ∀ (i : Nat) (o : Oper), ops[i]? = some o → ∀ c, o.op ≠ .defer c) (hL : ¬ LetsOut Q) : ∀ (fuel : Nat) (L : Array Bool) (a : Act) (w : World), wpAny P md ops Q fuel L a w → wpAnyIn (Fence.wide.inRound l) n P md ops Q fuel L a w
  | 0, L, a, w, h => h
  | fuel + 1, L, a, w, h => ⟨h.1, fun i hi => by
      have h2 := h.2 i hi
      unfold wpOp at h2
      unfold wpOpIn
      cases ho : ops[i]? with
      | none => rw [ho] at h2; exact wpAny_inRound hd hL fuel _ a w h2
      | some o =>
        rw [ho] at h2
        dsimp only at h2 ⊢
        by_cases hw : Region.wanted o (yielded ops a.tmps) = true
        · rw [if_pos hw] at h2 ⊢
          rcases h2 with h2 | h2
          · exact Oper.wpIn_mono (fun a w => wpAny_inRound hd hL fuel _ a w) (oper_inRound (hd i o ho) h2)
          · exact absurd h2.2 hL
        · rw [if_neg hw] at h2 ⊢
          exact ⟨fun _ _ => trivial, wpAny_inRound hd hL fuel _ _ w h2⟩⟩
end Go.Pb

/- A function in whose loop a range over a function stands: each round leaves a mark among the deferred calls; a region in the body of a range over a function. -/
namespace Go.Pb
set_option linter.unusedVariables false
open Go Go.RowKit
def marks (ds : List Nat) : List Deferred := ds.map fun D => { target := .collected D, args := #[] }
/-- Each of these blocks waits for the function's end. -/
def Waits (ds : List Nat) (W : World) : Prop := ds.Nodup ∧ ∀ D ∈ ds, W.heap[D]? = some (.deferred (some []))
/-- These blocks are shut; nothing else has changed. -/
structure Closed (ds : List Nat) (W W' : World) : Prop where
  os : W'.os = W.os
  tape : W'.tape = W.tape
  output : W'.output = W.output
  size : W'.heap.size = W.heap.size
  block : ∀ k, k ∉ ds → W'.heap[k]? = W.heap[k]?
theorem Waits.nil {W : World} : Waits [] W := ⟨List.nodup_nil, fun D h => by cases h⟩
theorem Waits.kept {ds : List Nat} {W W' : World} (h : Waits ds W) (hk : KeepsOthers W W') : Waits ds W' := ⟨h.1, fun D hD => hk.same D _ (h.2 D hD) rfl⟩
theorem Waits.below {ds : List Nat} {W W' : World} (h : Waits ds W) (hb : Below W.heap.size W W') : Waits ds W' := ⟨h.1, fun D hD => by
  rw [hb.block D (Array.getElem?_eq_some_iff.1 (h.2 D hD)).1]; exact h.2 D hD⟩
theorem Waits.lt {ds : List Nat} {W : World} (h : Waits ds W) {D : Nat} (hD : D ∈ ds) : D < W.heap.size := (Array.getElem?_eq_some_iff.1 (h.2 D hD)).1
theorem Waits.cons {ds : List Nat} {D : Nat} {W : World} (h : Waits ds W) (hD : W.heap[D]? = some (.deferred (some []))) (hn : D ∉ ds) : Waits (D :: ds) W := by
  refine ⟨List.nodup_cons.2 ⟨hn, h.1⟩, fun D' h' => ?_⟩
  rcases List.mem_cons.1 h' with e | h'
  · rw [e]; exact hD
  · exact h.2 D' h'
theorem Closed.cell {ds : List Nat} {W W' : World} (h : Closed ds W W') (hw : Waits ds W) {a : Addr} {v : Value} (hc : W.cell? a = some v) : W'.cell? a = some v := by
  have hn : a.block ∉ ds := fun hm => by
    have := hw.2 _ hm
    simp [World.cell?, this] at hc
  rw [World.cell?_of_block (w := W) (h.block _ hn)]; exact hc
theorem Closed.below {ds : List Nat} {W W' : World} (h : Closed ds W W') {B : Nat} (hd : ∀ D ∈ ds, B ≤ D) : Below B W W' :=
  ⟨h.os, h.tape, h.output, Nat.le_of_eq h.size.symm, fun k hk => h.block k fun hm => by have := hd k hm; omega⟩
theorem leaves_marks {P : Program} {F : Fence} {n : Nat} {fn : Func} {tmps : Array Value} {R : Ending → World → Prop} {u : FrameMode} (hu : u ≠ .run) : ∀ (ds : List Nat) (W : World), Waits ds W →
    (∀ W', Closed ds W W' → LeavesIn F n P fn tmps R [] u W') → LeavesInM F n P fn tmps R (marks ds) u W
  | [], W, _, h => h W ⟨rfl, rfl, rfl, rfl, fun _ _ => rfl⟩
  | D :: ds, W, hw, h => by
    have hD := hw.2 D (List.mem_cons_self ..)
    have hnd := List.nodup_cons.1 hw.1
    refine ⟨hu, .inl ⟨D, _, rfl, run_takeDeferred hD, ?_⟩⟩
    refine leaves_marks hu ds _ ⟨hnd.2, fun D' h' => ?_⟩ (fun W' hs => h W' ⟨hs.os, hs.tape, hs.output, ?_, fun k hk => ?_⟩)
    · rw [World.putObj_heap_other (fun (e : D' = D) => hnd.1 (e ▸ h'))]; exact hw.2 D' (List.mem_cons_of_mem _ h')
    · rw [hs.size]; simp
    · rw [hs.block k (fun hm => hk (List.mem_cons_of_mem _ hm))]
      exact World.putObj_heap_other (fun e => hk (e ▸ List.mem_cons_self ..))
/-- No operation defers. -/
def noDefer (l : List Oper) : Bool := l.all fun o => match o.op with | .defer _ => false | _ => true
theorem noDefer_ne {l : List Oper} (h : noDefer l = true) {i : Nat} {o : Oper} (ho : l.toArray[i]? = some o) : ∀ c, o.op ≠ .defer c := by
  intro c hc
  have hm : o ∈ l := List.mem_of_getElem? (by simpa using ho)
  have := List.all_eq_true.1 h o hm
  rw [hc] at this
  simp at this
/-- wp_region_F in the body of a range over a function. -/
theorem wpIn_region_F {P : Program} {id : Nat} {Q : Exit → Act → World → Prop} {a : Act} {w : World} {l : List Oper} {lv n : Nat} (hd : noDefer l = true) (fs : List Nat)
    (hF : (Region.noSelect l.toArray && firstB .any l.toArray fs (Array.replicate l.length false)) = true)
    (ps : List (Nat × (Value → World → Prop))) (hs : List Nat) (g : Nat) (hm : P.follows .mixedOrders = true)
    (hn : fs.length + (hs.length + g) = l.length) (hkeep : ∀ x ∈ ps, Keeps x.2)
    (hB : (groupB .any l.toArray (mark fs (Array.replicate l.length false)) hs && pairsB .any l.toArray ((ps.map (·.1)).contains ·) hs && plainsB l.toArray ((ps.map (·.1)).contains ·) hs) = true)
    (h : wpFirst P l.toArray fs (fun a => wpS P .any l.toArray w ((ps.map (·.1)).contains ·) (pOf ps) (fun Γ' a' => ∀ w', All w (pOf ps) Γ' w' → wpAny P .any l.toArray (Only Q) g (mark hs (mark fs (Array.replicate l.length false))) a' w') (numbered l.toArray hs) (fun _ => none) a) a) :
    (Code.region id l.toArray true).wpIn (Fence.wide.inRound lv) n P Q a w := by
  simp only [Bool.and_eq_true] at hF
  refine Go.wpIn_mono (Q := Only Q) (wpIn_region_any hm (wpAny_inRound (fun i o ho => noDefer_ne hd ho) (fun h => only_lets h) _ _ _ _ ?_)) (fun e a w h => by obtain ⟨rfl, h⟩ := h; exact h)
  have h1 := wpFirst_any (P := P) (Q := Q) (md := .any) hF.1 (w := w.drew) (n := hs.length + g) fs (Array.replicate l.length false) a hF.2 (fun a h => ?_) h
  · rw [hn] at h1
    simpa using h1
  · have h2 := wpR_of_wpS (fun k hk => by
      simp only [groupB, Bool.and_eq_true] at hB
      obtain ⟨_, hmem, _⟩ := orderB_spec hB.1.1.2
      exact (hmem k hk).2.2) h
    exact wpAny_R (P := P) (Q := Only Q) (w0 := w) (w := w.drew) (a := a) (ps.map (·.1)) hs g (pOf_keeps hkeep) hB (Below.refl _ w).drew h2
end Go.Pb

/- The lists of spots while one of them is being filled. -/
namespace Go.Pb.Sag
open Go Go.Pb Go.Pb.Ware Go.RowKit
set_option linter.unusedVariables false
/-- Of what was there, one cell of the block g alone has changed. -/
structure OutOnly (w1 : World) (g i : Nat) (W : World) : Prop where
  below : Below g w1 W
  seg : ∀ k, g < k → k < w1.heap.size → W.heap[k]? = w1.heap[k]?
  cells : ∀ j u, j ≠ i → w1.cell? ⟨g, j, none⟩ = some u → W.cell? ⟨g, j, none⟩ = some u
  frz : ∀ j u, w1.cell? ⟨g, j, none⟩ = some u → w1.frozen? ⟨g, j, none⟩ = false → W.frozen? ⟨g, j, none⟩ = false
theorem OutOnly.refl {w1 : World} {g i : Nat} : OutOnly w1 g i w1 := ⟨Below.refl _ _, fun _ _ _ => rfl, fun _ _ _ h => h, fun _ _ _ h => h⟩
theorem OutOnly.grown {w1 W W' : World} {g i : Nat} {row : Option Nat} (h : OutOnly w1 g i W) (hg : W.grownBy W' row) (hlt : g < w1.heap.size) (hr : ∀ r, row = some r → w1.heap.size ≤ r) : OutOnly w1 g i W' := by
  have hs := h.below.size
  have hb : W'.heap[g]? = W.heap[g]? := hg.block g (by omega) (fun e => by have := hr g e.symm; omega)
  refine ⟨h.below.grown hg (by omega) (fun k e => by have := hr k e; omega), fun k h1 h2 => ?_, fun j u hj hu => ?_, fun j u hu hf => ?_⟩
  · rw [hg.block k (by omega) (fun e => by have := hr k e.symm; omega)]; exact h.seg k h1 h2
  · rw [World.cell?_of_block (w := W) hb]; exact h.cells j u hj hu
  · rw [World.frozen?_of_block (a := ⟨g, j, none⟩) (w := W) hb]; exact h.frz j u hu hf
theorem OutOnly.next {w1 W W' : World} {g i : Nat} (h : OutOnly w1 g i W) (hlt : g < w1.heap.size) (hb : Below W.heap.size W W') : OutOnly w1 g i W' := h.grown (grown_of_below hb) hlt (fun r e => by cases e)
theorem OutOnly.set {w1 W : World} {g i : Nat} (h : OutOnly w1 g i W) (v : Value) : OutOnly w1 g i (W.setCell ⟨g, i, none⟩ v) :=
  ⟨h.below.setCell (p := ⟨g, i, none⟩) (Nat.le_refl _) v, fun k h1 h2 => by rw [Below.heap_setCell _ _ _ _ (by show k ≠ g; omega)]; exact h.seg k h1 h2, fun j u hj hu => setc_other (h.cells j u hj hu) hj, fun j u hu hf => by simp [go_sem, h.frz j u hu hf]⟩
theorem OutOnly.free {w1 W : World} {g i B o : Nat} {v : Value} (h : OutOnly w1 g i W) (hc : w1.cell? ⟨B, o, none⟩ = some v) (hf : w1.frozen? ⟨B, o, none⟩ = false) : W.frozen? ⟨B, o, none⟩ = false := by
  have hlt := World.block_lt_of_cell? w1 _ hc
  rcases Nat.lt_trichotomy B g with h1 | h1 | h1
  · rw [h.below.frozen (p := ⟨B, o, none⟩) h1]; exact hf
  · subst h1; exact h.frz o v hc hf
  · rw [World.frozen?_of_block (a := ⟨B, o, none⟩) (w := w1) (h.seg B (by omega) hlt)]; exact hf
/-- The list at i of the slice at g while it is being filled. -/
def Filling (w1 : World) (g i T : Nat) (l : List Sp) (W : World) : Prop := OutOnly w1 g i W ∧ ∃ v, (W.cell? ⟨g, i, none⟩ = some v ∧ W.frozen? ⟨g, i, none⟩ = false) ∧ W.ownsRow w1.heap.size T 4 v l.length (l.flatMap cellsA)
theorem own_cells {W : World} {base size n : Nat} {e : TypeId} {v : Value} {xs : List Value} (h : W.ownsRow base e size v n xs) : ∀ j o, v.ownBlock = some j → W.heap[j]? = some o → o.isCells = true := by
  intro j o ej hj
  rcases h.2 with ⟨rfl, _⟩ | ⟨g, cap, cur, rfl, _, hgb, _⟩
  · simp [Value.ownBlock] at ej
  · obtain rfl : g = j := by simpa [Value.ownBlock] using ej
    rw [hgb] at hj; cases hj; rfl
theorem grown_setc (W : World) (a : Addr) (v : Value) : W.grownBy (W.setCell a v) (some a.block) :=
  ⟨rfl, rfl, rfl, by simp, fun k _ hk => Below.heap_setCell _ _ _ k (fun e => hk (by rw [e]))⟩
/-- One spot more. -/
theorem Filling.push {w1 Wb w2 w3 : World} {g i T n : Nat} {l : List Sp} {x : Sp} {v v' c0 : Value} (hn : l.length = n) (hlt : g < w1.heap.size) (hc : w1.cell? ⟨g, i, none⟩ = some c0) (hf : w1.frozen? ⟨g, i, none⟩ = false) (hO : OutOnly w1 g i Wb) (c1 : Wb.cell? ⟨g, i, none⟩ = some v) (hb : Below Wb.heap.size Wb w2)
    (hown2 : w2.ownsRow w1.heap.size T 4 v n (l.flatMap cellsA)) (hg3 : w2.grownBy w3 v.ownBlock) (ho3 : w3.ownsRow w1.heap.size T 4 v' (n + 1) (l.flatMap cellsA ++ cellsA x)) :
    Filling w1 g i T (l ++ [x]) (w3.setCell ⟨g, i, none⟩ v') ∧ KeepsOthers Wb (w3.setCell ⟨g, i, none⟩ v') ∧ Wb.heap.size ≤ (w3.setCell ⟨g, i, none⟩ v').heap.size := by
  have hr : ∀ r, v.ownBlock = some r → w1.heap.size ≤ r := fun r e => (World.ownsRow.lt hown2 r e).1
  have hO4 := ((hO.next hlt hb).grown hg3 hlt hr).set v'
  have c3 : w3.cell? ⟨g, i, none⟩ = some v := grown_kept hg3 (bkeep hb c1) (fun e => by have := hr g e.symm; omega)
  refine ⟨⟨hO4, v', ⟨setc_same c3, hO4.frz i c0 hc hf⟩, ?_⟩, ((keeps_of_below hb).trans (KeepsOthers.of_grownBy hg3 (own_cells hown2))).trans (KeepsOthers.setCell _ _ _), ?_⟩
  · rw [List.length_append, List.length_singleton, hn, List.flatMap_append, show [x].flatMap cellsA = cellsA x by simp]
    exact ho3.kept (grown_setc w3 ⟨g, i, none⟩ v') (.inr fun e => by have := (World.ownsRow.lt ho3 g e).1; omega)
  · have := hb.size; have := hg3.size; simp; omega
end Go.Pb.Sag

/- Sorting feet: what the library's contract wants and gives, in the words of feet. -/
namespace Go.Pb.Sag
open Go Go.Pb Go.Pb.Ware Go.RowKit Go.Proofs Go.Sort
set_option linter.unusedVariables false
abbrev FtV := {f : Ft // FtOk f}
instance : Inhabited FtV := ⟨⟨⟨1, 1, 0, 0⟩, by unfold FtOk; simp⟩⟩
def encF (f : FtV) : List Value := cellsF f.1
theorem owns_frozen {w : World} {base size n g : Nat} {e : TypeId} {v : Value} {xs : List Value} (h : w.ownsRow base e size v n xs) (hg : v.ownBlock = some g) (o : Nat) : w.frozen? ⟨g, o, none⟩ = false := by
  rcases h.2 with ⟨rfl, _⟩ | ⟨g', cap, cur, rfl, _, hgb, _⟩
  · simp [Value.ownBlock] at hg
  · obtain rfl : g' = g := by simpa [Value.ownBlock] using hg
    simp [World.frozen?, hgb]
theorem below_sort {w : World} {B b m : Nat} {d : Array FtV} {os : Array Obj} (hb : B ≤ b) (hB : B ≤ w.heap.size) : Below B w (sortWorldK encF 4 w b 0 m d os) := by
  refine ⟨rfl, rfl, rfl, size_sortWorldK_c .., fun k hk => ?_⟩
  unfold sortWorldK
  rw [heap_grow_old _ _ (by simp [putRowK]; omega)]
  unfold putRowK putRow mapBlock
  rw [Array.getElem?_modify, if_neg (by omega)]
  rfl
end Go.Pb.Sag
namespace Go.Pb.Sag
open Go Go.Pb Go.Pb.Ware Go.RowKit
/-- Is there a packing? -/
def fitsB (s : Bx) (fs : List Ft) : Bool := !(shownL s fs).isEmpty
end Go.Pb.Sag

/- The plain mathematics of layer 2 (saggar): trouble of all kinds, reasons. -/
namespace Go.Pb.Sag
open Go Go.Pb Go.Pb.Ware Go.RowKit
set_option linter.unusedVariables false
/-- The indices below n. -/
def idxs (n : Nat) : List Int := (List.range n).map fun k : Nat => (k : Int)
theorem idxs_len (n : Nat) : (idxs n).length = n := by simp [idxs]
theorem idxs_at {n k : Nat} (h : k < n) : (idxs n)[k]? = some (k : Int) := by simp [idxs, h]
/-- The indices below k are written, the others are 0. -/
def IdxAt (B n k : Nat) (W : World) : Prop := ∀ j, j < n → W.cell? ⟨B, j, none⟩ = some (.int .i64 (if j < k then (j : Int) else 0)) ∧ W.frozen? ⟨B, j, none⟩ = false
theorem IdxAt.set {B n k : Nat} {W : World} (h : IdxAt B n k W) (hk : k < n) : IdxAt B n (k + 1) (W.setCell ⟨B, k, none⟩ (.int .i64 (k : Int))) := by
  intro j hj
  have h1 := h j hj
  refine ⟨?_, set_free h1.1 h1.2⟩
  by_cases e : j = k
  · subst e; rw [if_pos (by omega)]; exact setc_same h1.1
  · rw [setc_other h1.1 e]
    by_cases e2 : j < k
    · rw [if_pos e2, if_pos (by omega)]
    · rw [if_neg e2, if_neg (by omega)]
theorem IdxAt.nums {B n : Nat} {W : World} (h : IdxAt B n n W) (hn : n ≤ 1000) : NumsAt W (.slice (some ⟨B, 0, none⟩) n n) (idxs n) := by
  refine .inr ⟨⟨B, 0, none⟩, n, by rw [idxs_len], by rw [idxs_len]; exact Nat.le_refl _, by omega, fun k z hz => ?_⟩
  have hk : k < n := by have := (List.getElem?_eq_some_iff.1 hz).1; rwa [idxs_len] at this
  rw [idxs_at hk] at hz
  injection hz with hz
  subst hz
  have h1 := (h k hk).1
  rw [if_pos hk] at h1
  rw [Go.WideShapes.add_plain, Nat.zero_add]
  exact ⟨h1, I64.mk (by omega) (by omega)⟩
end Go.Pb.Sag

/- Putting items into groups: the search, and what it holds in memory. -/
namespace Go.Pb.Sag
open Go Go.Pb Go.Pb.Ware Go.RowKit
set_option linter.unusedVariables false
theorem find_here {α : Type} {f : Nat → Option α} {n k : Nat} {r : α} (hk : k < n) (h0 : ∀ j, j < k → f j = none) (h : f k = some r) : (List.range n).findSome? f = some r := by
  induction n generalizing k with
  | zero => omega
  | succ n ih =>
    rw [List.range_succ, List.findSome?_append]
    rcases Nat.lt_or_ge k n with h1 | h1
    · rw [ih h1 h0 h]; rfl
    · have e : k = n := by omega
      subst e
      rw [List.findSome?_eq_none_iff.2 (fun j hj => h0 j (List.mem_range.1 hj))]
      simp [h]
theorem find_no {α : Type} {f : Nat → Option α} {n : Nat} (h0 : ∀ j, j < n → f j = none) : (List.range n).findSome? f = none := List.findSome?_eq_none_iff.2 (fun j hj => h0 j (List.mem_range.1 hj))
/-- Groups of items below i: none is empty, and no two have the same first item. -/
structure Good (i : Nat) (gs : List (List Int)) : Prop where
  one : ∀ (k : Nat) (g : List Int), gs[k]? = some g → ∃ x, g[0]? = some x
  lt : ∀ g ∈ gs, ∀ z ∈ g, 0 ≤ z ∧ z < (i : Int)
  len : ∀ g ∈ gs, g.length ≤ i
  many : gs.length ≤ i
  apart : ∀ (j k : Nat) (g h : List Int) (x y : Int), j ≠ k → gs[j]? = some g → gs[k]? = some h → g[0]? = some x → h[0]? = some y → x ≠ y
theorem Good.nil : Good 0 [] := ⟨fun k g h => (by simp at h), fun g h => (by cases h), fun g h => (by cases h), Nat.le_refl _, fun j k g h x y _ h1 => (by simp at h1)⟩
theorem head_snoc {g : List Int} {x z : Int} (h : g[0]? = some x) : (g ++ [z])[0]? = some x := by
  cases g with
  | nil => simp at h
  | cons a l => simpa using h
theorem Good.push {i k : Nat} {gs : List (List Int)} {g : List Int} (h : Good i gs) (hg : gs[k]? = some g) : Good (i + 1) (gs.set k (g ++ [(i : Int)])) := by
  have hk : k < gs.length := (List.getElem?_eq_some_iff.1 hg).1
  have key : ∀ (j : Nat) (g' : List Int) (x : Int), (gs.set k (g ++ [(i : Int)]))[j]? = some g' → g'[0]? = some x → ∃ g0, gs[j]? = some g0 ∧ g0[0]? = some x := by
    intro j g' x h1 h2
    by_cases e : j = k
    · subst e
      rw [List.getElem?_set_self hk] at h1
      obtain rfl : g ++ [(i : Int)] = g' := by simpa using h1
      obtain ⟨y, hy⟩ := h.one j g hg
      rw [head_snoc hy] at h2
      exact ⟨g, hg, by rw [hy]; exact h2⟩
    · rw [List.getElem?_set_ne (Ne.symm e)] at h1
      exact ⟨g', h1, h2⟩
  refine ⟨fun j g' h1 => ?_, fun g' hm z hz => ?_, fun g' hm => ?_, by rw [List.length_set]; have := h.many; omega, fun j l g' h' x y hne h1 h2 h3 h4 => ?_⟩
  · by_cases e : j = k
    · subst e
      rw [List.getElem?_set_self hk] at h1
      obtain rfl : g ++ [(i : Int)] = g' := by simpa using h1
      obtain ⟨y, hy⟩ := h.one j g hg
      exact ⟨y, head_snoc hy⟩
    · rw [List.getElem?_set_ne (Ne.symm e)] at h1
      exact h.one j g' h1
  · rcases List.mem_or_eq_of_mem_set hm with h1 | rfl
    · have := h.lt g' h1 z hz; omega
    · rcases List.mem_append.1 hz with h1 | h1
      · have := h.lt g (List.mem_of_getElem? hg) z h1; omega
      · simp at h1; omega
  · rcases List.mem_or_eq_of_mem_set hm with h1 | rfl
    · have := h.len g' h1; omega
    · have := h.len g (List.mem_of_getElem? hg); rw [List.length_append, List.length_singleton]; omega
  · obtain ⟨a, ha, ha2⟩ := key j g' x h1 h3
    obtain ⟨b, hb, hb2⟩ := key l h' y h2 h4
    exact h.apart j l a b x y hne ha hb ha2 hb2
theorem Good.snoc {i : Nat} {gs : List (List Int)} (h : Good i gs) : Good (i + 1) (gs ++ [[(i : Int)]]) := by
  have key : ∀ (j : Nat) (g : List Int), (gs ++ [[(i : Int)]])[j]? = some g → (j < gs.length ∧ gs[j]? = some g) ∨ (j = gs.length ∧ g = [(i : Int)]) := by
    intro j g h1
    rcases Nat.lt_or_ge j gs.length with h2 | h2
    · rw [List.getElem?_append_left h2] at h1; exact .inl ⟨h2, h1⟩
    · rw [List.getElem?_append_right h2] at h1
      have h3 := (List.getElem?_eq_some_iff.1 h1).1
      simp at h3
      have e : j = gs.length := by omega
      subst e
      simp at h1
      exact .inr ⟨rfl, h1.symm⟩
  have low : ∀ (j : Nat) (g : List Int) (x : Int), gs[j]? = some g → g[0]? = some x → x < (i : Int) := fun j g x h1 h2 => (h.lt g (List.mem_of_getElem? h1) x (List.mem_of_getElem? h2)).2
  refine ⟨fun j g h1 => ?_, fun g hm z hz => ?_, fun g hm => ?_, by rw [List.length_append, List.length_singleton]; have := h.many; omega, fun j k g g' x y hne h1 h2 h3 h4 => ?_⟩
  · rcases key j g h1 with ⟨_, h2⟩ | ⟨_, rfl⟩
    · exact h.one j g h2
    · exact ⟨_, rfl⟩
  · rcases List.mem_append.1 hm with h1 | h1
    · have := h.lt g h1 z hz; omega
    · simp at h1; subst h1; simp at hz; omega
  · rcases List.mem_append.1 hm with h1 | h1
    · have := h.len g h1; omega
    · simp at h1; subst h1; simp
  · rcases key j g h1 with ⟨_, h5⟩ | ⟨e1, rfl⟩ <;> rcases key k g' h2 with ⟨_, h6⟩ | ⟨e2, rfl⟩
    · exact h.apart j k g g' x y hne h5 h6 h3 h4
    · have := low j g x h5 h3; simp at h4; omega
    · have := low k g' y h6 h4; simp at h3; omega
    · omega
theorem Good.mono {i j : Nat} {gs : List (List Int)} (h : Good i gs) (hij : i ≤ j) : Good j gs := ⟨h.one, fun g hm z hz => (by have := h.lt g hm z hz; omega), fun g hm => (by have := h.len g hm; omega), (by have := h.many; omega), h.apart⟩
/-- Two rows with different beginnings do not share a block. -/
theorem apart_heads {W : World} {b1 b2 T n1 n2 : Nat} {v u x y : Value} {xs ys : List Value} (h1 : W.ownsRow b1 T 1 v n1 xs) (h2 : W.ownsRow b2 T 1 u n2 ys) (hx : xs[0]? = some x) (hy : ys[0]? = some y) (hne : x ≠ y) : v.ownBlock = none ∨ v.ownBlock ≠ u.ownBlock := by
  rcases h1.2 with ⟨rfl, _⟩ | ⟨g, cap, cur, rfl, _, hg, _, _, _, ht⟩
  · exact .inl rfl
  · refine .inr fun e => ?_
    rcases h2.2 with ⟨rfl, _⟩ | ⟨g', cap', cur', rfl, _, hg', _, _, _, ht'⟩
    · simp [Value.ownBlock] at e
    · have e2 : g = g' := by simpa [Value.ownBlock] using e
      subst e2
      rw [hg] at hg'
      injection hg' with e3
      injection e3 with e3
      subst e3
      rw [← ht, List.getElem?_take] at hx
      rw [← ht', List.getElem?_take] at hy
      split at hx
      · split at hy
        · rw [hx] at hy; injection hy with hy; exact hne hy
        · cases hy
      · cases hx
/-- Rows of two types do not share a block. -/
theorem apart_types {W : World} {b1 b2 T1 T2 s1 s2 n1 n2 : Nat} {v u : Value} {xs ys : List Value} (h1 : W.ownsRow b1 T1 s1 v n1 xs) (h2 : W.ownsRow b2 T2 s2 u n2 ys) (hne : T1 ≠ T2) : v.ownBlock = none ∨ v.ownBlock ≠ u.ownBlock := by
  rcases h1.2 with ⟨rfl, _⟩ | ⟨g, cap, cur, rfl, _, hg, _⟩
  · exact .inl rfl
  · refine .inr fun e => ?_
    rcases h2.2 with ⟨rfl, _⟩ | ⟨g', cap', cur', rfl, _, hg', _⟩
    · simp [Value.ownBlock] at e
    · have e2 : g = g' := by simpa [Value.ownBlock] using e
      subst e2
      rw [hg] at hg'
      injection hg' with e3
      injection e3 with _ e4
      exact hne e4
theorem row_take {W : World} {lo T n m cap g : Nat} {xs : List Value} (h : W.ownsRow lo T 1 (.slice (some ⟨g, 0, none⟩) n cap) n xs) (hm : m ≤ n) : W.ownsRow lo T 1 (.slice (some ⟨g, 0, none⟩) m cap) m (xs.take m) := by
  refine ⟨by rw [List.length_take, h.1]; omega, ?_⟩
  rcases h.2 with ⟨h1, _⟩ | ⟨g', cap', cur, h1, h2, h3, h4, h5, h6, h7⟩
  · cases h1
  · injection h1 with e1 _ e2
    injection e1 with e1
    injection e1 with e1
    subst e1; subst e2
    refine .inr ⟨g, cap, cur, rfl, h2, h3, by omega, h5, h6, ?_⟩
    rw [← h7, List.take_take]
    congr 1; omega
theorem row_set {W : World} {lo T n cap g k : Nat} {xs : List Value} {v : Value} (h : W.ownsRow lo T 1 (.slice (some ⟨g, 0, none⟩) n cap) n xs) (hk : k < n) : (W.setCell ⟨g, k, none⟩ v).ownsRow lo T 1 (.slice (some ⟨g, 0, none⟩) n cap) n (xs.set k v) := by
  refine ⟨by rw [List.length_set]; exact h.1, ?_⟩
  rcases h.2 with ⟨h1, _⟩ | ⟨g', cap', cur, h1, h2, h3, h4, h5, h6, h7⟩
  · cases h1
  · injection h1 with e1 _ e2
    injection e1 with e1
    injection e1 with e1
    subst e1; subst e2
    refine .inr ⟨g, cap, cur.setIfInBounds k v, rfl, h2, ?_, h4, h5, by rw [Array.size_setIfInBounds]; exact h6, ?_⟩
    · rw [Go.Sort.setCell_eq]
      unfold Go.Sort.mapBlock
      rw [Array.getElem?_modify, if_pos rfl, h3]; rfl
    · rw [Array.toList_setIfInBounds, List.take_set, h7]
end Go.Pb.Sag

/- What putting items into groups holds in memory. -/
namespace Go.Pb.Sag
open Go Go.Pb Go.Pb.Ware Go.RowKit
set_option linter.unusedVariables false
def RowsIn (lo T : Nat) (W : World) (vs : List Value) (gs : List (List Int)) : Prop := ∀ (k : Nat) (v : Value) (g : List Int), vs[k]? = some v → gs[k]? = some g → W.ownsRow lo T 1 v g.length (g.map (Value.int .i64))
/-- The groups so far, in the field 8 of block G; all other memory of theirs lies behind G. -/
def PutAt (G TO TI : Nat) (gs : List (List Int)) (W : World) : Prop := ∃ (gv : Value) (vs : List Value), (W.cell? ⟨G, 8, none⟩ = some gv ∧ W.frozen? ⟨G, 8, none⟩ = false) ∧ W.ownsRow (G + 1) TO 1 gv gs.length vs ∧ RowsIn (G + 1) TI W vs gs
theorem PutAt.next {G TO TI : Nat} {gs : List (List Int)} {W W' : World} (h : PutAt G TO TI gs W) (hb : Below W.heap.size W W') : PutAt G TO TI gs W' := by
  obtain ⟨gv, vs, ⟨c1, c2⟩, ho, hr⟩ := h
  exact ⟨gv, vs, ⟨bkeep hb c1, bfree hb c1 c2⟩, owns_below ho hb, fun k v g h1 h2 => owns_below (hr k v g h1 h2) hb⟩
theorem own_ge {W : World} {lo T s n : Nat} {v : Value} {xs : List Value} (h : W.ownsRow lo T s v n xs) : ∀ b, v.ownBlock = some b → lo ≤ b := fun b e => (World.ownsRow.lt h b e).1
theorem set_own {W : World} {lo T s n B o : Nat} {v u : Value} {xs : List Value} (h : W.ownsRow lo T s v n xs) (hne : v.ownBlock = none ∨ v.ownBlock ≠ some B) : (W.setCell ⟨B, o, none⟩ u).ownsRow lo T s v n xs := h.kept (grown_setc W ⟨B, o, none⟩ u) hne
/-- What is there behind an append to the group k, ahead of its store. -/
theorem PutAt.push {G TO TI i k : Nat} (hT : TO ≠ TI) {gs : List (List Int)} {g : List Int} {W w2 w3 : World} {v v' : Value} {vs : List Value} {gb cap : Nat} (hG : Good i gs) (hg : gs[k]? = some g) (hv : vs[k]? = some v)
    (c8 : W.cell? ⟨G, 8, none⟩ = some (.slice (some ⟨gb, 0, none⟩) gs.length cap) ∧ W.frozen? ⟨G, 8, none⟩ = false) (ho : W.ownsRow (G + 1) TO 1 (.slice (some ⟨gb, 0, none⟩) gs.length cap) gs.length vs) (hr : RowsIn (G + 1) TI W vs gs)
    (hb : Below W.heap.size W w2) (hg3 : w2.grownBy w3 v.ownBlock) (ho3 : w3.ownsRow (G + 1) TI 1 v' (g.length + 1) (g.map (Value.int .i64) ++ [.int .i64 (i : Int)])) :
    (w3.cell? ⟨gb, k, none⟩ = some v ∧ w3.frozen? ⟨gb, k, none⟩ = false) ∧ PutAt G TO TI (gs.set k (g ++ [(i : Int)])) (w3.setCell ⟨gb, k, none⟩ v') ∧ Below (G + 1) W (w3.setCell ⟨gb, k, none⟩ v') := by
  have hk : k < gs.length := (List.getElem?_eq_some_iff.1 hg).1
  have hGW : G < W.heap.size := World.block_lt_of_cell? W _ c8.1
  have hrow := hr k v g hv hg
  have ho2 := owns_below ho hb
  have hrow2 := owns_below hrow hb
  have hgb : G + 1 ≤ gb := own_ge ho gb rfl
  have a1 : (Value.slice (some ⟨gb, 0, none⟩) gs.length cap).ownBlock = none ∨ (Value.slice (some ⟨gb, 0, none⟩) gs.length cap).ownBlock ≠ v.ownBlock := apart_types ho2 hrow2 hT
  have ho4 : w3.ownsRow (G + 1) TO 1 (.slice (some ⟨gb, 0, none⟩) gs.length cap) gs.length vs := ho2.kept hg3 a1
  have hlo : ∀ r, v.ownBlock = some r → G + 1 ≤ r := own_ge hrow
  have hbw : Below (G + 1) W w3 := (hb.mono (by omega)).grown hg3 (by have := hb.size; omega) hlo
  have a2 : some gb ≠ v.ownBlock := by rcases a1 with h | h; cases h; exact h
  have hcell : w3.cell? ⟨gb, k, none⟩ = some v := by
    have h1 := ho4.cells (g := gb) rfl k v hv
    rw [Go.WideShapes.add_plain, Nat.zero_add] at h1
    exact h1
  refine ⟨⟨hcell, owns_frozen ho4 rfl k⟩, ⟨.slice (some ⟨gb, 0, none⟩) gs.length cap, vs.set k v', ⟨?_, ?_⟩, ?_, ?_⟩, hbw.setCell (p := ⟨gb, k, none⟩) hgb v'⟩
  · exact setc_block ((hbw.cell (p := ⟨G, 8, none⟩) (by simp)).trans c8.1) (by omega)
  · exact set_free ((hbw.cell (p := ⟨G, 8, none⟩) (by simp)).trans c8.1) ((hbw.frozen (p := ⟨G, 8, none⟩) (by simp)).trans c8.2)
  · rw [List.length_set]; exact row_set ho4 hk
  · intro j u g' hu hg'
    have hts : ∀ {u : Value} {n : Nat} {xs : List Value}, w3.ownsRow (G + 1) TI 1 u n xs → u.ownBlock = none ∨ u.ownBlock ≠ some gb := fun h => apart_types h ho4 (Ne.symm hT)
    by_cases e : j = k
    · subst e
      have hvl : j < vs.length := (List.getElem?_eq_some_iff.1 hv).1
      rw [List.getElem?_set_self hvl] at hu
      rw [List.getElem?_set_self hk] at hg'
      obtain rfl : v' = u := by simpa using hu
      obtain rfl : g ++ [(i : Int)] = g' := by simpa using hg'
      have h1 := set_own (o := j) (u := v') ho3 (hts ho3)
      simpa using h1
    · rw [List.getElem?_set_ne (Ne.symm e)] at hu hg'
      have hj := hr j u g' hu hg'
      obtain ⟨x, hx⟩ := hG.one j g' hg'
      obtain ⟨y, hy⟩ := hG.one k g hg
      have hxy := hG.apart j k g' g x y e hg' hg hx hy
      have h1 : (g'.map (Value.int .i64))[0]? = some (.int .i64 x) := by rw [List.getElem?_map, hx]; rfl
      have h2 : (g.map (Value.int .i64))[0]? = some (.int .i64 y) := by rw [List.getElem?_map, hy]; rfl
      have h3 := (owns_below hj hb).kept hg3 (apart_heads (owns_below hj hb) hrow2 h1 h2 (fun h => hxy (by injection h)))
      exact set_own h3 (hts h3)
/-- The group k is cut back to g. -/
theorem PutAt.pop {G TO TI i k : Nat} (hT : TO ≠ TI) {gs : List (List Int)} {g : List Int} {W : World} {gb gcap b cap n : Nat} {vs : List Value} (hgs : gs[k]? = some g) (hn : gs.length = n)
    (c8 : W.cell? ⟨G, 8, none⟩ = some (.slice (some ⟨gb, 0, none⟩) n gcap) ∧ W.frozen? ⟨G, 8, none⟩ = false) (ho : W.ownsRow (G + 1) TO 1 (.slice (some ⟨gb, 0, none⟩) n gcap) n vs) (hr : RowsIn (G + 1) TI W vs (gs.set k (g ++ [(i : Int)])))
    (hv : vs[k]? = some (.slice (some ⟨b, 0, none⟩) (g.length + 1) cap)) :
    PutAt G TO TI gs (W.setCell ⟨gb, k, none⟩ (.slice (some ⟨b, 0, none⟩) g.length cap)) ∧ Below (G + 1) W (W.setCell ⟨gb, k, none⟩ (.slice (some ⟨b, 0, none⟩) g.length cap)) := by
  subst hn
  have hk : k < gs.length := (List.getElem?_eq_some_iff.1 hgs).1
  have hgb : G + 1 ≤ gb := own_ge ho gb rfl
  have hts : ∀ {u : Value} {n : Nat} {xs : List Value}, W.ownsRow (G + 1) TI 1 u n xs → u.ownBlock = none ∨ u.ownBlock ≠ some gb := fun h => apart_types h ho (Ne.symm hT)
  refine ⟨⟨.slice (some ⟨gb, 0, none⟩) gs.length gcap, vs.set k (.slice (some ⟨b, 0, none⟩) g.length cap), ⟨setc_block c8.1 (by omega), set_free c8.1 c8.2⟩, row_set ho hk, ?_⟩, (Below.refl _ _).setCell (p := ⟨gb, k, none⟩) hgb _⟩
  intro j u g' hu hg'
  by_cases e : j = k
  · subst e
    have hvl : j < vs.length := (List.getElem?_eq_some_iff.1 hv).1
    rw [List.getElem?_set_self hvl] at hu
    rw [hgs] at hg'
    obtain rfl : Value.slice (some ⟨b, 0, none⟩) g.length cap = u := by simpa using hu
    obtain rfl : g = g' := by simpa using hg'
    have h1 := hr j _ _ hv (List.getElem?_set_self hk)
    rw [List.length_append, List.length_singleton] at h1
    have h2 := row_take (m := g.length) h1 (by omega)
    rw [List.map_append, List.take_append_of_le_length (by simp), List.take_of_length_le (by simp)] at h2
    exact set_own h2 (hts h2)
  · rw [List.getElem?_set_ne (Ne.symm e)] at hu
    have h1 := hr j u g' hu (by rw [List.getElem?_set_ne (Ne.symm e)]; exact hg')
    exact set_own h1 (hts h1)
/-- A new group. -/
theorem PutAt.grow {G TO TI i n : Nat} (hT : TO ≠ TI) {gs : List (List Int)} {W w3 : World} {gv gv' : Value} {vs : List Value} (hG : Good i gs) (hn : gs.length = n)
    (c8 : W.cell? ⟨G, 8, none⟩ = some gv ∧ W.frozen? ⟨G, 8, none⟩ = false) (ho : W.ownsRow (G + 1) TO 1 gv n vs) (hr : RowsIn (G + 1) TI W vs gs)
    (hg3 : ((W.alloc (.cells #[.int .i64 (i : Int)] TI)).alloc (.cells #[.slice (some ⟨W.heap.size, 0, none⟩) 1 1] TO)).grownBy w3 gv.ownBlock) (ho3 : w3.ownsRow (G + 1) TO 1 gv' (n + 1) (vs ++ [.slice (some ⟨W.heap.size, 0, none⟩) 1 1])) :
    (w3.cell? ⟨G, 8, none⟩ = some gv ∧ w3.frozen? ⟨G, 8, none⟩ = false) ∧ PutAt G TO TI (gs ++ [[(i : Int)]]) (w3.setCell ⟨G, 8, none⟩ gv') ∧ Below (G + 1) W w3 := by
  subst hn
  have hGW : G < W.heap.size := World.block_lt_of_cell? W _ c8.1
  have hb : Below W.heap.size W ((W.alloc (.cells #[.int .i64 (i : Int)] TI)).alloc (.cells #[.slice (some ⟨W.heap.size, 0, none⟩) 1 1] TO)) := ((Below.refl _ W).alloc (Nat.le_refl _) _).alloc (by simp) _
  have hbw : Below (G + 1) W w3 := (hb.mono (by omega)).grown hg3 (by simp; omega) (own_ge ho)
  have hG8 : w3.cell? ⟨G, 8, none⟩ = some gv ∧ w3.frozen? ⟨G, 8, none⟩ = false := ⟨(hbw.cell (p := ⟨G, 8, none⟩) (by simp)).trans c8.1, (hbw.frozen (p := ⟨G, 8, none⟩) (by simp)).trans c8.2⟩
  have far : ∀ {T n : Nat} {v : Value} {xs : List Value}, w3.ownsRow (G + 1) T 1 v n xs → v.ownBlock = none ∨ v.ownBlock ≠ some G := fun h => .inr fun e => by have := own_ge h G e; omega
  have hvl : vs.length = gs.length := by have := ho.1; omega
  refine ⟨hG8, ⟨gv', vs ++ [.slice (some ⟨W.heap.size, 0, none⟩) 1 1], ⟨setc_same hG8.1, set_free hG8.1 hG8.2⟩, ?_, ?_⟩, hbw⟩
  · rw [List.length_append, List.length_singleton]; exact set_own ho3 (far ho3)
  · intro k v g hv hg
    rcases Nat.lt_or_ge k gs.length with h1 | h1
    · rw [List.getElem?_append_left (by omega)] at hv
      rw [List.getElem?_append_left h1] at hg
      have h2 := owns_below (hr k v g hv hg) hb
      have h3 := h2.kept hg3 (apart_types h2 (owns_below ho hb) (Ne.symm hT))
      exact set_own h3 (far h3)
    · rw [List.getElem?_append_right (by omega), hvl] at hv
      rw [List.getElem?_append_right h1] at hg
      have h4 := (List.getElem?_eq_some_iff.1 hg).1
      simp at h4
      have e : k = gs.length := by omega
      subst e
      simp at hv hg
      subst hv; subst hg
      have h2 : ((W.alloc (.cells #[.int .i64 (i : Int)] TI)).alloc (.cells #[.slice (some ⟨W.heap.size, 0, none⟩) 1 1] TO)).ownsRow (G + 1) TI 1 (.slice (some ⟨W.heap.size, 0, none⟩) 1 1) 1 [.int .i64 (i : Int)] := by
        refine ⟨rfl, .inr ⟨W.heap.size, 1, #[.int .i64 (i : Int)], rfl, by omega, ?_, Nat.le_refl _, by unfold maxLen; omega, rfl, rfl⟩⟩
        rw [Below.heap_alloc _ _ _ (by simp)]
        exact World.alloc_heap_new W _
      have h3 := h2.kept hg3 (apart_types h2 (owns_below ho hb) (Ne.symm hT))
      exact set_own h3 (far h3)
/-- The last group is taken away. -/
theorem PutAt.shrink {G TO TI n gb cap : Nat} {gs : List (List Int)} {g : List Int} {W : World} {vs : List Value} (hn : gs.length = n)
    (c8 : W.cell? ⟨G, 8, none⟩ = some (.slice (some ⟨gb, 0, none⟩) (n + 1) cap) ∧ W.frozen? ⟨G, 8, none⟩ = false) (ho : W.ownsRow (G + 1) TO 1 (.slice (some ⟨gb, 0, none⟩) (n + 1) cap) (n + 1) vs) (hr : RowsIn (G + 1) TI W vs (gs ++ [g])) :
    PutAt G TO TI gs (W.setCell ⟨G, 8, none⟩ (.slice (some ⟨gb, 0, none⟩) n cap)) := by
  subst hn
  have far : ∀ {T n : Nat} {v : Value} {xs : List Value}, W.ownsRow (G + 1) T 1 v n xs → v.ownBlock = none ∨ v.ownBlock ≠ some G := fun h => .inr fun e => by have := own_ge h G e; omega
  have h1 := row_take (m := gs.length) ho (by omega)
  refine ⟨.slice (some ⟨gb, 0, none⟩) gs.length cap, vs.take gs.length, ⟨setc_same c8.1, set_free c8.1 c8.2⟩, set_own h1 (far h1), ?_⟩
  intro k v g' hv hg
  have hk : k < gs.length := (List.getElem?_eq_some_iff.1 hg).1
  rw [List.getElem?_take, if_pos hk] at hv
  have h2 := hr k v g' hv (by rw [List.getElem?_append_left hk]; exact hg)
  exact set_own h2 (far h2)
/-- The other fields of block G. -/
def GAt (G : Nat) (gc : List Value) (W : World) : Prop := ∀ o u, gc[o]? = some u → W.cell? ⟨G, o, none⟩ = some u ∧ W.frozen? ⟨G, o, none⟩ = false
theorem GAt.below {G : Nat} {gc : List Value} {W W' : World} (h : GAt G gc W) (hb : Below (G + 1) W W') : GAt G gc W' := fun o u hu => ⟨(hb.cell (p := ⟨G, o, none⟩) (by simp)).trans (h o u hu).1, (hb.frozen (p := ⟨G, o, none⟩) (by simp)).trans (h o u hu).2⟩
theorem GAt.set {G : Nat} {gc : List Value} {W : World} {v : Value} (h : GAt G gc W) (hl : gc.length ≤ 8) : GAt G gc (W.setCell ⟨G, 8, none⟩ v) := fun o u hu => ⟨setc_other (h o u hu).1 (by have := (List.getElem?_eq_some_iff.1 hu).1; omega), set_free (h o u hu).1 (h o u hu).2⟩
theorem own_some {W : World} {lo T s n : Nat} {v : Value} {xs : List Value} (h : W.ownsRow lo T s v n xs) (hn : 0 < n) : ∃ g cap, v = .slice (some ⟨g, 0, none⟩) n cap ∧ n ≤ cap ∧ cap ≤ 9223372036854775807 := by
  rcases h.2 with ⟨_, h0⟩ | ⟨g, cap, _, rfl, _, _, h4, h5, _⟩
  · omega
  · exact ⟨g, cap, rfl, h4, by unfold maxLen at h5; omega⟩
end Go.Pb.Sag

/- Groups: copies of them, and how many are enough. -/
namespace Go.Pb.Sag
open Go Go.Pb Go.Pb.Ware Go.RowKit
set_option linter.unusedVariables false
theorem copy_owns {w : World} {lo T B m : Nat} {cur : Array Value} {cs : List Value} (hg : w.heap[B]? = some (.cells cur T (0, 0))) (hlo : lo ≤ B) (hs : cur.size = m) (hm : m ≤ maxLen) (hc : cs.length = m) :
    (w.setRow B (cur.toList.take 0 ++ (cs ++ cur.toList.drop (0 + cs.length))).toArray).ownsRow lo T 1 (.slice (some ⟨B, 0, none⟩) m m) m cs := by
  have e : cur.toList.take 0 ++ (cs ++ cur.toList.drop (0 + cs.length)) = cs := by
    rw [List.take_zero, List.nil_append, Nat.zero_add, List.drop_of_length_le (by rw [Array.length_toList]; omega), List.append_nil]
  rw [e]
  refine ⟨by omega, .inr ⟨B, m, cs.toArray, rfl, hlo, setRow_heap w B cur _ T (0, 0) hg, Nat.le_refl _, hm, by simp; omega, ?_⟩⟩
  rw [Nat.mul_one, List.take_of_length_le (by simp; omega)]
theorem find_some {α : Type} {f : Nat → Option α} {n : Nat} {r : α} (h : (List.range n).findSome? f = some r) : ∃ k, k < n ∧ f k = some r := by
  obtain ⟨k, hk, h2⟩ := List.exists_of_findSome?_eq_some h
  exact ⟨k, List.mem_range.1 hk, h2⟩
end Go.Pb.Sag

/- The chapter's example, by the plain mathematics. -/
namespace Go.Pb.Sag
open Go Go.Pb Go.Pb.Ware Go.RowKit
def exS : Bx := ⟨1, 3, 2, 110, 100, 3000⟩
theorem ex_first : (shownL exS [⟨2, 1, 30, 500⟩, ⟨2, 1, 30, 500⟩, ⟨1, 1, 92, 420⟩])[0]? = some [⟨0, 0, false⟩, ⟨0, 2, true⟩, ⟨1, 0, false⟩] := by decide +kernel
end Go.Pb.Sag

/- What the laws' inputs are: shapes that are well made, items of one piece of them. -/
namespace Go.Pb.Sag
open Go Go.Pb Go.Pb.Ware Go.RowKit
set_option linter.unusedVariables false
/-- Shapes with the numbers 1, 2, .. -/
def GoodS (ss : List (List Int)) : Prop := ss.length ≤ 40 ∧ ∀ (k : Nat) r, ss[k]? = some r → r.length = 11 ∧ r.getD 0 0 = (k : Int) + 1 ∧ okS r = true
end Go.Pb.Sag

/- What making a floor holds in memory. -/
namespace Go.Pb.Sag
open Go Go.Pb Go.Pb.Ware Go.RowKit
set_option linter.unusedVariables false
theorem cells_store {W : World} {B o : Nat} {u : Value} {vs : List Value} (h : CellsAt W B vs) : CellsAt (W.setCell ⟨B, o, none⟩ u) B (vs.set o u) := by
  intro j v hv
  by_cases hj : j = o
  · subst hj
    have hl : j < vs.length := by have := (List.getElem?_eq_some_iff.1 hv).1; simpa using this
    rw [List.getElem?_set_self hl] at hv
    injection hv with hv
    subst hv
    have h1 := h j _ (List.getElem?_eq_getElem hl)
    exact ⟨setc_same h1.1, set_free h1.1 h1.2⟩
  · rw [List.getElem?_set_ne (Ne.symm hj)] at hv
    have h1 := h j v hv
    exact ⟨setc_other h1.1 hj, set_free h1.1 h1.2⟩
theorem cells_grown {W W' : World} {B : Nat} {vs : List Value} {row : Option Nat} (h : CellsAt W B vs) (hg : W.grownBy W' row) (hne : some B ≠ row) : CellsAt W' B vs :=
  fun o v hv => ⟨grown_kept hg (h o v hv).1 hne, grown_free hg (h o v hv).1 (h o v hv).2 hne⟩
def Z9 : List Value := [.slice none 0 0, .slice none 0 0, .int .i64 0, .int .i64 0, .int .i64 0, .int .i64 0, .int .i64 0, .int .i64 0, .slice none 0 0]
/-- The argument's block, the answer's, the floor's (with shapes and items that are the call's own). -/
structure MadeAt (TS TI B : Nat) (w : World) (args : List Value) (c : List Int) (sv iv : Value) (ss : List (List Int)) (xs : List It) (W : World) : Prop where
  below : Below B w W
  size : B + 1 + 1 + 1 ≤ W.heap.size
  arg : CellsAt W B args
  res : CellsAt W (B + 1) Z9
  floor : CellsAt W (B + 1 + 1) (sv :: .slice none 0 0 :: (c.map (Value.int .i64) ++ [iv]))
  clen : c.length = 6
  shapes : W.ownsRow (B + 1 + 1 + 1) TS 11 sv ss.length (ss.flatten.map (Value.int .i64))
  items : W.ownsRow (B + 1 + 1 + 1) TI 3 iv xs.length ((xs.map rowX).flatten.map (Value.int .i64))
theorem MadeAt.next {TS TI B : Nat} {w W W' : World} {args : List Value} {c : List Int} {sv iv : Value} {ss : List (List Int)} {xs : List It} (h : MadeAt TS TI B w args c sv iv ss xs W) (hb : Below W.heap.size W W') : MadeAt TS TI B w args c sv iv ss xs W' :=
  ⟨h.below.trans (hb.mono (by have := h.size; omega)), by have := hb.size; have := h.size; omega, h.arg.below hb, h.res.below hb, h.floor.below hb, h.clen, owns_below h.shapes hb, owns_below h.items hb⟩
theorem own_ne {W : World} {lo T s n b : Nat} {v : Value} {xs : List Value} (h : W.ownsRow lo T s v n xs) (hb : b < lo) : some b ≠ v.ownBlock := fun e => by
  have := own_ge h b e.symm; omega
theorem own_ne' {W : World} {lo T s n b : Nat} {v : Value} {xs : List Value} (h : W.ownsRow lo T s v n xs) (hb : b < lo) : v.ownBlock = none ∨ v.ownBlock ≠ some b := .inr fun e => own_ne h hb e.symm
/-- One shape more, and its store. -/
theorem MadeAt.push {TS TI B : Nat} {w W W' : World} {args : List Value} {c : List Int} {sv sv' iv : Value} {ss : List (List Int)} {xs : List It} {r : List Int} (h : MadeAt TS TI B w args c sv iv ss xs W) (hT : TI ≠ TS) (hg : W.grownBy W' sv.ownBlock)
    (ho : W'.ownsRow (B + 1 + 1 + 1) TS 11 sv' (ss.length + 1) (ss.flatten.map (Value.int .i64) ++ r.map (Value.int .i64))) : MadeAt TS TI B w args c sv' iv (ss ++ [r]) xs (W'.setCell ⟨B + 1 + 1, 0, none⟩ sv') := by
  have h0 := h.size
  have e1 : (ss ++ [r]).length = ss.length + 1 := by simp
  have e2 : (ss ++ [r]).flatten.map (Value.int .i64) = ss.flatten.map (Value.int .i64) ++ r.map (Value.int .i64) := by simp
  refine ⟨(Pb.below_grown h.below hg h.shapes (by omega) (by omega)).setCell (p := ⟨B + 1 + 1, 0, none⟩) (by show B ≤ B + 1 + 1; omega) _, by have := hg.size; simp; omega, (cells_grown h.arg hg (own_ne h.shapes (by omega))).other (by omega) _, (cells_grown h.res hg (own_ne h.shapes (by omega))).other (by omega) _, ?_, h.clen, ?_, ?_⟩
  · exact cells_store (cells_grown h.floor hg (own_ne h.shapes (by omega)))
  · rw [e1, e2]; exact set_own ho (own_ne' ho (by omega))
  · exact set_own (h.items.kept hg (apart_types h.items h.shapes hT)) (own_ne' h.items (by omega))
/-- One item more, and its store. -/
theorem MadeAt.add {TS TI B : Nat} {w W W' : World} {args : List Value} {c : List Int} {sv iv iv' : Value} {ss : List (List Int)} {xs : List It} {x : It} (h : MadeAt TS TI B w args c sv iv ss xs W) (hT : TS ≠ TI) (hg : W.grownBy W' iv.ownBlock)
    (ho : W'.ownsRow (B + 1 + 1 + 1) TI 3 iv' (xs.length + 1) ((xs.map rowX).flatten.map (Value.int .i64) ++ (rowX x).map (Value.int .i64))) : MadeAt TS TI B w args c sv iv' ss (xs ++ [x]) (W'.setCell ⟨B + 1 + 1, 8, none⟩ iv') := by
  have h0 := h.size
  have e1 : (xs ++ [x]).length = xs.length + 1 := by simp
  have e2 : ((xs ++ [x]).map rowX).flatten.map (Value.int .i64) = (xs.map rowX).flatten.map (Value.int .i64) ++ (rowX x).map (Value.int .i64) := by simp
  refine ⟨(Pb.below_grown h.below hg h.items (by omega) (by omega)).setCell (p := ⟨B + 1 + 1, 8, none⟩) (by show B ≤ B + 1 + 1; omega) _, by have := hg.size; simp; omega, (cells_grown h.arg hg (own_ne h.items (by omega))).other (by omega) _, (cells_grown h.res hg (own_ne h.items (by omega))).other (by omega) _, ?_, h.clen, ?_, ?_⟩
  · have h1 := cells_store (o := 8) (u := iv') (cells_grown h.floor hg (own_ne h.items (by omega)))
    match c, h.clen, h1 with
    | [c1, c2, c3, c4, c5, c6], _, h1 => exact h1
  · exact set_own (h.shapes.kept hg (apart_types h.shapes h.items hT)) (own_ne' h.shapes (by omega))
  · rw [e1, e2]; exact set_own ho (own_ne' ho (by omega))
theorem own_set {W : World} {lo T n s cap g k : Nat} {xs : List Value} {v : Value} (h : W.ownsRow lo T s (.slice (some ⟨g, 0, none⟩) n cap) n xs) : (W.setCell ⟨g, k, none⟩ v).ownsRow lo T s (.slice (some ⟨g, 0, none⟩) n cap) n (xs.set k v) := by
  refine ⟨by rw [List.length_set]; exact h.1, ?_⟩
  rcases h.2 with ⟨h1, _⟩ | ⟨g', cap', cur, h1, h2, h3, h4, h5, h6, h7⟩
  · cases h1
  · injection h1 with e1 _ e2
    injection e1 with e1
    injection e1 with e1
    subst e1; subst e2
    refine .inr ⟨g, cap, cur.setIfInBounds k v, rfl, h2, ?_, h4, h5, by rw [Array.size_setIfInBounds]; exact h6, ?_⟩
    · rw [Go.Sort.setCell_eq]
      unfold Go.Sort.mapBlock
      rw [Array.getElem?_modify, if_pos rfl, h3]; rfl
    · rw [Array.toList_setIfInBounds, List.take_set, h7]
theorem MadeAt.lt {TS TI B : Nat} {w W : World} {args : List Value} {c : List Int} {sv iv : Value} {ss : List (List Int)} {xs : List It} (h : MadeAt TS TI B w args c sv iv ss xs W) : (∀ a, sv.ownBlock = some a → a < W.heap.size) ∧ ∀ a, iv.ownBlock = some a → a < W.heap.size :=
  ⟨fun a e => (World.ownsRow.lt h.shapes a e).2, fun a e => (World.ownsRow.lt h.items a e).2⟩
theorem goodS_i64 {ss : List (List Int)} (h : GoodS ss) : ∀ r ∈ ss, r.length = 11 ∧ ∀ z ∈ r, I64 z := by
  intro r hr
  obtain ⟨k, hk⟩ := List.getElem?_of_mem hr
  obtain ⟨h1, _, h3⟩ := h.2 k r hk
  refine ⟨h1, ?_⟩
  obtain ⟨a0, a1, a2, a3, a4, a5, a6, a7, a8, a9, a10, rfl⟩ := len11 h1
  have h4 := shOk_iff.1 h3
  simp only [shR, List.getD_cons_zero, List.getD_cons_succ] at h4
  intro z hz
  simp only [List.mem_cons, List.not_mem_nil, or_false] at hz
  rcases hz with rfl | rfl | rfl | rfl | rfl | rfl | rfl | rfl | rfl | rfl | rfl <;> exact I64.mk (by omega) (by omega)
theorem MadeAt.rows {TS TI B : Nat} {w W : World} {args : List Value} {c : List Int} {sv iv : Value} {ss : List (List Int)} {xs : List It} (h : MadeAt TS TI B w args c sv iv ss xs W) (hg : GoodS ss) : RowsAt 11 W sv ss :=
  rowsAt_of_owns (rows := ss) (fun r hr => (goodS_i64 hg r hr).1) h.shapes (fun r hr => (goodS_i64 hg r hr).2)
end Go.Pb.Sag

/- Loads and answers of courses, by plain maths; what a round must keep. -/
namespace Go.Pb.Bung
open Go Go.Pb Go.Pb.Ware Go.RowKit
set_option linter.unusedVariables false
set_option linter.unusedSimpArgs false
/-- The blocks of which p says so lie as they lay. -/
def KeepP (p : Nat → Prop) (W W' : World) : Prop := W.heap.size ≤ W'.heap.size ∧ ∀ k, p k → k < W.heap.size → W'.heap[k]? = W.heap[k]?
theorem KeepP.refl {p : Nat → Prop} {W : World} : KeepP p W W := ⟨Nat.le_refl _, fun _ _ _ => rfl⟩
theorem KeepP.trans {p : Nat → Prop} {A B C : World} (h : KeepP p A B) (k : KeepP p B C) : KeepP p A C := ⟨Nat.le_trans h.1 k.1, fun i hp hi => (k.2 i hp (Nat.lt_of_lt_of_le hi h.1)).trans (h.2 i hp hi)⟩
theorem KeepP.of_below {p : Nat → Prop} {W W' : World} (h : Below W.heap.size W W') : KeepP p W W' := ⟨h.size, fun k _ hk => h.block k hk⟩
theorem KeepP.set {p : Nat → Prop} {W : World} {a : Addr} {v : Value} (h : ¬ p a.block) : KeepP p W (W.setCell a v) := ⟨(KeepsWalks.setCell W _ v).size, fun k h1 _ => Below.heap_setCell _ _ _ k (fun e => h (e ▸ h1))⟩
theorem KeepP.put {p : Nat → Prop} {W : World} {l : Nat} {o' : Obj} (h : ¬ p l) : KeepP p W (W.putObj l o') := ⟨by rw [World.putObj_size]; exact Nat.le_refl _, fun k h1 _ => World.putObj_heap_other (fun e => h (e ▸ h1))⟩
theorem KeepP.cell {p : Nat → Prop} {W W' : World} (h : KeepP p W W') {a : Addr} (hp : p a.block) {v : Value} (hv : W.cell? a = some v) : W'.cell? a = some v := by
  have hlt := World.block_lt_of_cell? W a hv
  unfold World.cell? at hv ⊢
  rw [h.2 _ hp hlt]
  exact hv
/-- Of a slice's memory p says so. -/
def InP (p : Nat → Prop) (v : Value) : Prop := ∀ a n c, v = .slice (some a) n c → p a.block
theorem rows_keepP {p : Nat → Prop} {n : Nat} {W W' : World} {v : Value} {rows : List (List Int)} (h : RowsAt n W v rows) (hp : rows ≠ [] → InP p v) (hk : KeepP p W W') : RowsAt n W' v rows := by
  rcases h with h | ⟨a, cap, h1, h2, h3, h4⟩
  · exact .inl h
  · exact .inr ⟨a, cap, h1, h2, h3, fun k r hr => ⟨(h4 k r hr).1, fun j z hz => ⟨hk.cell (a := a.add (k * n + j)) (by
      have : (a.add (k * n + j)).block = a.block := by unfold Addr.add; split <;> rfl
      rw [this]; exact hp (fun e => by rw [e] at hr; simp at hr) a _ cap h1) ((h4 k r hr).2 j z hz).1, ((h4 k r hr).2 j z hz).2⟩⟩⟩
def sgV (s : Sg) : Value := .agg (cellsG s).toArray
/-- What stands on the course i weighs. -/
def loadL (l : List Sg) (i : Nat) : Int := ((l.drop (i + 1)).map (·.wl)).sum
def loadH (l : List Sg) (i : Nat) : Int := ((l.drop (i + 1)).map (·.wh)).sum
def ansS (s : Sg) (lo hi : Int) : Int := if hi ≤ s.bl then 1 else if lo > s.bh then 0 else 2
def ansL (l : List Sg) (i : Nat) : Int := ansS (l.getD i default) (loadL l i) (loadH l i)
theorem load_small {l : List Sg} (h : ∀ s ∈ l, 0 ≤ s.wl ∧ s.wl ≤ 10000000 ∧ 0 ≤ s.wh ∧ s.wh ≤ 10000000) (i : Nat) : 0 ≤ loadL l i ∧ loadL l i ≤ 10000000 * l.length ∧ 0 ≤ loadH l i ∧ loadH l i ≤ 10000000 * l.length := by
  have key : ∀ (f : Sg → Int) (m : List Sg), (∀ s ∈ m, 0 ≤ f s ∧ f s ≤ 10000000) → 0 ≤ (m.map f).sum ∧ (m.map f).sum ≤ 10000000 * m.length := by
    intro f m hm
    induction m with
    | nil => simp
    | cons s m ih =>
      have h1 := hm s (List.mem_cons_self ..)
      have h2 := ih fun x hx => hm x (List.mem_cons_of_mem _ hx)
      rw [List.map_cons, List.sum_cons, List.length_cons]
      omega
  have hd : ∀ s ∈ l.drop (i + 1), s ∈ l := fun s hs => List.mem_of_mem_drop hs
  have hl : (l.drop (i + 1)).length ≤ l.length := by rw [List.length_drop]; omega
  have h1 := key (·.wl) _ fun s hs => ⟨(h s (hd s hs)).1, (h s (hd s hs)).2.1⟩
  have h2 := key (·.wh) _ fun s hs => ⟨(h s (hd s hs)).2.2.1, (h s (hd s hs)).2.2.2⟩
  unfold loadL loadH
  omega
def accL (l : List Sg) (k : Nat) : Int := ((l.drop (l.length - k)).map (·.wl)).sum
def accH (l : List Sg) (k : Nat) : Int := ((l.drop (l.length - k)).map (·.wh)).sum
theorem acc_load {l : List Sg} {i k : Nat} (h : i + k + 1 = l.length) : loadL l i = accL l k ∧ loadH l i = accH l k := by
  unfold loadL loadH accL accH
  rw [show l.length - k = i + 1 by omega]; exact ⟨rfl, rfl⟩
theorem acc_step {l : List Sg} {i k : Nat} {s : Sg} (h : i + k + 1 = l.length) (hs : l[i]? = some s) : accL l (k + 1) = accL l k + s.wl ∧ accH l (k + 1) = accH l k + s.wh := by
  obtain ⟨hk, rfl⟩ := List.getElem?_eq_some_iff.1 hs
  unfold accL accH
  rw [show l.length - k = i + 1 by omega, show l.length - (k + 1) = i by omega, List.drop_eq_getElem_cons hk, List.map_cons, List.map_cons, List.sum_cons, List.sum_cons]
  constructor <;> omega
theorem acc_zero {l : List Sg} : accL l 0 = 0 ∧ accH l 0 = 0 := by
  unfold accL accH; rw [Nat.sub_zero, List.drop_length]; exact ⟨rfl, rfl⟩
theorem cells_keepA {W W' : World} {B n0 : Nat} {v : Value} {vs : List Value} (h : CellsAt W B (v :: vs)) (hk : KeepsAll n0 W W') (hB : n0 ≤ B) : CellsAt W' B (v :: vs) := by
  have hlt : B < W.heap.size := World.block_lt_of_cell? W ⟨B, 0, none⟩ (h 0 v rfl).1
  intro o u hu
  obtain ⟨h1, h2⟩ := h o u hu
  have e := hk.same B hB hlt
  refine ⟨?_, ?_⟩
  · unfold World.cell? at h1 ⊢; rw [e]; exact h1
  · unfold World.frozen? at h2 ⊢; rw [e]; exact h2
theorem roundIn_wide {a b : Nat} {P : Program} {l k : Nat} {f : FuncId} {tmps : Array Value} {assign body : Code} {w : World} {R : Ending → World → Prop} (h : RoundIn Fence.wide a P l f tmps assign body w R) : RoundIn (Fence.wide.inRound k) b P l f tmps assign body w R := ⟨h.1, fun c cs _ => h.2 c cs (room_wide _)⟩
def encL (l : List Sg) (i : Nat) : Array Value := #[.int .i64 (i : Int), .agg #[.int .i64 (loadL l i), .int .i64 (loadH l i)]]
theorem inP_rows {w : World} {v : Value} {l : List Sg} (h : RowsAt 8 w v (l.map rowG)) (hne : l ≠ []) : InP (fun k => k < w.heap.size) v := by
  rintro a n c rfl
  rcases h with ⟨h1, _⟩ | ⟨b, cap, h1, h2, h3, h4⟩
  · cases h1
  · injection h1 with h1 _ _
    injection h1 with h1
    subst h1
    obtain ⟨s, l', rfl⟩ := List.exists_cons_of_ne_nil hne
    have h5 := (h4 0 (rowG s) rfl).2 0 s.id rfl
    have h6 := World.block_lt_of_cell? w _ h5.1
    have : (a.add (0 * 8 + 0)).block = a.block := by unfold Addr.add; split <;> rfl
    rwa [this] at h6
/-- What all courses answer. -/
def stA (l : List Sg) : Int := if (List.range l.length).any (fun i => decide (ansL l i = 0)) then 0 else if (List.range l.length).any (fun i => decide (ansL l i = 2)) then 2 else 1
/-- Of the k upper courses none answers No. -/
def noneUp (l : List Sg) (k : Nat) : Prop := ∀ i, i < l.length → l.length ≤ i + k → ansL l i ≠ 0
def allUp (l : List Sg) (k : Nat) : Int := if ∃ i, i < l.length ∧ l.length ≤ i + k ∧ ansL l i = 2 then 2 else 1
theorem stA_no {l : List Sg} {i : Nat} (hi : i < l.length) (h : ansL l i = 0) : stA l = 0 := by
  unfold stA
  rw [if_pos (List.any_eq_true.2 ⟨i, List.mem_range.2 hi, decide_eq_true h⟩)]
theorem stA_end {l : List Sg} (h : noneUp l l.length) : stA l = allUp l l.length := by
  unfold stA allUp
  rw [if_neg (by
    rw [List.any_eq_true]
    rintro ⟨i, hi, h2⟩
    exact h i (List.mem_range.1 hi) (by omega) (of_decide_eq_true h2))]
  by_cases h2 : ∃ i, i < l.length ∧ l.length ≤ i + l.length ∧ ansL l i = 2
  · rw [if_pos h2]
    obtain ⟨i, h3, -, h4⟩ := h2
    rw [if_pos (List.any_eq_true.2 ⟨i, List.mem_range.2 h3, decide_eq_true h4⟩)]
  · rw [if_neg h2, if_neg (by
      rw [List.any_eq_true]
      rintro ⟨i, hi, h3⟩
      exact h2 ⟨i, List.mem_range.1 hi, by omega, of_decide_eq_true h3⟩)]
theorem noneUp_zero {l : List Sg} : noneUp l 0 := fun i h1 h2 => by omega
theorem allUp_zero {l : List Sg} : allUp l 0 = 1 := by
  unfold allUp; rw [if_neg]; rintro ⟨i, h1, h2, -⟩; omega
theorem noneUp_next {l : List Sg} {i k : Nat} (h : noneUp l k) (hi : i + k + 1 = l.length) (h0 : ansL l i ≠ 0) : noneUp l (k + 1) := fun j h1 h2 => by
  by_cases e : j = i
  · subst e; exact h0
  · exact h j h1 (by omega)
theorem allUp_two {l : List Sg} {i k : Nat} (hi : i + k + 1 = l.length) (h0 : ansL l i = 2) : allUp l (k + 1) = 2 := by
  unfold allUp; rw [if_pos ⟨i, by omega, by omega, h0⟩]
theorem allUp_same {l : List Sg} {i k : Nat} (hi : i + k + 1 = l.length) (h0 : ansL l i ≠ 2) : allUp l (k + 1) = allUp l k := by
  unfold allUp
  congr 1
  refine propext ⟨?_, ?_⟩
  · rintro ⟨j, h1, h2, h3⟩
    refine ⟨j, h1, ?_, h3⟩
    by_cases e : j = i
    · subst e; exact absurd h3 h0
    · omega
  · rintro ⟨j, h1, h2, h3⟩
    exact ⟨j, h1, by omega, h3⟩
theorem ansS_three (s : Sg) (lo hi : Int) : ansS s lo hi = 0 ∨ ansS s lo hi = 1 ∨ ansS s lo hi = 2 := by
  unfold ansS; split
  · exact .inr (.inl rfl)
  · split
    · exact .inl rfl
    · exact .inr (.inr rfl)
/-- How high k saggars are, with wads between them. -/
def hgtL (l : List Sg) (lo : Int) (k : Nat) : Int := ((l.take k).map (·.hl)).sum + ((k - 1 : Nat) : Int) * lo
def hgtH (l : List Sg) (hi : Int) (k : Nat) : Int := ((l.take k).map (·.hh)).sum + ((k - 1 : Nat) : Int) * hi
theorem hgt_zero {l : List Sg} {lo hi : Int} : hgtL l lo 0 = 0 ∧ hgtH l hi 0 = 0 := by unfold hgtL hgtH; simp
theorem hgt_first {l : List Sg} {lo hi : Int} {s : Sg} (h : l[0]? = some s) : hgtL l lo 1 = hgtL l lo 0 + s.hl ∧ hgtH l hi 1 = hgtH l hi 0 + s.hh := by
  unfold hgtL hgtH; rw [List.take_add_one, h]; simp
theorem hgt_next {l : List Sg} {lo hi : Int} {s : Sg} {k : Nat} (h : l[k + 1]? = some s) : hgtL l lo (k + 2) = hgtL l lo (k + 1) + lo + s.hl ∧ hgtH l hi (k + 2) = hgtH l hi (k + 1) + hi + s.hh := by
  unfold hgtL hgtH
  have e : l.take (k + 2) = l.take (k + 1) ++ [s] := by
    have e1 := List.take_add_one (i := k + 1) (l := l)
    rw [h] at e1
    exact e1
  rw [e, show k + 2 - 1 = (k + 1 - 1) + 1 by omega]
  simp only [List.map_append, List.sum_append, List.map_cons, List.map_nil, List.sum_cons, List.sum_nil]
  push_cast
  rw [Int.add_mul, Int.add_mul]
  constructor <;> omega
theorem hgt_small {l : List Sg} {lo hi : Int} (hs : ∀ s ∈ l, 0 ≤ s.hl ∧ s.hl ≤ 10000 ∧ 0 ≤ s.hh ∧ s.hh ≤ 10000) (h1 : 0 ≤ lo ∧ lo ≤ 200) (h2 : 0 ≤ hi ∧ hi ≤ 200) (k : Nat) : 0 ≤ hgtL l lo k ∧ hgtL l lo k ≤ 10200 * k ∧ 0 ≤ hgtH l hi k ∧ hgtH l hi k ≤ 10200 * k := by
  have key : ∀ (f : Sg → Int) (m : List Sg), (∀ s ∈ m, 0 ≤ f s ∧ f s ≤ 10000) → 0 ≤ (m.map f).sum ∧ (m.map f).sum ≤ 10000 * m.length := by
    intro f m hm
    induction m with
    | nil => simp
    | cons s m ih =>
      have h1 := hm s (List.mem_cons_self ..)
      have h2 := ih fun x hx => hm x (List.mem_cons_of_mem _ hx)
      rw [List.map_cons, List.sum_cons, List.length_cons]
      omega
  have ht : ∀ s ∈ l.take k, s ∈ l := fun s h => List.mem_of_mem_take h
  have hl : (l.take k).length ≤ k := by rw [List.length_take]; omega
  have a1 := key (·.hl) _ fun s h => ⟨(hs s (ht s h)).1, (hs s (ht s h)).2.1⟩
  have a2 := key (·.hh) _ fun s h => ⟨(hs s (ht s h)).2.2.1, (hs s (ht s h)).2.2.2⟩
  have m1 : 0 ≤ ((k - 1 : Nat) : Int) * lo ∧ ((k - 1 : Nat) : Int) * lo ≤ ((k - 1 : Nat) : Int) * 200 := ⟨Int.mul_nonneg (by omega) h1.1, Int.mul_le_mul_of_nonneg_left h1.2 (by omega)⟩
  have m2 : 0 ≤ ((k - 1 : Nat) : Int) * hi ∧ ((k - 1 : Nat) : Int) * hi ≤ ((k - 1 : Nat) : Int) * 200 := ⟨Int.mul_nonneg (by omega) h2.1, Int.mul_le_mul_of_nonneg_left h2.2 (by omega)⟩
  unfold hgtL hgtH
  omega
/-- The answers of the k upper courses, in a slice that was made. -/
def MadeN (M n : Nat) (f : Nat → Int) (k : Nat) (W : World) : Prop := ∀ i, i < n → W.cell? ⟨M, i, none⟩ = some (.int .i64 (if n ≤ i + k then f i else 0)) ∧ W.frozen? ⟨M, i, none⟩ = false
theorem MadeN.start {M n : Nat} {f : Nat → Int} {W : World} (h : ∀ i, i < n → W.cell? ⟨M, i, none⟩ = some (.int .i64 0) ∧ W.frozen? ⟨M, i, none⟩ = false) : MadeN M n f 0 W := fun i hi => by
  rw [if_neg (by omega)]; exact h i hi
theorem MadeN.below {M n k : Nat} {f : Nat → Int} {W W' : World} (h : MadeN M n f k W) (hb : Below W.heap.size W W') : MadeN M n f k W' := fun i hi => ⟨bkeep hb (h i hi).1, bfree hb (h i hi).1 (h i hi).2⟩
theorem MadeN.low {M n k n0 : Nat} {f : Nat → Int} {W W' : World} (h : MadeN M n f k W) (hb : Below n0 W W') (hM : M < n0) : MadeN M n f k W' := fun i hi => by
  obtain ⟨h1, h2⟩ := h i hi
  have e := hb.block M hM
  exact ⟨by unfold World.cell? at h1 ⊢; rw [e]; exact h1, by unfold World.frozen? at h2 ⊢; rw [e]; exact h2⟩
theorem MadeN.kept {M n k : Nat} {f : Nat → Int} {W W' : World} {row : Option Nat} (h : MadeN M n f k W) (hg : W.grownBy W' row) (hr : ∀ r, row = some r → ∃ o : Obj, W.heap[r]? = some o ∧ o.isCells = false) : MadeN M n f k W' := fun i hi => by
  obtain ⟨h1, h2⟩ := h i hi
  have hne : some M ≠ row := fun e => by
    obtain ⟨o, ho, hc⟩ := hr M e.symm
    unfold World.cell? at h1
    dsimp only at h1
    rw [ho] at h1
    cases o <;> simp_all [Obj.isCells]
  exact ⟨hg.cell (a := ⟨M, i, none⟩) h1 hne, grown_free hg h1 h2 hne⟩
theorem MadeN.put {M n k i : Nat} {f : Nat → Int} {W : World} (h : MadeN M n f k W) (hi : i + k + 1 = n) : MadeN M n f (k + 1) (W.setCell ⟨M, i, none⟩ (.int .i64 (f i))) := by
  intro j hj
  obtain ⟨h1, h2⟩ := h j hj
  by_cases e : j = i
  · subst e
    refine ⟨?_, by simpa [go_sem] using h2⟩
    rw [World.cell?_setCell_same _ _ _ h1, if_pos (by omega)]
  · refine ⟨?_, by simpa [go_sem] using h2⟩
    rw [World.cell?_setCell_other _ _ _ _ (by intro e2; injection e2 with _ e3; exact e e3.symm), h1]
    by_cases h3 : n ≤ j + k
    · rw [if_pos h3, if_pos (by omega)]
    · rw [if_neg h3, if_neg (by omega)]
theorem MadeN.nums {M n : Nat} {f : Nat → Int} {W : World} (h : MadeN M n f n W) (hn : n ≤ 1000) (hi : ∀ i, i < n → I64 (f i)) : NumsAt W (.slice (some ⟨M, 0, none⟩) n n) ((List.range n).map f) := by
  refine .inr ⟨⟨M, 0, none⟩, n, by simp, by simp, by omega, fun k z hk => ?_⟩
  rw [List.getElem?_map] at hk
  obtain ⟨j, hj, rfl⟩ := Option.map_eq_some_iff.1 hk
  obtain ⟨hj1, hj2⟩ := List.getElem?_eq_some_iff.1 hj
  rw [List.getElem_range] at hj2
  subst hj2
  have hk2 : k < n := by simpa using hj1
  refine ⟨?_, hi k hk2⟩
  have h1 := (h k hk2).1
  rw [if_pos (by omega)] at h1
  rw [Go.WideShapes.add_plain, Nat.zero_add]
  exact h1
end Go.Pb.Bung

/- The loads of courses, in a slice that was made. -/
namespace Go.Pb.Bung
open Go Go.Pb Go.Pb.Ware Go.RowKit
set_option linter.unusedVariables false
set_option linter.unusedSimpArgs false
theorem made_two {w : World} {base n B : Nat} {T : TypeId} {z : Value} {x y : Value} (hz : z.cells = #[x, y]) (h : w.ownsRow base T 2 (.slice (some ⟨B, 0, none⟩) n n) n (madeCells z.cells (n * 2)).toList) : ∀ i, i < n → (w.cell? ⟨B, i * 2, none⟩ = some x ∧ w.frozen? ⟨B, i * 2, none⟩ = false) ∧ w.cell? ⟨B, i * 2 + 1, none⟩ = some y ∧ w.frozen? ⟨B, i * 2 + 1, none⟩ = false := by
  obtain ⟨_, h⟩ := h
  rcases h with ⟨h1, _⟩ | ⟨g, cap, cur, h1, h2, h3, h4, h5, h6, h7⟩
  · cases h1
  injection h1 with e1 _ e2
  injection e1 with e1
  injection e1 with e1
  subst e1; subst e2
  have key : ∀ j, j < n * 2 → cur[j]? = some ((#[x, y] : Array Value)[j % 2]!) := by
    intro j hj
    have h8 : (cur.toList.take (n * 2))[j]? = some ((#[x, y] : Array Value)[j % 2]!) := by
      rw [h7, Array.getElem?_toList]
      unfold madeCells
      rw [Array.getElem?_map, Array.getElem?_range, if_pos hj, hz]
      rfl
    rw [List.getElem?_take, if_pos hj] at h8
    simpa using h8
  intro i hi
  have k0 := key (i * 2) (by omega)
  have k1 := key (i * 2 + 1) (by omega)
  rw [show i * 2 % 2 = 0 by omega] at k0
  rw [show (i * 2 + 1) % 2 = 1 by omega] at k1
  refine ⟨⟨?_, ?_⟩, ?_, ?_⟩
  · simp only [World.cell?, h3]; exact k0
  · simp [World.frozen?, h3]
  · simp only [World.cell?, h3]; exact k1
  · simp [World.frozen?, h3]
/-- The k upper ranges, in a slice that was made. -/
def MadeR (M n : Nat) (f g : Nat → Int) (k : Nat) (W : World) : Prop := ∀ i, i < n → (W.cell? ⟨M, i * 2, none⟩ = some (.int .i64 (if n ≤ i + k then f i else 0)) ∧ W.frozen? ⟨M, i * 2, none⟩ = false) ∧ W.cell? ⟨M, i * 2 + 1, none⟩ = some (.int .i64 (if n ≤ i + k then g i else 0)) ∧ W.frozen? ⟨M, i * 2 + 1, none⟩ = false
theorem MadeR.start {M n : Nat} {f g : Nat → Int} {W : World} (h : ∀ i, i < n → (W.cell? ⟨M, i * 2, none⟩ = some (.int .i64 0) ∧ W.frozen? ⟨M, i * 2, none⟩ = false) ∧ W.cell? ⟨M, i * 2 + 1, none⟩ = some (.int .i64 0) ∧ W.frozen? ⟨M, i * 2 + 1, none⟩ = false) : MadeR M n f g 0 W := fun i hi => by
  rw [if_neg (by omega), if_neg (by omega)]; exact h i hi
theorem MadeR.low {M n k n0 : Nat} {f g : Nat → Int} {W W' : World} (h : MadeR M n f g k W) (hb : Below n0 W W') (hM : M < n0) : MadeR M n f g k W' := fun i hi => by
  obtain ⟨⟨h1, h2⟩, h3, h4⟩ := h i hi
  have e := hb.block M hM
  exact ⟨⟨by unfold World.cell? at h1 ⊢; rw [e]; exact h1, by unfold World.frozen? at h2 ⊢; rw [e]; exact h2⟩, by unfold World.cell? at h3 ⊢; rw [e]; exact h3, by unfold World.frozen? at h4 ⊢; rw [e]; exact h4⟩
theorem MadeR.below {M n k : Nat} {f g : Nat → Int} {W W' : World} (h : MadeR M n f g k W) (hb : Below W.heap.size W W') : MadeR M n f g k W' := fun i hi => by
  obtain ⟨⟨h1, h2⟩, h3, h4⟩ := h i hi
  exact ⟨⟨bkeep hb h1, bfree hb h1 h2⟩, bkeep hb h3, bfree hb h3 h4⟩
theorem MadeR.kept {M n k : Nat} {f g : Nat → Int} {W W' : World} {row : Option Nat} (h : MadeR M n f g k W) (hg : W.grownBy W' row) (hr : ∀ r, row = some r → ∃ o : Obj, W.heap[r]? = some o ∧ o.isCells = false) : MadeR M n f g k W' := fun i hi => by
  obtain ⟨⟨h1, h2⟩, h3, h4⟩ := h i hi
  have hne : some M ≠ row := fun e => by
    obtain ⟨o, ho, hc⟩ := hr M e.symm
    unfold World.cell? at h1
    dsimp only at h1
    rw [ho] at h1
    cases o <;> simp_all [Obj.isCells]
  exact ⟨⟨hg.cell (a := ⟨M, i * 2, none⟩) h1 hne, grown_free hg h1 h2 hne⟩, hg.cell (a := ⟨M, i * 2 + 1, none⟩) h3 hne, grown_free hg h3 h4 hne⟩
theorem MadeR.put {M n k i : Nat} {f g : Nat → Int} {W : World} (h : MadeR M n f g k W) (hi : i + k + 1 = n) : MadeR M n f g (k + 1) ((W.setCell ⟨M, i * 2, none⟩ (.int .i64 (f i))).setCell ⟨M, i * 2 + 1, none⟩ (.int .i64 (g i))) := by
  intro j hj
  obtain ⟨⟨h1, h2⟩, h3, h4⟩ := h j hj
  have ad : ∀ {x y : Nat}, x ≠ y → (⟨M, x, none⟩ : Addr) ≠ ⟨M, y, none⟩ := fun hxy e => by injection e with _ e; exact hxy e
  by_cases e : j = i
  · subst e
    refine ⟨⟨?_, by simpa [go_sem] using h2⟩, ?_, by simpa [go_sem] using h4⟩
    · rw [World.cell?_setCell_other _ _ _ _ (ad (by omega)), World.cell?_setCell_same _ _ _ h1, if_pos (by omega)]
    · have h5 := (World.cell?_setCell_other W ⟨M, j * 2, none⟩ ⟨M, j * 2 + 1, none⟩ (.int .i64 (f j)) (ad (by omega))).trans h3
      rw [World.cell?_setCell_same _ _ _ h5, if_pos (by omega)]
  · refine ⟨⟨?_, by simpa [go_sem] using h2⟩, ?_, by simpa [go_sem] using h4⟩
    · rw [World.cell?_setCell_other _ _ _ _ (ad (by omega)), World.cell?_setCell_other _ _ _ _ (ad (by omega)), h1]
      by_cases h5 : n ≤ j + k
      · rw [if_pos h5, if_pos (by omega)]
      · rw [if_neg h5, if_neg (by omega)]
    · rw [World.cell?_setCell_other _ _ _ _ (ad (by omega)), World.cell?_setCell_other _ _ _ _ (ad (by omega)), h3]
      by_cases h5 : n ≤ j + k
      · rw [if_pos h5, if_pos (by omega)]
      · rw [if_neg h5, if_neg (by omega)]
theorem MadeR.rows {M n : Nat} {f g : Nat → Int} {W : World} (h : MadeR M n f g n W) (hn : n ≤ 1000) (hi : ∀ i, i < n → I64 (f i) ∧ I64 (g i)) : RowsAt 2 W (.slice (some ⟨M, 0, none⟩) n n) ((List.range n).map fun i => [f i, g i]) := by
  refine .inr ⟨⟨M, 0, none⟩, n, by simp, by simp, by omega, fun k r hk => ?_⟩
  rw [List.getElem?_map] at hk
  obtain ⟨j, hj, rfl⟩ := Option.map_eq_some_iff.1 hk
  obtain ⟨hj1, hj2⟩ := List.getElem?_eq_some_iff.1 hj
  rw [List.getElem_range] at hj2
  subst hj2
  have hk2 : k < n := by simpa using hj1
  refine ⟨rfl, fun o z hz => ?_⟩
  obtain ⟨⟨h1, -⟩, h3, -⟩ := h k hk2
  rw [if_pos (by omega)] at h1 h3
  rw [Go.WideShapes.add_plain, Nat.zero_add]
  match o, hz with
  | 0, hz => injection hz with hz; subst hz; exact ⟨h1, (hi k hk2).1⟩
  | 1, hz => injection hz with hz; subst hz; exact ⟨h3, (hi k hk2).2⟩
  | o + 2, hz => simp at hz
end Go.Pb.Bung

/- By how much a bung leans, by plain maths. -/
namespace Go.Pb.Bung
open Go Go.Pb Go.Pb.Ware Go.RowKit
set_option linter.unusedVariables false
set_option linter.unusedSimpArgs false
theorem rows_tail {w : World} {a : Addr} {cap k n : Nat} {l : List Sg} (h : RowsAt 8 w (.slice (some a) n cap) (l.map rowG)) (hn : l.length = n) (hk : k < n) : RowsAt 8 w (.slice (some (a.add (k * 8))) (n - k) (cap - k)) ((l.drop k).map rowG) := by
  rcases h with ⟨h1, _⟩ | ⟨b, c, h1, h2, h3, h4⟩
  · cases h1
  · injection h1 with e1 e2 e3
    injection e1 with e1
    subst e1; subst e3
    rw [List.length_map] at h2
    refine .inr ⟨a.add (k * 8), cap - k, by rw [List.length_map, List.length_drop, hn], by rw [List.length_map, List.length_drop]; omega, by omega, fun j r hr => ?_⟩
    rw [List.map_drop, List.getElem?_drop] at hr
    obtain ⟨h5, h6⟩ := h4 (k + j) r hr
    refine ⟨h5, fun o z hz => ?_⟩
    have h7 := h6 o z hz
    rw [Go.Deep.add_add, show k * 8 + (j * 8 + o) = (k + j) * 8 + o by omega]
    exact h7
/-- What the courses from 1 to k - 1 let the top stand off, in thousandths. -/
def offL (l : List Sg) (hi : Int) : Nat → Int
  | 0 => 0
  | k + 1 => offL l hi k + (if k = 0 then 0 else (l.getD k default).ti * hgtH (l.drop k) hi (l.drop k).length)
def lnA (l : List Sg) (hi : Int) : Int := (offL l hi l.length + 999) / 1000
theorem off_first {l : List Sg} {hi : Int} : offL l hi (0 + 1) = offL l hi 0 := by show offL l hi 0 + (if (0 : Nat) = 0 then (0 : Int) else _) = _; rw [if_pos rfl, Int.add_zero]
theorem off_next {l : List Sg} {hi : Int} {k : Nat} {s : Sg} (hk : l[k]? = some s) (h0 : k ≠ 0) : offL l hi (k + 1) = offL l hi k + s.ti * hgtH (l.drop k) hi (l.drop k).length := by
  rw [offL, if_neg h0, show l.getD k default = s by rw [List.getD, hk]; rfl]
theorem mul_small {a b : Int} (h1 : 0 ≤ a ∧ a ≤ 200) (h2 : 0 ≤ b ∧ b ≤ 400000) : 0 ≤ a * b ∧ a * b ≤ 80000000 := by
  refine ⟨Int.mul_nonneg h1.1 h2.1, ?_⟩
  have e1 := Int.mul_le_mul_of_nonneg_right h1.2 h2.1
  omega
end Go.Pb.Bung

/- Bungs that stand, by plain maths: without a saggar, with narrower ranges, by the setter's rule. -/
namespace Go.Pb.Bung
open Go Go.Pb Go.Pb.Ware Go.RowKit
set_option linter.unusedVariables false
set_option linter.unusedSimpArgs false
def sumW (l : List Sg) : Int := (l.map (·.wh)).sum
/-- Each bears what stands on it. -/
def StandsP : List Sg → Prop
  | [] => True
  | s :: l => sumW l ≤ s.bl ∧ StandsP l
theorem sumW_cons (s : Sg) (l : List Sg) : sumW (s :: l) = s.wh + sumW l := by unfold sumW; rw [List.map_cons, List.sum_cons]
theorem sumW_append (l m : List Sg) : sumW (l ++ m) = sumW l + sumW m := by unfold sumW; rw [List.map_append, List.sum_append]
theorem standsP_iff : ∀ {l : List Sg}, StandsP l ↔ ∀ i s, l[i]? = some s → loadH l i ≤ s.bl
  | [] => ⟨fun _ i s h => by simp at h, fun _ => trivial⟩
  | s :: l => by
    rw [StandsP, standsP_iff (l := l)]
    constructor
    · rintro ⟨h1, h2⟩ i t ht
      cases i with
      | zero => (obtain rfl : s = t := by simpa using ht); exact h1
      | succ i => exact h2 i t (by simpa using ht)
    · intro h
      exact ⟨h 0 s rfl, fun i t ht => h (i + 1) t (by simpa using ht)⟩
theorem getD_is {l : List Sg} {i : Nat} {s : Sg} (h : l[i]? = some s) : l.getD i default = s := by rw [List.getD_eq_getElem?_getD, h]; rfl
theorem ansL_one {l : List Sg} {i : Nat} {s : Sg} (h : l[i]? = some s) : ansL l i = 1 ↔ loadH l i ≤ s.bl := by
  unfold ansL ansS
  rw [getD_is h]
  split
  · rename_i h1; exact ⟨fun _ => h1, fun _ => rfl⟩
  · rename_i h1
    split
    · exact ⟨fun e => (by cases e), fun e => absurd e h1⟩
    · exact ⟨fun e => (by cases e), fun e => absurd e h1⟩
theorem stA_one {l : List Sg} : stA l = 1 ↔ StandsP l := by
  rw [standsP_iff]
  constructor
  · intro h i s hs
    rw [← ansL_one hs]
    have hi : i < l.length := (List.getElem?_eq_some_iff.1 hs).1
    unfold stA at h
    split at h
    · cases h
    · rename_i h1
      split at h
      · cases h
      · rename_i h2
        rcases ansS_three (l.getD i default) (loadL l i) (loadH l i) with e | e | e
        · exact absurd (List.any_eq_true.2 ⟨i, List.mem_range.2 hi, decide_eq_true e⟩) h1
        · exact e
        · exact absurd (List.any_eq_true.2 ⟨i, List.mem_range.2 hi, decide_eq_true e⟩) h2
  · intro h
    have key : ∀ i, i < l.length → ansL l i = 1 := fun i hi => (ansL_one (List.getElem?_eq_getElem hi)).2 (h i _ (List.getElem?_eq_getElem hi))
    unfold stA
    rw [if_neg (by
      intro hx
      obtain ⟨i, hi, e⟩ := List.any_eq_true.1 hx
      have h1 := key i (List.mem_range.1 hi)
      have e2 := of_decide_eq_true e
      omega), if_neg (by
      intro hx
      obtain ⟨i, hi, e⟩ := List.any_eq_true.1 hx
      have h1 := key i (List.mem_range.1 hi)
      have e2 := of_decide_eq_true e
      omega)]
theorem stA_three (l : List Sg) : stA l = 0 ∨ stA l = 1 ∨ stA l = 2 := by
  unfold stA; split
  · exact .inl rfl
  · split
    · exact .inr (.inr rfl)
    · exact .inr (.inl rfl)
def Wt (l : List Sg) : Prop := ∀ s ∈ l, 0 ≤ s.wh
theorem Wt.tail {s : Sg} {l : List Sg} (h : Wt (s :: l)) : Wt l := fun x hx => h x (List.mem_cons_of_mem _ hx)
theorem sumW_nonneg : ∀ {l : List Sg}, Wt l → 0 ≤ sumW l
  | [], _ => by simp [sumW]
  | s :: l, h => by
    have h1 := sumW_nonneg h.tail
    have h2 := h s (List.mem_cons_self ..)
    rw [sumW_cons]; omega
/-! Narrower ranges. -/
/-- The ranges of t lie within those of s. -/
def Nar (s t : Sg) : Prop := s.wl ≤ t.wl ∧ t.wh ≤ s.wh ∧ s.bl ≤ t.bl ∧ t.bh ≤ s.bh ∧ s.hl ≤ t.hl ∧ t.hh ≤ s.hh ∧ t.ti = s.ti
theorem Nar.refl (s : Sg) : Nar s s := by unfold Nar; omega
def NarL : List Sg → List Sg → Prop
  | [], [] => True
  | s :: l, t :: m => Nar s t ∧ NarL l m
  | _, _ => False
theorem NarL.refl : ∀ l, NarL l l
  | [] => trivial
  | s :: l => ⟨Nar.refl s, NarL.refl l⟩
theorem NarL.len : ∀ {l m : List Sg}, NarL l m → m.length = l.length
  | [], [], _ => rfl
  | s :: l, t :: m, h => by rw [List.length_cons, List.length_cons, NarL.len h.2]
  | [], _ :: _, h => h.elim
  | _ :: _, [], h => h.elim
theorem NarL.drop : ∀ {l m : List Sg} (k : Nat), NarL l m → NarL (l.drop k) (m.drop k)
  | [], [], k, _ => by simp [NarL]
  | s :: l, t :: m, 0, h => h
  | s :: l, t :: m, k + 1, h => NarL.drop k h.2
  | [], _ :: _, _, h => h.elim
  | _ :: _, [], _, h => h.elim
/-! The setter's rule. -/
theorem sumW_perm {l m : List Sg} (h : l.Perm m) : sumW l = sumW m := by
  induction h with
  | nil => rfl
  | cons x _ ih => rw [sumW_cons, sumW_cons, ih]
  | swap x y l => rw [sumW_cons, sumW_cons, sumW_cons, sumW_cons]; omega
  | trans _ _ h1 h2 => rw [h1, h2]
/-- Of some saggars of a bung that stands the lowest one bears the others. -/
theorem pick_low : ∀ (l : List Sg) {T U : List Sg}, (T ++ U).Perm l → T ≠ [] → StandsP l → Wt l → ∃ y ∈ T, sumW T ≤ keyG y
  | [], T, U, hp, hT, _, _ => absurd (List.append_eq_nil_iff.1 hp.eq_nil).1 hT
  | s :: l, T, U, hp, hT, hs, hw => by
    have hm : s ∈ T ++ U := hp.mem_iff.2 (List.mem_cons_self ..)
    rcases List.mem_append.1 hm with h | h
    · refine ⟨s, h, ?_⟩
      have e := sumW_perm hp
      rw [sumW_append, sumW_cons] at e
      have hU : 0 ≤ sumW U := sumW_nonneg fun x hx => hw x (hp.mem_iff.1 (List.mem_append_right _ hx))
      have h1 := hs.1
      unfold keyG; omega
    · obtain ⟨U1, U2, rfl⟩ := List.append_of_mem h
      have h3 : (T ++ (U1 ++ s :: U2)).Perm (s :: (T ++ (U1 ++ U2))) := by
        rw [← List.append_assoc, ← List.append_assoc]; exact List.perm_middle
      exact pick_low l (List.Perm.cons_inv (h3.symm.trans hp)) hT hs.2 hw.tail
theorem standsP_sorted : ∀ {m P l : List Sg}, (P ++ m).Perm l → m.Pairwise (fun a b => keyG b ≤ keyG a) → StandsP l → Wt l → StandsP m
  | [], _, _, _, _, _, _ => trivial
  | x :: A, P, l, hp, hsrt, hs, hw => by
    obtain ⟨h1, h2⟩ := List.pairwise_cons.1 hsrt
    refine ⟨?_, standsP_sorted (P := P ++ [x]) (by simpa using hp) h2 hs hw⟩
    obtain ⟨y, hy, hle⟩ := pick_low l (List.perm_append_comm.trans hp) (List.cons_ne_nil x A) hs hw
    have h3 : keyG y ≤ keyG x := by
      rcases List.mem_cons.1 hy with rfl | hy
      · exact Int.le_refl _
      · exact h1 y hy
    rw [sumW_cons] at hle
    unfold keyG at *; omega
theorem ruledL_map (l : List Sg) : ruledL l = (ruleN l).map (atG l) := by
  unfold ruledL chosenG ruleL
  rw [List.map_map]
  rfl
theorem range_atG (l : List Sg) : (List.range l.length).map (atG l) = l := by
  apply List.ext_getElem
  · simp
  · intro i h1 h2
    rw [List.getElem_map, List.getElem_range]
    unfold atG
    rw [List.getD_eq_getElem?_getD, List.getElem?_eq_getElem h2]
    rfl
theorem ruledL_perm (l : List Sg) : (ruledL l).Perm l := by
  have h := (ruleN_perm l).map (atG l)
  rw [range_atG] at h
  rw [ruledL_map]; exact h
theorem ruledL_sorted (l : List Sg) : (ruledL l).Pairwise (fun a b => keyG b ≤ keyG a) := by
  rw [ruledL_map, List.pairwise_map]
  refine (ruleUp_sorted l l.length).imp fun {i j} h => ?_
  unfold NotLow at h
  rw [lowB_no] at h
  omega
theorem stA_perm_ruled {l m : List Sg} (hp : m.Perm l) (hw : Wt l) (hs : stA m = 1) : stA (ruledL l) = 1 := by
  rw [stA_one] at *
  exact standsP_sorted (P := []) (l := m) ((ruledL_perm l).trans hp.symm) (ruledL_sorted l) hs fun x hx => hw x (hp.mem_iff.1 hx)
/-! Saggars that numbers make. -/
def madeG (i : Nat) (r : List Int) : Sg := ⟨1 + i + 40 * (r.getD 6 0 % 20), r.getD 0 0 % 200, r.getD 0 0 % 200 + r.getD 1 0 % 40, r.getD 2 0 % 900, r.getD 2 0 % 900 + r.getD 3 0 % 60, 20 + r.getD 4 0 % 300, 20 + r.getD 4 0 % 300 + r.getD 5 0 % 12, r.getD 6 0 % 25⟩
def madeL (rows : List (List Int)) (k : Nat) : List Sg := (List.range k).map fun i => madeG i (rows.getD i [])
theorem madeL_len (rows : List (List Int)) (k : Nat) : (madeL rows k).length = k := by unfold madeL; simp
theorem madeL_snoc {rows : List (List Int)} {k : Nat} {r : List Int} (h : rows[k]? = some r) : madeL rows (k + 1) = madeL rows k ++ [madeG k r] := by
  unfold madeL
  rw [List.range_succ, List.map_append, List.map_cons, List.map_nil, List.getD_eq_getElem?_getD, h]
  rfl
theorem madeG_ok {i : Nat} (hi : i < 12) (r : List Int) : sgOk (madeG i r) = true := by
  unfold sgOk madeG
  simp only [Bool.and_eq_true, btw_iff, rgOk_iff]
  omega
theorem madeL_ok {rows : List (List Int)} {k : Nat} (hk : k ≤ 12) : listOk (madeL rows k) = true := by
  rw [listOk_iff]
  refine ⟨by rw [madeL_len]; omega, fun s hs => ?_, ?_⟩
  · unfold madeL at hs
    obtain ⟨i, hi, rfl⟩ := List.mem_map.1 hs
    exact madeG_ok (by have := List.mem_range.1 hi; omega) _
  · unfold IdsN madeL
    rw [List.map_map, List.pairwise_map]
    refine List.Pairwise.imp_of_mem (R := (· < ·)) (fun {a b} ha hb hab => ?_) List.pairwise_lt_range
    have h1 := List.mem_range.1 ha
    have h2 := List.mem_range.1 hb
    simp only [Function.comp, madeG]
    omega
end Go.Pb.Bung
