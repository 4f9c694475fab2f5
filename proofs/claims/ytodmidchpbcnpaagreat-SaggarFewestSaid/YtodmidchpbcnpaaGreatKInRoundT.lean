/- A region in the body of a range over a function: what goes anywhere goes there, where nothing is deferred. -/
import Derived.Test.YtodmidchpbcnpaaGreatKP6T
import Derived.OrdersIn
import Derived.RangeFuncCalls
import Derived.RangeFuncLeaves
import Derived.RangeFuncNested
import Derived.Deep.LoopGhost
import Derived.Shelf.SlSortCmp.SmallK
namespace Go.Pb
set_option linter.unusedVariables false
open Go Go.RowKit
theorem oper_inRound {P : Program} {o : Oper} {a : Act} {w : World} {K : Act → World → Prop} {Q : Exit → Act → World → Prop} {l n : Nat} (hd : ∀ c, o.op ≠ .defer c) (h : o.wp P a w K Q) : o.wpIn (Fence.wide.inRound l) n P a w K Q := by
  refine ⟨fun _ _ => trivial, ?_⟩
  rw [Oper.semAt_eq _ _ _ hd]
  unfold Oper.wp at h
  generalize (execOp a.eval o).run P w = r at h ⊢
  cases r with
  | ok x w' =>
    cases x with
    | enter f args => exact ⟨fun h => by simp [Fence.wide] at h, CallsIn.inRound l (callsIn_wide.2 h)⟩
    | row r args => exact ⟨fun h => by simp [Fence.wide] at h, fun c cs hr => by obtain ⟨v, w', hR, hs⟩ := h c cs; exact ⟨v, w', hR, stepsIn_wide.2 hs⟩⟩
    | round _ _ _ _ _ => exact False.elim h
    | _ => exact h
  | halt x w' => cases x <;> exact h
theorem wpAny_inRound {P : Program} {md : Region.Mode} {ops : Array Oper} {Q : Exit → Act → World → Prop} {l n : Nat} (hd : ∀ (i : Nat) (o : Oper), ops[i]? = some o → ∀ c, o.op ≠ .defer c) (hL : ¬ LetsOut Q) : ∀ (fuel : Nat) (L : Array Bool) (a : Act) (w : World), wpAny P md ops Q fuel L a w → wpAnyIn (Fence.wide.inRound l) n P md ops Q fuel L a w
  | 0, L, a, w, h => h
  | fuel + 1, L, a, w, h => ⟨h.1, fun i hi => by
      have h2 := h.2 i hi
      unfold wpOp at h2
      unfold wpOpIn
      cases ho : ops[i]? with
      | none => rw [ho] at h2; exact wpAny_inRound hd hL fuel _ a w h2
      | some o =>
        rw [ho] at h2
        dsimp only at h2 ⊢
        by_cases hw : Region.wanted o (yielded ops a.tmps) = true
        · rw [if_pos hw] at h2 ⊢
          rcases h2 with h2 | h2
          · exact Oper.wpIn_mono (fun a w => wpAny_inRound hd hL fuel _ a w) (oper_inRound (hd i o ho) h2)
          · exact absurd h2.2 hL
        · rw [if_neg hw] at h2 ⊢
          exact ⟨fun _ _ => trivial, wpAny_inRound hd hL fuel _ _ w h2⟩⟩
end Go.Pb

/- A function in whose loop a range over a function stands: each round leaves a mark among the deferred calls; a region in the body of a range over a function. -/
namespace Go.Pb
set_option linter.unusedVariables false
open Go Go.RowKit
def marks (ds : List Nat) : List Deferred := ds.map fun D => { target := .collected D, args := #[] }
/-- Each of these blocks waits for the function's end. -/
def Waits (ds : List Nat) (W : World) : Prop := ds.Nodup ∧ ∀ D ∈ ds, W.heap[D]? = some (.deferred (some []))
/-- These blocks are shut; nothing else has changed. -/
structure Closed (ds : List Nat) (W W' : World) : Prop where
  os : W'.os = W.os
  tape : W'.tape = W.tape
  output : W'.output = W.output
  size : W'.heap.size = W.heap.size
  block : ∀ k, k ∉ ds → W'.heap[k]? = W.heap[k]?
theorem Waits.nil {W : World} : Waits [] W := ⟨List.nodup_nil, fun D h => by cases h⟩
theorem Waits.kept {ds : List Nat} {W W' : World} (h : Waits ds W) (hk : KeepsOthers W W') : Waits ds W' := ⟨h.1, fun D hD => hk.same D _ (h.2 D hD) rfl⟩
theorem Waits.below {ds : List Nat} {W W' : World} (h : Waits ds W) (hb : Below W.heap.size W W') : Waits ds W' := ⟨h.1, fun D hD => by
  rw [hb.block D (Array.getElem?_eq_some_iff.1 (h.2 D hD)).1]; exact h.2 D hD⟩
theorem Waits.lt {ds : List Nat} {W : World} (h : Waits ds W) {D : Nat} (hD : D ∈ ds) : D < W.heap.size := (Array.getElem?_eq_some_iff.1 (h.2 D hD)).1
theorem Waits.cons {ds : List Nat} {D : Nat} {W : World} (h : Waits ds W) (hD : W.heap[D]? = some (.deferred (some []))) (hn : D ∉ ds) : Waits (D :: ds) W := by
  refine ⟨List.nodup_cons.2 ⟨hn, h.1⟩, fun D' h' => ?_⟩
  rcases List.mem_cons.1 h' with e | h'
  · rw [e]; exact hD
  · exact h.2 D' h'
theorem Closed.cell {ds : List Nat} {W W' : World} (h : Closed ds W W') (hw : Waits ds W) {a : Addr} {v : Value} (hc : W.cell? a = some v) : W'.cell? a = some v := by
  have hn : a.block ∉ ds := fun hm => by
    have := hw.2 _ hm
    simp [World.cell?, this] at hc
  rw [World.cell?_of_block (w := W) (h.block _ hn)]; exact hc
theorem Closed.below {ds : List Nat} {W W' : World} (h : Closed ds W W') {B : Nat} (hd : ∀ D ∈ ds, B ≤ D) : Below B W W' :=
  ⟨h.os, h.tape, h.output, Nat.le_of_eq h.size.symm, fun k hk => h.block k fun hm => by have := hd k hm; omega⟩
theorem leaves_marks {P : Program} {F : Fence} {n : Nat} {fn : Func} {tmps : Array Value} {R : Ending → World → Prop} {u : FrameMode} (hu : u ≠ .run) : ∀ (ds : List Nat) (W : World), Waits ds W →
    (∀ W', Closed ds W W' → LeavesIn F n P fn tmps R [] u W') → LeavesInM F n P fn tmps R (marks ds) u W
  | [], W, _, h => h W ⟨rfl, rfl, rfl, rfl, fun _ _ => rfl⟩
  | D :: ds, W, hw, h => by
    have hD := hw.2 D (List.mem_cons_self ..)
    have hnd := List.nodup_cons.1 hw.1
    refine ⟨hu, .inl ⟨D, _, rfl, run_takeDeferred hD, ?_⟩⟩
    refine leaves_marks hu ds _ ⟨hnd.2, fun D' h' => ?_⟩ (fun W' hs => h W' ⟨hs.os, hs.tape, hs.output, ?_, fun k hk => ?_⟩)
    · rw [World.putObj_heap_other (fun (e : D' = D) => hnd.1 (e ▸ h'))]; exact hw.2 D' (List.mem_cons_of_mem _ h')
    · rw [hs.size]; simp
    · rw [hs.block k (fun hm => hk (List.mem_cons_of_mem _ hm))]
      exact World.putObj_heap_other (fun e => hk (e ▸ List.mem_cons_self ..))
/-- No operation defers. -/
def noDefer (l : List Oper) : Bool := l.all fun o => match o.op with | .defer _ => false | _ => true
theorem noDefer_ne {l : List Oper} (h : noDefer l = true) {i : Nat} {o : Oper} (ho : l.toArray[i]? = some o) : ∀ c, o.op ≠ .defer c := by
  intro c hc
  have hm : o ∈ l := List.mem_of_getElem? (by simpa using ho)
  have := List.all_eq_true.1 h o hm
  rw [hc] at this
  simp at this
/-- wp_region_F in the body of a range over a function. -/
theorem wpIn_region_F {P : Program} {id : Nat} {Q : Exit → Act → World → Prop} {a : Act} {w : World} {l : List Oper} {lv n : Nat} (hd : noDefer l = true) (fs : List Nat)
    (hF : (Region.noSelect l.toArray && firstB .any l.toArray fs (Array.replicate l.length false)) = true)
    (ps : List (Nat × (Value → World → Prop))) (hs : List Nat) (g : Nat) (hm : P.follows .mixedOrders = true)
    (hn : fs.length + (hs.length + g) = l.length) (hkeep : ∀ x ∈ ps, Keeps x.2)
    (hB : (groupB .any l.toArray (mark fs (Array.replicate l.length false)) hs && pairsB .any l.toArray ((ps.map (·.1)).contains ·) hs && plainsB l.toArray ((ps.map (·.1)).contains ·) hs) = true)
    (h : wpFirst P l.toArray fs (fun a => wpS P .any l.toArray w ((ps.map (·.1)).contains ·) (pOf ps) (fun Γ' a' => ∀ w', All w (pOf ps) Γ' w' → wpAny P .any l.toArray (Only Q) g (mark hs (mark fs (Array.replicate l.length false))) a' w') (numbered l.toArray hs) (fun _ => none) a) a) :
    (Code.region id l.toArray true).wpIn (Fence.wide.inRound lv) n P Q a w := by
  simp only [Bool.and_eq_true] at hF
  refine Go.wpIn_mono (Q := Only Q) (wpIn_region_any hm (wpAny_inRound (fun i o ho => noDefer_ne hd ho) (fun h => only_lets h) _ _ _ _ ?_)) (fun e a w h => by obtain ⟨rfl, h⟩ := h; exact h)
  have h1 := wpFirst_any (P := P) (Q := Q) (md := .any) hF.1 (w := w.drew) (n := hs.length + g) fs (Array.replicate l.length false) a hF.2 (fun a h => ?_) h
  · rw [hn] at h1
    simpa using h1
  · have h2 := wpR_of_wpS (fun k hk => by
      simp only [groupB, Bool.and_eq_true] at hB
      obtain ⟨_, hmem, _⟩ := orderB_spec hB.1.1.2
      exact (hmem k hk).2.2) h
    exact wpAny_R (P := P) (Q := Only Q) (w0 := w) (w := w.drew) (a := a) (ps.map (·.1)) hs g (pOf_keeps hkeep) hB (Below.refl _ w).drew h2
end Go.Pb

/- The lists of spots while one of them is being filled. -/
namespace Go.Pb.Sag
open Go Go.Pb Go.Pb.Ware Go.RowKit
set_option linter.unusedVariables false
/-- Of what was there, one cell of the block g alone has changed. -/
structure OutOnly (w1 : World) (g i : Nat) (W : World) : Prop where
  below : Below g w1 W
  seg : ∀ k, g < k → k < w1.heap.size → W.heap[k]? = w1.heap[k]?
  cells : ∀ j u, j ≠ i → w1.cell? ⟨g, j, none⟩ = some u → W.cell? ⟨g, j, none⟩ = some u
  frz : ∀ j u, w1.cell? ⟨g, j, none⟩ = some u → w1.frozen? ⟨g, j, none⟩ = false → W.frozen? ⟨g, j, none⟩ = false
theorem OutOnly.refl {w1 : World} {g i : Nat} : OutOnly w1 g i w1 := ⟨Below.refl _ _, fun _ _ _ => rfl, fun _ _ _ h => h, fun _ _ _ h => h⟩
theorem OutOnly.grown {w1 W W' : World} {g i : Nat} {row : Option Nat} (h : OutOnly w1 g i W) (hg : W.grownBy W' row) (hlt : g < w1.heap.size) (hr : ∀ r, row = some r → w1.heap.size ≤ r) : OutOnly w1 g i W' := by
  have hs := h.below.size
  have hb : W'.heap[g]? = W.heap[g]? := hg.block g (by omega) (fun e => by have := hr g e.symm; omega)
  refine ⟨h.below.grown hg (by omega) (fun k e => by have := hr k e; omega), fun k h1 h2 => ?_, fun j u hj hu => ?_, fun j u hu hf => ?_⟩
  · rw [hg.block k (by omega) (fun e => by have := hr k e.symm; omega)]; exact h.seg k h1 h2
  · rw [World.cell?_of_block (w := W) hb]; exact h.cells j u hj hu
  · rw [World.frozen?_of_block (a := ⟨g, j, none⟩) (w := W) hb]; exact h.frz j u hu hf
theorem OutOnly.next {w1 W W' : World} {g i : Nat} (h : OutOnly w1 g i W) (hlt : g < w1.heap.size) (hb : Below W.heap.size W W') : OutOnly w1 g i W' := h.grown (grown_of_below hb) hlt (fun r e => by cases e)
theorem OutOnly.set {w1 W : World} {g i : Nat} (h : OutOnly w1 g i W) (v : Value) : OutOnly w1 g i (W.setCell ⟨g, i, none⟩ v) :=
  ⟨h.below.setCell (p := ⟨g, i, none⟩) (Nat.le_refl _) v, fun k h1 h2 => by rw [Below.heap_setCell _ _ _ _ (by show k ≠ g; omega)]; exact h.seg k h1 h2, fun j u hj hu => setc_other (h.cells j u hj hu) hj, fun j u hu hf => by simp [go_sem, h.frz j u hu hf]⟩
theorem OutOnly.keepSeg {w1 W W' : World} {g i lo hi : Nat} (h : OutOnly w1 g i W) (h' : OutOnly w1 g i W') (hlo : g < lo) (hhi : hi ≤ w1.heap.size) (hs : W.heap.size ≤ W'.heap.size) : KeepSeg lo hi W W' :=
  ⟨hs, fun k h1 h2 => (h'.seg k (by omega) (by omega)).trans (h.seg k (by omega) (by omega)).symm⟩
theorem OutOnly.at {w1 W : World} {g i B o : Nat} {v : Value} (h : OutOnly w1 g i W) (hc : w1.cell? ⟨B, o, none⟩ = some v) (hB : B ≠ g) : W.cell? ⟨B, o, none⟩ = some v := by
  have hlt := World.block_lt_of_cell? w1 _ hc
  rcases Nat.lt_or_ge B g with h1 | h1
  · rw [h.below.cell (p := ⟨B, o, none⟩) h1]; exact hc
  · rw [World.cell?_of_block (w := w1) (h.seg B (by omega) hlt)]; exact hc
theorem OutOnly.free {w1 W : World} {g i B o : Nat} {v : Value} (h : OutOnly w1 g i W) (hc : w1.cell? ⟨B, o, none⟩ = some v) (hf : w1.frozen? ⟨B, o, none⟩ = false) : W.frozen? ⟨B, o, none⟩ = false := by
  have hlt := World.block_lt_of_cell? w1 _ hc
  rcases Nat.lt_trichotomy B g with h1 | h1 | h1
  · rw [h.below.frozen (p := ⟨B, o, none⟩) h1]; exact hf
  · subst h1; exact h.frz o v hc hf
  · rw [World.frozen?_of_block (a := ⟨B, o, none⟩) (w := w1) (h.seg B (by omega) hlt)]; exact hf
theorem OutOnly.cellsAt {w1 W : World} {g i B : Nat} {vs : List Value} (h : OutOnly w1 g i W) (hc : CellsAt w1 B vs) (hB : B ≠ g) : CellsAt W B vs :=
  fun o v hv => ⟨h.at (hc o v hv).1 hB, h.free (hc o v hv).1 (hc o v hv).2⟩
/-- The list at i of the slice at g while it is being filled. -/
def Filling (w1 : World) (g i T : Nat) (l : List Sp) (W : World) : Prop := OutOnly w1 g i W ∧ ∃ v, (W.cell? ⟨g, i, none⟩ = some v ∧ W.frozen? ⟨g, i, none⟩ = false) ∧ W.ownsRow w1.heap.size T 4 v l.length (l.flatMap cellsA)
theorem filling_own {β : Type} {w1 : World} {g i T : Nat} (hlt : g < w1.heap.size) (f : β → List Sp) : OwnFrom w1.heap.size (fun s W => Filling w1 g i T (f s) W) := by
  rintro s X Y row ⟨ho, v, ⟨h1, h2⟩, h3⟩ hg hr
  have hr2 : ∀ r, row = some r → ∃ o : Obj, X.heap[r]? = some o ∧ o.isCells = false := fun r e => (hr r e).2
  refine ⟨ho.grown hg hlt (fun r e => (hr r e).1), v, ⟨cell_kept h1 hg hr2, (frozen_kept h1 hg hr2).trans h2⟩, h3.kept hg ?_⟩
  rcases h3.2 with ⟨rfl, _⟩ | ⟨b, cap, cur, rfl, _, hgb, _⟩
  · exact .inl rfl
  · refine .inr fun e' => ?_
    obtain ⟨o, ho, hc⟩ := hr2 b (by simpa [Value.ownBlock] using e'.symm)
    rw [hgb] at ho; cases ho; cases hc
theorem flat_get {α : Type} {n : Nat} (cs : α → List Value) (hc : ∀ x, (cs x).length = n) : ∀ {l : List α} {k j : Nat} {x : α}, l[k]? = some x → j < n → (l.flatMap cs)[k * n + j]? = (cs x)[j]?
  | [], k, j, x, h, _ => by simp at h
  | y :: l, 0, j, x, h, hj => by
    have e : y = x := by simpa using h
    rw [List.flatMap_cons, List.getElem?_append_left (by rw [hc]; omega), e, Nat.zero_mul, Nat.zero_add]
  | y :: l, k + 1, j, x, h, hj => by
    have h2 : l[k]? = some x := by simpa using h
    rw [List.flatMap_cons, List.getElem?_append_right (by rw [hc, Nat.succ_mul]; omega), hc, show (k + 1) * n + j - n = k * n + j by rw [Nat.succ_mul]; omega]
    exact flat_get cs hc h2 hj
/-- What a slice of the call's own holds, element by element. -/
theorem owns_spots {W : World} {base T : Nat} {v : Value} {l : List Sp} (h : W.ownsRow base T 4 v l.length (l.flatMap cellsA)) : ∃ (a : Option Addr) (cap : Nat), v = .slice a l.length cap ∧
    ∀ k x, l[k]? = some x → ∃ b : Nat, (base ≤ b ∧ b < W.heap.size) ∧ a = some ⟨b, 0, none⟩ ∧ ∀ j u, (cellsA x)[j]? = some u → W.cell? ⟨b, k * 4 + j, none⟩ = some u := by
  rcases h.2 with ⟨rfl, h0⟩ | ⟨b, cap, cur, rfl, hb, hgb, _⟩
  · refine ⟨none, 0, by rw [h0], fun k x hx => ?_⟩
    rw [List.length_eq_zero_iff.1 h0] at hx; simp at hx
  · refine ⟨some ⟨b, 0, none⟩, cap, rfl, fun k x hx => ⟨b, ⟨hb, (Array.getElem?_eq_some_iff.1 hgb).1⟩, rfl, fun j u hu => ?_⟩⟩
    have hj : j < 4 := by have := (List.getElem?_eq_some_iff.1 hu).1; simpa [cellsA] using this
    have h2 := h.cells (g := b) rfl (k * 4 + j) u (by rw [flat_get (n := 4) cellsA (fun _ => rfl) hx hj]; exact hu)
    rw [Go.WideShapes.add_plain, Nat.zero_add] at h2
    exact h2
theorem cell_len (s : Bx) (f : Ft) (y x k : Nat) : (cellL s f y x k).length ≤ 2 := by
  unfold cellL
  refine Nat.le_trans (List.length_filter_le ..) ?_
  rw [List.length_map, List.length_take]
  have := (ways_len f).2; omega
theorem row_len (s : Bx) (f : Ft) (y : Nat) : ∀ m, (rowL s f y m).length ≤ 2 * m
  | 0 => by simp [rowL]
  | m + 1 => by
    rw [rowL, List.length_append]
    have := row_len s f y m
    have := cell_len s f y m (ways f).length
    omega
theorem standsN_len (s : Bx) (f : Ft) {c : Nat} (hc : s.wide.toNat ≤ c) : ∀ n, (standsN s f n).length ≤ n * (2 * c)
  | 0 => by simp [standsN]
  | n + 1 => by
    rw [standsN, List.length_append, Nat.succ_mul]
    have := standsN_len s f hc n
    have := row_len s f n s.wide.toNat
    omega
theorem stands_len {s : Bx} (f : Ft) (hX : boxOk s = true) : (standsL s f).length ≤ 72 := by
  have h2 := boxOk_iff.1 hX
  have h1 := standsN_len s f (c := 6) (by omega) s.deep.toNat
  have h3 : s.deep.toNat * (2 * 6) ≤ 6 * (2 * 6) := Nat.mul_le_mul_right _ (by omega)
  unfold standsL; omega
def spotP (f : Ft) (p : St) : Sp := (p, maskOf f p)
theorem spots_is (s : Bx) (f : Ft) : spotsL s f = (standsL s f).map (spotP f) := rfl
theorem spots_snoc (f : Ft) (pre : List St) (x : St) : (pre.map (spotP f)).flatMap cellsA ++ cellsA (spotP f x) = ((pre ++ [x]).map (spotP f)).flatMap cellsA := by simp
theorem one_A (f : Ft) (x : St) : ∀ u ∈ cellsA (spotP f x), u.oneCell' = true := fun u hu => by
  simp only [cellsA, List.mem_cons, List.not_mem_nil, or_false] at hu
  rcases hu with rfl | rfl | rfl | rfl <;> rfl
theorem own_cells {W : World} {base size n : Nat} {e : TypeId} {v : Value} {xs : List Value} (h : W.ownsRow base e size v n xs) : ∀ j o, v.ownBlock = some j → W.heap[j]? = some o → o.isCells = true := by
  intro j o ej hj
  rcases h.2 with ⟨rfl, _⟩ | ⟨g, cap, cur, rfl, _, hgb, _⟩
  · simp [Value.ownBlock] at ej
  · obtain rfl : g = j := by simpa [Value.ownBlock] using ej
    rw [hgb] at hj; cases hj; rfl
theorem grown_setc (W : World) (a : Addr) (v : Value) : W.grownBy (W.setCell a v) (some a.block) :=
  ⟨rfl, rfl, rfl, by simp, fun k _ hk => Below.heap_setCell _ _ _ k (fun e => hk (by rw [e]))⟩
theorem Filling.slot {w1 Wb w2 w3 : World} {g i T n : Nat} {xs : List Value} {v c0 : Value} (hlt : g < w1.heap.size) (hc : w1.cell? ⟨g, i, none⟩ = some c0) (hf : w1.frozen? ⟨g, i, none⟩ = false) (hO : OutOnly w1 g i Wb) (c1 : Wb.cell? ⟨g, i, none⟩ = some v) (hb : Below Wb.heap.size Wb w2)
    (hown2 : w2.ownsRow w1.heap.size T 4 v n xs) (hg3 : w2.grownBy w3 v.ownBlock) : w3.cell? ⟨g, i, none⟩ = some v ∧ w3.frozen? ⟨g, i, none⟩ = false := by
  have hr : ∀ r, v.ownBlock = some r → w1.heap.size ≤ r := fun r e => (World.ownsRow.lt hown2 r e).1
  exact ⟨grown_kept hg3 (bkeep hb c1) (fun e => by have := hr g e.symm; omega), ((hO.next hlt hb).grown hg3 hlt hr).frz i c0 hc hf⟩
/-- One spot more. -/
theorem Filling.push {w1 Wb w2 w3 : World} {g i T n : Nat} {l : List Sp} {x : Sp} {v v' c0 : Value} (hn : l.length = n) (hlt : g < w1.heap.size) (hc : w1.cell? ⟨g, i, none⟩ = some c0) (hf : w1.frozen? ⟨g, i, none⟩ = false) (hO : OutOnly w1 g i Wb) (c1 : Wb.cell? ⟨g, i, none⟩ = some v) (hb : Below Wb.heap.size Wb w2)
    (hown2 : w2.ownsRow w1.heap.size T 4 v n (l.flatMap cellsA)) (hg3 : w2.grownBy w3 v.ownBlock) (ho3 : w3.ownsRow w1.heap.size T 4 v' (n + 1) (l.flatMap cellsA ++ cellsA x)) :
    Filling w1 g i T (l ++ [x]) (w3.setCell ⟨g, i, none⟩ v') ∧ KeepsOthers Wb (w3.setCell ⟨g, i, none⟩ v') ∧ Wb.heap.size ≤ (w3.setCell ⟨g, i, none⟩ v').heap.size := by
  have hr : ∀ r, v.ownBlock = some r → w1.heap.size ≤ r := fun r e => (World.ownsRow.lt hown2 r e).1
  have hO4 := ((hO.next hlt hb).grown hg3 hlt hr).set v'
  have c3 : w3.cell? ⟨g, i, none⟩ = some v := grown_kept hg3 (bkeep hb c1) (fun e => by have := hr g e.symm; omega)
  refine ⟨⟨hO4, v', ⟨setc_same c3, hO4.frz i c0 hc hf⟩, ?_⟩, ((keeps_of_below hb).trans (KeepsOthers.of_grownBy hg3 (own_cells hown2))).trans (KeepsOthers.setCell _ _ _), ?_⟩
  · rw [List.length_append, List.length_singleton, hn, List.flatMap_append, show [x].flatMap cellsA = cellsA x by simp]
    exact ho3.kept (grown_setc w3 ⟨g, i, none⟩ v') (.inr fun e => by have := (World.ownsRow.lt ho3 g e).1; omega)
  · have := hb.size; have := hg3.size; simp; omega
theorem OutOnly.waits {w1 W : World} {g i : Nat} {ds : List Nat} {u : Value} (h : OutOnly w1 g i W) (hw : Waits ds w1) (hc : w1.cell? ⟨g, i, none⟩ = some u) : Waits ds W := by
  refine ⟨hw.1, fun D hD => ?_⟩
  have h1 := hw.2 D hD
  have h2 := hw.lt hD
  rcases Nat.lt_trichotomy D g with h3 | h3 | h3
  · rw [h.below.block D h3]; exact h1
  · subst h3; simp [World.cell?, h1] at hc
  · rw [h.seg D h3 h2]; exact h1
theorem SpotsIn.closed {lo hi : Nat} {v : Value} {sp : List (List Sp)} {ds : List Nat} {W W' : World} (h : SpotsIn lo hi v sp W) (hc : Closed ds W W') (hw : Waits ds W) : SpotsIn lo hi v sp W' := by
  obtain ⟨g, hg, e, h⟩ := h
  refine ⟨g, hg, e, fun i l hl => ?_⟩
  obtain ⟨a, cap, h1, h0, h2⟩ := h i l hl
  refine ⟨a, cap, hc.cell hw h1, h0, fun k x hx => ?_⟩
  obtain ⟨b, hb, e2, h3⟩ := h2 k x hx
  exact ⟨b, hb, e2, fun j u hu => hc.cell hw (h3 j u hu)⟩
end Go.Pb.Sag

/- The plain mathematics of layer 2 (saggar), part 9: whether there is a packing does not hang on the order of the items. -/
namespace Go.Pb.Sag
open Go Go.Pb Go.Pb.Ware Go.RowKit
set_option linter.unusedVariables false
theorem packs_cons {l : List Sp} {ls : List (List Sp)} {u : Nat} : packsF (l :: ls) u ≠ [] ↔ ∃ a ∈ l, u &&& a.2 = 0 ∧ packsF ls (u ||| a.2) ≠ [] := by
  rw [packsF]
  constructor
  · intro h
    obtain ⟨x, hx⟩ := List.exists_mem_of_ne_nil _ h
    obtain ⟨a, ha, hxa⟩ := List.mem_flatMap.1 hx
    refine ⟨a, ha, ?_⟩
    by_cases hm : (u &&& a.2 != 0) = true
    · rw [if_pos hm] at hxa; cases hxa
    · rw [if_neg hm] at hxa
      refine ⟨by simpa using hm, fun e => ?_⟩
      rw [e] at hxa; cases hxa
  · rintro ⟨a, ha, h0, hne⟩ e
    obtain ⟨x, hx⟩ := List.exists_mem_of_ne_nil _ hne
    have h1 : a.1 :: x ∈ l.flatMap fun a => if (u &&& a.2 != 0) = true then [] else (packsF ls (u ||| a.2)).map (a.1 :: ·) := by
      refine List.mem_flatMap.2 ⟨a, ha, ?_⟩
      rw [if_neg (by simp [h0])]
      exact List.mem_map.2 ⟨x, hx, rfl⟩
    rw [e] at h1; cases h1
theorem or_and_zero {u a b : Nat} : (u ||| a) &&& b = 0 ↔ u &&& b = 0 ∧ a &&& b = 0 := by
  rw [Nat.and_or_distrib_right, Nat.or_eq_zero_iff]
theorem packs_swap {l1 l2 : List Sp} {ls : List (List Sp)} {u : Nat} (h : packsF (l1 :: l2 :: ls) u ≠ []) : packsF (l2 :: l1 :: ls) u ≠ [] := by
  obtain ⟨a, ha, h0, h1⟩ := packs_cons.1 h
  obtain ⟨b, hb, h2, h3⟩ := packs_cons.1 h1
  obtain ⟨h4, h5⟩ := or_and_zero.1 h2
  refine packs_cons.2 ⟨b, hb, h4, packs_cons.2 ⟨a, ha, or_and_zero.2 ⟨h0, by rw [Nat.and_comm]; exact h5⟩, ?_⟩⟩
  have e : u ||| b.2 ||| a.2 = u ||| a.2 ||| b.2 := by rw [Nat.or_assoc, Nat.or_comm b.2, ← Nat.or_assoc]
  rw [e]; exact h3
theorem packs_perm {l m : List (List Sp)} (h : l.Perm m) : ∀ u, packsF l u ≠ [] → packsF m u ≠ [] := by
  induction h with
  | nil => exact fun _ h => h
  | cons x _ ih =>
    intro u h
    obtain ⟨a, ha, h0, h1⟩ := packs_cons.1 h
    exact packs_cons.2 ⟨a, ha, h0, ih _ h1⟩
  | swap x y l => exact fun u h => packs_swap h
  | trans _ _ ih1 ih2 => exact fun u h => ih2 u (ih1 u h)
/-- Fewer items have a packing where more have one. -/
theorem packs_more {l m : List (List Sp)} (h : l.Sublist m) : ∀ (u v : Nat), u &&& v = u → packsF m v ≠ [] → packsF l u ≠ [] := by
  have key : ∀ {u v b : Nat}, u &&& v = u → v &&& b = 0 → u &&& b = 0 := fun {u v b} h1 h2 => by rw [← h1, Nat.and_assoc, h2, Nat.and_zero]
  have grow : ∀ {u v b : Nat}, u &&& v = u → (u ||| b) &&& (v ||| b) = u ||| b := fun {u v b} h1 => by rw [← Nat.or_and_distrib_right, h1]
  have wide : ∀ {u v b : Nat}, u &&& v = u → u &&& (v ||| b) = u := fun {u v b} h1 => by
    rw [Nat.and_or_distrib_left, h1]
    apply Nat.eq_of_testBit_eq
    intro i
    rw [Nat.testBit_or, Nat.testBit_and]
    cases u.testBit i <;> simp
  induction h with
  | slnil => exact fun u v _ h => by rw [packsF]; simp
  | cons x _ ih =>
    intro u v huv h
    obtain ⟨a, ha, h0, h1⟩ := packs_cons.1 h
    exact ih _ _ (wide huv) h1
  | cons_cons x _ ih =>
    intro u v huv h
    obtain ⟨a, ha, h0, h1⟩ := packs_cons.1 h
    exact packs_cons.2 ⟨a, ha, key huv h0, ih _ _ (grow huv) h1⟩
end Go.Pb.Sag

/- Sorting feet: what the library's contract wants and gives, in the words of feet. -/
namespace Go.Pb.Sag
open Go Go.Pb Go.Pb.Ware Go.RowKit Go.Proofs Go.Sort
set_option linter.unusedVariables false
abbrev FtV := {f : Ft // FtOk f}
instance : Inhabited FtV := ⟨⟨⟨1, 1, 0, 0⟩, by unfold FtOk; simp⟩⟩
def encF (f : FtV) : List Value := cellsF f.1
def cmpF (x y : FtV) : Int := y.1.wide * y.1.deep - x.1.wide * x.1.deep
theorem cmpF_swo : SWO (ltOf cmpF) where
  irrefl x := by unfold ltOf cmpF; simp
  trans x y z h1 h2 := by unfold ltOf cmpF at *; simp only [decide_eq_true_eq] at *; omega
  ntrans x y z h1 h2 := by unfold ltOf cmpF at *; simp only [decide_eq_false_iff_not] at *; omega
def valF (fs : List Ft) (hok : ∀ f ∈ fs, FtOk f) : Array FtV := (fs.attachWith FtOk hok).toArray
theorem valF_size (fs : List Ft) (hok : ∀ f ∈ fs, FtOk f) : (valF fs hok).size = fs.length := by simp [valF]
theorem valF_map (fs : List Ft) (hok : ∀ f ∈ fs, FtOk f) : (valF fs hok).toList.map (·.1) = fs := by unfold valF; simp
theorem owns_frozen {w : World} {base size n g : Nat} {e : TypeId} {v : Value} {xs : List Value} (h : w.ownsRow base e size v n xs) (hg : v.ownBlock = some g) (o : Nat) : w.frozen? ⟨g, o, none⟩ = false := by
  rcases h.2 with ⟨rfl, _⟩ | ⟨g', cap, cur, rfl, _, hgb, _⟩
  · simp [Value.ownBlock] at hg
  · obtain rfl : g' = g := by simpa [Value.ownBlock] using hg
    simp [World.frozen?, hgb]
theorem holdsF {w : World} {base b cap : Nat} {e : TypeId} {fs : List Ft} (hok : ∀ f ∈ fs, FtOk f) (h : w.ownsRow base e 4 (.slice (some ⟨b, 0, none⟩) fs.length cap) fs.length (fs.flatMap cellsF)) : HoldsK encF 4 w b 0 (valF fs hok) := by
  intro t ht
  rw [size_flatK, valF_size] at ht
  refine ⟨?_, owns_frozen h rfl _⟩
  rw [get_flatK _ _ _ _ (by rw [valF_size]; exact ht)]
  have hk : t / 4 < fs.length := by omega
  have hk2 : t / 4 < (valF fs hok).size := by rw [valF_size]; exact hk
  have hf : ((valF fs hok)[t / 4]!).1 = fs[t / 4] := by
    rw [getElem!_pos (valF fs hok) (t / 4) hk2]
    have h1 : ((valF fs hok).toList.map (·.1))[t / 4]? = some fs[t / 4] := by rw [valF_map]; exact List.getElem?_eq_getElem hk
    rw [List.getElem?_map, Array.getElem?_toList, Array.getElem?_eq_getElem hk2] at h1
    simpa using h1
  have hu : (cellsF fs[t / 4])[t % 4]? = some ((encF (valF fs hok)[t / 4]!)[t % 4]!) := by
    unfold encF; rw [hf]
    have hlt : t % 4 < (cellsF fs[t / 4]).length := by show t % 4 < 4; omega
    rw [getElem!_pos (cellsF fs[t / 4]) (t % 4) hlt, List.getElem?_eq_getElem hlt]
  have h2 := h.cells (g := b) rfl t _ (by
    have h3 := flat_get (n := 4) cellsF (fun _ => rfl) (List.getElem?_eq_getElem hk) (j := t % 4) (by omega)
    rw [show t / 4 * 4 + t % 4 = t by omega] at h3
    rw [h3]; exact hu)
  rw [Go.WideShapes.add_plain] at h2
  exact h2
theorem feetAt_holds {w : World} {b n cap : Nat} {d : Array FtV} (hn : d.size = n) (hcap : n ≤ cap) (hcap2 : cap ≤ 9223372036854775807) (h : HoldsK encF 4 w b 0 d) : FeetAt w (.slice (some ⟨b, 0, none⟩) n cap) (d.toList.map (·.1)) := by
  subst hn
  refine .inr ⟨⟨b, 0, none⟩, cap, by simp, by simpa using hcap, hcap2, fun k r hr => ?_⟩
  rw [List.getElem?_map, List.getElem?_map, Array.getElem?_toList] at hr
  have hk : k < d.size := by
    rcases Nat.lt_or_ge k d.size with h1 | h1
    · exact h1
    · rw [Array.getElem?_eq_none h1] at hr; simp at hr
  rw [Array.getElem?_eq_getElem hk] at hr
  have hr2 : rowF d[k].1 = r := by simpa using hr
  subst hr2
  refine ⟨rfl, fun j z hz => ⟨?_, i64F d[k].2 z (List.mem_of_getElem? hz)⟩⟩
  have hj : j < 4 := (List.getElem?_eq_some_iff.1 hz).1
  have h1 := (h.cell hk hj).1
  rw [Go.WideShapes.add_plain, show 0 + (k * 4 + j) = 0 + k * 4 + j by omega, h1, getElem!_pos d k hk]
  unfold encF
  have h2 : (cellsF d[k].1)[j]? = some (.int .i64 z) := by
    have : cellsF d[k].1 = (rowF d[k].1).map (.int .i64) := rfl
    rw [this, List.getElem?_map, hz]; rfl
  have hlt : j < (cellsF d[k].1).length := hj
  rw [getElem!_pos (cellsF d[k].1) j hlt, ← List.getElem?_eq_getElem hlt, h2]
theorem permF {fs : List Ft} {hok : ∀ f ∈ fs, FtOk f} {d : Array FtV} (h : PermIn 0 (valF fs hok).size (valF fs hok) d) : d.size = fs.length ∧ (d.toList.map (·.1)).Perm fs := by
  obtain ⟨h1, _, h3⟩ := h
  refine ⟨by rw [h1, valF_size], ?_⟩
  have e1 : d.extract 0 (valF fs hok).size = d := by rw [← h1]; simp
  have e2 : (valF fs hok).extract 0 (valF fs hok).size = valF fs hok := by simp
  rw [e1, e2] at h3
  have h4 := h3.map (fun x : FtV => x.1)
  rw [valF_map] at h4
  exact h4
theorem below_sort {w : World} {B b m : Nat} {d : Array FtV} {os : Array Obj} (hb : B ≤ b) (hB : B ≤ w.heap.size) : Below B w (sortWorldK encF 4 w b 0 m d os) := by
  refine ⟨rfl, rfl, rfl, size_sortWorldK_c .., fun k hk => ?_⟩
  unfold sortWorldK
  rw [heap_grow_old _ _ (by simp [putRowK]; omega)]
  unfold putRowK putRow mapBlock
  rw [Array.getElem?_modify, if_neg (by omega)]
  rfl
end Go.Pb.Sag
namespace Go.Pb.Sag
open Go Go.Pb Go.Pb.Ware Go.RowKit
theorem sum_perm {l m : List Int} (h : l.Perm m) : l.sum = m.sum := by
  induction h with
  | nil => rfl
  | cons x _ ih => rw [List.sum_cons, List.sum_cons, ih]
  | swap x y l => simp only [List.sum_cons]; omega
  | trans _ _ h1 h2 => exact h1.trans h2
/-- Is there a packing? -/
def fitsB (s : Bx) (fs : List Ft) : Bool := !(shownL s fs).isEmpty
theorem plain_perm {s : Bx} {fs gs : List Ft} (h : gs.Perm fs) : plainB s gs = plainB s fs := by
  have h1 : ∀ p : Ft → Bool, gs.any p = fs.any p := fun p => by
    rw [Bool.eq_iff_iff, List.any_eq_true, List.any_eq_true]
    exact ⟨fun ⟨x, hx, e⟩ => ⟨x, h.mem_iff.1 hx, e⟩, fun ⟨x, hx, e⟩ => ⟨x, h.mem_iff.2 hx, e⟩⟩
  have h2 : weightL gs = weightL fs := sum_perm (h.map _)
  have h3 : areaL gs = areaL fs := sum_perm (h.map _)
  have h4 : ∀ k, troubleB s gs k = troubleB s fs k := fun k => by unfold troubleB; rw [h1, h1, h2, h3]
  unfold plainB; rw [h4, h4, h4, h4]
theorem fits_perm {s : Bx} {fs gs : List Ft} (h : gs.Perm fs) : fitsB s gs = fitsB s fs := by
  have key : ∀ {fs gs : List Ft}, gs.Perm fs → shownL s gs ≠ [] → shownL s fs ≠ [] := by
    intro fs gs h h1
    unfold shownL at h1 ⊢
    rw [plain_perm h] at h1
    split at h1
    · exact absurd rfl h1
    · rename_i hp; rw [if_neg hp]; exact packs_perm (h.map _) 0 h1
  unfold fitsB
  rw [Bool.eq_iff_iff]
  simp only [Bool.not_eq_true', List.isEmpty_eq_false_iff]
  exact ⟨key h, key h.symm⟩
theorem fits_none {s : Bx} {fs : List Ft} (h : (shownL s fs)[0]? = none) : fitsB s fs = false := by
  unfold fitsB; cases hs : shownL s fs with
  | nil => rfl
  | cons a l => rw [hs] at h; simp at h
theorem fits_some {s : Bx} {fs : List Ft} {q : List St} (h : (shownL s fs)[0]? = some q) : fitsB s fs = true := by
  unfold fitsB; cases hs : shownL s fs with
  | nil => rw [hs] at h; simp at h
  | cons a l => rfl
end Go.Pb.Sag

/- Slices read as the cells that they hold, whatever an element is. -/
namespace Go.Pb
open Go Go.RowKit
set_option linter.unusedVariables false
/-- The slice v has m elements of n cells each, which hold cs. -/
structure LAt (n : Nat) (w : World) (v : Value) (m : Nat) (cs : List Value) : Prop where
  len : cs.length = m * n
  one : ∀ u ∈ cs, u.oneCell' = true
  at' : (v = .slice none 0 0 ∧ m = 0) ∨ ∃ (a : Addr) (cap : Nat), v = .slice (some a) m cap ∧ m ≤ cap ∧ cap ≤ 9223372036854775807 ∧ ∀ j u, cs[j]? = some u → w.cell? (a.add j) = some u
theorem LAt.below {n m : Nat} {w w' : World} {v : Value} {cs : List Value} (h : LAt n w v m cs) (hb : Below w.heap.size w w') : LAt n w' v m cs :=
  ⟨h.len, h.one, by
    rcases h.at' with h1 | ⟨a, cap, h1, h2, h3, h4⟩
    · exact .inl h1
    · exact .inr ⟨a, cap, h1, h2, h3, fun j u hu => bkeep hb (h4 j u hu)⟩⟩
theorem LAt.shape {n m : Nat} {w : World} {v : Value} {cs : List Value} (h : LAt n w v m cs) : ∃ (a : Option Addr) (cap : Nat), v = .slice a m cap ∧ m ≤ cap ∧ cap ≤ 9223372036854775807 ∧ (a = none → m = 0 ∧ cap = 0) := by
  rcases h.at' with ⟨h1, h2⟩ | ⟨a, cap, h1, h2, h3, h4⟩
  · subst h2; exact ⟨none, 0, h1, Nat.le_refl _, by omega, fun _ => ⟨rfl, rfl⟩⟩
  · exact ⟨some a, cap, h1, h2, h3, fun e => by cases e⟩
theorem LAt.cells {n m cap : Nat} {w : World} {a : Addr} {cs : List Value} (h : LAt n w (.slice (some a) m cap) m cs) : ∀ j u, cs[j]? = some u → w.cell? (a.add j) = some u := by
  rcases h.at' with ⟨h1, _⟩ | ⟨a', cap', h1, _, _, h4⟩
  · cases h1
  · injection h1 with h1 _ _; injection h1 with h1; subst h1; exact h4
theorem LAt.nil {n cap : Nat} {w : World} {cs : List Value} {m : Nat} (h : LAt n w (.slice none m cap) m cs) : m = 0 ∧ cap = 0 ∧ cs = [] := by
  rcases h.at' with ⟨h1, h2⟩ | ⟨a', cap', h1, _, _, h4⟩
  · injection h1 with _ _ h3; subst h2; exact ⟨rfl, h3, List.length_eq_zero_iff.1 (by rw [h.len]; simp)⟩
  · injection h1 with h1 _ _; cases h1
theorem LAt.head {n m cap k : Nat} {w : World} {a : Addr} {cs : List Value} (h : LAt n w (.slice (some a) m cap) m cs) (hk : k ≤ m) : LAt n w (.slice (some a) k cap) k (cs.take (k * n)) := by
  obtain ⟨_, cap', e, h2, h3, _⟩ := h.shape
  injection e with _ _ e; subst e
  refine ⟨by rw [List.length_take, h.len]; exact Nat.min_eq_left (Nat.mul_le_mul_right n hk), fun u hu => h.one u (List.mem_of_mem_take hu), .inr ⟨a, cap, rfl, by omega, h3, fun j u hu => ?_⟩⟩
  rw [List.getElem?_take] at hu
  split at hu
  · exact h.cells j u hu
  · cases hu
theorem LAt.tail {n m cap k : Nat} {w : World} {a q : Addr} {cs : List Value} (h : LAt n w (.slice (some a) m cap) m cs) (hk : k ≤ m) (hq : k < m → q = a.add (k * n)) : LAt n w (.slice (some q) (m - k) (cap - k)) (m - k) (cs.drop (k * n)) := by
  obtain ⟨_, cap', e, h2, h3, _⟩ := h.shape
  injection e with _ _ e; subst e
  refine ⟨by rw [List.length_drop, h.len, Nat.sub_mul], fun u hu => h.one u (List.mem_of_mem_drop hu), .inr ⟨q, cap - k, rfl, by omega, by omega, fun j u hu => ?_⟩⟩
  have hkm : k < m := by
    rcases Nat.lt_or_ge k m with h5 | h5
    · exact h5
    · have h6 := (List.getElem?_eq_some_iff.1 hu).1
      rw [List.length_drop, h.len] at h6
      have := Nat.mul_le_mul_right n h5
      omega
  rw [hq hkm, Go.Deep.add_add]
  rw [List.getElem?_drop] at hu
  exact h.cells _ u hu
theorem drop_take_erase {n : Nat} {α : Type} {f : α → List Value} (hf : ∀ x, (f x).length = n) : ∀ {l : List α} {k : Nat}, (l.flatMap f).take (k * n) = (l.take k).flatMap f ∧ (l.flatMap f).drop (k * n) = (l.drop k).flatMap f
  | [], k => by simp
  | x :: l, 0 => by simp
  | x :: l, k + 1 => by
    obtain ⟨h1, h2⟩ := drop_take_erase hf (l := l) (k := k)
    rw [List.flatMap_cons, List.take_succ_cons, List.drop_succ_cons, List.flatMap_cons, Nat.succ_mul]
    have e : (f x).length ≤ k * n + n := by rw [hf]; omega
    refine ⟨?_, ?_⟩
    · rw [List.take_append, List.take_of_length_le e, hf, show k * n + n - n = k * n by omega, h1]
    · rw [List.drop_append, List.drop_of_length_le e, hf, show k * n + n - n = k * n by omega, h2, List.nil_append]
theorem flat_erase {n : Nat} {α : Type} {f : α → List Value} (hf : ∀ x, (f x).length = n) (l : List α) (k : Nat) : (l.flatMap f).take (k * n) ++ (l.flatMap f).drop ((k + 1) * n) = (l.eraseIdx k).flatMap f := by
  rw [(drop_take_erase hf).1, (drop_take_erase hf).2, ← List.flatMap_append, ← List.eraseIdx_eq_take_drop_succ]
end Go.Pb
namespace Go.Pb.Sag
open Go Go.Pb Go.Pb.Ware Go.RowKit
set_option linter.unusedVariables false
/-- Cells of items. -/
def cellsX (x : It) : List Value := [.int .i64 x.shape, .int .i64 x.many, .int .i64 x.clear]
def itCells (xs : List It) : List Value := xs.flatMap cellsX
theorem lenX (x : It) : (cellsX x).length = 3 := rfl
theorem it_len (xs : List It) : (itCells xs).length = xs.length * 3 := by
  unfold itCells
  induction xs with
  | nil => rfl
  | cons x xs ih => rw [List.flatMap_cons, List.length_append, ih, List.length_cons, lenX]; omega
theorem it_snoc {k : Nat} {y : It} : itCells (List.replicate k y) ++ itCells [y] = itCells (List.replicate (k + 1) y) := by
  unfold itCells
  rw [List.replicate_succ', List.flatMap_append]
theorem it_one {xs : List It} : ∀ u ∈ itCells xs, u.oneCell' = true := fun u hu => by
  obtain ⟨x, _, h⟩ := List.mem_flatMap.1 hu
  simp only [cellsX, List.mem_cons, List.not_mem_nil, or_false] at h
  rcases h with rfl | rfl | rfl <;> rfl
theorem it_flat (xs : List It) : itCells xs = (xs.map rowX).flatten.map (Value.int .i64) := by
  unfold itCells
  induction xs with
  | nil => rfl
  | cons x xs ih => rw [List.flatMap_cons, ih, List.map_cons, List.flatten_cons, List.map_append]; rfl
def I64X (x : It) : Prop := I64 x.shape ∧ I64 x.many ∧ I64 x.clear
theorem it_rows {w : World} {base : Nat} {T : TypeId} {v : Value} {xs : List It} (h : w.ownsRow base T 3 v xs.length (itCells xs)) (hi : ∀ x ∈ xs, I64X x) : RowsAt 3 w v (xs.map rowX) := by
  refine rowsAt_of_owns (e := T) (base := base) (fun r hr => ?_) (by rw [List.length_map, ← it_flat]; exact h) (fun r hr z hz => ?_)
  · obtain ⟨x, _, rfl⟩ := List.mem_map.1 hr; rfl
  · obtain ⟨x, hx, rfl⟩ := List.mem_map.1 hr
    obtain ⟨h1, h2, h3⟩ := hi x hx
    simp only [rowX, List.mem_cons, List.not_mem_nil, or_false] at hz
    rcases hz with rfl | rfl | rfl
    · exact h1
    · exact h2
    · exact h3
theorem it_i64 {w : World} {iv : Value} {xs : List It} (hi : RowsAt 3 w iv (xs.map rowX)) {k : Nat} {x : It} (hx : xs[k]? = some x) : I64X x := by
  rcases hi with ⟨_, h⟩ | ⟨a, cap, _, _, _, h⟩
  · rw [List.map_eq_nil_iff] at h; subst h; simp at hx
  · have h1 := (h k (rowX x) (by rw [List.getElem?_map, hx]; rfl)).2
    exact ⟨(h1 0 _ rfl).2, (h1 1 _ rfl).2, (h1 2 _ rfl).2⟩
theorem it_lat {w : World} {v : Value} {xs : List It} (h : RowsAt 3 w v (xs.map rowX)) : LAt 3 w v xs.length (itCells xs) := by
  refine ⟨it_len xs, it_one, ?_⟩
  rcases h with ⟨h1, h2⟩ | ⟨a, cap, h1, h2, h3, h4⟩
  · rw [List.map_eq_nil_iff] at h2; subst h2; exact .inl ⟨h1, rfl⟩
  · rw [List.length_map] at h1 h2
    refine .inr ⟨a, cap, h1, h2, h3, fun j u hu => ?_⟩
    have hj := (List.getElem?_eq_some_iff.1 hu).1
    rw [it_len] at hj
    have hk : j / 3 < xs.length := by omega
    have hx : xs[j / 3]? = some xs[j / 3] := List.getElem?_eq_getElem hk
    have e := flat_get cellsX lenX hx (show j % 3 < 3 by omega)
    rw [show j / 3 * 3 + j % 3 = j by omega] at e
    have hu2 : (cellsX xs[j / 3])[j % 3]? = some u := by rw [← e]; exact hu
    have h5 := (h4 (j / 3) (rowX xs[j / 3]) (by rw [List.getElem?_map, hx]; rfl)).2
    have key : ∀ i, i < 3 → (cellsX xs[j / 3])[i]? = some u → w.cell? (a.add (j / 3 * 3 + i)) = some u := by
      intro i hi hu3
      match i, hi with
      | 0, _ => injection hu3 with e; rw [← e]; exact (h5 0 _ rfl).1
      | 1, _ => injection hu3 with e; rw [← e]; exact (h5 1 _ rfl).1
      | 2, _ => injection hu3 with e; rw [← e]; exact (h5 2 _ rfl).1
    have := key (j % 3) (by omega) hu2
    rwa [show j / 3 * 3 + j % 3 = j by omega] at this
theorem lenQ' (q : Sq) : (cellsQ q).length = 3 := rfl
theorem st_len (qs : List Sq) : (qs.flatMap cellsQ).length = qs.length * 3 := by
  induction qs with
  | nil => rfl
  | cons x xs ih => rw [List.flatMap_cons, List.length_append, ih, List.length_cons, lenQ']; omega
theorem st_one {qs : List Sq} : ∀ u ∈ qs.flatMap cellsQ, u.oneCell' = true := fun u hu => by
  obtain ⟨x, _, h⟩ := List.mem_flatMap.1 hu
  simp only [cellsQ, List.mem_cons, List.not_mem_nil, or_false] at h
  rcases h with rfl | rfl | rfl <;> rfl
theorem st_lat {w : World} {v : Value} {qs : List Sq} (h : StAt w v qs) : LAt 3 w v qs.length (qs.flatMap cellsQ) := by
  refine ⟨st_len qs, st_one, ?_⟩
  rcases h with ⟨h1, h2⟩ | ⟨a, cap, h1, h2, h3, h4⟩
  · subst h2; exact .inl ⟨h1, rfl⟩
  · refine .inr ⟨a, cap, h1, h2, h3, fun j u hu => ?_⟩
    have hj := (List.getElem?_eq_some_iff.1 hu).1
    rw [st_len] at hj
    have hx : qs[j / 3]? = some qs[j / 3] := List.getElem?_eq_getElem (by omega)
    have e := flat_get cellsQ lenQ' hx (show j % 3 < 3 by omega)
    rw [show j / 3 * 3 + j % 3 = j by omega] at e
    have := h4 (j / 3) _ hx (j % 3) u (by rw [← e]; exact hu)
    rwa [show j / 3 * 3 + j % 3 = j by omega] at this
end Go.Pb.Sag

/- The plain mathematics of layer 2 (saggar): the packings that are shown are just those that are accepted, in order; what is packed has room. -/
namespace Go.Pb.Sag
open Go Go.Pb Go.Pb.Ware Go.RowKit
set_option linter.unusedVariables false
/-- One stand is ahead of another. -/
def ltS (p q : St) : Prop := p.y < q.y ∨ (p.y = q.y ∧ (p.x < q.x ∨ (p.x = q.x ∧ p.turned = false ∧ q.turned = true)))
theorem cell_sorted {s : Bx} {f : Ft} {y x k : Nat} : (cellL s f y x k).Pairwise ltS := by
  unfold cellL
  refine List.Pairwise.filter _ ?_
  rw [List.pairwise_map]
  refine List.Pairwise.sublist (List.take_sublist _ _) ?_
  unfold ways; split
  · exact List.pairwise_singleton _ _
  · simp [ltS]
theorem mem_cell {s : Bx} {f : Ft} {y x k : Nat} {p : St} (h : p ∈ cellL s f y x k) : p.y = y ∧ p.x = x := by
  unfold cellL at h
  obtain ⟨t, _, rfl⟩ := List.mem_map.1 (List.mem_filter.1 h).1
  exact ⟨rfl, rfl⟩
theorem row_sorted {s : Bx} {f : Ft} {y : Nat} : ∀ m, (rowL s f y m).Pairwise ltS ∧ ∀ p ∈ rowL s f y m, p.y = y ∧ p.x < m
  | 0 => by rw [rowL]; exact ⟨List.Pairwise.nil, fun p hp => by cases hp⟩
  | m + 1 => by
    obtain ⟨h1, h2⟩ := row_sorted (s := s) (f := f) (y := y) m
    rw [rowL]
    refine ⟨List.pairwise_append.2 ⟨h1, cell_sorted, fun a ha b hb => ?_⟩, fun p hp => ?_⟩
    · have h3 := h2 a ha
      have h4 := mem_cell hb
      exact .inr ⟨by omega, .inl (by omega)⟩
    · rcases List.mem_append.1 hp with hp | hp
      · have h3 := h2 p hp; omega
      · have h4 := mem_cell hp; omega
theorem stands_sorted {s : Bx} {f : Ft} : ∀ n, (standsN s f n).Pairwise ltS ∧ ∀ p ∈ standsN s f n, p.y < n
  | 0 => by rw [standsN]; exact ⟨List.Pairwise.nil, fun p hp => by cases hp⟩
  | n + 1 => by
    obtain ⟨h1, h2⟩ := stands_sorted (s := s) (f := f) n
    obtain ⟨h3, h4⟩ := row_sorted (s := s) (f := f) (y := n) s.wide.toNat
    rw [standsN]
    refine ⟨List.pairwise_append.2 ⟨h1, h3, fun a ha b hb => ?_⟩, fun p hp => ?_⟩
    · have h5 := h2 a ha
      have h6 := h4 b hb
      exact .inl (by omega)
    · rcases List.mem_append.1 hp with hp | hp
      · have h5 := h2 p hp; omega
      · have h6 := h4 p hp; omega
/-- A list of stands is ahead of another one of as many. -/
def lessB : List Sq → List Sq → Bool
  | [], _ => false
  | _ :: _, [] => false
  | a :: al, b :: bl => if a.y = b.y ∧ a.x = b.x ∧ a.turned = b.turned then lessB al bl else if a.y ≠ b.y then decide (a.y < b.y) else if a.x ≠ b.x then decide (a.x < b.x) else !a.turned
theorem less_same {a : Sq} {al bl : List Sq} : lessB (a :: al) (a :: bl) = lessB al bl := by rw [lessB, if_pos ⟨rfl, rfl, rfl⟩]
theorem less_irr : ∀ a : List Sq, lessB a a = false
  | [] => rfl
  | a :: al => by rw [less_same]; exact less_irr al
theorem less_asym : ∀ {a b : List Sq}, lessB a b = true → lessB b a = false
  | [], _, h => by rw [lessB] at h; cases h
  | _ :: _, [], h => by rw [lessB] at h; cases h
  | a :: al, b :: bl, h => by
    obtain ⟨y, x, t⟩ := a
    obtain ⟨y2, x2, t2⟩ := b
    rw [lessB] at h ⊢
    dsimp only at h ⊢
    by_cases h1 : y = y2
    · subst h1
      by_cases h2 : x = x2
      · subst h2
        by_cases h3 : t = t2
        · subst h3; simp only [and_self, if_true] at h ⊢; exact less_asym h
        · cases t <;> cases t2 <;> simp_all
      · have h3 : ¬ x2 = x := fun e => h2 e.symm
        simp only [h2, h3, and_false, false_and, if_false, ne_eq, not_true_eq_false, not_false_eq_true, if_true, decide_eq_true_eq, decide_eq_false_iff_not] at h ⊢
        omega
    · have h3 : ¬ y2 = y := fun e => h1 e.symm
      simp only [h1, h3, false_and, if_false, ne_eq, not_false_eq_true, if_true, decide_eq_true_eq, decide_eq_false_iff_not] at h ⊢
      omega
theorem less_lt {p q : St} {al bl : List Sq} (h : ltS p q) : lessB (toSq p :: al) (toSq q :: bl) = true := by
  obtain ⟨y, x, t⟩ := p
  obtain ⟨y2, x2, t2⟩ := q
  unfold ltS at h
  rw [lessB]
  unfold toSq
  dsimp only at h ⊢
  rcases h with h | ⟨rfl, h | ⟨rfl, rfl, rfl⟩⟩
  · have h1 : ¬ (y : Int) = (y2 : Int) := by omega
    simp only [h1, false_and, if_false, ne_eq, not_false_eq_true, if_true, decide_eq_true_eq]; omega
  · have h1 : ¬ (x : Int) = (x2 : Int) := by omega
    simp only [h1, false_and, and_false, if_false, ne_eq, not_true_eq_false, not_false_eq_true, if_true, decide_eq_true_eq]; omega
  · simp
theorem packs_sorted : ∀ {ls : List (List Sp)} {used : Nat}, (∀ l ∈ ls, l.Pairwise fun a b => ltS a.1 b.1) → (packsF ls used).Pairwise fun p q => lessB (p.map toSq) (q.map toSq) = true
  | [], used, _ => by rw [packsF]; exact List.pairwise_singleton _ _
  | l :: ls, used, h => by
    rw [packsF, List.pairwise_flatMap]
    refine ⟨fun a ha => ?_, ?_⟩
    · split
      · exact List.Pairwise.nil
      · rw [List.pairwise_map]
        refine (packs_sorted fun l hl => h l (List.mem_cons_of_mem _ hl)).imp fun {p q} hpq => ?_
        rw [List.map_cons, List.map_cons, less_same]; exact hpq
    · refine (h l List.mem_cons_self).imp fun {a b} hab x hx y hy => ?_
      split at hx
      · cases hx
      · split at hy
        · cases hy
        · obtain ⟨p, _, rfl⟩ := List.mem_map.1 hx
          obtain ⟨q, _, rfl⟩ := List.mem_map.1 hy
          exact less_lt hab
theorem shown_sorted {s : Bx} {fs : List Ft} : (shownL s fs).Pairwise fun p q => lessB (p.map toSq) (q.map toSq) = true := by
  unfold shownL
  split
  · exact List.Pairwise.nil
  · refine packs_sorted fun l hl => ?_
    obtain ⟨f, _, rfl⟩ := List.mem_map.1 hl
    unfold spotsL
    rw [List.pairwise_map]
    exact (stands_sorted _).1
/-- Two of the packings that are shown: the one that is shown first is ahead. -/
theorem shown_less {s : Bx} {fs : List Ft} {i j : Nat} {p q : List St} (hi : (shownL s fs)[i]? = some p) (hj : (shownL s fs)[j]? = some q) : lessB (p.map toSq) (q.map toSq) = decide (i < j) := by
  obtain ⟨h1, rfl⟩ := List.getElem?_eq_some_iff.1 hi
  obtain ⟨h2, rfl⟩ := List.getElem?_eq_some_iff.1 hj
  have hS := List.pairwise_iff_getElem.1 (shown_sorted (s := s) (fs := fs))
  rcases Nat.lt_trichotomy i j with h | h | h
  · rw [hS i j h1 h2 h]; simp [h]
  · subst h; rw [less_irr]; simp
  · rw [less_asym (hS j i h2 h1 h)]; simp; omega
theorem same_toSq {q : Sq} {p : St} (h : sameSt q.y q.x q.turned p = true) : q = toSq p := by
  unfold sameSt at h
  rw [Bool.and_eq_true, Bool.and_eq_true, decide_eq_true_eq, decide_eq_true_eq, beq_iff_eq] at h
  obtain ⟨y, x, t⟩ := q
  obtain ⟨h1, h2, h3⟩ := h
  dsimp only at h1 h2 h3
  subst h1; subst h2; subst h3; rfl
theorem maskQ_toSq (f : Ft) (p : St) : maskQ f (toSq p) = maskOf f p := rfl
theorem packs_place {s : Bx} : ∀ {fs : List Ft} {used : Nat} {q : List St}, q ∈ packsF (fs.map (spotsL s)) used → q.length = fs.length ∧ placeB s fs (q.map toSq) used = true
  | [], used, q, h => by
    rw [List.map_nil, packsF, List.mem_singleton] at h
    subst h; exact ⟨rfl, rfl⟩
  | f :: fs, used, q, h => by
    rw [List.map_cons, packsF, List.mem_flatMap] at h
    obtain ⟨a, ha, h2⟩ := h
    split at h2
    · cases h2
    · rename_i hm
      obtain ⟨r, hr, rfl⟩ := List.mem_map.1 h2
      obtain ⟨p, hp, rfl⟩ := List.mem_map.1 ha
      obtain ⟨h3, h4⟩ := packs_place hr
      refine ⟨by simp [h3], ?_⟩
      rw [List.map_cons, placeB, maskQ_toSq]
      have h5 : anySt (toSq p).y (toSq p).x (toSq p).turned (standsL s f) = true := List.any_eq_true.2 ⟨p, hp, by simp [sameSt, toSq]⟩
      rw [h5, h4]
      dsimp only at hm
      simpa using hm
theorem place_packs {s : Bx} : ∀ {fs : List Ft} {used : Nat} {qs : List Sq}, placeB s fs qs used = true → ∃ q ∈ packsF (fs.map (spotsL s)) used, q.map toSq = qs
  | [], used, [], _ => ⟨[], by rw [List.map_nil, packsF]; exact List.mem_singleton.2 rfl, rfl⟩
  | [], used, _ :: _, h => by rw [placeB] at h; cases h; all_goals simp
  | _ :: _, used, [], h => by rw [placeB] at h; cases h; all_goals simp
  | f :: fs, used, q :: qs, h => by
    rw [placeB, Bool.and_eq_true, Bool.and_eq_true] at h
    obtain ⟨h1, h2, h3⟩ := h
    obtain ⟨p, hp, hs⟩ := List.any_eq_true.1 h1
    have e := same_toSq hs
    subst e
    rw [maskQ_toSq] at h2 h3
    obtain ⟨r, hr, rfl⟩ := place_packs h3
    refine ⟨p :: r, ?_, rfl⟩
    rw [List.map_cons, packsF, List.mem_flatMap]
    refine ⟨(p, maskOf f p), List.mem_map.2 ⟨p, hp, rfl⟩, ?_⟩
    rw [if_neg (by simpa using h2)]
    exact List.mem_map.2 ⟨r, hr, rfl⟩
theorem place_stands {s : Bx} : ∀ {fs : List Ft} {used : Nat} {qs : List Sq}, placeB s fs qs used = true → ∀ f ∈ fs, noStand s f = false
  | [], used, _, _ => fun f hf => by cases hf
  | _ :: _, used, [], h => by rw [placeB] at h; cases h; all_goals simp
  | f :: fs, used, q :: qs, h => by
    rw [placeB, Bool.and_eq_true, Bool.and_eq_true] at h
    obtain ⟨h1, h2, h3⟩ := h
    obtain ⟨p, hp, hs⟩ := List.any_eq_true.1 h1
    intro g hg
    rcases List.mem_cons.1 hg with rfl | hg
    · unfold noStand
      cases hl : standsL s g with
      | nil => rw [hl] at hp; cases hp
      | cons a l => rfl
    · exact place_stands h3 g hg
/-- How many cells. -/
def cnt (m : Nat) : Nat := (List.range 36).countP fun i => m.testBit i
theorem cnt_or {a b : Nat} (h : a &&& b = 0) : cnt (a ||| b) = cnt a + cnt b := by
  have hb : ∀ i, ¬ (a.testBit i = true ∧ b.testBit i = true) := fun i hi => by
    have := congrArg (Nat.testBit · i) h
    simp [hi.1, hi.2] at this
  unfold cnt
  generalize List.range 36 = l
  induction l with
  | nil => rfl
  | cons i l ih =>
    have := hb i
    rw [List.countP_cons, List.countP_cons, List.countP_cons, ih, Nat.testBit_or]
    cases h1 : a.testBit i <;> cases h2 : b.testBit i <;> simp [h1, h2] at this ⊢ <;> omega
theorem cnt_mono {a b : Nat} (h : a &&& b = a) : cnt a ≤ cnt b := by
  unfold cnt
  refine List.countP_mono_left fun i _ hi => ?_
  have h2 : (a &&& b).testBit i = a.testBit i := by rw [h]
  rw [Nat.testBit_and, hi] at h2
  simpa using h2
theorem cnt_fin : ∀ y x v h : Fin 7, x.val + v.val ≤ 6 → y.val + h.val ≤ 6 → cnt (boxM y.val x.val v.val h.val) = v.val * h.val := by decide +kernel
theorem cnt_all (y : Nat) (h1 : y < 7) (x : Nat) (h2 : x < 7) (v : Nat) (h3 : v < 7) (h : Nat) (h4 : h < 7) : x + v ≤ 6 → y + h ≤ 6 → cnt (boxM y x v h) = v * h := cnt_fin ⟨y, h1⟩ ⟨x, h2⟩ ⟨v, h3⟩ ⟨h, h4⟩
theorem in_fin : ∀ y x v h : Fin 7, x.val + v.val ≤ 6 → y.val + h.val ≤ 6 → boxM y.val x.val v.val h.val &&& boxM 0 0 (x.val + v.val) (y.val + h.val) = boxM y.val x.val v.val h.val := by decide +kernel
theorem in_all (y : Nat) (h1 : y < 7) (x : Nat) (h2 : x < 7) (v : Nat) (h3 : v < 7) (h : Nat) (h4 : h < 7) : x + v ≤ 6 → y + h ≤ 6 → boxM y x v h &&& boxM 0 0 (x + v) (y + h) = boxM y x v h := in_fin ⟨y, h1⟩ ⟨x, h2⟩ ⟨v, h3⟩ ⟨h, h4⟩
theorem wide_fin : ∀ a b v h : Fin 7, a.val ≤ v.val → b.val ≤ h.val → boxM 0 0 a.val b.val &&& boxM 0 0 v.val h.val = boxM 0 0 a.val b.val := by decide +kernel
theorem wide_all (a : Nat) (h1 : a < 7) (b : Nat) (h2 : b < 7) (v : Nat) (h3 : v < 7) (h : Nat) (h4 : h < 7) : a ≤ v → b ≤ h → boxM 0 0 a b &&& boxM 0 0 v h = boxM 0 0 a b := wide_fin ⟨a, h1⟩ ⟨b, h2⟩ ⟨v, h3⟩ ⟨h, h4⟩
theorem box_in {y x v h A B : Nat} (h1 : x + v ≤ A) (h2 : y + h ≤ B) (hA : A ≤ 6) (hB : B ≤ 6) : boxM y x v h &&& boxM 0 0 A B = boxM y x v h := by
  have e1 := in_all y (by omega) x (by omega) v (by omega) h (by omega) (by omega) (by omega)
  have e2 := wide_all (x + v) (by omega) (y + h) (by omega) A (by omega) B (by omega) h1 h2
  rw [← e1, Nat.and_assoc, e2]
theorem areaL_cons (f : Ft) (fs : List Ft) : areaL (f :: fs) = f.wide * f.deep + areaL fs := by unfold areaL; rw [List.map_cons, List.sum_cons]
/-- What is placed has room beside what is taken. -/
theorem place_area {s : Bx} {A B : Nat} (hX : boxOk s = true) (hA : s.wide = (A : Int)) (hB : s.deep = (B : Int)) : ∀ {fs : List Ft} {t : Nat} {qs : List Sq}, (∀ f ∈ fs, FtOk f) → t &&& boxM 0 0 A B = t → placeB s fs qs t = true → (cnt t : Int) + areaL fs ≤ (cnt (boxM 0 0 A B) : Int)
  | [], t, _, _, h1, _ => by
    have := cnt_mono h1
    unfold areaL; rw [List.map_nil, List.sum_nil]; omega
  | _ :: _, t, [], _, _, h => by rw [placeB] at h; cases h; all_goals simp
  | f :: fs, t, q :: qs, hF, h1, h => by
    rw [placeB, Bool.and_eq_true, Bool.and_eq_true] at h
    obtain ⟨h2, h3, h4⟩ := h
    obtain ⟨p, hp, hs⟩ := List.any_eq_true.1 h2
    have e := same_toSq hs
    subst e
    rw [maskQ_toSq] at h3 h4
    have hb := boxOk_iff.1 hX
    have hf := hF f List.mem_cons_self
    have ho := standsN_ok hp
    unfold okAt at ho
    rw [Bool.and_eq_true, decide_eq_true_eq, decide_eq_true_eq] at ho
    obtain ⟨a, ha⟩ : ∃ a : Nat, (sideV f p.turned).1 = (a : Int) := by
      refine ⟨(sideV f p.turned).1.toNat, ?_⟩
      unfold FtOk at hf; unfold sideV; split <;> dsimp only <;> omega
    obtain ⟨b, hb2⟩ : ∃ b : Nat, (sideV f p.turned).2 = (b : Int) := by
      refine ⟨(sideV f p.turned).2.toNat, ?_⟩
      unfold FtOk at hf; unfold sideV; split <;> dsimp only <;> omega
    have hab : f.wide * f.deep = ((a * b : Nat) : Int) := by
      rw [Int.natCast_mul, ← ha, ← hb2]; unfold sideV; split
      · exact Int.mul_comm _ _
      · rfl
    have hm : maskOf f p = boxM p.y p.x a b := by unfold maskOf; rw [ha, hb2]; rfl
    rw [ha, hb2] at ho
    have hin : maskOf f p &&& boxM 0 0 A B = maskOf f p := by rw [hm]; exact box_in (by omega) (by omega) (by omega) (by omega)
    have hc : cnt (maskOf f p) = a * b := by rw [hm]; exact cnt_all _ (by omega) _ (by omega) _ (by omega) _ (by omega) (by omega) (by omega)
    have h0 : t &&& maskOf f p = 0 := by simpa using h3
    have ih := place_area hX hA hB (fun g hg => hF g (List.mem_cons_of_mem _ hg)) (t := t ||| maskOf f p) (by rw [Nat.and_or_distrib_right, h1, hin]) h4
    rw [cnt_or h0, hc] at ih
    rw [areaL_cons, hab]
    omega
theorem pack_area {s : Bx} {fs : List Ft} {qs : List Sq} (hX : boxOk s = true) (hF : ∀ f ∈ fs, FtOk f) (h : placeB s fs qs 0 = true) : areaL fs ≤ s.wide * s.deep := by
  have hb := boxOk_iff.1 hX
  obtain ⟨A, hA⟩ : ∃ A : Nat, s.wide = (A : Int) := ⟨s.wide.toNat, by omega⟩
  obtain ⟨B, hB⟩ : ∃ B : Nat, s.deep = (B : Int) := ⟨s.deep.toNat, by omega⟩
  have h1 := place_area hX hA hB hF (Nat.zero_and _) h
  rw [cnt_all 0 (by omega) 0 (by omega) A (by omega) B (by omega) (by omega) (by omega)] at h1
  have h2 : cnt 0 = 0 := by decide
  rw [h2] at h1
  rw [hA, hB, ← Int.natCast_mul]; omega
/-- What is accepted is shown. -/
theorem pack_shown {s : Bx} {fs : List Ft} {qs : List Sq} (hX : boxOk s = true) (hF : ∀ f ∈ fs, FtOk f) (h : packB s fs qs = true) : ∃ q ∈ shownL s fs, q.map toSq = qs := by
  unfold packB at h
  rw [Bool.and_eq_true, Bool.and_eq_true, Bool.and_eq_true] at h
  obtain ⟨_, h1, h3, h4⟩ := h
  have hp : plainB s fs = false := by
    have e1 : troubleB s fs 1 = false := by simpa using h1
    have e3 : troubleB s fs 3 = false := by simpa using h3
    have e2 : troubleB s fs 2 = false := by
      show fs.any (noStand s) = false
      rw [List.any_eq_false]
      intro f hf; rw [place_stands h4 f hf]; simp
    have e4 : troubleB s fs 4 = false := by
      show decide (s.wide * s.deep < areaL fs) = false
      have := pack_area hX hF h4
      rw [decide_eq_false_iff_not]; omega
    unfold plainB; rw [e1, e2, e3, e4]; rfl
  unfold shownL; rw [hp]
  exact place_packs h4
/-- What is shown is accepted. -/
theorem shown_pack {s : Bx} {fs : List Ft} {q : List St} (h : q ∈ shownL s fs) : packB s fs (q.map toSq) = true := by
  unfold shownL at h
  split at h
  · cases h
  · rename_i hp
    obtain ⟨h1, h2⟩ := packs_place h
    have hp2 : plainB s fs = false := by simpa using hp
    unfold plainB at hp2
    rw [Bool.or_eq_false_iff, Bool.or_eq_false_iff, Bool.or_eq_false_iff] at hp2
    unfold packB
    rw [hp2.1, hp2.2.2.1, h2, List.length_map, h1]; simp
end Go.Pb.Sag

/- The plain mathematics of layer 2 (saggar): trouble of all kinds, reasons. -/
namespace Go.Pb.Sag
open Go Go.Pb Go.Pb.Ware Go.RowKit
set_option linter.unusedVariables false
/-- Trouble of any kind. -/
def troubleA (s : Bx) (fs : List Ft) (kind : Int) : Bool := if kind = 5 then !fitsB s fs else troubleB s fs kind
theorem troubleA_5 (s : Bx) (fs : List Ft) : troubleA s fs 5 = !fitsB s fs := rfl
theorem troubleA_B {s : Bx} {fs : List Ft} {k : Int} (h : k ≠ 5) : troubleA s fs k = troubleB s fs k := if_neg h
/-- The indices below n. -/
def idxs (n : Nat) : List Int := (List.range n).map fun k : Nat => (k : Int)
theorem idxs_len (n : Nat) : (idxs n).length = n := by simp [idxs]
theorem idxs_at {n k : Nat} (h : k < n) : (idxs n)[k]? = some (k : Int) := by simp [idxs, h]
theorem idxs_mem {n : Nat} {z : Int} (h : z ∈ idxs n) : 0 ≤ z ∧ z < (n : Int) := by
  unfold idxs at h
  obtain ⟨k, hk, rfl⟩ := List.mem_map.1 h
  have := List.mem_range.1 hk
  omega
def needStep (s : Bx) (fs : List Ft) (kind : Int) (l : List Int) (i : Nat) : List Int := if troubleA s (chosenL fs (l.eraseIdx i)) kind = true then l.eraseIdx i else l
def needLoop (s : Bx) (fs : List Ft) (kind : Int) : Nat → List Int → List Int
  | 0, l => l
  | i + 1, l => needLoop s fs kind i (needStep s fs kind l i)
/-- What needed returns. -/
def neededL (s : Bx) (fs : List Ft) (kind : Int) : List Int := needLoop s fs kind fs.length (idxs fs.length)
theorem erase_mem {l : List Int} {i : Nat} {z : Int} (h : z ∈ l.eraseIdx i) : z ∈ l := List.mem_of_mem_eraseIdx h
theorem needStep_mem {s : Bx} {fs : List Ft} {kind : Int} {l : List Int} {i : Nat} {z : Int} (h : z ∈ needStep s fs kind l i) : z ∈ l := by
  unfold needStep at h; split at h
  · exact erase_mem h
  · exact h
theorem needStep_len {s : Bx} {fs : List Ft} {kind : Int} {l : List Int} {i : Nat} (h : i < l.length) : i ≤ (needStep s fs kind l i).length ∧ (needStep s fs kind l i).length ≤ l.length := by
  unfold needStep; split
  · rw [List.length_eraseIdx_of_lt h]; omega
  · omega
theorem made_any {w : World} {base n : Nat} {B e : Nat} {z : Value} (hz : z.cells = #[z]) (h : w.ownsRow base e 1 (.slice (some ⟨B, 0, none⟩) n n) n (madeCells z.cells (n * 1)).toList) : ∀ i, i < n → w.cell? ⟨B, i, none⟩ = some z ∧ w.frozen? ⟨B, i, none⟩ = false := by
  intro i hk
  refine ⟨?_, owns_frozen h rfl i⟩
  have h2 := h.cells (g := B) rfl i z (by
    rw [Array.getElem?_toList]
    unfold madeCells
    rw [Array.getElem?_map, Array.getElem?_range, if_pos (show i < n * 1 by omega), hz]
    show some (#[z] : Array Value)[i % 1]! = _
    rw [Nat.mod_one]; rfl)
  rw [Go.WideShapes.add_plain, Nat.zero_add] at h2
  exact h2
/-- The indices below k are written, the others are 0. -/
def IdxAt (B n k : Nat) (W : World) : Prop := ∀ j, j < n → W.cell? ⟨B, j, none⟩ = some (.int .i64 (if j < k then (j : Int) else 0)) ∧ W.frozen? ⟨B, j, none⟩ = false
theorem IdxAt.set {B n k : Nat} {W : World} (h : IdxAt B n k W) (hk : k < n) : IdxAt B n (k + 1) (W.setCell ⟨B, k, none⟩ (.int .i64 (k : Int))) := by
  intro j hj
  have h1 := h j hj
  refine ⟨?_, set_free h1.1 h1.2⟩
  by_cases e : j = k
  · subst e; rw [if_pos (by omega)]; exact setc_same h1.1
  · rw [setc_other h1.1 e]
    by_cases e2 : j < k
    · rw [if_pos e2, if_pos (by omega)]
    · rw [if_neg e2, if_neg (by omega)]
theorem IdxAt.nums {B n : Nat} {W : World} (h : IdxAt B n n W) (hn : n ≤ 1000) : NumsAt W (.slice (some ⟨B, 0, none⟩) n n) (idxs n) := by
  refine .inr ⟨⟨B, 0, none⟩, n, by rw [idxs_len], by rw [idxs_len]; exact Nat.le_refl _, by omega, fun k z hz => ?_⟩
  have hk : k < n := by have := (List.getElem?_eq_some_iff.1 hz).1; rwa [idxs_len] at this
  rw [idxs_at hk] at hz
  injection hz with hz
  subst hz
  have h1 := (h k hk).1
  rw [if_pos hk] at h1
  rw [Go.WideShapes.add_plain, Nat.zero_add]
  exact ⟨h1, I64.mk (by omega) (by omega)⟩
end Go.Pb.Sag

/- The plain mathematics of layer 2 (saggar): no reason is accepted where there is a packing; what is returned is accepted. -/
namespace Go.Pb.Sag
open Go Go.Pb Go.Pb.Ware Go.RowKit
set_option linter.unusedVariables false
theorem weightL_cons (f : Ft) (fs : List Ft) : weightL (f :: fs) = f.weight + weightL fs := by unfold weightL; rw [List.map_cons, List.sum_cons]
theorem sums_sub {gs fs : List Ft} (h : gs.Sublist fs) : (∀ f ∈ fs, FtOk f) → weightL gs ≤ weightL fs ∧ areaL gs ≤ areaL fs := by
  induction h with
  | slnil => exact fun _ => ⟨Int.le_refl _, Int.le_refl _⟩
  | cons a _ ih =>
    intro hF
    have h1 := ih fun f hf => hF f (List.mem_cons_of_mem _ hf)
    have ha := hF a List.mem_cons_self
    unfold FtOk at ha
    have hm : 0 ≤ a.wide * a.deep := Int.mul_nonneg (by omega) (by omega)
    rw [weightL_cons, areaL_cons]; omega
  | cons_cons a _ ih =>
    intro hF
    have h1 := ih fun f hf => hF f (List.mem_cons_of_mem _ hf)
    rw [weightL_cons, weightL_cons, areaL_cons, areaL_cons]; omega
theorem trouble_up {s : Bx} {gs fs : List Ft} {k : Int} (h : gs.Sublist fs) (hF : ∀ f ∈ fs, FtOk f) (ht : troubleB s gs k = true) : troubleB s fs k = true := by
  have hs := sums_sub h hF
  by_cases h1 : k = 1
  · subst h1
    obtain ⟨f, hf, h2⟩ := List.any_eq_true.1 (show gs.any (highB s) = true from ht)
    exact (List.any_eq_true.2 ⟨f, h.subset hf, h2⟩ : fs.any (highB s) = true)
  by_cases h2 : k = 2
  · subst h2
    obtain ⟨f, hf, h2⟩ := List.any_eq_true.1 (show gs.any (noStand s) = true from ht)
    exact (List.any_eq_true.2 ⟨f, h.subset hf, h2⟩ : fs.any (noStand s) = true)
  by_cases h3 : k = 3
  · subst h3
    have h4 := of_decide_eq_true (show decide (s.bears < weightL gs) = true from ht)
    exact (decide_eq_true (by omega) : decide (s.bears < weightL fs) = true)
  by_cases h4 : k = 4
  · subst h4
    have h5 := of_decide_eq_true (show decide (s.wide * s.deep < areaL gs) = true from ht)
    exact (decide_eq_true (by omega) : decide (s.wide * s.deep < areaL fs) = true)
  unfold troubleB at ht
  rw [if_neg h1, if_neg h2, if_neg h3, if_neg h4] at ht
  cases ht
theorem fits_open {s : Bx} {fs : List Ft} (h : fitsB s fs = true) : plainB s fs = false ∧ allPacks s fs ≠ [] := by
  unfold fitsB shownL at h
  split at h
  · cases h
  · rename_i hp
    exact ⟨by simpa using hp, by intro e; rw [e] at h; cases h⟩
theorem fits_close {s : Bx} {fs : List Ft} (h1 : plainB s fs = false) (h2 : allPacks s fs ≠ []) : fitsB s fs = true := by
  unfold fitsB shownL
  rw [if_neg (by rw [h1]; simp)]
  cases he : allPacks s fs with
  | nil => exact absurd he h2
  | cons a l => rfl
theorem plain_parts {s : Bx} {fs : List Ft} (h : plainB s fs = false) : ∀ k, troubleB s fs k = false := by
  unfold plainB at h
  rw [Bool.or_eq_false_iff, Bool.or_eq_false_iff, Bool.or_eq_false_iff] at h
  intro k
  by_cases h1 : k = 1
  · subst h1; exact h.1
  by_cases h2 : k = 2
  · subst h2; exact h.2.1
  by_cases h3 : k = 3
  · subst h3; exact h.2.2.1
  by_cases h4 : k = 4
  · subst h4; exact h.2.2.2
  unfold troubleB
  rw [if_neg h1, if_neg h2, if_neg h3, if_neg h4]
theorem plain_sub {s : Bx} {gs fs : List Ft} (h : gs.Sublist fs) (hF : ∀ f ∈ fs, FtOk f) (hp : plainB s fs = false) : plainB s gs = false := by
  refine plain_no fun j _ _ => ?_
  cases ht : troubleB s gs j with
  | false => rfl
  | true =>
    have h1 := trouble_up h hF ht
    rw [plain_parts hp] at h1; cases h1
/-- Fewer items fit where more do. -/
theorem fits_sub {s : Bx} {gs fs : List Ft} (h : gs.Sublist fs) (hF : ∀ f ∈ fs, FtOk f) (hf : fitsB s fs = true) : fitsB s gs = true := by
  obtain ⟨h1, h2⟩ := fits_open hf
  exact fits_close (plain_sub h hF h1) (packs_more (h.map _) 0 0 (by simp) h2)
theorem troubleA_up {s : Bx} {gs fs : List Ft} {k : Int} (h : gs.Sublist fs) (hF : ∀ f ∈ fs, FtOk f) (ht : troubleA s gs k = true) : troubleA s fs k = true := by
  by_cases h5 : k = 5
  · subst h5
    rw [troubleA_5] at ht ⊢
    cases hf : fitsB s fs with
    | false => rfl
    | true => rw [fits_sub h hF hf] at ht; cases ht
  · rw [troubleA_B h5] at ht ⊢
    exact trouble_up h hF ht
theorem fits_untroubled {s : Bx} {fs : List Ft} (h : fitsB s fs = true) (k : Int) : troubleA s fs k = false := by
  by_cases h5 : k = 5
  · subst h5; rw [troubleA_5, h]; rfl
  · rw [troubleA_B h5]; exact plain_parts (fits_open h).1 k
theorem pack_fits {s : Bx} {fs : List Ft} {qs : List Sq} (hX : boxOk s = true) (hF : ∀ f ∈ fs, FtOk f) (h : packB s fs qs = true) : fitsB s fs = true := by
  obtain ⟨q, hq, _⟩ := pack_shown hX hF h
  unfold fitsB
  cases he : shownL s fs with
  | nil => rw [he] at hq; cases hq
  | cons a l => rfl
theorem chosen_sub {fs : List Ft} : ∀ {last : Int} {zs : List Int}, -1 ≤ last → idxB (fs.length : Int) last zs = true → (chosenL fs zs).Sublist (fs.drop (last + 1).toNat)
  | last, [], _, _ => List.nil_sublist _
  | last, z :: zs, h0, h => by
    rw [idxB, Bool.and_eq_true, btw_iff] at h
    obtain ⟨h1, h2⟩ := h
    have ih := chosen_sub (fs := fs) (by omega) h2
    have hz : z.toNat < fs.length := by omega
    have e : (z + 1).toNat = z.toNat + 1 := by omega
    rw [e] at ih
    have h3 : chosenL fs (z :: zs) = fs[z.toNat] :: chosenL fs zs := by
      unfold chosenL; rw [List.map_cons, List.getD_eq_getElem?_getD, List.getElem?_eq_getElem hz]; rfl
    have h4 : fs.drop z.toNat = fs[z.toNat] :: fs.drop (z.toNat + 1) := List.drop_eq_getElem_cons hz
    have h5 : (fs.drop z.toNat).Sublist (fs.drop (last + 1).toNat) := by
      rw [show z.toNat = (last + 1).toNat + (z.toNat - (last + 1).toNat) by omega, ← List.drop_drop]
      exact List.drop_sublist _ _
    rw [h3]
    exact ((ih.cons_cons _).trans (by rw [← h4]; exact List.Sublist.refl _)).trans h5
/-- Where there is a packing no reason is accepted. -/
theorem no_reason {s : Bx} {fs : List Ft} {qs : List Sq} {zs : List Int} {k : Int} (hX : boxOk s = true) (hF : ∀ f ∈ fs, FtOk f) (h : packB s fs qs = true) (hz : idxB (fs.length : Int) (-1) zs = true) : troubleA s (chosenL fs zs) k = false := by
  have h1 := chosen_sub (by omega) hz
  rw [show (-1 + 1 : Int).toNat = 0 from rfl, List.drop_zero] at h1
  cases ht : troubleA s (chosenL fs zs) k with
  | false => rfl
  | true =>
    have h2 := troubleA_up h1 hF ht
    rw [fits_untroubled (pack_fits hX hF h)] at h2; cases h2
theorem idxs_succ (i : Nat) : idxs (i + 1) = idxs i ++ [(i : Int)] := by unfold idxs; rw [List.range_succ, List.map_append]; rfl
theorem idxs_up (n : Nat) : (idxs n).Pairwise (· < ·) := by
  unfold idxs
  rw [List.pairwise_map]
  exact List.pairwise_lt_range.imp fun h => by omega
theorem idxB_of {many : Int} : ∀ {last : Int} {zs : List Int}, zs.Pairwise (· < ·) → (∀ z ∈ zs, last < z ∧ z < many) → idxB many last zs = true
  | _, [], _, _ => by rw [idxB]
  | last, z :: zs, h1, h2 => by
    rw [List.pairwise_cons] at h1
    have h3 := h2 z List.mem_cons_self
    rw [idxB, Bool.and_eq_true, btw_iff]
    exact ⟨by omega, idxB_of h1.2 fun x hx => ⟨h1.1 x hx, (h2 x (List.mem_cons_of_mem _ hx)).2⟩⟩
theorem idxB_sub {n : Nat} {zs : List Int} (h : zs.Sublist (idxs n)) : idxB (n : Int) (-1) zs = true := by
  refine idxB_of ((idxs_up n).sublist h) fun z hz => ?_
  have := idxs_mem (h.subset hz); omega
theorem chosen_up {fs : List Ft} {zs ys : List Int} (h : zs.Sublist ys) : (chosenL fs zs).Sublist (chosenL fs ys) := by unfold chosenL; exact h.map _
theorem chosen_all (fs : List Ft) : chosenL fs (idxs fs.length) = fs := by
  refine List.ext_getElem? fun k => ?_
  unfold chosenL idxs
  rw [List.map_map, List.getElem?_map]
  rcases Nat.lt_or_ge k fs.length with h | h
  · rw [List.getElem?_range h]
    simp [List.getElem?_eq_getElem h]
  · rw [List.getElem?_eq_none (by simpa using h), List.getElem?_eq_none h]; rfl
theorem idx_ok {fs : List Ft} {zs : List Int} (hF : ∀ f ∈ fs, FtOk f) (h : zs.Sublist (idxs fs.length)) : ∀ f ∈ chosenL fs zs, FtOk f := chosen_ok hF fun z hz => idxs_mem (h.subset hz)
/-- What is left at the end is needed, all of it. -/
theorem need_good {s : Bx} {fs : List Ft} {k : Int} (hF : ∀ f ∈ fs, FtOk f) : ∀ (i : Nat) (t : List Int), (idxs i ++ t).Sublist (idxs fs.length) → troubleA s (chosenL fs (idxs i ++ t)) k = true → (∀ j, j < t.length → troubleA s (chosenL fs (idxs i ++ t.eraseIdx j)) k = false) →
    (needLoop s fs k i (idxs i ++ t)).Sublist (idxs fs.length) ∧ troubleA s (chosenL fs (needLoop s fs k i (idxs i ++ t))) k = true ∧ ∀ j, j < (needLoop s fs k i (idxs i ++ t)).length → troubleA s (chosenL fs ((needLoop s fs k i (idxs i ++ t)).eraseIdx j)) k = false
  | 0, t, h1, h2, h3 => by rw [needLoop]; exact ⟨h1, h2, h3⟩
  | i + 1, t, h1, h2, h3 => by
    have e : idxs (i + 1) ++ t = idxs i ++ (i : Int) :: t := by rw [idxs_succ, List.append_assoc]; rfl
    have he : (idxs (i + 1) ++ t).eraseIdx i = idxs i ++ t := by
      rw [e, List.eraseIdx_append_of_length_le (by rw [idxs_len]; exact Nat.le_refl _), idxs_len, Nat.sub_self]; rfl
    rw [needLoop]
    unfold needStep
    rw [he]
    have hsub : (idxs i ++ t).Sublist (idxs (i + 1) ++ t) := by rw [← he]; exact List.eraseIdx_sublist _ _
    split
    · rename_i ht
      refine need_good hF i t (hsub.trans h1) ht fun j hj => ?_
      cases hx : troubleA s (chosenL fs (idxs i ++ t.eraseIdx j)) k with
      | false => rfl
      | true =>
        have hs2 : (idxs i ++ t.eraseIdx j).Sublist (idxs (i + 1) ++ t.eraseIdx j) := by
          rw [idxs_succ, List.append_assoc]
          exact (List.Sublist.refl _).append (List.sublist_append_right _ _)
        have hs3 : (idxs (i + 1) ++ t.eraseIdx j).Sublist (idxs fs.length) := ((List.Sublist.refl _).append (List.eraseIdx_sublist _ _)).trans h1
        have := troubleA_up (chosen_up hs2) (idx_ok hF hs3) hx
        rw [h3 j hj] at this; cases this
    · rename_i ht
      rw [e] at h1 h2 ⊢
      refine need_good hF i ((i : Int) :: t) h1 h2 fun j hj => ?_
      cases j with
      | zero => rw [List.eraseIdx_cons_zero]; simpa using ht
      | succ j =>
        rw [List.eraseIdx_cons_succ]
        have := h3 j (by simpa using hj)
        rwa [idxs_succ, List.append_assoc] at this
theorem needed_good {s : Bx} {fs : List Ft} {k : Int} (hF : ∀ f ∈ fs, FtOk f) (ht : troubleA s fs k = true) :
    idxB (fs.length : Int) (-1) (neededL s fs k) = true ∧ troubleA s (chosenL fs (neededL s fs k)) k = true ∧ ∀ j, j < (neededL s fs k).length → troubleA s (chosenL fs ((neededL s fs k).eraseIdx j)) k = false := by
  have h := need_good (s := s) (k := k) hF fs.length [] (by rw [List.append_nil]; exact List.Sublist.refl _) (by rw [List.append_nil, chosen_all]; exact ht) (fun j hj => by simp at hj)
  rw [List.append_nil] at h
  exact ⟨idxB_sub h.1, h.2⟩
theorem order_pack {s : Bx} {fs : List Ft} {qs : List Sq} (hX : boxOk s = true) (hF : ∀ f ∈ fs, FtOk f) (h : packB s fs qs = true) : ∃ (j : Nat) (q : List St), (shownL s fs)[j]? = some q ∧ qs = q.map toSq := by
  obtain ⟨q, hq, he⟩ := pack_shown hX hF h
  obtain ⟨j, hj⟩ := List.getElem?_of_mem hq
  exact ⟨j, q, hj, he.symm⟩
end Go.Pb.Sag

/- Packings: which stands there are; parts of a packing, in any order; greater boxes. -/
namespace Go.Pb.Sag
open Go Go.Pb Go.Pb.Ware Go.RowKit
set_option linter.unusedVariables false
theorem mem_cellL {s : Bx} {f : Ft} {y x : Nat} {p : St} : p ∈ cellL s f y x (ways f).length ↔ p.y = y ∧ p.x = x ∧ p.turned ∈ ways f ∧ okAt s f p = true := by
  unfold cellL
  rw [List.take_length, List.mem_filter, List.mem_map]
  constructor
  · rintro ⟨⟨t, ht, rfl⟩, h⟩; exact ⟨rfl, rfl, ht, h⟩
  · rintro ⟨rfl, rfl, h1, h2⟩; exact ⟨⟨p.turned, h1, rfl⟩, h2⟩
theorem mem_rowL {s : Bx} {f : Ft} {y : Nat} {p : St} : ∀ {m : Nat}, p ∈ rowL s f y m ↔ p.y = y ∧ p.x < m ∧ p.turned ∈ ways f ∧ okAt s f p = true
  | 0 => by simp [rowL]
  | m + 1 => by
    rw [rowL, List.mem_append, mem_rowL (m := m), mem_cellL]
    constructor
    · rintro (⟨h1, h2, h3⟩ | ⟨h1, h2, h3⟩)
      · exact ⟨h1, by omega, h3⟩
      · exact ⟨h1, by omega, h3⟩
    · rintro ⟨h1, h2, h3⟩
      by_cases e : p.x = m
      · exact .inr ⟨h1, e, h3⟩
      · exact .inl ⟨h1, by omega, h3⟩
theorem mem_standsN {s : Bx} {f : Ft} {p : St} : ∀ {n : Nat}, p ∈ standsN s f n ↔ p.y < n ∧ p.x < s.wide.toNat ∧ p.turned ∈ ways f ∧ okAt s f p = true
  | 0 => by simp [standsN]
  | n + 1 => by
    rw [standsN, List.mem_append, mem_standsN (n := n), mem_rowL]
    constructor
    · rintro (⟨h1, h3⟩ | ⟨h1, h3⟩)
      · exact ⟨by omega, h3⟩
      · exact ⟨by omega, h3⟩
    · rintro ⟨h1, h3⟩
      by_cases e : p.y = n
      · exact .inr ⟨e, h3⟩
      · exact .inl ⟨by omega, h3⟩
theorem mem_stands {s : Bx} {f : Ft} {p : St} : p ∈ standsL s f ↔ p.y < s.deep.toNat ∧ p.x < s.wide.toNat ∧ p.turned ∈ ways f ∧ okAt s f p = true := mem_standsN
theorem any_toSq {s : Bx} {f : Ft} {q : Sq} : anySt q.y q.x q.turned (standsL s f) = true ↔ ∃ p ∈ standsL s f, q = toSq p := by
  unfold anySt
  rw [List.any_eq_true]
  constructor
  · rintro ⟨p, hp, h⟩; exact ⟨p, hp, same_toSq h⟩
  · rintro ⟨p, hp, rfl⟩
    refine ⟨p, hp, ?_⟩
    unfold sameSt toSq; simp
/-- A pair of a foot and its stand is right, and off what is taken. -/
def GoodP (s : Bx) (t : Nat) (p : Ft × Sq) : Prop := anySt p.2.y p.2.x p.2.turned (standsL s p.1) = true ∧ t &&& maskQ p.1 p.2 = 0
def OffP (p r : Ft × Sq) : Prop := maskQ p.1 p.2 &&& maskQ r.1 r.2 = 0
theorem place_zip {s : Bx} : ∀ {ps : List (Ft × Sq)} {t : Nat}, placeB s (ps.map Prod.fst) (ps.map Prod.snd) t = true ↔ (∀ p ∈ ps, GoodP s t p) ∧ ps.Pairwise OffP
  | [], t => by simp [placeB]
  | p :: ps, t => by
    rw [List.map_cons, List.map_cons, placeB, Bool.and_eq_true, Bool.and_eq_true, place_zip (ps := ps), List.pairwise_cons]
    have e : (!(t &&& maskQ p.1 p.2 != 0)) = true ↔ t &&& maskQ p.1 p.2 = 0 := by simp
    rw [e]
    constructor
    · rintro ⟨h1, h2, h3, h4⟩
      refine ⟨fun r hr => ?_, fun r hr => (or_and_zero.1 (h3 r hr).2).2, h4⟩
      rcases List.mem_cons.1 hr with rfl | hr
      · exact ⟨h1, h2⟩
      · exact ⟨(h3 r hr).1, (or_and_zero.1 (h3 r hr).2).1⟩
    · rintro ⟨h1, h2, h3⟩
      refine ⟨(h1 p (by simp)).1, (h1 p (by simp)).2, fun r hr => ?_, h3⟩
      have h4 := h1 r (by simp [hr])
      exact ⟨h4.1, or_and_zero.2 ⟨h4.2, h2 r hr⟩⟩
theorem off_symm {p r : Ft × Sq} (h : OffP p r) : OffP r p := by unfold OffP at *; rw [Nat.and_comm]; exact h
theorem unzip {fs : List Ft} {qs : List Sq} (h : qs.length = fs.length) : (fs.zip qs).map Prod.fst = fs ∧ (fs.zip qs).map Prod.snd = qs := ⟨List.map_fst_zip (by omega), List.map_snd_zip (by omega)⟩
theorem map_erase {α β : Type} {g : α → β} : ∀ {l : List α} {k : Nat}, (l.eraseIdx k).map g = (l.map g).eraseIdx k
  | [], _ => rfl
  | x :: l, 0 => rfl
  | x :: l, k + 1 => by rw [List.eraseIdx_cons_succ, List.map_cons, List.map_cons, List.eraseIdx_cons_succ, map_erase]
theorem trouble_perm {s : Bx} {fs gs : List Ft} (h : fs.Perm gs) (k : Int) : troubleB s fs k = troubleB s gs k := by
  unfold troubleB weightL areaL
  have h1 : ∀ p : Ft → Bool, fs.any p = gs.any p := fun p => h.any_eq
  have h2 := sum_perm (h.map fun f => f.weight)
  have h3 := sum_perm (h.map fun f => f.wide * f.deep)
  rw [h1, h1, h2, h3]
theorem pack_zip {s : Bx} {ps : List (Ft × Sq)} : packB s (ps.map Prod.fst) (ps.map Prod.snd) = true ↔ (troubleB s (ps.map Prod.fst) 1 = false ∧ troubleB s (ps.map Prod.fst) 3 = false) ∧ (∀ p ∈ ps, GoodP s 0 p) ∧ ps.Pairwise OffP := by
  unfold packB
  rw [Bool.and_eq_true, Bool.and_eq_true, Bool.and_eq_true, place_zip]
  simp [and_assoc]
theorem pack_perm {s : Bx} {ps rs : List (Ft × Sq)} (h : ps.Perm rs) (hp : packB s (ps.map Prod.fst) (ps.map Prod.snd) = true) : packB s (rs.map Prod.fst) (rs.map Prod.snd) = true := by
  obtain ⟨⟨h1, h2⟩, h3, h4⟩ := pack_zip.1 hp
  refine pack_zip.2 ⟨⟨by rw [← trouble_perm (h.map Prod.fst)]; exact h1, by rw [← trouble_perm (h.map Prod.fst)]; exact h2⟩, fun p hp => h3 p (h.mem_iff.2 hp), (h.pairwise_iff off_symm).1 h4⟩
theorem pack_part {s : Bx} {ps rs : List (Ft × Sq)} (h : rs.Sublist ps) (hF : ∀ f ∈ ps.map Prod.fst, FtOk f) (hp : packB s (ps.map Prod.fst) (ps.map Prod.snd) = true) : packB s (rs.map Prod.fst) (rs.map Prod.snd) = true := by
  obtain ⟨⟨h1, h2⟩, h3, h4⟩ := pack_zip.1 hp
  have up : ∀ k, troubleB s (ps.map Prod.fst) k = false → troubleB s (rs.map Prod.fst) k = false := fun k hk => by
    cases ht : troubleB s (rs.map Prod.fst) k with
    | false => rfl
    | true => rw [trouble_up (h.map Prod.fst) hF ht] at hk; cases hk
  exact pack_zip.2 ⟨⟨up 1 h1, up 3 h2⟩, fun p hp => h3 p (h.subset hp), h4.sublist h⟩
/-- Without one of the items. -/
theorem pack_take {s : Bx} {fs : List Ft} {qs : List Sq} {k : Nat} (hF : ∀ f ∈ fs, FtOk f) (h : packB s fs qs = true) : packB s (fs.eraseIdx k) (qs.eraseIdx k) = true := by
  have hl : qs.length = fs.length := by unfold packB at h; rw [Bool.and_eq_true, decide_eq_true_eq] at h; exact h.1
  obtain ⟨e1, e2⟩ := unzip hl
  have h2 : packB s ((fs.zip qs).map Prod.fst) ((fs.zip qs).map Prod.snd) = true := by rw [e1, e2]; exact h
  have h3 := pack_part (rs := (fs.zip qs).eraseIdx k) (List.eraseIdx_sublist _ _) (by rw [e1]; exact hF) h2
  rwa [map_erase, map_erase, e1, e2] at h3
/-- With the item again, behind the others. -/
theorem pack_again {s : Bx} {fs : List Ft} {qs : List Sq} {k : Nat} {f : Ft} {q : Sq} (hf : fs[k]? = some f) (hq : qs[k]? = some q) (h : packB s fs qs = true) : packB s (fs.eraseIdx k ++ [f]) (qs.eraseIdx k ++ [q]) = true := by
  have hl : qs.length = fs.length := by unfold packB at h; rw [Bool.and_eq_true, decide_eq_true_eq] at h; exact h.1
  obtain ⟨e1, e2⟩ := unzip hl
  have h2 : packB s ((fs.zip qs).map Prod.fst) ((fs.zip qs).map Prod.snd) = true := by rw [e1, e2]; exact h
  have hk := (List.getElem?_eq_some_iff.1 hf).1
  have hz : (fs.zip qs)[k]? = some (f, q) := by rw [List.getElem?_zip_eq_some]; exact ⟨hf, hq⟩
  have hzl := (List.getElem?_eq_some_iff.1 hz).1
  have hze := (List.getElem?_eq_some_iff.1 hz).2
  have hp : (fs.zip qs).Perm ((fs.zip qs).eraseIdx k ++ [(f, q)]) := by
    rw [List.eraseIdx_eq_take_drop_succ, List.append_assoc]
    refine List.Perm.trans (List.Perm.of_eq ?_) (List.Perm.append_left _ (List.perm_append_comm (l₁ := [(f, q)])))
    rw [← hze, List.singleton_append, ← List.drop_eq_getElem_cons, List.take_append_drop]
  have h3 := pack_perm hp h2
  rwa [List.map_append, List.map_append, map_erase, map_erase, e1, e2] at h3
/-- The first stand with which there is a packing. -/
def addF (s : Bx) (fs : List Ft) (qs : List Sq) (f : Ft) : Option St := (standsL s f).find? fun p => packB s (fs ++ [f]) (qs ++ [toSq p])
theorem add_some {s : Bx} {fs : List Ft} {qs : List Sq} {f : Ft} {q : Sq} (h : packB s (fs ++ [f]) (qs ++ [q]) = true) : ∃ p, addF s fs qs f = some p ∧ packB s (fs ++ [f]) (qs ++ [toSq p]) = true := by
  have hl : (qs ++ [q]).length = (fs ++ [f]).length := by unfold packB at h; rw [Bool.and_eq_true, decide_eq_true_eq] at h; exact h.1
  obtain ⟨e1, e2⟩ := unzip hl
  have h2 : packB s (((fs ++ [f]).zip (qs ++ [q])).map Prod.fst) (((fs ++ [f]).zip (qs ++ [q])).map Prod.snd) = true := by rw [e1, e2]; exact h
  have hll : qs.length = fs.length := by simpa using hl
  have hm : (f, q) ∈ (fs ++ [f]).zip (qs ++ [q]) := by
    refine List.mem_of_getElem? (i := fs.length) ?_
    rw [List.getElem?_zip_eq_some, List.getElem?_append_right (Nat.le_refl _), List.getElem?_append_right (by omega), Nat.sub_self, hll, Nat.sub_self]
    exact ⟨rfl, rfl⟩
  obtain ⟨p, hp, e⟩ := any_toSq.1 ((pack_zip.1 h2).2.1 _ hm).1
  dsimp only at e hp
  cases ha : addF s fs qs f with
  | none =>
    unfold addF at ha
    rw [List.find?_eq_none] at ha
    exact absurd (e ▸ h) (ha p hp)
  | some r =>
    unfold addF at ha
    exact ⟨r, rfl, List.find?_some (p := fun p => packB s (fs ++ [f]) (qs ++ [toSq p])) ha⟩
/-- A box with more cells, that is higher, and bears more. -/
def Wider (s t : Bx) : Prop := s.wide ≤ t.wide ∧ s.deep ≤ t.deep ∧ s.high ≤ t.high ∧ s.bears ≤ t.bears
theorem stands_wide {s t : Bx} {f : Ft} {p : St} (hw : Wider s t) (h : p ∈ standsL s f) : p ∈ standsL t f := by
  obtain ⟨h1, h2, h3, h4⟩ := mem_stands.1 h
  obtain ⟨w1, w2, _, _⟩ := hw
  refine mem_stands.2 ⟨by omega, by omega, h3, ?_⟩
  unfold okAt at h4 ⊢
  rw [Bool.and_eq_true, decide_eq_true_eq, decide_eq_true_eq] at h4 ⊢
  omega
theorem pack_wide {s t : Bx} {fs : List Ft} {qs : List Sq} (hw : Wider s t) (h : packB s fs qs = true) : packB t fs qs = true := by
  have hl : qs.length = fs.length := by unfold packB at h; rw [Bool.and_eq_true, decide_eq_true_eq] at h; exact h.1
  obtain ⟨e1, e2⟩ := unzip hl
  have h2 : packB s ((fs.zip qs).map Prod.fst) ((fs.zip qs).map Prod.snd) = true := by rw [e1, e2]; exact h
  obtain ⟨⟨h3, h4⟩, h5, h6⟩ := pack_zip.1 h2
  suffices h7 : packB t ((fs.zip qs).map Prod.fst) ((fs.zip qs).map Prod.snd) = true by rwa [e1, e2] at h7
  refine pack_zip.2 ⟨⟨?_, ?_⟩, fun p hp => ⟨?_, (h5 p hp).2⟩, h6⟩
  · unfold troubleB at h3 ⊢
    rw [if_pos rfl, List.any_eq_false] at h3 ⊢
    intro f hf
    have := h3 f hf
    unfold highB at this ⊢
    rw [decide_eq_true_eq] at this ⊢
    have := hw.2.2.1
    omega
  · unfold troubleB at h4 ⊢
    rw [if_neg (by decide), if_neg (by decide), if_pos rfl, decide_eq_false_iff_not] at h4 ⊢
    have := hw.2.2.2
    omega
  · obtain ⟨r, hr, e⟩ := any_toSq.1 (h5 p hp).1
    exact any_toSq.2 ⟨r, stands_wide hw hr, e⟩
end Go.Pb.Sag

/- What the reference of layer 2 does, by plain maths: its stands, its cells, its packings. -/
namespace Go.Pb.Sag
open Go Go.Pb Go.Pb.Ware Go.RowKit
set_option linter.unusedVariables false
/-- Is it a stand of the box? -/
def isStQ (s : Bx) (f : Ft) (q : Sq) : Bool := (!q.turned || !decide ((sideV f q.turned).1 = (sideV f q.turned).2)) && (decide (0 ≤ q.x) && (decide (0 ≤ q.y) && (decide (q.x ≤ s.wide - (sideV f q.turned).1) && decide (q.y ≤ s.deep - (sideV f q.turned).2))))
theorem isSt_iff {s : Bx} {f : Ft} {q : Sq} : isStQ s f q = true ↔ (q.turned = true → ¬ f.wide = f.deep) ∧ 0 ≤ q.x ∧ 0 ≤ q.y ∧ q.x ≤ s.wide - (sideV f q.turned).1 ∧ q.y ≤ s.deep - (sideV f q.turned).2 := by
  unfold isStQ
  simp only [Bool.and_eq_true, Bool.or_eq_true, Bool.not_eq_true', decide_eq_true_eq, decide_eq_false_iff_not]
  have h : (q.turned = false ∨ ¬ (sideV f q.turned).1 = (sideV f q.turned).2) ↔ (q.turned = true → ¬ f.wide = f.deep) := by
    unfold sideV
    cases q.turned with
    | false => simp
    | true => simp; exact ⟨fun h e => h e.symm, fun h e => h e.symm⟩
  rw [h]
theorem turned_ways {f : Ft} {t : Bool} : t ∈ ways f ↔ (t = true → ¬ f.wide = f.deep) := by
  unfold ways
  cases t with
  | false => split <;> simp
  | true => split <;> simp_all
theorem isSt_any {s : Bx} {f : Ft} {q : Sq} (hF : FtOk f) : isStQ s f q = anySt q.y q.x q.turned (standsL s f) := by
  have h3 : (1 ≤ (sideV f q.turned).1) ∧ 1 ≤ (sideV f q.turned).2 := by unfold FtOk at hF; unfold sideV; split <;> dsimp only <;> omega
  rw [Bool.eq_iff_iff, isSt_iff, any_toSq]
  constructor
  · rintro ⟨h0, h1, h2, h4, h5⟩
    refine ⟨⟨q.y.toNat, q.x.toNat, q.turned⟩, mem_stands.2 ⟨by dsimp only; omega, by dsimp only; omega, turned_ways.2 h0, ?_⟩, ?_⟩
    · unfold okAt
      rw [Bool.and_eq_true, decide_eq_true_eq, decide_eq_true_eq]
      dsimp only
      omega
    · obtain ⟨y, x, t⟩ := q
      dsimp only at h1 h2
      unfold toSq
      dsimp only
      rw [Int.toNat_of_nonneg h1, Int.toNat_of_nonneg h2]
  · rintro ⟨p, hp, rfl⟩
    obtain ⟨m1, m2, m3, m4⟩ := mem_stands.1 hp
    unfold okAt at m4
    rw [Bool.and_eq_true, decide_eq_true_eq, decide_eq_true_eq] at m4
    refine ⟨turned_ways.1 m3, ?_⟩
    unfold toSq
    dsimp only
    omega
theorem isSt_toSq {s : Bx} {f : Ft} {p : St} : isStQ s f (toSq p) = (decide (p.turned ∈ ways f) && okAt s f p) := by
  rw [Bool.eq_iff_iff, isSt_iff, Bool.and_eq_true, decide_eq_true_eq, turned_ways]
  unfold okAt toSq
  rw [Bool.and_eq_true, decide_eq_true_eq, decide_eq_true_eq]
  dsimp only
  constructor
  · rintro ⟨h0, _, _, h4, h5⟩; exact ⟨h0, by omega, by omega⟩
  · rintro ⟨h0, h4, h5⟩; exact ⟨h0, by omega, by omega, by omega, by omega⟩
/-- The stands at one place, as the reference goes through them. -/
def cellR (s : Bx) (f : Ft) (y x k : Nat) : List St := ((([false, true] : List Bool).take k).map fun t => (⟨y, x, t⟩ : St)).filter fun p => isStQ s f (toSq p)
theorem cellR_all {s : Bx} {f : Ft} {y x : Nat} : cellR s f y x 2 = cellL s f y x (ways f).length := by
  unfold cellR cellL
  rw [List.take_length]
  have e : (fun p => isStQ s f (toSq p)) = fun p : St => decide (p.turned ∈ ways f) && okAt s f p := funext fun p => isSt_toSq
  rw [e]
  unfold ways
  by_cases h : f.wide = f.deep
  · simp only [h]
    simp [List.filter_cons]
  · simp [h]
theorem cellR_yes {s : Bx} {f : Ft} {y x k : Nat} {t : Bool} (ht : ([false, true] : List Bool)[k]? = some t) (h : isStQ s f (toSq ⟨y, x, t⟩) = true) : cellR s f y x (k + 1) = cellR s f y x k ++ [⟨y, x, t⟩] := by
  obtain ⟨hk, rfl⟩ := List.getElem?_eq_some_iff.1 ht
  unfold cellR
  rw [List.take_succ_eq_append_getElem hk, List.map_append, List.filter_append]
  simp [h]
theorem cellR_no {s : Bx} {f : Ft} {y x k : Nat} {t : Bool} (ht : ([false, true] : List Bool)[k]? = some t) (h : isStQ s f (toSq ⟨y, x, t⟩) = false) : cellR s f y x (k + 1) = cellR s f y x k := by
  obtain ⟨hk, rfl⟩ := List.getElem?_eq_some_iff.1 ht
  unfold cellR
  rw [List.take_succ_eq_append_getElem hk, List.map_append, List.filter_append]
  simp [h]
/-- Cells in rows of W. -/
def bitW (W y x : Nat) : Nat := 2 ^ (y * W + x)
def rowW (W y x : Nat) : Nat → Nat
  | 0 => 0
  | k + 1 => rowW W y x k ||| bitW W y (x + k)
def boxW (W y x wide : Nat) : Nat → Nat
  | 0 => 0
  | k + 1 => boxW W y x wide k ||| rowW W (y + k) x wide
/-- The same cells, in rows of W and in rows of 6. -/
def RelW (W a b : Nat) : Prop := (∀ y x, x < W → a.testBit (y * W + x) = b.testBit (y * 6 + x)) ∧ ∀ y x, x < 6 → W ≤ x → b.testBit (y * 6 + x) = false
theorem rel_zero {W : Nat} : RelW W 0 0 := ⟨fun _ _ _ => by simp, fun _ _ _ _ => by simp⟩
theorem rel_or {W a b c d : Nat} (h : RelW W a b) (k : RelW W c d) : RelW W (a ||| c) (b ||| d) :=
  ⟨fun y x hx => by rw [Nat.testBit_or, Nat.testBit_or, h.1 y x hx, k.1 y x hx], fun y x h1 h2 => by rw [Nat.testBit_or, h.2 y x h1 h2, k.2 y x h1 h2]; rfl⟩
theorem rel_bit {W y x : Nat} (h6 : W ≤ 6) (hx : x < W) : RelW W (bitW W y x) (bitAt y x) := by
  refine ⟨fun y' x' hx' => ?_, fun y' x' h1 h2 => ?_⟩
  · unfold bitW bitAt
    rw [Nat.testBit_two_pow, Nat.testBit_two_pow]
    rw [decide_eq_decide]
    rcases (show W = 1 ∨ W = 2 ∨ W = 3 ∨ W = 4 ∨ W = 5 ∨ W = 6 by omega) with rfl | rfl | rfl | rfl | rfl | rfl <;> omega
  · unfold bitAt
    rw [Nat.testBit_two_pow, decide_eq_false]
    omega
theorem rel_row {W y x : Nat} (h6 : W ≤ 6) : ∀ {k : Nat}, x + k ≤ W → RelW W (rowW W y x k) (rowM y x k)
  | 0, _ => rel_zero
  | k + 1, h => rel_or (rel_row h6 (by omega)) (rel_bit h6 (by omega))
theorem rel_box {W y x wide : Nat} (h6 : W ≤ 6) (hx : x + wide ≤ W) : ∀ {k : Nat}, RelW W (boxW W y x wide k) (boxM y x wide k)
  | 0 => rel_zero
  | k + 1 => rel_or (rel_box h6 hx) (rel_row h6 hx)
theorem rel_and {W a b c d : Nat} (hW : 1 ≤ W) (h6 : W ≤ 6) (h : RelW W a b) (k : RelW W c d) : a &&& c = 0 ↔ b &&& d = 0 := by
  constructor
  · intro h0
    apply Nat.eq_of_testBit_eq
    intro i
    rw [Nat.zero_testBit, Nat.testBit_and]
    have e : i = i / 6 * 6 + i % 6 := by omega
    rw [e]
    rcases Nat.lt_or_ge (i % 6) W with hx | hx
    · rw [← h.1 _ _ hx, ← k.1 _ _ hx, ← Nat.testBit_and, h0, Nat.zero_testBit]
    · rw [h.2 _ _ (by omega) hx]; rfl
  · intro h0
    apply Nat.eq_of_testBit_eq
    intro i
    rw [Nat.zero_testBit, Nat.testBit_and]
    have hx : i % W < W := Nat.mod_lt _ (by omega)
    have e : i = i / W * W + i % W := (Nat.div_add_mod' i W).symm
    rw [e, h.1 _ _ hx, k.1 _ _ hx, ← Nat.testBit_and, h0, Nat.zero_testBit]
theorem bitW_lt {W y x : Nat} (hW : W ≤ 6) (hy : y ≤ 5) (hx : x < W) : bitW W y x < 2 ^ 36 := by
  refine Nat.pow_lt_pow_right (by decide) ?_
  have := Nat.mul_le_mul hy hW
  omega
theorem rowW_lt {W y x : Nat} (hW : W ≤ 6) (hy : y ≤ 5) : ∀ {k : Nat}, x + k ≤ W → rowW W y x k < 2 ^ 36
  | 0, _ => by simp [rowW]
  | k + 1, h => Nat.or_lt_two_pow (rowW_lt hW hy (by omega)) (bitW_lt hW hy (by omega))
theorem boxW_lt {W y x wide : Nat} (hW : W ≤ 6) (hx : x + wide ≤ W) : ∀ {k : Nat}, y + k ≤ 6 → boxW W y x wide k < 2 ^ 36
  | 0, _ => by simp [boxW]
  | k + 1, h => Nat.or_lt_two_pow (boxW_lt hW hx (by omega)) (rowW_lt hW (by omega) hx)
/-- What the reference says that a foot covers. -/
def maskW (s : Bx) (f : Ft) (p : St) : Nat := boxW s.wide.toNat p.y p.x (sideV f p.turned).1.toNat (sideV f p.turned).2.toNat
theorem maskW_rel {s : Bx} {f : Ft} {p : St} (hX : boxOk s = true) (hF : FtOk f) (h : p ∈ standsL s f) : RelW s.wide.toNat (maskW s f p) (maskOf f p) ∧ maskW s f p < 2 ^ 36 := by
  have h1 := standsN_ok h
  have h2 := boxOk_iff.1 hX
  unfold FtOk at hF
  unfold okAt at h1
  rw [Bool.and_eq_true, decide_eq_true_eq, decide_eq_true_eq] at h1
  have h3 : (1 ≤ (sideV f p.turned).1) ∧ 1 ≤ (sideV f p.turned).2 := by unfold sideV; split <;> dsimp only <;> omega
  unfold maskW maskOf
  exact ⟨rel_box (by omega) (by omega), boxW_lt (by omega) (by omega) (by omega)⟩
end Go.Pb.Sag

/- Putting items into groups: the search, and what it holds in memory. -/
namespace Go.Pb.Sag
open Go Go.Pb Go.Pb.Ware Go.RowKit
set_option linter.unusedVariables false
/-- The first way to put the items from i on (d of them) into groups; none if there is none. -/
def putF (s : Bx) (fs : List Ft) (most : Nat) : Nat → Nat → List (List Int) → Option (List (List Int))
  | 0, _, gs => some gs
  | d + 1, i, gs =>
    match (List.range gs.length).findSome? (fun k => if fitsB s (chosenL fs (gs.getD k [] ++ [(i : Int)])) = true then putF s fs most d (i + 1) (gs.set k (gs.getD k [] ++ [(i : Int)])) else none) with
    | some r => some r
    | none => if gs.length = most then none else putF s fs most d (i + 1) (gs ++ [[(i : Int)]])
def tryF (s : Bx) (fs : List Ft) (most d i : Nat) (gs : List (List Int)) (k : Nat) : Option (List (List Int)) := if fitsB s (chosenL fs (gs.getD k [] ++ [(i : Int)])) = true then putF s fs most d (i + 1) (gs.set k (gs.getD k [] ++ [(i : Int)])) else none
theorem putF_succ (s : Bx) (fs : List Ft) (most d i : Nat) (gs : List (List Int)) : putF s fs most (d + 1) i gs = match (List.range gs.length).findSome? (tryF s fs most d i gs) with
    | some r => some r
    | none => if gs.length = most then none else putF s fs most d (i + 1) (gs ++ [[(i : Int)]]) := by rw [putF]; rfl
theorem find_here {α : Type} {f : Nat → Option α} {n k : Nat} {r : α} (hk : k < n) (h0 : ∀ j, j < k → f j = none) (h : f k = some r) : (List.range n).findSome? f = some r := by
  induction n generalizing k with
  | zero => omega
  | succ n ih =>
    rw [List.range_succ, List.findSome?_append]
    rcases Nat.lt_or_ge k n with h1 | h1
    · rw [ih h1 h0 h]; rfl
    · have e : k = n := by omega
      subst e
      rw [List.findSome?_eq_none_iff.2 (fun j hj => h0 j (List.mem_range.1 hj))]
      simp [h]
theorem find_no {α : Type} {f : Nat → Option α} {n : Nat} (h0 : ∀ j, j < n → f j = none) : (List.range n).findSome? f = none := List.findSome?_eq_none_iff.2 (fun j hj => h0 j (List.mem_range.1 hj))
/-- Groups of items below i: none is empty, and no two have the same first item. -/
structure Good (i : Nat) (gs : List (List Int)) : Prop where
  one : ∀ (k : Nat) (g : List Int), gs[k]? = some g → ∃ x, g[0]? = some x
  lt : ∀ g ∈ gs, ∀ z ∈ g, 0 ≤ z ∧ z < (i : Int)
  len : ∀ g ∈ gs, g.length ≤ i
  many : gs.length ≤ i
  apart : ∀ (j k : Nat) (g h : List Int) (x y : Int), j ≠ k → gs[j]? = some g → gs[k]? = some h → g[0]? = some x → h[0]? = some y → x ≠ y
theorem Good.nil : Good 0 [] := ⟨fun k g h => (by simp at h), fun g h => (by cases h), fun g h => (by cases h), Nat.le_refl _, fun j k g h x y _ h1 => (by simp at h1)⟩
theorem head_snoc {g : List Int} {x z : Int} (h : g[0]? = some x) : (g ++ [z])[0]? = some x := by
  cases g with
  | nil => simp at h
  | cons a l => simpa using h
theorem Good.push {i k : Nat} {gs : List (List Int)} {g : List Int} (h : Good i gs) (hg : gs[k]? = some g) : Good (i + 1) (gs.set k (g ++ [(i : Int)])) := by
  have hk : k < gs.length := (List.getElem?_eq_some_iff.1 hg).1
  have key : ∀ (j : Nat) (g' : List Int) (x : Int), (gs.set k (g ++ [(i : Int)]))[j]? = some g' → g'[0]? = some x → ∃ g0, gs[j]? = some g0 ∧ g0[0]? = some x := by
    intro j g' x h1 h2
    by_cases e : j = k
    · subst e
      rw [List.getElem?_set_self hk] at h1
      obtain rfl : g ++ [(i : Int)] = g' := by simpa using h1
      obtain ⟨y, hy⟩ := h.one j g hg
      rw [head_snoc hy] at h2
      exact ⟨g, hg, by rw [hy]; exact h2⟩
    · rw [List.getElem?_set_ne (Ne.symm e)] at h1
      exact ⟨g', h1, h2⟩
  refine ⟨fun j g' h1 => ?_, fun g' hm z hz => ?_, fun g' hm => ?_, by rw [List.length_set]; have := h.many; omega, fun j l g' h' x y hne h1 h2 h3 h4 => ?_⟩
  · by_cases e : j = k
    · subst e
      rw [List.getElem?_set_self hk] at h1
      obtain rfl : g ++ [(i : Int)] = g' := by simpa using h1
      obtain ⟨y, hy⟩ := h.one j g hg
      exact ⟨y, head_snoc hy⟩
    · rw [List.getElem?_set_ne (Ne.symm e)] at h1
      exact h.one j g' h1
  · rcases List.mem_or_eq_of_mem_set hm with h1 | rfl
    · have := h.lt g' h1 z hz; omega
    · rcases List.mem_append.1 hz with h1 | h1
      · have := h.lt g (List.mem_of_getElem? hg) z h1; omega
      · simp at h1; omega
  · rcases List.mem_or_eq_of_mem_set hm with h1 | rfl
    · have := h.len g' h1; omega
    · have := h.len g (List.mem_of_getElem? hg); rw [List.length_append, List.length_singleton]; omega
  · obtain ⟨a, ha, ha2⟩ := key j g' x h1 h3
    obtain ⟨b, hb, hb2⟩ := key l h' y h2 h4
    exact h.apart j l a b x y hne ha hb ha2 hb2
theorem Good.snoc {i : Nat} {gs : List (List Int)} (h : Good i gs) : Good (i + 1) (gs ++ [[(i : Int)]]) := by
  have key : ∀ (j : Nat) (g : List Int), (gs ++ [[(i : Int)]])[j]? = some g → (j < gs.length ∧ gs[j]? = some g) ∨ (j = gs.length ∧ g = [(i : Int)]) := by
    intro j g h1
    rcases Nat.lt_or_ge j gs.length with h2 | h2
    · rw [List.getElem?_append_left h2] at h1; exact .inl ⟨h2, h1⟩
    · rw [List.getElem?_append_right h2] at h1
      have h3 := (List.getElem?_eq_some_iff.1 h1).1
      simp at h3
      have e : j = gs.length := by omega
      subst e
      simp at h1
      exact .inr ⟨rfl, h1.symm⟩
  have low : ∀ (j : Nat) (g : List Int) (x : Int), gs[j]? = some g → g[0]? = some x → x < (i : Int) := fun j g x h1 h2 => (h.lt g (List.mem_of_getElem? h1) x (List.mem_of_getElem? h2)).2
  refine ⟨fun j g h1 => ?_, fun g hm z hz => ?_, fun g hm => ?_, by rw [List.length_append, List.length_singleton]; have := h.many; omega, fun j k g g' x y hne h1 h2 h3 h4 => ?_⟩
  · rcases key j g h1 with ⟨_, h2⟩ | ⟨_, rfl⟩
    · exact h.one j g h2
    · exact ⟨_, rfl⟩
  · rcases List.mem_append.1 hm with h1 | h1
    · have := h.lt g h1 z hz; omega
    · simp at h1; subst h1; simp at hz; omega
  · rcases List.mem_append.1 hm with h1 | h1
    · have := h.len g h1; omega
    · simp at h1; subst h1; simp
  · rcases key j g h1 with ⟨_, h5⟩ | ⟨e1, rfl⟩ <;> rcases key k g' h2 with ⟨_, h6⟩ | ⟨e2, rfl⟩
    · exact h.apart j k g g' x y hne h5 h6 h3 h4
    · have := low j g x h5 h3; simp at h4; omega
    · have := low k g' y h6 h4; simp at h3; omega
    · omega
theorem Good.mono {i j : Nat} {gs : List (List Int)} (h : Good i gs) (hij : i ≤ j) : Good j gs := ⟨h.one, fun g hm z hz => (by have := h.lt g hm z hz; omega), fun g hm => (by have := h.len g hm; omega), (by have := h.many; omega), h.apart⟩
/-- Two rows with different beginnings do not share a block. -/
theorem apart_heads {W : World} {b1 b2 T n1 n2 : Nat} {v u x y : Value} {xs ys : List Value} (h1 : W.ownsRow b1 T 1 v n1 xs) (h2 : W.ownsRow b2 T 1 u n2 ys) (hx : xs[0]? = some x) (hy : ys[0]? = some y) (hne : x ≠ y) : v.ownBlock = none ∨ v.ownBlock ≠ u.ownBlock := by
  rcases h1.2 with ⟨rfl, _⟩ | ⟨g, cap, cur, rfl, _, hg, _, _, _, ht⟩
  · exact .inl rfl
  · refine .inr fun e => ?_
    rcases h2.2 with ⟨rfl, _⟩ | ⟨g', cap', cur', rfl, _, hg', _, _, _, ht'⟩
    · simp [Value.ownBlock] at e
    · have e2 : g = g' := by simpa [Value.ownBlock] using e
      subst e2
      rw [hg] at hg'
      injection hg' with e3
      injection e3 with e3
      subst e3
      rw [← ht, List.getElem?_take] at hx
      rw [← ht', List.getElem?_take] at hy
      split at hx
      · split at hy
        · rw [hx] at hy; injection hy with hy; exact hne hy
        · cases hy
      · cases hx
/-- Rows of two types do not share a block. -/
theorem apart_types {W : World} {b1 b2 T1 T2 s1 s2 n1 n2 : Nat} {v u : Value} {xs ys : List Value} (h1 : W.ownsRow b1 T1 s1 v n1 xs) (h2 : W.ownsRow b2 T2 s2 u n2 ys) (hne : T1 ≠ T2) : v.ownBlock = none ∨ v.ownBlock ≠ u.ownBlock := by
  rcases h1.2 with ⟨rfl, _⟩ | ⟨g, cap, cur, rfl, _, hg, _⟩
  · exact .inl rfl
  · refine .inr fun e => ?_
    rcases h2.2 with ⟨rfl, _⟩ | ⟨g', cap', cur', rfl, _, hg', _⟩
    · simp [Value.ownBlock] at e
    · have e2 : g = g' := by simpa [Value.ownBlock] using e
      subst e2
      rw [hg] at hg'
      injection hg' with e3
      injection e3 with _ e4
      exact hne e4
theorem row_take {W : World} {lo T n m cap g : Nat} {xs : List Value} (h : W.ownsRow lo T 1 (.slice (some ⟨g, 0, none⟩) n cap) n xs) (hm : m ≤ n) : W.ownsRow lo T 1 (.slice (some ⟨g, 0, none⟩) m cap) m (xs.take m) := by
  refine ⟨by rw [List.length_take, h.1]; omega, ?_⟩
  rcases h.2 with ⟨h1, _⟩ | ⟨g', cap', cur, h1, h2, h3, h4, h5, h6, h7⟩
  · cases h1
  · injection h1 with e1 _ e2
    injection e1 with e1
    injection e1 with e1
    subst e1; subst e2
    refine .inr ⟨g, cap, cur, rfl, h2, h3, by omega, h5, h6, ?_⟩
    rw [← h7, List.take_take]
    congr 1; omega
theorem row_set {W : World} {lo T n cap g k : Nat} {xs : List Value} {v : Value} (h : W.ownsRow lo T 1 (.slice (some ⟨g, 0, none⟩) n cap) n xs) (hk : k < n) : (W.setCell ⟨g, k, none⟩ v).ownsRow lo T 1 (.slice (some ⟨g, 0, none⟩) n cap) n (xs.set k v) := by
  refine ⟨by rw [List.length_set]; exact h.1, ?_⟩
  rcases h.2 with ⟨h1, _⟩ | ⟨g', cap', cur, h1, h2, h3, h4, h5, h6, h7⟩
  · cases h1
  · injection h1 with e1 _ e2
    injection e1 with e1
    injection e1 with e1
    subst e1; subst e2
    refine .inr ⟨g, cap, cur.setIfInBounds k v, rfl, h2, ?_, h4, h5, by rw [Array.size_setIfInBounds]; exact h6, ?_⟩
    · rw [Go.Sort.setCell_eq]
      unfold Go.Sort.mapBlock
      rw [Array.getElem?_modify, if_pos rfl, h3]; rfl
    · rw [Array.toList_setIfInBounds, List.take_set, h7]
end Go.Pb.Sag

/- A slice of the call's own that grows in one cell of the memory. -/
namespace Go.Pb.Sag
open Go Go.Pb Go.Pb.Ware Go.RowKit
set_option linter.unusedVariables false
/-- In the cell g of the world w1 alone what is there has changed: to a slice of m elements, which hold cs. -/
def FillG (w1 : World) (g T n m : Nat) (cs : List Value) (W : World) : Prop := OutOnly w1 g 0 W ∧ ∃ v, (W.cell? ⟨g, 0, none⟩ = some v ∧ W.frozen? ⟨g, 0, none⟩ = false) ∧ W.ownsRow w1.heap.size T n v m cs
theorem fillG_own {β : Type} {w1 : World} {g T n : Nat} (hlt : g < w1.heap.size) (m : β → Nat) (f : β → List Value) : OwnFrom w1.heap.size (fun s W => FillG w1 g T n (m s) (f s) W) := by
  rintro s X Y row ⟨ho, v, ⟨h1, h2⟩, h3⟩ hg hr
  have hr2 : ∀ r, row = some r → ∃ o : Obj, X.heap[r]? = some o ∧ o.isCells = false := fun r e => (hr r e).2
  refine ⟨ho.grown hg hlt (fun r e => (hr r e).1), v, ⟨cell_kept h1 hg hr2, (frozen_kept h1 hg hr2).trans h2⟩, h3.kept hg ?_⟩
  rcases h3.2 with ⟨rfl, _⟩ | ⟨b, cap, cur, rfl, _, hgb, _⟩
  · exact .inl rfl
  · refine .inr fun e' => ?_
    obtain ⟨o, ho, hc⟩ := hr2 b (by simpa [Value.ownBlock] using e'.symm)
    rw [hgb] at ho; cases ho; cases hc
theorem FillG.slot {w1 Wb w2 w3 : World} {g T n m : Nat} {xs : List Value} {v c0 : Value} (hlt : g < w1.heap.size) (hc : w1.cell? ⟨g, 0, none⟩ = some c0) (hf : w1.frozen? ⟨g, 0, none⟩ = false) (hO : OutOnly w1 g 0 Wb) (c1 : Wb.cell? ⟨g, 0, none⟩ = some v) (hb : Below Wb.heap.size Wb w2)
    (hown2 : w2.ownsRow w1.heap.size T n v m xs) (hg3 : w2.grownBy w3 v.ownBlock) : w3.cell? ⟨g, 0, none⟩ = some v ∧ w3.frozen? ⟨g, 0, none⟩ = false := by
  have hr : ∀ r, v.ownBlock = some r → w1.heap.size ≤ r := fun r e => (World.ownsRow.lt hown2 r e).1
  exact ⟨grown_kept hg3 (bkeep hb c1) (fun e => by have := hr g e.symm; omega), ((hO.next hlt hb).grown hg3 hlt hr).frz 0 c0 hc hf⟩
theorem FillG.push {w1 Wb w2 w3 : World} {g T n m : Nat} {xs ys : List Value} {v v' c0 : Value} (hlt : g < w1.heap.size) (hc : w1.cell? ⟨g, 0, none⟩ = some c0) (hf : w1.frozen? ⟨g, 0, none⟩ = false) (hO : OutOnly w1 g 0 Wb) (c1 : Wb.cell? ⟨g, 0, none⟩ = some v) (hb : Below Wb.heap.size Wb w2)
    (hown2 : w2.ownsRow w1.heap.size T n v m xs) (hg3 : w2.grownBy w3 v.ownBlock) (ho3 : w3.ownsRow w1.heap.size T n v' (m + 1) ys) :
    FillG w1 g T n (m + 1) ys (w3.setCell ⟨g, 0, none⟩ v') ∧ KeepsOthers Wb (w3.setCell ⟨g, 0, none⟩ v') ∧ Wb.heap.size ≤ (w3.setCell ⟨g, 0, none⟩ v').heap.size := by
  have hr : ∀ r, v.ownBlock = some r → w1.heap.size ≤ r := fun r e => (World.ownsRow.lt hown2 r e).1
  have hO4 := ((hO.next hlt hb).grown hg3 hlt hr).set v'
  have c3 : w3.cell? ⟨g, 0, none⟩ = some v := grown_kept hg3 (bkeep hb c1) (fun e => by have := hr g e.symm; omega)
  refine ⟨⟨hO4, v', ⟨setc_same c3, hO4.frz 0 c0 hc hf⟩, ?_⟩, ((keeps_of_below hb).trans (KeepsOthers.of_grownBy hg3 (own_cells hown2))).trans (KeepsOthers.setCell _ _ _), ?_⟩
  · exact ho3.kept (grown_setc w3 ⟨g, 0, none⟩ v') (.inr fun e => by have := (World.ownsRow.lt ho3 g e).1; omega)
  · have := hb.size; have := hg3.size; simp; omega
end Go.Pb.Sag

/- What putting items into groups holds in memory. -/
namespace Go.Pb.Sag
open Go Go.Pb Go.Pb.Ware Go.RowKit
set_option linter.unusedVariables false
def RowsIn (lo T : Nat) (W : World) (vs : List Value) (gs : List (List Int)) : Prop := ∀ (k : Nat) (v : Value) (g : List Int), vs[k]? = some v → gs[k]? = some g → W.ownsRow lo T 1 v g.length (g.map (Value.int .i64))
/-- The groups so far, in the field 8 of block G; all other memory of theirs lies behind G. -/
def PutAt (G TO TI : Nat) (gs : List (List Int)) (W : World) : Prop := ∃ (gv : Value) (vs : List Value), (W.cell? ⟨G, 8, none⟩ = some gv ∧ W.frozen? ⟨G, 8, none⟩ = false) ∧ W.ownsRow (G + 1) TO 1 gv gs.length vs ∧ RowsIn (G + 1) TI W vs gs
theorem PutAt.next {G TO TI : Nat} {gs : List (List Int)} {W W' : World} (h : PutAt G TO TI gs W) (hb : Below W.heap.size W W') : PutAt G TO TI gs W' := by
  obtain ⟨gv, vs, ⟨c1, c2⟩, ho, hr⟩ := h
  exact ⟨gv, vs, ⟨bkeep hb c1, bfree hb c1 c2⟩, owns_below ho hb, fun k v g h1 h2 => owns_below (hr k v g h1 h2) hb⟩
theorem own_ge {W : World} {lo T s n : Nat} {v : Value} {xs : List Value} (h : W.ownsRow lo T s v n xs) : ∀ b, v.ownBlock = some b → lo ≤ b := fun b e => (World.ownsRow.lt h b e).1
theorem set_own {W : World} {lo T s n B o : Nat} {v u : Value} {xs : List Value} (h : W.ownsRow lo T s v n xs) (hne : v.ownBlock = none ∨ v.ownBlock ≠ some B) : (W.setCell ⟨B, o, none⟩ u).ownsRow lo T s v n xs := h.kept (grown_setc W ⟨B, o, none⟩ u) hne
/-- What is there behind an append to the group k, ahead of its store. -/
theorem PutAt.push {G TO TI i k : Nat} (hT : TO ≠ TI) {gs : List (List Int)} {g : List Int} {W w2 w3 : World} {v v' : Value} {vs : List Value} {gb cap : Nat} (hG : Good i gs) (hg : gs[k]? = some g) (hv : vs[k]? = some v)
    (c8 : W.cell? ⟨G, 8, none⟩ = some (.slice (some ⟨gb, 0, none⟩) gs.length cap) ∧ W.frozen? ⟨G, 8, none⟩ = false) (ho : W.ownsRow (G + 1) TO 1 (.slice (some ⟨gb, 0, none⟩) gs.length cap) gs.length vs) (hr : RowsIn (G + 1) TI W vs gs)
    (hb : Below W.heap.size W w2) (hg3 : w2.grownBy w3 v.ownBlock) (ho3 : w3.ownsRow (G + 1) TI 1 v' (g.length + 1) (g.map (Value.int .i64) ++ [.int .i64 (i : Int)])) :
    (w3.cell? ⟨gb, k, none⟩ = some v ∧ w3.frozen? ⟨gb, k, none⟩ = false) ∧ PutAt G TO TI (gs.set k (g ++ [(i : Int)])) (w3.setCell ⟨gb, k, none⟩ v') ∧ Below (G + 1) W (w3.setCell ⟨gb, k, none⟩ v') := by
  have hk : k < gs.length := (List.getElem?_eq_some_iff.1 hg).1
  have hGW : G < W.heap.size := World.block_lt_of_cell? W _ c8.1
  have hrow := hr k v g hv hg
  have ho2 := owns_below ho hb
  have hrow2 := owns_below hrow hb
  have hgb : G + 1 ≤ gb := own_ge ho gb rfl
  have a1 : (Value.slice (some ⟨gb, 0, none⟩) gs.length cap).ownBlock = none ∨ (Value.slice (some ⟨gb, 0, none⟩) gs.length cap).ownBlock ≠ v.ownBlock := apart_types ho2 hrow2 hT
  have ho4 : w3.ownsRow (G + 1) TO 1 (.slice (some ⟨gb, 0, none⟩) gs.length cap) gs.length vs := ho2.kept hg3 a1
  have hlo : ∀ r, v.ownBlock = some r → G + 1 ≤ r := own_ge hrow
  have hbw : Below (G + 1) W w3 := (hb.mono (by omega)).grown hg3 (by have := hb.size; omega) hlo
  have a2 : some gb ≠ v.ownBlock := by rcases a1 with h | h; cases h; exact h
  have hcell : w3.cell? ⟨gb, k, none⟩ = some v := by
    have h1 := ho4.cells (g := gb) rfl k v hv
    rw [Go.WideShapes.add_plain, Nat.zero_add] at h1
    exact h1
  refine ⟨⟨hcell, owns_frozen ho4 rfl k⟩, ⟨.slice (some ⟨gb, 0, none⟩) gs.length cap, vs.set k v', ⟨?_, ?_⟩, ?_, ?_⟩, hbw.setCell (p := ⟨gb, k, none⟩) hgb v'⟩
  · exact setc_block ((hbw.cell (p := ⟨G, 8, none⟩) (by simp)).trans c8.1) (by omega)
  · exact set_free ((hbw.cell (p := ⟨G, 8, none⟩) (by simp)).trans c8.1) ((hbw.frozen (p := ⟨G, 8, none⟩) (by simp)).trans c8.2)
  · rw [List.length_set]; exact row_set ho4 hk
  · intro j u g' hu hg'
    have hts : ∀ {u : Value} {n : Nat} {xs : List Value}, w3.ownsRow (G + 1) TI 1 u n xs → u.ownBlock = none ∨ u.ownBlock ≠ some gb := fun h => apart_types h ho4 (Ne.symm hT)
    by_cases e : j = k
    · subst e
      have hvl : j < vs.length := (List.getElem?_eq_some_iff.1 hv).1
      rw [List.getElem?_set_self hvl] at hu
      rw [List.getElem?_set_self hk] at hg'
      obtain rfl : v' = u := by simpa using hu
      obtain rfl : g ++ [(i : Int)] = g' := by simpa using hg'
      have h1 := set_own (o := j) (u := v') ho3 (hts ho3)
      simpa using h1
    · rw [List.getElem?_set_ne (Ne.symm e)] at hu hg'
      have hj := hr j u g' hu hg'
      obtain ⟨x, hx⟩ := hG.one j g' hg'
      obtain ⟨y, hy⟩ := hG.one k g hg
      have hxy := hG.apart j k g' g x y e hg' hg hx hy
      have h1 : (g'.map (Value.int .i64))[0]? = some (.int .i64 x) := by rw [List.getElem?_map, hx]; rfl
      have h2 : (g.map (Value.int .i64))[0]? = some (.int .i64 y) := by rw [List.getElem?_map, hy]; rfl
      have h3 := (owns_below hj hb).kept hg3 (apart_heads (owns_below hj hb) hrow2 h1 h2 (fun h => hxy (by injection h)))
      exact set_own h3 (hts h3)
/-- The group k is cut back to g. -/
theorem PutAt.pop {G TO TI i k : Nat} (hT : TO ≠ TI) {gs : List (List Int)} {g : List Int} {W : World} {gb gcap b cap n : Nat} {vs : List Value} (hgs : gs[k]? = some g) (hn : gs.length = n)
    (c8 : W.cell? ⟨G, 8, none⟩ = some (.slice (some ⟨gb, 0, none⟩) n gcap) ∧ W.frozen? ⟨G, 8, none⟩ = false) (ho : W.ownsRow (G + 1) TO 1 (.slice (some ⟨gb, 0, none⟩) n gcap) n vs) (hr : RowsIn (G + 1) TI W vs (gs.set k (g ++ [(i : Int)])))
    (hv : vs[k]? = some (.slice (some ⟨b, 0, none⟩) (g.length + 1) cap)) :
    PutAt G TO TI gs (W.setCell ⟨gb, k, none⟩ (.slice (some ⟨b, 0, none⟩) g.length cap)) ∧ Below (G + 1) W (W.setCell ⟨gb, k, none⟩ (.slice (some ⟨b, 0, none⟩) g.length cap)) := by
  subst hn
  have hk : k < gs.length := (List.getElem?_eq_some_iff.1 hgs).1
  have hgb : G + 1 ≤ gb := own_ge ho gb rfl
  have hts : ∀ {u : Value} {n : Nat} {xs : List Value}, W.ownsRow (G + 1) TI 1 u n xs → u.ownBlock = none ∨ u.ownBlock ≠ some gb := fun h => apart_types h ho (Ne.symm hT)
  refine ⟨⟨.slice (some ⟨gb, 0, none⟩) gs.length gcap, vs.set k (.slice (some ⟨b, 0, none⟩) g.length cap), ⟨setc_block c8.1 (by omega), set_free c8.1 c8.2⟩, row_set ho hk, ?_⟩, (Below.refl _ _).setCell (p := ⟨gb, k, none⟩) hgb _⟩
  intro j u g' hu hg'
  by_cases e : j = k
  · subst e
    have hvl : j < vs.length := (List.getElem?_eq_some_iff.1 hv).1
    rw [List.getElem?_set_self hvl] at hu
    rw [hgs] at hg'
    obtain rfl : Value.slice (some ⟨b, 0, none⟩) g.length cap = u := by simpa using hu
    obtain rfl : g = g' := by simpa using hg'
    have h1 := hr j _ _ hv (List.getElem?_set_self hk)
    rw [List.length_append, List.length_singleton] at h1
    have h2 := row_take (m := g.length) h1 (by omega)
    rw [List.map_append, List.take_append_of_le_length (by simp), List.take_of_length_le (by simp)] at h2
    exact set_own h2 (hts h2)
  · rw [List.getElem?_set_ne (Ne.symm e)] at hu
    have h1 := hr j u g' hu (by rw [List.getElem?_set_ne (Ne.symm e)]; exact hg')
    exact set_own h1 (hts h1)
/-- A new group. -/
theorem PutAt.grow {G TO TI i n : Nat} (hT : TO ≠ TI) {gs : List (List Int)} {W w3 : World} {gv gv' : Value} {vs : List Value} (hG : Good i gs) (hn : gs.length = n)
    (c8 : W.cell? ⟨G, 8, none⟩ = some gv ∧ W.frozen? ⟨G, 8, none⟩ = false) (ho : W.ownsRow (G + 1) TO 1 gv n vs) (hr : RowsIn (G + 1) TI W vs gs)
    (hg3 : ((W.alloc (.cells #[.int .i64 (i : Int)] TI)).alloc (.cells #[.slice (some ⟨W.heap.size, 0, none⟩) 1 1] TO)).grownBy w3 gv.ownBlock) (ho3 : w3.ownsRow (G + 1) TO 1 gv' (n + 1) (vs ++ [.slice (some ⟨W.heap.size, 0, none⟩) 1 1])) :
    (w3.cell? ⟨G, 8, none⟩ = some gv ∧ w3.frozen? ⟨G, 8, none⟩ = false) ∧ PutAt G TO TI (gs ++ [[(i : Int)]]) (w3.setCell ⟨G, 8, none⟩ gv') ∧ Below (G + 1) W w3 := by
  subst hn
  have hGW : G < W.heap.size := World.block_lt_of_cell? W _ c8.1
  have hb : Below W.heap.size W ((W.alloc (.cells #[.int .i64 (i : Int)] TI)).alloc (.cells #[.slice (some ⟨W.heap.size, 0, none⟩) 1 1] TO)) := ((Below.refl _ W).alloc (Nat.le_refl _) _).alloc (by simp) _
  have hbw : Below (G + 1) W w3 := (hb.mono (by omega)).grown hg3 (by simp; omega) (own_ge ho)
  have hG8 : w3.cell? ⟨G, 8, none⟩ = some gv ∧ w3.frozen? ⟨G, 8, none⟩ = false := ⟨(hbw.cell (p := ⟨G, 8, none⟩) (by simp)).trans c8.1, (hbw.frozen (p := ⟨G, 8, none⟩) (by simp)).trans c8.2⟩
  have far : ∀ {T n : Nat} {v : Value} {xs : List Value}, w3.ownsRow (G + 1) T 1 v n xs → v.ownBlock = none ∨ v.ownBlock ≠ some G := fun h => .inr fun e => by have := own_ge h G e; omega
  have hvl : vs.length = gs.length := by have := ho.1; omega
  refine ⟨hG8, ⟨gv', vs ++ [.slice (some ⟨W.heap.size, 0, none⟩) 1 1], ⟨setc_same hG8.1, set_free hG8.1 hG8.2⟩, ?_, ?_⟩, hbw⟩
  · rw [List.length_append, List.length_singleton]; exact set_own ho3 (far ho3)
  · intro k v g hv hg
    rcases Nat.lt_or_ge k gs.length with h1 | h1
    · rw [List.getElem?_append_left (by omega)] at hv
      rw [List.getElem?_append_left h1] at hg
      have h2 := owns_below (hr k v g hv hg) hb
      have h3 := h2.kept hg3 (apart_types h2 (owns_below ho hb) (Ne.symm hT))
      exact set_own h3 (far h3)
    · rw [List.getElem?_append_right (by omega), hvl] at hv
      rw [List.getElem?_append_right h1] at hg
      have h4 := (List.getElem?_eq_some_iff.1 hg).1
      simp at h4
      have e : k = gs.length := by omega
      subst e
      simp at hv hg
      subst hv; subst hg
      have h2 : ((W.alloc (.cells #[.int .i64 (i : Int)] TI)).alloc (.cells #[.slice (some ⟨W.heap.size, 0, none⟩) 1 1] TO)).ownsRow (G + 1) TI 1 (.slice (some ⟨W.heap.size, 0, none⟩) 1 1) 1 [.int .i64 (i : Int)] := by
        refine ⟨rfl, .inr ⟨W.heap.size, 1, #[.int .i64 (i : Int)], rfl, by omega, ?_, Nat.le_refl _, by unfold maxLen; omega, rfl, rfl⟩⟩
        rw [Below.heap_alloc _ _ _ (by simp)]
        exact World.alloc_heap_new W _
      have h3 := h2.kept hg3 (apart_types h2 (owns_below ho hb) (Ne.symm hT))
      exact set_own h3 (far h3)
/-- The last group is taken away. -/
theorem PutAt.shrink {G TO TI n gb cap : Nat} {gs : List (List Int)} {g : List Int} {W : World} {vs : List Value} (hn : gs.length = n)
    (c8 : W.cell? ⟨G, 8, none⟩ = some (.slice (some ⟨gb, 0, none⟩) (n + 1) cap) ∧ W.frozen? ⟨G, 8, none⟩ = false) (ho : W.ownsRow (G + 1) TO 1 (.slice (some ⟨gb, 0, none⟩) (n + 1) cap) (n + 1) vs) (hr : RowsIn (G + 1) TI W vs (gs ++ [g])) :
    PutAt G TO TI gs (W.setCell ⟨G, 8, none⟩ (.slice (some ⟨gb, 0, none⟩) n cap)) := by
  subst hn
  have far : ∀ {T n : Nat} {v : Value} {xs : List Value}, W.ownsRow (G + 1) T 1 v n xs → v.ownBlock = none ∨ v.ownBlock ≠ some G := fun h => .inr fun e => by have := own_ge h G e; omega
  have h1 := row_take (m := gs.length) ho (by omega)
  refine ⟨.slice (some ⟨gb, 0, none⟩) gs.length cap, vs.take gs.length, ⟨setc_same c8.1, set_free c8.1 c8.2⟩, set_own h1 (far h1), ?_⟩
  intro k v g' hv hg
  have hk : k < gs.length := (List.getElem?_eq_some_iff.1 hg).1
  rw [List.getElem?_take, if_pos hk] at hv
  have h2 := hr k v g' hv (by rw [List.getElem?_append_left hk]; exact hg)
  exact set_own h2 (far h2)
/-- The other fields of block G. -/
def GAt (G : Nat) (gc : List Value) (W : World) : Prop := ∀ o u, gc[o]? = some u → W.cell? ⟨G, o, none⟩ = some u ∧ W.frozen? ⟨G, o, none⟩ = false
theorem GAt.below {G : Nat} {gc : List Value} {W W' : World} (h : GAt G gc W) (hb : Below (G + 1) W W') : GAt G gc W' := fun o u hu => ⟨(hb.cell (p := ⟨G, o, none⟩) (by simp)).trans (h o u hu).1, (hb.frozen (p := ⟨G, o, none⟩) (by simp)).trans (h o u hu).2⟩
theorem GAt.set {G : Nat} {gc : List Value} {W : World} {v : Value} (h : GAt G gc W) (hl : gc.length ≤ 8) : GAt G gc (W.setCell ⟨G, 8, none⟩ v) := fun o u hu => ⟨setc_other (h o u hu).1 (by have := (List.getElem?_eq_some_iff.1 hu).1; omega), set_free (h o u hu).1 (h o u hu).2⟩
theorem rows_belowB {B n : Nat} {W W' : World} {v : Value} {rows : List (List Int)} (h : RowsAt n W v rows) (hv : ∀ b, v.ownBlock = some b → b < B) (hb : Below B W W') : RowsAt n W' v rows := by
  rcases h with h | ⟨a, cap, rfl, h2, h3, h4⟩
  · exact .inl h
  · refine .inr ⟨a, cap, rfl, h2, h3, fun k r hr => ⟨(h4 k r hr).1, fun j z hz => ⟨?_, ((h4 k r hr).2 j z hz).2⟩⟩⟩
    have hlt : (a.add (k * n + j)).block < B := by
      have := hv a.block rfl
      unfold Addr.add; split <;> exact this
    exact (hb.cell hlt).trans ((h4 k r hr).2 j z hz).1
theorem own_some {W : World} {lo T s n : Nat} {v : Value} {xs : List Value} (h : W.ownsRow lo T s v n xs) (hn : 0 < n) : ∃ g cap, v = .slice (some ⟨g, 0, none⟩) n cap ∧ n ≤ cap ∧ cap ≤ 9223372036854775807 := by
  rcases h.2 with ⟨_, h0⟩ | ⟨g, cap, _, rfl, _, _, h4, h5, _⟩
  · omega
  · exact ⟨g, cap, rfl, h4, by unfold maxLen at h5; omega⟩
end Go.Pb.Sag
