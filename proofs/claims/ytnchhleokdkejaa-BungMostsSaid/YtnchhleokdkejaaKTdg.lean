/- What the reference of layer 2 does, by plain maths: covers, room, what can be packed. -/
import Derived.Test.YtnchhleokdkejaaKB6g
import Derived.Test.YtnchhleokdkejaaKInRoundg
import Derived.Test.YtnchhleokdkejaaKCbg
import Derived.Laws.OwnMore
import Derived.Laws.AppendOwn
import Derived.OwnWalk
import Derived.Deep.LoopGhost
import Derived.Test.YtnchhleokdkejaaKScg
import Derived.Test.YtnchhleokdkejaaKLibg
import Derived.Maps.AppendAt
import Derived.Deep.CutBlock
import Derived.Deep.RegionHeld3
namespace Go.Pb.Sag
open Go Go.Pb Go.Pb.Ware Go.RowKit
set_option linter.unusedVariables false
/-- No foot is higher than the box, and all together are not too heavy. -/
def lowB (s : Bx) (fs : List Ft) : Bool := !troubleB s fs 1 && !troubleB s fs 3
end Go.Pb.Sag

/- The fewest groups: whatever groups are accepted, the search finds some that are no more. -/
namespace Go.Pb.Sag
open Go Go.Pb Go.Pb.Ware Go.RowKit
set_option linter.unusedVariables false
/-- What of a group lies below i. -/
def below (i : Nat) (g : List Int) : List Int := g.filter fun z => decide (z < (i : Int))
end Go.Pb.Sag

/- Partitions of the reference of layer 2, by plain maths: the first one is the groups that the program's search finds. -/
namespace Go.Pb.Sag
open Go Go.Pb Go.Pb.Ware Go.RowKit
set_option linter.unusedVariables false
/-- The indices, from i on, of what is g. -/
def whereL (g : Nat) : Nat → List Nat → List Int
  | _, [] => []
  | i, a :: l => if a = g then (i : Int) :: whereL g (i + 1) l else whereL g (i + 1) l
/-- Lists of indices by group. -/
def groupedL (of : List Nat) (many : Nat) : List (List Int) := (List.range many).map fun g => whereL g 0 of
theorem grouped_len {of : List Nat} {many : Nat} : (groupedL of many).length = many := by unfold groupedL; simp
theorem grouped_at {of : List Nat} {many k : Nat} (h : k < many) : (groupedL of many)[k]? = some (whereL k 0 of) := by unfold groupedL; simp [h]
end Go.Pb.Sag

/- The fewest parts that all do: the search for them, and what it holds in memory. -/
namespace Go.Pb.Sag
open Go Go.Pb Go.Pb.Ware Go.RowKit
set_option linter.unusedVariables false
/-- The first way to put the things from i on (d of them) into at most so many parts; none if there is none. -/
def putG (does : List Int → Bool) (most : Nat) : Nat → Nat → List (List Int) → Option (List (List Int))
  | 0, _, gs => some gs
  | d + 1, i, gs =>
    match (List.range gs.length).findSome? (fun k => if does (gs.getD k [] ++ [(i : Int)]) = true then putG does most d (i + 1) (gs.set k (gs.getD k [] ++ [(i : Int)])) else none) with
    | some r => some r
    | none => if gs.length = most then none else (if does [(i : Int)] = true then putG does most d (i + 1) (gs ++ [[(i : Int)]]) else none)
def tryG (does : List Int → Bool) (most d i : Nat) (gs : List (List Int)) (k : Nat) : Option (List (List Int)) := if does (gs.getD k [] ++ [(i : Int)]) = true then putG does most d (i + 1) (gs.set k (gs.getD k [] ++ [(i : Int)])) else none
theorem tryG_last (does : List Int → Bool) (most d i : Nat) (gs : List (List Int)) : tryG does most d i (gs ++ [[]]) gs.length = if does [(i : Int)] = true then putG does most d (i + 1) (gs ++ [[(i : Int)]]) else none := by
  unfold tryG
  rw [List.getD_eq_getElem?_getD, List.getElem?_append_right (Nat.le_refl _), Nat.sub_self, List.set_append_right _ _ (Nat.le_refl _), Nat.sub_self]
  rfl
theorem putG_succ (does : List Int → Bool) (most d i : Nat) (gs : List (List Int)) : putG does most (d + 1) i gs = match (List.range gs.length).findSome? (tryG does most d i gs) with
    | some r => some r
    | none => if gs.length = most then none else tryG does most d i (gs ++ [[]]) gs.length := by rw [tryG_last, putG]; rfl
theorem putG_some {does : List Int → Bool} {most : Nat} : ∀ (d i : Nat) (gs : List (List Int)), (∀ j, i ≤ j → j < i + d → does [(j : Int)] = true) → i + d ≤ most → gs.length ≤ i → ∃ r, putG does most d i gs = some r
  | 0, i, gs, _, _, _ => ⟨gs, rfl⟩
  | d + 1, i, gs, h, h1, h2 => by
    rw [putG_succ]
    cases hf : (List.range gs.length).findSome? (tryG does most d i gs) with
    | some r => exact ⟨r, rfl⟩
    | none =>
      dsimp only
      rw [if_neg (by omega), tryG_last, if_pos (h i (Nat.le_refl _) (by omega))]
      exact putG_some d (i + 1) _ (fun j h3 h4 => h j (by omega) (by omega)) (by omega) (by rw [List.length_append, List.length_singleton]; omega)
/-- Parts of things below i: as groups are, and each rises. -/
def GoodR (i : Nat) (gs : List (List Int)) : Prop := Good i gs ∧ ∀ g ∈ gs, g.Pairwise (· < ·)
theorem GoodR.nil : GoodR 0 [] := ⟨Good.nil, fun g h => by cases h⟩
theorem rise_snoc {i : Nat} {g : List Int} (h : g.Pairwise (· < ·)) (hl : ∀ z ∈ g, 0 ≤ z ∧ z < (i : Int)) : (g ++ [(i : Int)]).Pairwise (· < ·) := by
  rw [List.pairwise_append]
  exact ⟨h, List.pairwise_singleton _ _, fun a ha b hb => by rw [List.mem_singleton.1 hb]; exact (hl a ha).2⟩
theorem GoodR.push {i k : Nat} {gs : List (List Int)} {g : List Int} (h : GoodR i gs) (hg : gs[k]? = some g) : GoodR (i + 1) (gs.set k (g ++ [(i : Int)])) := by
  refine ⟨h.1.push hg, fun g' hm => ?_⟩
  have hgm := List.mem_of_getElem? hg
  rcases List.mem_or_eq_of_mem_set hm with h1 | rfl
  · exact h.2 g' h1
  · exact rise_snoc (h.2 g hgm) (h.1.lt g hgm)
theorem GoodR.snoc {i : Nat} {gs : List (List Int)} (h : GoodR i gs) : GoodR (i + 1) (gs ++ [[(i : Int)]]) := by
  refine ⟨h.1.snoc, fun g hm => ?_⟩
  rcases List.mem_append.1 hm with h1 | h1
  · exact h.2 g h1
  · simp at h1; subst h1; exact List.pairwise_singleton _ _
theorem set_last (gs : List (List Int)) (g : List Int) : (gs ++ [[]]).set gs.length g = gs ++ [g] := by
  rw [List.set_append_right _ _ (Nat.le_refl _), Nat.sub_self]; rfl
theorem putG_good {does : List Int → Bool} {most : Nat} : ∀ (d i : Nat) (gs rs : List (List Int)), GoodR i gs → gs.length ≤ most → putG does most d i gs = some rs → GoodR (i + d) rs ∧ rs.length ≤ most
  | 0, i, gs, rs, hG, hm, h => by
    rw [putG] at h; injection h with h; subst h; exact ⟨hG, hm⟩
  | d + 1, i, gs, rs, hG, hm, h => by
    rw [putG_succ] at h
    cases hf : (List.range gs.length).findSome? (tryG does most d i gs) with
    | some r =>
      rw [hf] at h
      injection h with h
      subst h
      obtain ⟨k, hk, h2⟩ := find_some hf
      unfold tryG at h2
      split at h2
      · have hg : gs[k]? = some gs[k] := List.getElem?_eq_getElem hk
        rw [List.getD_eq_getElem?_getD, hg, Option.getD_some] at h2
        have := putG_good d (i + 1) _ _ (hG.push hg) (by rw [List.length_set]; exact hm) h2
        rw [show i + 1 + d = i + (d + 1) by omega] at this
        exact this
      · cases h2
    | none =>
      rw [hf] at h
      dsimp only at h
      split at h
      · cases h
      · rw [tryG_last] at h
        split at h
        · have := putG_good d (i + 1) _ _ hG.snoc (by rw [List.length_append, List.length_singleton]; omega) h
          rw [show i + 1 + d = i + (d + 1) by omega] at this
          exact this
        · cases h
/-- The fewest parts: what Fewest answers. -/
def fewG (does : List Int → Bool) (n : Nat) : Option (List (List Int)) :=
  if (List.range n).all (fun j => does [(j : Int)]) = true then (List.range (n + 1)).findSome? (fun m => putG does m n 0 []) else none

/-- From block B on all is as it was. -/
structure Above (B : Nat) (W W' : World) : Prop where
  size : W.heap.size ≤ W'.heap.size
  block : ∀ b, B ≤ b → b < W.heap.size → W'.heap[b]? = W.heap[b]?
theorem Above.of_below {B : Nat} {W W' : World} (h : Below W.heap.size W W') : Above B W W' := ⟨h.size, fun b _ h1 => h.block b h1⟩
theorem Above.cell {B b o : Nat} {W W' : World} {v : Value} (h : Above B W W') (hb : B ≤ b) (hc : W.cell? ⟨b, o, none⟩ = some v) : W'.cell? ⟨b, o, none⟩ = some v :=
  (World.cell?_of_block (a := ⟨b, o, none⟩) (h.block b hb (World.block_lt_of_cell? W _ hc))).trans hc
theorem Above.free {B b o : Nat} {W W' : World} {v : Value} (h : Above B W W') (hb : B ≤ b) (hc : W.cell? ⟨b, o, none⟩ = some v) (hf : W.frozen? ⟨b, o, none⟩ = false) : W'.frozen? ⟨b, o, none⟩ = false :=
  (World.frozen?_of_block (a := ⟨b, o, none⟩) (h.block b hb (World.block_lt_of_cell? W _ hc))).trans hf
theorem owns_above {B lo e s n : Nat} {W W' : World} {v : Value} {xs : List Value} (h : W.ownsRow lo e s v n xs) (hB : B ≤ lo) (ha : Above B W W') : W'.ownsRow lo e s v n xs := by
  refine ⟨h.1, ?_⟩
  rcases h.2 with hn | ⟨g, cap, cur, h1, h2, h3, h4⟩
  · exact .inl hn
  · exact .inr ⟨g, cap, cur, h1, h2, (ha.block g (by omega) (Array.getElem?_eq_some_iff.1 h3).1).trans h3, h4⟩
/-- No two slices share a block. -/
def Apart (vs : List Value) : Prop := ∀ (j k : Nat) (u v : Value), j ≠ k → vs[j]? = some u → vs[k]? = some v → u.ownBlock = none ∨ u.ownBlock ≠ v.ownBlock
/-- The parts so far, in the box B + 3; their memory lies behind the six boxes. -/
def PartsAt (B TO TI : Nat) (gs : List (List Int)) (W : World) : Prop := ∃ (gv : Value) (vs : List Value), (W.cell? ⟨B + 3, 0, none⟩ = some gv ∧ W.frozen? ⟨B + 3, 0, none⟩ = false) ∧ W.ownsRow (B + 6) TO 1 gv gs.length vs ∧ RowsIn (B + 6) TI W vs gs ∧ Apart vs ∧ B + 6 ≤ W.heap.size
theorem PartsAt.keep {B TO TI : Nat} {gs : List (List Int)} {W W' : World} (h : PartsAt B TO TI gs W) (ha : Above B W W') : PartsAt B TO TI gs W' := by
  obtain ⟨gv, vs, ⟨c1, c2⟩, ho, hr, hA, hs⟩ := h
  exact ⟨gv, vs, ⟨ha.cell (by omega) c1, ha.free (by omega) c1 c2⟩, owns_above ho (by omega) ha, fun k v g h1 h2 => owns_above (hr k v g h1 h2) (by omega) ha, hA, by have := ha.size; omega⟩
/-- The five other boxes. -/
def BoxesAt (B : Nat) (a0 a1 a2 a4 a5 : Value) (W : World) : Prop := W.cell? ⟨B, 0, none⟩ = some a0 ∧ W.cell? ⟨B + 1, 0, none⟩ = some a1 ∧ W.cell? ⟨B + 2, 0, none⟩ = some a2 ∧ W.cell? ⟨B + 4, 0, none⟩ = some a4 ∧ W.cell? ⟨B + 5, 0, none⟩ = some a5
theorem BoxesAt.keep {B : Nat} {a0 a1 a2 a4 a5 : Value} {W W' : World} (h : BoxesAt B a0 a1 a2 a4 a5 W) (hb : ∀ b, B ≤ b → b < B + 6 → b ≠ B + 3 → W'.heap[b]? = W.heap[b]?) : BoxesAt B a0 a1 a2 a4 a5 W' := by
  obtain ⟨h0, h1, h2, h4, h5⟩ := h
  have key : ∀ {b : Nat} {v : Value}, B ≤ b → b < B + 6 → b ≠ B + 3 → W.cell? ⟨b, 0, none⟩ = some v → W'.cell? ⟨b, 0, none⟩ = some v := fun h1 h2 h3 h4 => (World.cell?_of_block (a := ⟨_, 0, none⟩) (hb _ h1 h2 h3)).trans h4
  exact ⟨key (by omega) (by omega) (by omega) h0, key (by omega) (by omega) (by omega) h1, key (by omega) (by omega) (by omega) h2, key (by omega) (by omega) (by omega) h4, key (by omega) (by omega) (by omega) h5⟩
theorem BoxesAt.above {B : Nat} {a0 a1 a2 a4 a5 : Value} {W W' : World} (h : BoxesAt B a0 a1 a2 a4 a5 W) (hs : B + 6 ≤ W.heap.size) (ha : Above B W W') : BoxesAt B a0 a1 a2 a4 a5 W' := h.keep fun b h1 h2 _ => ha.block b h1 (by omega)
theorem BoxesAt.below {B : Nat} {a0 a1 a2 a4 a5 : Value} {W W' : World} (h : BoxesAt B a0 a1 a2 a4 a5 W) (hb : Below (B + 6) W W') : BoxesAt B a0 a1 a2 a4 a5 W' := h.keep fun b h1 h2 _ => hb.block b h2
theorem BoxesAt.set {B : Nat} {a0 a1 a2 a4 a5 v : Value} {W : World} (h : BoxesAt B a0 a1 a2 a4 a5 W) : BoxesAt B a0 a1 a2 a4 a5 (W.setCell ⟨B + 3, 0, none⟩ v) := h.keep fun b h1 h2 h3 => Below.heap_setCell _ _ _ _ h3
/-- What is there behind an append to the part k, ahead of its store. -/
theorem PartsAt.push {B TO TI i k : Nat} (hT : TO ≠ TI) {gs : List (List Int)} {g : List Int} {W w2 w3 : World} {v v' : Value} {vs : List Value} {gb cap : Nat} (hG : Good (i + 1) (gs.set k (g ++ [(i : Int)]))) (hg : gs[k]? = some g) (hv : vs[k]? = some v)
    (c8 : W.cell? ⟨B + 3, 0, none⟩ = some (.slice (some ⟨gb, 0, none⟩) gs.length cap) ∧ W.frozen? ⟨B + 3, 0, none⟩ = false) (ho : W.ownsRow (B + 6) TO 1 (.slice (some ⟨gb, 0, none⟩) gs.length cap) gs.length vs) (hr : RowsIn (B + 6) TI W vs gs) (hA : Apart vs) (hsz : B + 6 ≤ W.heap.size)
    (hb : Below W.heap.size W w2) (hg3 : w2.grownBy w3 v.ownBlock) (ho3 : w3.ownsRow (B + 6) TI 1 v' (g.length + 1) (g.map (Value.int .i64) ++ [.int .i64 (i : Int)])) :
    (w3.cell? ⟨gb, k, none⟩ = some v ∧ w3.frozen? ⟨gb, k, none⟩ = false) ∧ PartsAt B TO TI (gs.set k (g ++ [(i : Int)])) (w3.setCell ⟨gb, k, none⟩ v') ∧ Below (B + 6) W (w3.setCell ⟨gb, k, none⟩ v') := by
  have hk : k < gs.length := (List.getElem?_eq_some_iff.1 hg).1
  have hrow := hr k v g hv hg
  have ho2 := owns_below ho hb
  have hrow2 := owns_below hrow hb
  have hgb : B + 6 ≤ gb := own_ge ho gb rfl
  have a1 : (Value.slice (some ⟨gb, 0, none⟩) gs.length cap).ownBlock = none ∨ (Value.slice (some ⟨gb, 0, none⟩) gs.length cap).ownBlock ≠ v.ownBlock := apart_types ho2 hrow2 hT
  have ho4 : w3.ownsRow (B + 6) TO 1 (.slice (some ⟨gb, 0, none⟩) gs.length cap) gs.length vs := ho2.kept hg3 a1
  have hbw : Below (B + 6) W w3 := (hb.mono hsz).grown hg3 (by have := hb.size; omega) (own_ge hrow)
  have a2 : some gb ≠ v.ownBlock := by rcases a1 with h | h; cases h; exact h
  have hcell : w3.cell? ⟨gb, k, none⟩ = some v := by
    have h1 := ho4.cells (g := gb) rfl k v hv
    rw [Go.WideShapes.add_plain, Nat.zero_add] at h1
    exact h1
  have hvl : k < vs.length := (List.getElem?_eq_some_iff.1 hv).1
  have hts : ∀ {u : Value} {n : Nat} {xs : List Value}, w3.ownsRow (B + 6) TI 1 u n xs → u.ownBlock = none ∨ u.ownBlock ≠ some gb := fun h => apart_types h ho4 (Ne.symm hT)
  have hrj : ∀ (j : Nat) (u : Value) (g' : List Int), j ≠ k → vs[j]? = some u → gs[j]? = some g' → w3.ownsRow (B + 6) TI 1 u g'.length (g'.map (Value.int .i64)) := fun j u g' e hu hg' =>
    (owns_below (hr j u g' hu hg') hb).kept hg3 (hA j k u v e hu hv)
  have hkey : ∀ (j : Nat) (u : Value), j ≠ k → vs[j]? = some u → (v'.ownBlock = none ∨ v'.ownBlock ≠ u.ownBlock) ∧ (u.ownBlock = none ∨ u.ownBlock ≠ v'.ownBlock) := fun j u e hu => by
    have hjl : j < gs.length := by have h1 := ho.1; have h2 := (List.getElem?_eq_some_iff.1 hu).1; omega
    have hg' : gs[j]? = some gs[j] := List.getElem?_eq_getElem hjl
    have hj := hrj j u _ e hu hg'
    obtain ⟨x, hx⟩ := hG.one j gs[j] (by rw [List.getElem?_set_ne (Ne.symm e)]; exact hg')
    obtain ⟨y, hy⟩ := hG.one k (g ++ [(i : Int)]) (List.getElem?_set_self hk)
    have hxy := hG.apart j k gs[j] (g ++ [(i : Int)]) x y e (by rw [List.getElem?_set_ne (Ne.symm e)]; exact hg') (List.getElem?_set_self hk) hx hy
    have h1 : (gs[j].map (Value.int .i64))[0]? = some (.int .i64 x) := by rw [List.getElem?_map, hx]; rfl
    have h2 : (g.map (Value.int .i64) ++ [.int .i64 (i : Int)])[0]? = some (.int .i64 y) := by
      have h3 : ((g ++ [(i : Int)]).map (Value.int .i64))[0]? = some (.int .i64 y) := by rw [List.getElem?_map, hy]; rfl
      simpa using h3
    exact ⟨apart_heads ho3 hj h2 h1 (fun h => hxy (by injection h with _ h; exact h.symm)), apart_heads hj ho3 h1 h2 (fun h => hxy (by injection h))⟩
  refine ⟨⟨hcell, owns_frozen ho4 rfl k⟩, ⟨.slice (some ⟨gb, 0, none⟩) gs.length cap, vs.set k v', ⟨?_, ?_⟩, ?_, ?_, ?_, ?_⟩, hbw.setCell (p := ⟨gb, k, none⟩) hgb v'⟩
  · exact setc_block ((hbw.cell (p := ⟨B + 3, 0, none⟩) (by simp)).trans c8.1) (by omega)
  · exact set_free ((hbw.cell (p := ⟨B + 3, 0, none⟩) (by simp)).trans c8.1) ((hbw.frozen (p := ⟨B + 3, 0, none⟩) (by simp)).trans c8.2)
  · rw [List.length_set]; exact row_set ho4 hk
  · intro j u g' hu hg'
    by_cases e : j = k
    · subst e
      rw [List.getElem?_set_self hvl] at hu
      rw [List.getElem?_set_self hk] at hg'
      obtain rfl : v' = u := by simpa using hu
      obtain rfl : g ++ [(i : Int)] = g' := by simpa using hg'
      have h1 := set_own (o := j) (u := v') ho3 (hts ho3)
      simpa using h1
    · rw [List.getElem?_set_ne (Ne.symm e)] at hu hg'
      have h3 := hrj j u g' e hu hg'
      exact set_own h3 (hts h3)
  · intro j l u x hne hu hx
    by_cases e : j = k
    · subst e
      rw [List.getElem?_set_self hvl] at hu
      rw [List.getElem?_set_ne hne] at hx
      obtain rfl : v' = u := by simpa using hu
      exact (hkey l x (Ne.symm hne) hx).1
    · rw [List.getElem?_set_ne (Ne.symm e)] at hu
      by_cases e2 : l = k
      · subst e2
        rw [List.getElem?_set_self hvl] at hx
        obtain rfl : v' = x := by simpa using hx
        exact (hkey j u e hu).2
      · rw [List.getElem?_set_ne (Ne.symm e2)] at hx
        exact hA j l u x hne hu hx
  · have := hbw.size; show B + 6 ≤ (w3.setCell _ _).heap.size; simp; omega
/-- The part k is cut back to g. -/
theorem PartsAt.pop {B TO TI i k : Nat} (hT : TO ≠ TI) {gs : List (List Int)} {g : List Int} {W : World} {gb gcap b cap n : Nat} {vs : List Value} (hgs : gs[k]? = some g) (hn : gs.length = n)
    (c8 : W.cell? ⟨B + 3, 0, none⟩ = some (.slice (some ⟨gb, 0, none⟩) n gcap) ∧ W.frozen? ⟨B + 3, 0, none⟩ = false) (ho : W.ownsRow (B + 6) TO 1 (.slice (some ⟨gb, 0, none⟩) n gcap) n vs) (hr : RowsIn (B + 6) TI W vs (gs.set k (g ++ [(i : Int)]))) (hA : Apart vs) (hsz : B + 6 ≤ W.heap.size)
    (hv : vs[k]? = some (.slice (some ⟨b, 0, none⟩) (g.length + 1) cap)) :
    PartsAt B TO TI gs (W.setCell ⟨gb, k, none⟩ (.slice (some ⟨b, 0, none⟩) g.length cap)) ∧ Below (B + 6) W (W.setCell ⟨gb, k, none⟩ (.slice (some ⟨b, 0, none⟩) g.length cap)) := by
  subst hn
  have hk : k < gs.length := (List.getElem?_eq_some_iff.1 hgs).1
  have hvl : k < vs.length := (List.getElem?_eq_some_iff.1 hv).1
  have hgb : B + 6 ≤ gb := own_ge ho gb rfl
  have hts : ∀ {u : Value} {n : Nat} {xs : List Value}, W.ownsRow (B + 6) TI 1 u n xs → u.ownBlock = none ∨ u.ownBlock ≠ some gb := fun h => apart_types h ho (Ne.symm hT)
  refine ⟨⟨.slice (some ⟨gb, 0, none⟩) gs.length gcap, vs.set k (.slice (some ⟨b, 0, none⟩) g.length cap), ⟨setc_block c8.1 (by omega), set_free c8.1 c8.2⟩, row_set ho hk, ?_, ?_, by simpa using hsz⟩, (Below.refl _ _).setCell (p := ⟨gb, k, none⟩) hgb _⟩
  · intro j u g' hu hg'
    by_cases e : j = k
    · subst e
      rw [List.getElem?_set_self hvl] at hu
      rw [hgs] at hg'
      obtain rfl : Value.slice (some ⟨b, 0, none⟩) g.length cap = u := by simpa using hu
      obtain rfl : g = g' := by simpa using hg'
      have h1 := hr j _ _ hv (List.getElem?_set_self hk)
      rw [List.length_append, List.length_singleton] at h1
      have h2 := row_take (m := g.length) h1 (by omega)
      rw [List.map_append, List.take_append_of_le_length (by simp), List.take_of_length_le (by simp)] at h2
      exact set_own h2 (hts h2)
    · rw [List.getElem?_set_ne (Ne.symm e)] at hu
      have h1 := hr j u g' hu (by rw [List.getElem?_set_ne (Ne.symm e)]; exact hg')
      exact set_own h1 (hts h1)
  · have blk : ∀ (j : Nat) (u : Value), (vs.set k (.slice (some ⟨b, 0, none⟩) g.length cap))[j]? = some u → ∃ u0, vs[j]? = some u0 ∧ u0.ownBlock = u.ownBlock := fun j u hu => by
      by_cases e : j = k
      · subst e
        rw [List.getElem?_set_self hvl] at hu
        injection hu with hu
        subst hu
        exact ⟨_, hv, rfl⟩
      · rw [List.getElem?_set_ne (Ne.symm e)] at hu
        exact ⟨u, hu, rfl⟩
    intro j l u x hne hu hx
    obtain ⟨u0, h1, h2⟩ := blk j u hu
    obtain ⟨x0, h3, h4⟩ := blk l x hx
    rw [← h2, ← h4]
    exact hA j l u0 x0 hne h1 h3
/-- A new empty part. -/
theorem PartsAt.grow {B TO TI n : Nat} {gs : List (List Int)} {W w2 w3 : World} {gv gv' : Value} {vs : List Value} (hT : TO ≠ TI) (hn : gs.length = n)
    (c8 : W.cell? ⟨B + 3, 0, none⟩ = some gv ∧ W.frozen? ⟨B + 3, 0, none⟩ = false) (ho : W.ownsRow (B + 6) TO 1 gv n vs) (hr : RowsIn (B + 6) TI W vs gs) (hA : Apart vs) (hsz : B + 6 ≤ W.heap.size)
    (hb : Below W.heap.size W w2) (hg3 : w2.grownBy w3 gv.ownBlock) (ho3 : w3.ownsRow (B + 6) TO 1 gv' (n + 1) (vs ++ [.slice none 0 0])) :
    (w3.cell? ⟨B + 3, 0, none⟩ = some gv ∧ w3.frozen? ⟨B + 3, 0, none⟩ = false) ∧ PartsAt B TO TI (gs ++ [[]]) (w3.setCell ⟨B + 3, 0, none⟩ gv') ∧ Below (B + 6) W w3 := by
  subst hn
  have hbw : Below (B + 6) W w3 := (hb.mono hsz).grown hg3 (by have := hb.size; omega) (own_ge ho)
  have hG8 : w3.cell? ⟨B + 3, 0, none⟩ = some gv ∧ w3.frozen? ⟨B + 3, 0, none⟩ = false := ⟨(hbw.cell (p := ⟨B + 3, 0, none⟩) (by simp)).trans c8.1, (hbw.frozen (p := ⟨B + 3, 0, none⟩) (by simp)).trans c8.2⟩
  have far : ∀ {T n : Nat} {v : Value} {xs : List Value}, w3.ownsRow (B + 6) T 1 v n xs → v.ownBlock = none ∨ v.ownBlock ≠ some (B + 3) := fun h => .inr fun e => by have := own_ge h _ e; omega
  have hvl : vs.length = gs.length := by have := ho.1; omega
  refine ⟨hG8, ⟨gv', vs ++ [.slice none 0 0], ⟨setc_same hG8.1, set_free hG8.1 hG8.2⟩, ?_, ?_, ?_, ?_⟩, hbw⟩
  · rw [List.length_append, List.length_singleton]; exact set_own ho3 (far ho3)
  · intro k v g hv hg
    rcases Nat.lt_or_ge k gs.length with h1 | h1
    · rw [List.getElem?_append_left (by omega)] at hv
      rw [List.getElem?_append_left h1] at hg
      have h2 := owns_below (hr k v g hv hg) hb
      have h3 := h2.kept hg3 (apart_types h2 (owns_below ho hb) (Ne.symm hT))
      exact set_own h3 (far h3)
    · rw [List.getElem?_append_right (by omega), hvl] at hv
      rw [List.getElem?_append_right h1] at hg
      have h4 := (List.getElem?_eq_some_iff.1 hg).1
      simp at h4
      have e : k = gs.length := by omega
      subst e
      simp at hv hg
      subst hv; subst hg
      exact World.ownsRow_nil _ _ _ _
  · intro j k u v hne hu hv
    rcases Nat.lt_or_ge j vs.length with h1 | h1
    · rw [List.getElem?_append_left h1] at hu
      rcases Nat.lt_or_ge k vs.length with h2 | h2
      · rw [List.getElem?_append_left h2] at hv
        exact hA j k u v hne hu hv
      · rw [List.getElem?_append_right h2] at hv
        have h4 := (List.getElem?_eq_some_iff.1 hv).1
        simp at h4
        rw [show k - vs.length = 0 by omega] at hv
        simp at hv
        subst hv
        cases hob : u.ownBlock with
        | none => exact .inl rfl
        | some b => exact .inr (by simp [Value.ownBlock])
    · rw [List.getElem?_append_right h1] at hu
      have h4 := (List.getElem?_eq_some_iff.1 hu).1
      simp at h4
      rw [show j - vs.length = 0 by omega] at hu
      simp at hu
      subst hu
      exact .inl rfl
  · have := hbw.size; show B + 6 ≤ (w3.setCell _ _).heap.size; simp; omega
/-- The last part is taken away. -/
theorem PartsAt.shrink {B TO TI n gb cap : Nat} {gs : List (List Int)} {g : List Int} {W : World} {vs : List Value} (hn : gs.length = n)
    (c8 : W.cell? ⟨B + 3, 0, none⟩ = some (.slice (some ⟨gb, 0, none⟩) (n + 1) cap) ∧ W.frozen? ⟨B + 3, 0, none⟩ = false) (ho : W.ownsRow (B + 6) TO 1 (.slice (some ⟨gb, 0, none⟩) (n + 1) cap) (n + 1) vs) (hr : RowsIn (B + 6) TI W vs (gs ++ [g])) (hA : Apart vs) (hsz : B + 6 ≤ W.heap.size) :
    PartsAt B TO TI gs (W.setCell ⟨B + 3, 0, none⟩ (.slice (some ⟨gb, 0, none⟩) n cap)) := by
  subst hn
  have far : ∀ {T n : Nat} {v : Value} {xs : List Value}, W.ownsRow (B + 6) T 1 v n xs → v.ownBlock = none ∨ v.ownBlock ≠ some (B + 3) := fun h => .inr fun e => by have := own_ge h _ e; omega
  have h1 := row_take (m := gs.length) ho (by omega)
  refine ⟨.slice (some ⟨gb, 0, none⟩) gs.length cap, vs.take gs.length, ⟨setc_same c8.1, set_free c8.1 c8.2⟩, set_own h1 (far h1), ?_, ?_, by simpa using hsz⟩
  · intro k v g' hv hg
    have hk : k < gs.length := (List.getElem?_eq_some_iff.1 hg).1
    rw [List.getElem?_take, if_pos hk] at hv
    have h2 := hr k v g' hv (by rw [List.getElem?_append_left hk]; exact hg)
    exact set_own h2 (far h2)
  · intro j k u v hne hu hv
    rw [List.getElem?_take] at hu hv
    split at hu
    · split at hv
      · exact hA j k u v hne hu hv
      · cases hv
    · cases hu
/-- What put answers: the parts, or that there are none, and the parts are as they were. -/
def PutsRes (B TO TI : Nat) (a0 a1 a2 a4 a5 : Value) (Q : World → Prop) (gs : List (List Int)) (r : Option (List (List Int))) (e : Ending) (w' : World) : Prop :=
  Q w' ∧ BoxesAt B a0 a1 a2 a4 a5 w' ∧ ((∃ rs, r = some rs ∧ e = .returned (.bool true) ∧ PartsAt B TO TI rs w') ∨ (r = none ∧ e = .returned (.bool false) ∧ PartsAt B TO TI gs w'))
theorem PutsRes.yes {B TO TI : Nat} {a0 a1 a2 a4 a5 : Value} {Q : World → Prop} {gs rs : List (List Int)} {r : Option (List (List Int))} {e : Ending} {w' : World} (hq : Q w') (hB : BoxesAt B a0 a1 a2 a4 a5 w') (hr : r = some rs) (he : e = .returned (.bool true)) (hP : PartsAt B TO TI rs w') : PutsRes B TO TI a0 a1 a2 a4 a5 Q gs r e w' := ⟨hq, hB, .inl ⟨rs, hr, he, hP⟩⟩
theorem PutsRes.no {B TO TI : Nat} {a0 a1 a2 a4 a5 : Value} {Q : World → Prop} {gs : List (List Int)} {r : Option (List (List Int))} {e : Ending} {w' : World} (hq : Q w') (hB : BoxesAt B a0 a1 a2 a4 a5 w') (hr : r = none) (he : e = .returned (.bool false)) (hP : PartsAt B TO TI gs w') : PutsRes B TO TI a0 a1 a2 a4 a5 Q gs r e w' := ⟨hq, hB, .inr ⟨hr, he, hP⟩⟩
theorem Above.trans {B : Nat} {a b c : World} (h : Above B a b) (k : Above B b c) : Above B a c :=
  ⟨Nat.le_trans h.size k.size, fun i h1 h2 => (k.block i h1 (Nat.lt_of_lt_of_le h2 h.size)).trans (h.block i h1 h2)⟩
theorem Above.mono {B B' : Nat} {a b : World} (h : Above B a b) (hB : B ≤ B') : Above B' a b := ⟨h.size, fun i h1 h2 => h.block i (by omega) h2⟩
/-- The rest of a region: a group of it, walked once. -/
theorem wpAny_Rs {P : Program} {Q : Exit → Act → World → Prop} {a : Act} {w0 w : World} {l : List Oper} {L : Array Bool} {n : Nat} (ps : List (Nat × (Value → World → Prop))) (hs : List Nat) (g : Nat) (hn : hs.length + g = n) (hkeep : ∀ x ∈ ps, Keeps x.2)
    (hB : (groupB .any l.toArray L hs && pairsB .any l.toArray ((ps.map (·.1)).contains ·) hs && plainsB l.toArray ((ps.map (·.1)).contains ·) hs) = true) (hw : Below w0.heap.size w0 w)
    (h : wpS P .any l.toArray w0 ((ps.map (·.1)).contains ·) (pOf ps) (fun Γ' a' => ∀ w', All w0 (pOf ps) Γ' w' → wpAny P .any l.toArray Q g (mark hs L) a' w') (numbered l.toArray hs) (fun _ => none) a) :
    wpAny P .any l.toArray Q n L a w := by
  subst hn
  refine wpAny_R (ps.map (·.1)) hs g (pOf_keeps hkeep) hB hw (wpR_of_wpS (fun k hk => ?_) h)
  simp only [groupB, Bool.and_eq_true] at hB
  obtain ⟨_, hmem, _⟩ := orderB_spec hB.1.1.2
  exact (hmem k hk).2.2
end Go.Pb.Sag

/- Lists of indices by group, as they are made: each in memory of its own. -/
namespace Go.Pb.Sag
open Go Go.Pb Go.Pb.Ware Go.RowKit
set_option linter.unusedVariables false
/-- Groups in memory of the call's own. -/
def GrpAt (lo TO TI : Nat) (gv : Value) (gs : List (List Int)) (W : World) : Prop := ∃ vs : List Value, W.ownsRow lo TO 1 gv gs.length vs ∧ RowsIn lo TI W vs gs ∧ Apart vs ∧ ∀ (k : Nat) (u : Value), vs[k]? = some u → gs[k]? = some [] → u.ownBlock = none
theorem GrpAt.push {lo TO TI i k n : Nat} (hT : TO ≠ TI) {gs : List (List Int)} {g : List Int} {W w2 w3 : World} {v v' : Value} {vs : List Value} {gb cap : Nat} (hn : gs.length = n) (hg : gs[k]? = some g) (hv : vs[k]? = some v)
    (hheads : ∀ (j : Nat) (g' : List Int) (x y : Int), j ≠ k → gs[j]? = some g' → g'[0]? = some x → (g ++ [(i : Int)])[0]? = some y → x ≠ y)
    (ho : W.ownsRow lo TO 1 (.slice (some ⟨gb, 0, none⟩) n cap) n vs) (hr : RowsIn lo TI W vs gs) (hA : Apart vs) (hE : ∀ (k : Nat) (u : Value), vs[k]? = some u → gs[k]? = some [] → u.ownBlock = none) (hsz : lo ≤ W.heap.size)
    (hb : Below W.heap.size W w2) (hg3 : w2.grownBy w3 v.ownBlock) (ho3 : w3.ownsRow lo TI 1 v' (g.length + 1) (g.map (Value.int .i64) ++ [.int .i64 (i : Int)])) :
    (w3.cell? ⟨gb, k, none⟩ = some v ∧ w3.frozen? ⟨gb, k, none⟩ = false) ∧ GrpAt lo TO TI (.slice (some ⟨gb, 0, none⟩) n cap) (gs.set k (g ++ [(i : Int)])) (w3.setCell ⟨gb, k, none⟩ v') ∧ Below lo W (w3.setCell ⟨gb, k, none⟩ v') := by
  subst hn
  have hk : k < gs.length := (List.getElem?_eq_some_iff.1 hg).1
  have hrow := hr k v g hv hg
  have ho2 := owns_below ho hb
  have hrow2 := owns_below hrow hb
  have hgb : lo ≤ gb := own_ge ho gb rfl
  have a1 : (Value.slice (some ⟨gb, 0, none⟩) gs.length cap).ownBlock = none ∨ (Value.slice (some ⟨gb, 0, none⟩) gs.length cap).ownBlock ≠ v.ownBlock := apart_types ho2 hrow2 hT
  have ho4 : w3.ownsRow lo TO 1 (.slice (some ⟨gb, 0, none⟩) gs.length cap) gs.length vs := ho2.kept hg3 a1
  have hbw : Below lo W w3 := (hb.mono hsz).grown hg3 (by have := hb.size; omega) (own_ge hrow)
  have hcell : w3.cell? ⟨gb, k, none⟩ = some v := by
    have h1 := ho4.cells (g := gb) rfl k v hv
    rw [Go.WideShapes.add_plain, Nat.zero_add] at h1
    exact h1
  have hvl : k < vs.length := (List.getElem?_eq_some_iff.1 hv).1
  have hts : ∀ {u : Value} {n : Nat} {xs : List Value}, w3.ownsRow lo TI 1 u n xs → u.ownBlock = none ∨ u.ownBlock ≠ some gb := fun h => apart_types h ho4 (Ne.symm hT)
  have hrj : ∀ (j : Nat) (u : Value) (g' : List Int), j ≠ k → vs[j]? = some u → gs[j]? = some g' → w3.ownsRow lo TI 1 u g'.length (g'.map (Value.int .i64)) := fun j u g' e hu hg' =>
    (owns_below (hr j u g' hu hg') hb).kept hg3 (hA j k u v e hu hv)
  have hvb : v'.ownBlock ≠ none := by
    obtain ⟨b, c, rfl, _⟩ := own_some ho3 (by omega)
    simp [Value.ownBlock]
  have hkey : ∀ (j : Nat) (u : Value), j ≠ k → vs[j]? = some u → (v'.ownBlock = none ∨ v'.ownBlock ≠ u.ownBlock) ∧ (u.ownBlock = none ∨ u.ownBlock ≠ v'.ownBlock) := fun j u e hu => by
    have hjl : j < gs.length := by have h1 := ho.1; have h2 := (List.getElem?_eq_some_iff.1 hu).1; omega
    have hg' : gs[j]? = some gs[j] := List.getElem?_eq_getElem hjl
    have hj := hrj j u _ e hu hg'
    cases hq : gs[j] with
    | nil =>
      have h0 := hE j u hu (by rw [hg', hq])
      exact ⟨.inr (by rw [h0]; exact hvb), .inl h0⟩
    | cons a l =>
      obtain ⟨y, hy⟩ : ∃ y, (g ++ [(i : Int)])[0]? = some y := ⟨_, List.getElem?_eq_getElem (by simp)⟩
      have hx : (gs[j])[0]? = some a := by rw [hq]; rfl
      have hxy := hheads j gs[j] a y e hg' hx hy
      have h1 : (gs[j].map (Value.int .i64))[0]? = some (.int .i64 a) := by rw [List.getElem?_map, hx]; rfl
      have h2 : (g.map (Value.int .i64) ++ [.int .i64 (i : Int)])[0]? = some (.int .i64 y) := by
        have h3 : ((g ++ [(i : Int)]).map (Value.int .i64))[0]? = some (.int .i64 y) := by rw [List.getElem?_map, hy]; rfl
        simpa using h3
      exact ⟨apart_heads ho3 hj h2 h1 (fun h => hxy (by injection h with _ h; exact h.symm)), apart_heads hj ho3 h1 h2 (fun h => hxy (by injection h))⟩
  refine ⟨⟨hcell, owns_frozen ho4 rfl k⟩, ⟨vs.set k v', ?_, ?_, ?_, ?_⟩, hbw.setCell (p := ⟨gb, k, none⟩) hgb v'⟩
  · rw [List.length_set]; exact row_set ho4 hk
  · intro j u g' hu hg'
    by_cases e : j = k
    · subst e
      rw [List.getElem?_set_self hvl] at hu
      rw [List.getElem?_set_self hk] at hg'
      obtain rfl : v' = u := by simpa using hu
      obtain rfl : g ++ [(i : Int)] = g' := by simpa using hg'
      have h1 := set_own (o := j) (u := v') ho3 (hts ho3)
      simpa using h1
    · rw [List.getElem?_set_ne (Ne.symm e)] at hu hg'
      have h3 := hrj j u g' e hu hg'
      exact set_own h3 (hts h3)
  · intro j l u x hne hu hx
    by_cases e : j = k
    · subst e
      rw [List.getElem?_set_self hvl] at hu
      rw [List.getElem?_set_ne hne] at hx
      obtain rfl : v' = u := by simpa using hu
      exact (hkey l x (Ne.symm hne) hx).1
    · rw [List.getElem?_set_ne (Ne.symm e)] at hu
      by_cases e2 : l = k
      · subst e2
        rw [List.getElem?_set_self hvl] at hx
        obtain rfl : v' = x := by simpa using hx
        exact (hkey j u e hu).2
      · rw [List.getElem?_set_ne (Ne.symm e2)] at hx
        exact hA j l u x hne hu hx
  · intro j u hu hg'
    by_cases e : j = k
    · subst e
      rw [List.getElem?_set_self hk] at hg'
      injection hg' with hg'
      simp at hg'
    · rw [List.getElem?_set_ne (Ne.symm e)] at hu hg'
      exact hE j u hu hg'
/-- So many empty groups. -/
theorem GrpAt.new {lo TO TI n B : Nat} {W : World} (h : W.ownsRow lo TO 1 (.slice (some ⟨B, 0, none⟩) n n) n (madeCells (Value.slice none 0 0).cells (n * 1)).toList) : GrpAt lo TO TI (.slice (some ⟨B, 0, none⟩) n n) (groupedL [] n) W := by
  have hnil : ∀ (k : Nat) (u : Value), (madeCells (Value.slice none 0 0).cells (n * 1)).toList[k]? = some u → u = .slice none 0 0 := by
    intro k u hu
    have hk : k < n := by have := (List.getElem?_eq_some_iff.1 hu).1; simpa [madeCells] using this
    rw [Array.getElem?_toList] at hu
    unfold madeCells at hu
    rw [Array.getElem?_map, Array.getElem?_range, if_pos (by omega)] at hu
    have h2 : (#[Value.slice none 0 0] : Array Value)[k % 1]! = u := by injection hu
    rw [Nat.mod_one] at h2
    exact h2.symm
  have hg : ∀ (k : Nat) (g : List Int), (groupedL [] n)[k]? = some g → g = [] := by
    intro k g h
    have hk : k < n := by have := (List.getElem?_eq_some_iff.1 h).1; rwa [grouped_len] at this
    rw [grouped_at hk] at h
    injection h with h
    exact h.symm
  refine ⟨_, by rw [grouped_len]; exact h, ?_, ?_, ?_⟩
  · intro k u g hu hg'
    rw [hnil k u hu, hg k g hg']
    exact World.ownsRow_nil _ _ _ _
  · intro j k u v _ hu _
    rw [hnil j u hu]
    exact .inl rfl
  · intro k u hu _
    rw [hnil k u hu]
    rfl
end Go.Pb.Sag

/- The reference's rule. -/
namespace Go.Proofs.Ytnchhleokdkejaa
open Go.RowKit Go.Pb Go.Pb.Ware Go.Pb.Sag
set_option linter.unusedVariables false
set_option linter.unusedSimpArgs false

open Go.Proofs Go.Pb.Bung
set_option maxRecDepth 100000 in
set_option maxHeartbeats 1000000 in
theorem rLow_any {w : World} {xid xwl xwh xbl xbh xhl xhh xti yid ywl ywh ybl ybh yhl yhh yti : Int} {r : Bool} (hx : (0 ≤ xwh ∧ xwh ≤ 10000000) ∧ 0 ≤ xbl ∧ xbl ≤ 10000000) (hy : (0 ≤ ywh ∧ ywh ≤ 10000000) ∧ 0 ≤ ybl ∧ ybl ≤ 10000000) (hr : Go.Pb.Bung.lowB ⟨xid, xwl, xwh, xbl, xbh, xhl, xhh, xti⟩ ⟨yid, ywl, ywh, ybl, ybh, yhl, yhh, yti⟩ = r) :
    Calls Try.prog 133 #[.agg #[.int .i64 xid, .int .i64 xwl, .int .i64 xwh, .int .i64 xbl, .int .i64 xbh, .int .i64 xhl, .int .i64 xhh, .int .i64 xti], .agg #[.int .i64 yid, .int .i64 ywl, .int .i64 ywh, .int .i64 ybl, .int .i64 ybh, .int .i64 yhl, .int .i64 yhh, .int .i64 yti]] w (Ret w (.bool r)) := by
  unfold Ret
  obtain ⟨kx, hkx⟩ : ∃ k, xwh + xbl = k := ⟨_, rfl⟩
  obtain ⟨ky, hky⟩ : ∃ k, ywh + ybl = k := ⟨_, rfl⟩
  have hr2 : r = (decide (ky < kx) || (decide (kx = ky) && decide (xid < yid))) := by rw [← hr]; unfold Go.Pb.Bung.lowB keyG; dsimp only; rw [hkx, hky]
  have w1 : IntKind.i64.wrap (xwh + xbl) = kx := by rw [IntWalk.i64_in _ (by omega)]; exact hkx
  have w2 : IntKind.i64.wrap (ywh + ybl) = ky := by rw [IntWalk.i64_in _ (by omega)]; exact hky
  clear hr hkx hky
  by_cases h1 : ky < kx
  · obtain rfl : r = true := by rw [hr2, decide_eq_true h1]; rfl
    clear hr2
    go_enter Try.func133, Try.ntmps133
    go_wp2_with fail
    go_ret
    exact ⟨rfl, by go_grown⟩
  · by_cases h2 : kx = ky
    · subst h2
      by_cases h3 : xid < yid
      · obtain rfl : r = true := by rw [hr2]; simp [h3]
        clear hr2
        go_enter Try.func133, Try.ntmps133
        go_wp2_with fail
        go_ret
        exact ⟨rfl, by go_grown⟩
      · obtain rfl : r = false := by rw [hr2]; simp [h3]
        clear hr2
        go_enter Try.func133, Try.ntmps133
        go_wp2_with fail
        go_ret
        exact ⟨rfl, by go_grown⟩
    · have h2b : (kx == ky) = false := beq_eq_false_iff_ne.mpr h2
      obtain rfl : r = false := by rw [hr2]; simp [h1, h2]
      clear hr2
      go_enter Try.func133, Try.ntmps133
      go_wp2_with fail
      go_ret
      exact ⟨rfl, by go_grown⟩

set_option maxRecDepth 100000 in
set_option maxHeartbeats 1000000 in
theorem rSome_any {w : World} {lv v : Value} {l : List Sg} {zs : List Int} (hl : RowsAt 8 w lv (l.map rowG)) (hn : l.length ≤ 1000) (hi : NumsAt w v zs) (hzn : zs.length ≤ 1000) (hz : ∀ z ∈ zs, 0 ≤ z ∧ z < (l.length : Int)) :
    Calls Try.prog 105 #[lv, v] w (NewSgs 33 (chosenG l zs) w) := by
  obtain ⟨i0, hi0, hz0, hz1, hz2⟩ := info_parts Try.infoG
  obtain ⟨a, cap, rfl, hl1, hl2⟩ := hi.shape
  obtain ⟨la, lc, rfl, hll⟩ := hl.shape
  rw [List.length_map] at hl hll ⊢
  unfold NewSgs
  go_enter Try.func105, Try.ntmps105
  go_wp2_with fail
  go_loopg [5, 6] zs.length (fun gk fv iv wr => ∃ k : Nat, k ≤ zs.length ∧ gk = zs.length - k ∧ iv = .int .i64 k ∧ wr.ownsRow w.heap.size 33 8 fv k ((chosenG l (zs.take k)).flatMap cellsG) ∧ Below w.heap.size w wr)
  case atStart => exact ⟨0, Nat.zero_le _, rfl, rfl, by simpa [chosenG] using World.ownsRow_nil _ _ _ _, Below.refl _ _⟩
  case round =>
    obtain ⟨k, hk, hgk, rfl, ho, hb0⟩ := hrel
    have HGK := hid hgk; clear hgk
    have hzr := hb0.size
    obtain ⟨ua, uc, rfl, hul⟩ := owns_shape ho
    by_cases hlt : k < zs.length
    · have hki : (k : Int) < (zs.length : Int) := by omega
      obtain ⟨a', ha, r0⟩ := (hi.below hb0).elem hlt
      subst ha
      obtain ⟨m, hm⟩ : ∃ m : Nat, zs[k] = (m : Int) := ⟨zs[k].toNat, by have := hz zs[k] (List.getElem_mem hlt); omega⟩
      have hmb : m < l.length := by have := hz zs[k] (List.getElem_mem hlt); omega
      rw [hm] at r0
      obtain ⟨s, hs⟩ : ∃ s, l[m]? = some s := ⟨_, List.getElem?_eq_getElem hmb⟩
      obtain ⟨b', hb', p0, hcc, hii⟩ := sg_row (hl.below hb0) hs
      subst hb'
      have HE := hid (chosenG_snoc hlt hm hs)
      clear hm hs
      obtain ⟨sid, swl, swh, sbl, sbh, shl, shh, sti⟩ := s
      dsimp only at p0
      have p1 := hcc 1 _ (by decide) rfl
      have p2 := hcc 2 _ (by decide) rfl
      have p3 := hcc 3 _ (by decide) rfl
      have p4 := hcc 4 _ (by decide) rfl
      have p5 := hcc 5 _ (by decide) rfl
      have p6 := hcc 6 _ (by decide) rfl
      have p7 := hcc 7 _ (by decide) rfl
      dsimp only at p1 p2 p3 p4 p5 p6 p7
      clear hcc hii
      have hmi : (m : Int) < (l.length : Int) := by omega
      have HCG := hid (new_cellsG wr (⟨sid, swl, swh, sbl, sbh, shl, shh, sti⟩ : Sg) 33 _ rfl)
      go_wp2_with (at_builtin; go_must (refine wpList_append_own _ rfl _ _ 24 rfl w.heap.size 33 i0 (.agg #[.int .i64 0, .int .i64 0, .int .i64 0, .int .i64 0, .int .i64 0, .int .i64 0, .int .i64 0, .int .i64 0]) 8 64 Try.underlying24 hi0 hz0 hz1 hz2 rfl (by decide) _ _ _ rfl (ho.alloc _) ⟨wr.heap.size, 0, none⟩ 1 1 (cellsG (⟨sid, swl, swh, sbl, sbh, shl, shh, sti⟩ : Sg)) rfl rfl HCG.out (one_cellsG _) (by unfold maxLen; omega) (by omega) (by simp; omega) ?_; intro v' w4 ho4 hg4 hnil; replace hb0 := Pb.below_grown (hb0.alloc (by omega) _) hg4 (ho.alloc _) (by simp; omega) (by omega); clear hg4 hnil ho))
      go_roundg (zs.length - (k + 1))
      case measure => have h := HGK.out; omega
      case rel => exact ⟨k + 1, by omega, rfl, by go_num, by rw [← HE.out, List.flatMap_append]; simpa using ho4, hb0⟩
    · obtain rfl : k = zs.length := by omega
      rw [List.take_length] at ho
      go_wp2_with fail
      go_ret
      exact ⟨_, rfl, hb0, by rw [show (chosenG l zs).length = zs.length from List.length_map ..]; exact ho⟩

end Go.Proofs.Ytnchhleokdkejaa

/- Slices read as the cells that they hold, whatever an element is. -/
namespace Go.Pb
open Go Go.RowKit
set_option linter.unusedVariables false
/-- The slice v has m elements of n cells each, which hold cs. -/
structure LAt (n : Nat) (w : World) (v : Value) (m : Nat) (cs : List Value) : Prop where
  len : cs.length = m * n
  one : ∀ u ∈ cs, u.oneCell' = true
  at' : (v = .slice none 0 0 ∧ m = 0) ∨ ∃ (a : Addr) (cap : Nat), v = .slice (some a) m cap ∧ m ≤ cap ∧ cap ≤ 9223372036854775807 ∧ ∀ j u, cs[j]? = some u → w.cell? (a.add j) = some u
theorem LAt.below {n m : Nat} {w w' : World} {v : Value} {cs : List Value} (h : LAt n w v m cs) (hb : Below w.heap.size w w') : LAt n w' v m cs :=
  ⟨h.len, h.one, by
    rcases h.at' with h1 | ⟨a, cap, h1, h2, h3, h4⟩
    · exact .inl h1
    · exact .inr ⟨a, cap, h1, h2, h3, fun j u hu => bkeep hb (h4 j u hu)⟩⟩
theorem LAt.shape {n m : Nat} {w : World} {v : Value} {cs : List Value} (h : LAt n w v m cs) : ∃ (a : Option Addr) (cap : Nat), v = .slice a m cap ∧ m ≤ cap ∧ cap ≤ 9223372036854775807 ∧ (a = none → m = 0 ∧ cap = 0) := by
  rcases h.at' with ⟨h1, h2⟩ | ⟨a, cap, h1, h2, h3, h4⟩
  · subst h2; exact ⟨none, 0, h1, Nat.le_refl _, by omega, fun _ => ⟨rfl, rfl⟩⟩
  · exact ⟨some a, cap, h1, h2, h3, fun e => by cases e⟩
theorem LAt.cells {n m cap : Nat} {w : World} {a : Addr} {cs : List Value} (h : LAt n w (.slice (some a) m cap) m cs) : ∀ j u, cs[j]? = some u → w.cell? (a.add j) = some u := by
  rcases h.at' with ⟨h1, _⟩ | ⟨a', cap', h1, _, _, h4⟩
  · cases h1
  · injection h1 with h1 _ _; injection h1 with h1; subst h1; exact h4
theorem LAt.nil {n cap : Nat} {w : World} {cs : List Value} {m : Nat} (h : LAt n w (.slice none m cap) m cs) : m = 0 ∧ cap = 0 ∧ cs = [] := by
  rcases h.at' with ⟨h1, h2⟩ | ⟨a', cap', h1, _, _, h4⟩
  · injection h1 with _ _ h3; subst h2; exact ⟨rfl, h3, List.length_eq_zero_iff.1 (by rw [h.len]; simp)⟩
  · injection h1 with h1 _ _; cases h1
theorem LAt.head {n m cap k : Nat} {w : World} {a : Addr} {cs : List Value} (h : LAt n w (.slice (some a) m cap) m cs) (hk : k ≤ m) : LAt n w (.slice (some a) k cap) k (cs.take (k * n)) := by
  obtain ⟨_, cap', e, h2, h3, _⟩ := h.shape
  injection e with _ _ e; subst e
  refine ⟨by rw [List.length_take, h.len]; exact Nat.min_eq_left (Nat.mul_le_mul_right n hk), fun u hu => h.one u (List.mem_of_mem_take hu), .inr ⟨a, cap, rfl, by omega, h3, fun j u hu => ?_⟩⟩
  rw [List.getElem?_take] at hu
  split at hu
  · exact h.cells j u hu
  · cases hu
theorem LAt.tail {n m cap k : Nat} {w : World} {a q : Addr} {cs : List Value} (h : LAt n w (.slice (some a) m cap) m cs) (hk : k ≤ m) (hq : k < m → q = a.add (k * n)) : LAt n w (.slice (some q) (m - k) (cap - k)) (m - k) (cs.drop (k * n)) := by
  obtain ⟨_, cap', e, h2, h3, _⟩ := h.shape
  injection e with _ _ e; subst e
  refine ⟨by rw [List.length_drop, h.len, Nat.sub_mul], fun u hu => h.one u (List.mem_of_mem_drop hu), .inr ⟨q, cap - k, rfl, by omega, by omega, fun j u hu => ?_⟩⟩
  have hkm : k < m := by
    rcases Nat.lt_or_ge k m with h5 | h5
    · exact h5
    · have h6 := (List.getElem?_eq_some_iff.1 hu).1
      rw [List.length_drop, h.len] at h6
      have := Nat.mul_le_mul_right n h5
      omega
  rw [hq hkm, Go.Deep.add_add]
  rw [List.getElem?_drop] at hu
  exact h.cells _ u hu
end Go.Pb
namespace Go.Pb.Sag
open Go Go.Pb Go.Pb.Ware Go.RowKit
set_option linter.unusedVariables false
end Go.Pb.Sag

/- The first packings, as the reference lists them; appends of whatever elements. -/
namespace Go.Pb
set_option linter.unusedVariables false
open Go Go.RowKit
/-- An append of a slice, nil or not, to an empty one of the call's own. -/
theorem fresh_append_lat {P : Program} {o : Oper} {a : Act} {w : World} (s x : Operand) (t : TypeId) (ho : o.op = .call { callee := .builtin .append, args := #[s, x], argTypes := #[t, t] })
    (base : Nat) (e : TypeId) (i : TypeInfo) (z : Value) (size bytes : Nat) (ht : P.underlying t = some (.slice e)) (hi : P.info? e = some i) (hz : i.zero = some z)
    (hsize : i.size = size) (hby : i.bytes = bytes) (hzs : z.cells.size = size) (hsz : 0 < size) (v : Value) (hs : a.eval s = v) (hv : NewEmpty base e v w)
    (xv : Value) (m : Nat) (cs : List Value) (hx : a.eval x = xv) (hn : LAt size w xv m cs) (h63 : m ≤ maxLen) (hbytes : m * bytes ≤ 140737488355328) (hbase : base ≤ w.heap.size) :
    freshAt P o a (fun v w => w.ownsRow base e size v m cs) w := by
  rcases hn.at' with ⟨rfl, rfl⟩ | ⟨ad, c, rfl, h2, h3, h4⟩
  · have hcs : cs = [] := List.length_eq_zero_iff.1 (by rw [hn.len]; simp)
    subst hcs
    obtain ⟨B, hB, rfl, hg⟩ := hv
    have hown : w.ownsRow base e size (.slice (some ⟨B, 0, none⟩) 0 0) 0 [] := ⟨by simp, .inr ⟨B, 0, #[], rfl, hB, hg, Nat.le_refl _, by simp [maxLen], by simp, by simp⟩⟩
    have hr := run_append_owned_none (P := P) (w := w) base t o.type e i size ht hi _ 0 [] hown
    unfold freshAt execOp
    simp only [ho, resolve, invoke, builtin, Sem.run_bind, Sem.run_pure, Result.andThen_ok, List.map_toArray, List.map_cons, List.map_nil, hs, hx, hr]
    exact ⟨Below.refl _ _, hown⟩
  · exact fresh_append s x t ho base e i z size bytes ht hi hz hsize hby hzs hsz v hs hv ad m c cs hx hn.len h4 hn.one h63 hbytes hbase
/-- An append to a slice of the call's own, whether the source is nil or not. -/
theorem wp_append_lat {P : Program} {o : Oper} {a : Act} {K : Act → World → Prop} {Q : Exit → Act → World → Prop} (w : World) (s x : Operand) (t : TypeId) (ho : o.op = .call { callee := .builtin .append, args := #[s, x], argTypes := #[t, t] })
    (base : Nat) (e : TypeId) (i : TypeInfo) (z : Value) (size bytes : Nat) (ht : P.underlying t = some (.slice e)) (hi : P.info? e = some i) (hz : i.zero = some z)
    (hsize : i.size = size) (hby : i.bytes = bytes) (hzs : z.cells.size = size) (hsz : 0 < size) (v : Value) (n : Nat) (xs : List Value) (hs : a.eval s = v) (hown : w.ownsRow base e size v n xs)
    (xv : Value) (m : Nat) (cs : List Value) (hx : a.eval x = xv) (hn : LAt size w xv m cs) (h63 : n + m ≤ maxLen) (hbytes : (n + m) * bytes ≤ 140737488355328) (hbase : base ≤ w.heap.size)
    (h : ∀ v' w', w'.ownsRow base e size v' (n + m) (xs ++ cs) → w.grownBy w' v.ownBlock → K (a.put o.dst v') w') : o.wp P a w K Q := by
  rcases hn.at' with ⟨rfl, rfl⟩ | ⟨ad, c, rfl, h2, h3, h4⟩
  · have hcs : cs = [] := List.length_eq_zero_iff.1 (by rw [hn.len]; simp)
    subst hcs
    have hr := run_append_owned_none (P := P) (w := w) base t o.type e i size ht hi v n xs hown
    have h5 := h v w (by simpa using hown) ⟨rfl, rfl, rfl, Nat.le_refl _, fun k _ _ => rfl⟩
    unfold Oper.wp execOp
    simp only [ho, resolve, invoke, builtin, Sem.run_bind, Sem.run_pure, Result.andThen_ok, List.map_toArray, List.map_cons, List.map_nil, hs, hx, hr]
    exact h5
  · exact wp_append_own w s x t ho base e i z size bytes ht hi hz hsize hby hzs hsz v n xs hs hown ad m c cs hx hn.len h4 hn.one h63 hbytes hbase fun v' w' h5 h6 _ => h v' w' h5 h6
theorem wpList_append_lat {P : Program} {w : World} {ops : Array Oper} {rest : List Oper} {o : Oper} {a : Act} {Q : Exit → Act → World → Prop} (hgd : o.guard = none) (s x : Operand) (t : TypeId)
    (ho : o.op = .call { callee := .builtin .append, args := #[s, x], argTypes := #[t, t] })
    (base : Nat) (e : TypeId) (i : TypeInfo) (z : Value) (size bytes : Nat) (ht : P.underlying t = some (.slice e)) (hi : P.info? e = some i) (hz : i.zero = some z)
    (hsize : i.size = size) (hby : i.bytes = bytes) (hzs : z.cells.size = size) (hsz : 0 < size) (v : Value) (n : Nat) (xs : List Value) (hs : a.eval s = v) (hown : w.ownsRow base e size v n xs)
    (xv : Value) (m : Nat) (cs : List Value) (hx : a.eval x = xv) (hn : LAt size w xv m cs) (h63 : n + m ≤ maxLen) (hbytes : (n + m) * bytes ≤ 140737488355328) (hbase : base ≤ w.heap.size)
    (h : ∀ v' w', w'.ownsRow base e size v' (n + m) (xs ++ cs) → w.grownBy w' v.ownBlock → wpList P ops Q rest (a.put o.dst v') w') : wpList P ops Q (o :: rest) a w :=
  wpList_plain hgd fun _ hK => wp_append_lat w s x t ho base e i z size bytes ht hi hz hsize hby hzs hsz v n xs hs hown xv m cs hx hn h63 hbytes hbase fun v' w' h2 h3 => hK _ _ (h v' w' h2 h3)
end Go.Pb
namespace Go.Pb.Sag
open Go Go.Pb Go.Pb.Ware Go.RowKit
set_option linter.unusedVariables false
/-- Rows of stands in memory of the call's own. -/
def RowsQ (lo TQ TS : Nat) (v : Value) (rows : List (List St)) (W : World) : Prop := ∃ us : List Value, W.ownsRow lo TQ 1 v rows.length us ∧ ∀ (k : Nat) (u : Value) (q : List St), us[k]? = some u → rows[k]? = some q → W.ownsRow lo TS 3 u q.length (q.flatMap cellsP)
theorem RowsQ.below {lo TQ TS : Nat} {v : Value} {rows : List (List St)} {W W' : World} (h : RowsQ lo TQ TS v rows W) (hb : Below W.heap.size W W') : RowsQ lo TQ TS v rows W' := by
  obtain ⟨us, h1, h2⟩ := h
  exact ⟨us, owns_below h1 hb, fun k u q h3 h4 => owns_below (h2 k u q h3 h4) hb⟩
theorem RowsQ.nil {lo TQ TS : Nat} {W : World} : RowsQ lo TQ TS (.slice none 0 0) [] W := ⟨[], World.ownsRow_nil _ _ _ _, fun k u q h => by simp at h⟩
theorem RowsQ.shape {lo TQ TS : Nat} {v : Value} {rows : List (List St)} {W : World} (h : RowsQ lo TQ TS v rows W) : ∃ (a : Option Addr) (cap : Nat), v = .slice a rows.length cap ∧ rows.length ≤ 9223372036854775807 := by
  obtain ⟨us, h1, _⟩ := h
  exact owns_shape h1
/-- Rows behind rows: the slice has grown by an append. -/
theorem RowsQ.append {lo TQ TS : Nat} (hT : TQ ≠ TS) {v v' : Value} {rows more : List (List St)} {us ms : List Value} {W w3 : World}
    (ho : W.ownsRow lo TQ 1 v rows.length us) (hr : ∀ (k : Nat) (u : Value) (q : List St), us[k]? = some u → rows[k]? = some q → W.ownsRow lo TS 3 u q.length (q.flatMap cellsP))
    (hm : ∀ (k : Nat) (u : Value) (q : List St), ms[k]? = some u → more[k]? = some q → W.ownsRow lo TS 3 u q.length (q.flatMap cellsP)) (hml : ms.length = more.length)
    (hg : W.grownBy w3 v.ownBlock) (ho3 : w3.ownsRow lo TQ 1 v' (rows.length + more.length) (us ++ ms)) : RowsQ lo TQ TS v' (rows ++ more) w3 := by
  have hul : us.length = rows.length := by have := ho.1; omega
  have kept : ∀ {u : Value} {q : List St}, W.ownsRow lo TS 3 u q.length (q.flatMap cellsP) → w3.ownsRow lo TS 3 u q.length (q.flatMap cellsP) := fun h => h.kept hg (apart_types h ho (Ne.symm hT))
  refine ⟨us ++ ms, by rw [List.length_append]; exact ho3, fun k u q hu hq => ?_⟩
  rcases Nat.lt_or_ge k rows.length with h | h
  · rw [List.getElem?_append_left (by omega)] at hu
    rw [List.getElem?_append_left h] at hq
    exact kept (hr k u q hu hq)
  · rw [List.getElem?_append_right (by omega), hul] at hu
    rw [List.getElem?_append_right h] at hq
    exact kept (hm (k - rows.length) u q hu hq)
/-- One row. -/
theorem RowsQ.one {lo TQ TS B : Nat} {u : Value} {q : List St} {W : World} (hB : W.heap.size = B) (hlo : lo ≤ B) (h : W.ownsRow lo TS 3 u q.length (q.flatMap cellsP)) : RowsQ lo TQ TS (.slice (some ⟨B, 0, none⟩) 1 1) [q] (W.alloc (.cells #[u] TQ)) := by
  subst hB
  refine ⟨[u], ⟨rfl, .inr ⟨W.heap.size, 1, #[u], rfl, hlo, World.alloc_heap_new W _, Nat.le_refl _, by unfold maxLen; omega, rfl, rfl⟩⟩, fun k x y hx hy => ?_⟩
  match k with
  | 0 =>
    injection hx with hx; injection hy with hy
    subst hx; subst hy
    exact h.alloc _
  | k + 1 => simp at hx
end Go.Pb.Sag

/- The reference's rule. -/
namespace Go.Proofs.Ytnchhleokdkejaa
open Go.RowKit Go.Pb Go.Pb.Ware Go.Pb.Sag
set_option linter.unusedVariables false
set_option linter.unusedSimpArgs false

open Go.Proofs Go.Pb.Bung
theorem insR_at {l : List Sg} {i : Nat} : ∀ {t : List Nat} {p : Nat}, p ≤ t.length → (∀ q j, q < p → t[q]? = some j → Go.Pb.Bung.lowB (atG l j) (atG l i) = true) → (∀ j, t[p]? = some j → Go.Pb.Bung.lowB (atG l j) (atG l i) = false) → insR l i t = t.take p ++ i :: t.drop p
  | [], p, hp, _, _ => by
    obtain rfl : p = 0 := by simpa using hp
    rfl
  | j :: t, 0, _, _, h2 => by
    have h3 := h2 j rfl
    unfold insR
    rw [if_neg (by rw [h3]; simp)]
    rfl
  | j :: t, p + 1, hp, h1, h2 => by
    have h3 := h1 0 j (by omega) rfl
    have ih := insR_at (l := l) (i := i) (t := t) (p := p) (by simpa using hp) (fun q j hq hj => h1 (q + 1) j (by omega) (by simpa using hj)) (fun j hj => h2 j (by simpa using hj))
    unfold insR
    rw [if_pos h3, ih]
    rfl
def castN (t : List Nat) : List Int := t.map fun n : Nat => (n : Int)
theorem castN_len (t : List Nat) : (castN t).length = t.length := by unfold castN; rw [List.length_map]
theorem castN_cut (t : List Nat) (p i : Nat) : castN (t.take p ++ i :: t.drop p) = (castN t).take p ++ [(i : Int)] ++ (castN t).drop p := by
  unfold castN
  rw [List.map_append, List.map_cons, List.map_take, List.map_drop, List.append_assoc]
  rfl
theorem ruleUp_len (l : List Sg) (k : Nat) : (ruleUp l k).length = k := by rw [(ruleUp_perm l k).length_eq, List.length_range]
theorem ruleUp_in {l : List Sg} {k j q : Nat} (h : (ruleUp l k)[q]? = some j) : j < k := List.mem_range.1 ((ruleUp_perm l k).mem_iff.1 (List.mem_of_getElem? h))
theorem atG_of {l : List Sg} {k : Nat} {s : Sg} (h : l[k]? = some s) : atG l k = s := by unfold atG; rw [List.getD_eq_getElem?_getD, h]; rfl
theorem rLow_at {w : World} {xid xwl xwh xbl xbh xhl xhh xti yid ywl ywh ybl ybh yhl yhh yti : Int} {r : Bool} (hx : (0 ≤ xwh ∧ xwh ≤ 10000000) ∧ 0 ≤ xbl ∧ xbl ≤ 10000000) (hy : (0 ≤ ywh ∧ ywh ≤ 10000000) ∧ 0 ≤ ybl ∧ ybl ≤ 10000000) (hr : Go.Pb.Bung.lowB ⟨xid, xwl, xwh, xbl, xbh, xhl, xhh, xti⟩ ⟨yid, ywl, ywh, ybl, ybh, yhl, yhh, yti⟩ = r) : Calls Try.prog 133 #[.agg #[.int .i64 xid, .int .i64 xwl, .int .i64 xwh, .int .i64 xbl, .int .i64 xbh, .int .i64 xhl, .int .i64 xhh, .int .i64 xti], .agg #[.int .i64 yid, .int .i64 ywl, .int .i64 ywh, .int .i64 ybl, .int .i64 ybh, .int .i64 yhl, .int .i64 yhh, .int .i64 yti]] w (Ret w (.bool r)) := rLow_any hx hy hr

set_option maxRecDepth 100000 in
set_option maxHeartbeats 2000000 in
theorem rRule_any {w : World} {v : Value} {l : List Sg} (h : RowsAt 8 w v (l.map rowG)) (hk : listOk l = true) :
    Calls Try.prog 100 #[v] w (fun e w' => ∃ u, e = .returned u ∧ Below w.heap.size w w' ∧ NumsAt w' u (ruleL l)) := by
  obtain ⟨i1, hj, hy0, hy1, hy2⟩ := info_parts Try.infoIn
  obtain ⟨a, cap, rfl, hll⟩ := h.shape
  rw [List.length_map] at h hll ⊢
  have hl := (listOk_iff.1 hk).1
  have hsm : ∀ s ∈ l, (0 ≤ s.wh ∧ s.wh ≤ 10000000) ∧ 0 ≤ s.bl ∧ s.bl ≤ 10000000 := fun s hs => ⟨(sg_small ((listOk_iff.1 hk).2.1 s hs)).2.1, (sg_small ((listOk_iff.1 hk).2.1 s hs)).2.2.1⟩
  obtain ⟨n, hn⟩ : ∃ n, l.length = n := ⟨_, rfl⟩
  have HN : Hid (l.length = n) := hn
  have HSM : Hid (∀ s ∈ l, (0 ≤ s.wh ∧ s.wh ≤ 10000000) ∧ 0 ≤ s.bl ∧ s.bl ≤ 10000000) := hsm
  rw [hn] at h hll hl ⊢
  clear hn hsm hk
  go_enter Try.func100, Try.ntmps100
  go_wp2_with fail
  go_loopg [3, 4, 5] n (fun gk ov iv _ wr => ∃ k : Nat, k ≤ n ∧ gk = n - k ∧ iv = .int .i64 k ∧ wr.ownsRow w.heap.size 3 1 ov k ((castN (ruleUp l k)).map (Value.int .i64)) ∧ Below w.heap.size w wr)
  case atStart => exact ⟨0, Nat.zero_le _, rfl, rfl, World.ownsRow_nil _ _ _ _, Below.refl _ _⟩
  case round =>
    obtain ⟨k, hk, hgk, rfl, ho, hB⟩ := hrel
    have HGK : Hid (gk = n - k) := hgk; clear hgk
    obtain ⟨ua, uc, rfl, hul⟩ := owns_shape ho
    by_cases hlt : k < n
    · have hki : (k : Int) < (n : Int) := by omega
      obtain ⟨y, hy⟩ : ∃ s, l[k]? = some s := ⟨_, List.getElem?_eq_getElem (by rw [HN.out]; exact hlt)⟩
      have hyb := HSM.out y (List.mem_of_getElem? hy)
      have hyat := atG_of hy
      obtain ⟨a', ha, v0, hvc, -⟩ := sg_row (by rw [HN.out]; exact h.below hB) hy
      subst ha
      obtain ⟨yid, ywl, ywh, ybl, ybh, yhl, yhh, yti⟩ := y
      dsimp only at v0 hyb
      have v1 := hvc 1 _ (by decide) rfl
      have v2 := hvc 2 _ (by decide) rfl
      have v3 := hvc 3 _ (by decide) rfl
      have v4 := hvc 4 _ (by decide) rfl
      have v5 := hvc 5 _ (by decide) rfl
      have v6 := hvc 6 _ (by decide) rfl
      have v7 := hvc 7 _ (by decide) rfl
      dsimp only at v1 v2 v3 v4 v5 v6 v7
      have HYAT := hid hyat; clear hvc hy hyat
      have hNk := numsAt_of_owns (zs := castN (ruleUp l k)) (fun z hz => by unfold castN at hz; obtain ⟨j, hj, rfl⟩ := List.mem_map.1 hz; obtain ⟨q, hq⟩ := List.getElem?_of_mem hj; have := ruleUp_in hq; exact I64.mk (by omega) (by omega)) (by rw [castN_len, ruleUp_len]; exact ho)
      skip
      obtain ⟨GK, rfl⟩ : ∃ GK, GK = gk := ⟨_, rfl⟩
      obtain ⟨w1, hw1⟩ : ∃ v, v = wr := ⟨_, rfl⟩
      subst hw1
      go_wp2_with fail
      go_loopg [5] k (fun gk pv wr => ∃ p : Nat, p ≤ k ∧ gk = k - p ∧ pv = .int .i64 p ∧ Hid (∀ q j, q < p → (ruleUp l k)[q]? = some j → Go.Pb.Bung.lowB (atG l j) (atG l k) = true) ∧ Below w1.heap.size w1 wr)
      case atStart => exact ⟨0, Nat.zero_le _, rfl, rfl, hid (fun q j h => by omega), Below.refl _ _⟩
      case round =>
        obtain ⟨p, hp, hgp, rfl, HP, hB2⟩ := hrel
        have HGP : Hid (gk = k - p) := hgp; clear hgp
        replace v0 := bkeep hB2 v0
        replace v1 := bkeep hB2 v1
        replace v2 := bkeep hB2 v2
        replace v3 := bkeep hB2 v3
        replace v4 := bkeep hB2 v4
        replace v5 := bkeep hB2 v5
        replace v6 := bkeep hB2 v6
        replace v7 := bkeep hB2 v7
        go_upto_region 6 with fail
        by_cases hpk : p < k
        · have hpi : (p : Int) < (k : Int) := by omega
          obtain ⟨j, hj0⟩ : ∃ j, (ruleUp l k)[p]? = some j := ⟨_, List.getElem?_eq_getElem (by rw [ruleUp_len]; exact hpk)⟩
          have hjk := ruleUp_in hj0
          obtain ⟨x, hx⟩ : ∃ s, l[j]? = some s := ⟨_, List.getElem?_eq_getElem (by rw [HN.out]; omega)⟩
          have hxb := HSM.out x (List.mem_of_getElem? hx)
          have hxat := atG_of hx
          obtain ⟨b', hb', u0, huc, -⟩ := sg_row (by rw [HN.out]; exact (h.below hB).below hB2) hx
          obtain rfl : a' = b' := by injection hb'
          obtain ⟨xid, xwl, xwh, xbl, xbh, xhl, xhh, xti⟩ := x
          dsimp only at u0 hxb
          have u1 := huc 1 _ (by decide) rfl
          have u2 := huc 2 _ (by decide) rfl
          have u3 := huc 3 _ (by decide) rfl
          have u4 := huc 4 _ (by decide) rfl
          have u5 := huc 5 _ (by decide) rfl
          have u6 := huc 6 _ (by decide) rfl
          have u7 := huc 7 _ (by decide) rfl
          dsimp only at u1 u2 u3 u4 u5 u6 u7
          obtain ⟨bb, hbb⟩ : ∃ bb, Go.Pb.Bung.lowB ⟨xid, xwl, xwh, xbl, xbh, xhl, xhh, xti⟩ ⟨yid, ywl, ywh, ybl, ybh, yhl, yhh, yti⟩ = bb := ⟨_, rfl⟩
          have HBB := hid hbb; have HXAT := hid hxat; have HJ := hid hj0; clear huc hx hxat hbb
          have hplen : p < (castN (ruleUp l k)).length := by rw [castN_len, ruleUp_len]; exact hpk
          obtain ⟨o', ho', o0⟩ := (show NumsAt wr (.slice ua (castN (ruleUp l k)).length uc) (castN (ruleUp l k)) by rw [castN_len, ruleUp_len]; exact hNk.below hB2).elem hplen
          subst ho'
          have hje : (castN (ruleUp l k))[p] = (j : Int) := Option.some.inj ((List.getElem?_eq_getElem hplen).symm.trans (by unfold castN; rw [List.getElem?_map, HJ.out]; rfl))
          rw [hje] at o0
          have hjn : (j : Int) < (n : Int) := by omega
          have hj00 : (0 : Int) ≤ (j : Int) := by omega
          have t0 := fun z : BW wr => bkeep z.below v0
          have t1 := fun z : BW wr => bkeep z.below v1
          have t2 := fun z : BW wr => bkeep z.below v2
          have t3 := fun z : BW wr => bkeep z.below v3
          have t4 := fun z : BW wr => bkeep z.below v4
          have t5 := fun z : BW wr => bkeep z.below v5
          have t6 := fun z : BW wr => bkeep z.below v6
          have t7 := fun z : BW wr => bkeep z.below v7
          have s0 := fun z : BW wr => bkeep z.below u0
          have s1 := fun z : BW wr => bkeep z.below u1
          have s2 := fun z : BW wr => bkeep z.below u2
          have s3 := fun z : BW wr => bkeep z.below u3
          have s4 := fun z : BW wr => bkeep z.below u4
          have s5 := fun z : BW wr => bkeep z.below u5
          have s6 := fun z : BW wr => bkeep z.below u6
          have s7 := fun z : BW wr => bkeep z.below u7
          have r0 := fun z : BW wr => bkeep z.below o0
          refine wp_region_qb (by kernel_rfl) (by kernel_rfl) fun hc => ?_
          repeat (go_big_quiet_step ((go_at_call 133; exact BW.call _ (rLow_at hxb hyb HBB.out))))
          refine wpQuiet_nil ?_
          intro w3 hb
          replace hB2 := bnext (w := w1) hB2 hb
          clear t0 s0 u0 t1 s1 u1 t2 s2 u2 t3 s3 u3 t4 s4 u4 t5 s5 u5 t6 s6 u6 t7 s7 u7 r0 o0
          cases bb
          · have HNL : Hid (∀ j, (ruleUp l k)[p]? = some j → Go.Pb.Bung.lowB (atG l j) (atG l k) = false) := fun j hj => by rw [HJ.out] at hj; injection hj with hj; subst hj; rw [HXAT.out, HYAT.out]; exact HBB.out
            have hB3 := bnext (w := w) hB hB2
            have ho3 := owns_below ho hB2
            go_upto_region 8 with fail
            have hclen : ((castN (ruleUp l k)).map (Value.int .i64)).length = k := by rw [List.length_map, castN_len, ruleUp_len]
            have hlt0 : LAt 1 w3 (.slice (some o') k uc) k ((castN (ruleUp l k)).map (Value.int .i64)) := ⟨by rw [hclen, Nat.mul_one], fun u hu => by obtain ⟨z, _, rfl⟩ := List.mem_map.1 hu; rfl, by rcases ho3.2 with ⟨e1, e2⟩ | ⟨g, cap', cur, e1, e2, e3, e4, e5, e6, e7⟩; exact .inl ⟨e1, e2⟩; exact .inr ⟨⟨g, 0, none⟩, cap', e1, e4, (by have := e5; unfold maxLen at this; omega), fun j u hu => World.ownsRow.cells ho3 (g := g) (by rw [e1]; rfl) j u hu⟩⟩
            have huc : k ≤ uc := by obtain ⟨_, _, e, x, y, _⟩ := hlt0.shape; injection e with _ _ e3; subst e3; exact x
            obtain ⟨g, hg0⟩ : ∃ g, o' = ⟨g, 0, none⟩ := by rcases ho3.2 with ⟨e1, _⟩ | ⟨g, _, _, e1, _⟩; cases e1; injection e1 with e1 _ _; injection e1 with e1; exact ⟨g, e1⟩
            subst hg0
            obtain ⟨ad, had⟩ : ∃ ad, (if uc = p then some (⟨g, 0, none⟩ : Addr) else some ⟨g, p, none⟩) = some ad := by split <;> exact ⟨_, rfl⟩
            have hc3 : (p : Int) ≤ (uc : Int) := by omega
            have hc4 : (p : Int) ≤ (k : Int) := by omega
            have hp0 : (0 : Int) ≤ (p : Int) := by omega
            have HS1 := hid (hlt0.head (k := p) (by omega))
            have HS2 := hid (hlt0.tail (k := p) (q := ad) (by omega) (fun hlt => by first | exact absurd hlt (Nat.lt_irrefl _) | (rw [if_neg (by omega)] at had; injection had with had; rw [← had]; simp [Addr.add])))
            refine wp_region_F [8, 9, 10] (by kernel_rfl) [(0, NewEmpty w3.heap.size 3), (4, fun v W9 => W9.ownsRow w3.heap.size 3 1 v p (((castN (ruleUp l k)).map (Value.int .i64)).take (p * 1))), (6, NewList w3.heap.size 1 [.int .i64 (k : Int)])] [0, 1, 2, 3, 4, 5, 6] 3 (by kernel_rfl) rfl (by simp only [List.forall_mem_cons]; exact ⟨keeps_empty, keeps_owns, keeps_list, fun _ h => by cases h⟩) (by kernel_rfl) ?_
            refine ⟨_, _, rfl, .inl ⟨rfl, fun w => rfl⟩, ?_⟩
            refine ⟨_, _, rfl, .inl ⟨rfl, fun w => rfl⟩, ?_⟩
            refine ⟨_, .slice (some ad) (k - p) (uc - p), rfl, .inl ⟨rfl, fun w => by go_simp⟩, ?_⟩
            show wpS _ _ _ _ _ _ _ (numbered _ _) _ _
            (try simp only [Act.put, List.getElem_toArray, List.getElem_cons_succ, List.getElem_cons_zero, List.setIfInBounds_toArray, List.set_cons_succ, List.set_cons_zero])
            simp only [numbered, List.filterMap_cons, List.filterMap_nil, List.getElem?_toArray, List.getElem?_cons_succ, List.getElem?_cons_zero, Option.map_some]
            show wpS _ _ _ _ _ _ _ [(_, _), (_, _), (_, _), (_, _), (_, _), (_, _), (_, _)] _ _
            refine wpS_fresh rfl rfl (fun w' hb hF => ?_) ?_
            · change freshAt _ _ _ (NewEmpty w3.heap.size 3) _; unfold freshAt; go_simp; exact empty_of hb
            intro v W hv; simp only [pOf, List.lookup_cons, Nat.reduceBEq, beq_self_eq_true] at hv; have hv0 := hv; obtain ⟨B0, hB0, rfl, -⟩ := hv
            simp only [Act.put, List.setIfInBounds_toArray, List.set_cons_succ, List.set_cons_zero]
            (refine wpS_quiet rfl rfl ?_; intro K hK inst hx; go_big_quiet_op; (first | go_big_quiet_on | (refine ⟨_, fun _ => rfl, ?_⟩; go_big_quiet_on)); clear hx inst)
            (refine wpS_quiet rfl rfl ?_; intro K hK inst hx; go_big_quiet_op; (first | go_big_quiet_on | (refine ⟨_, fun _ => rfl, ?_⟩; go_big_quiet_on)); clear hx inst)
            (refine wpS_quiet rfl rfl ?_; intro K hK inst hx; go_big_quiet_op; (first | go_big_quiet_on | (refine ⟨_, fun _ => rfl, ?_⟩; go_big_quiet_on)); clear hx inst)
            refine wpS_fresh rfl rfl (fun w' hb hF => ?_) ?_
            · change freshAt _ _ _ (fun v W9 => W9.ownsRow w3.heap.size 3 1 v p (((castN (ruleUp l k)).map (Value.int .i64)).take (p * 1))) _; have h0 : NewEmpty w3.heap.size 3 _ w' := hF 0 _ rfl (by kernel_rfl); exact fresh_append_lat (.tmp 32) (.tmp 35) 41 rfl w3.heap.size 3 i1 (.int .i64 0) 1 8 Try.underlying41 hj hy0 hy1 hy2 rfl (by decide) (.slice (some ⟨B0, 0, none⟩) 0 0) rfl h0 (.slice (some ⟨g, 0, none⟩) p uc) p _ rfl (HS1.out.below hb) (by unfold maxLen; omega) (by omega) hb.size
            intro v W hv; simp only [pOf, List.lookup_cons, Nat.reduceBEq, beq_self_eq_true] at hv; obtain ⟨ga, gc, rfl, -⟩ := owns_shape hv
            simp only [Act.put, List.setIfInBounds_toArray, List.set_cons_succ, List.set_cons_zero]
            (refine wpS_quiet rfl rfl ?_; intro K hK inst hx; go_big_quiet_op; (first | go_big_quiet_on | (refine ⟨_, fun _ => rfl, ?_⟩; go_big_quiet_on)); clear hx inst)
            refine wpS_fresh rfl rfl (fun w' hb hF => ?_) ?_
            · change freshAt _ _ _ (NewList w3.heap.size 1 [.int .i64 (k : Int)]) _; unfold freshAt; go_simp; exact list_of hb
            intro v W hv; simp only [pOf, List.lookup_cons, Nat.reduceBEq, beq_self_eq_true] at hv; obtain ⟨B6, hB6, rfl, -⟩ := hv
            simp only [Act.put, List.setIfInBounds_toArray, List.set_cons_succ, List.set_cons_zero]
            refine wpS_nil ?_
            intro w4 hall
            have hb := hall.1
            have h4 : w4.ownsRow w3.heap.size 3 1 _ p (((castN (ruleUp l k)).map (Value.int .i64)).take (p * 1)) := hall.2 4 _ rfl
            have h6 : NewList w3.heap.size 1 [.int .i64 (k : Int)] _ w4 := hall.2 6 _ rfl
            obtain ⟨B', hB', hv', hn'⟩ := h6
            obtain rfl : B6 = B' := by simpa using hv'
            clear hall
            refine wpAny_ready (rs := [7]) (by kernel_rfl) (by simp) ?_
            refine AllReady.cons rfl (fun K hK => ?_) AllReady.nil
            refine (if_pos (show Region.wanted _ _ = true from rfl)).mpr ?_
            refine wp_append_own w4 (.tmp 36) (.tmp 38) 41 rfl w3.heap.size 3 i1 (.int .i64 0) 1 8 Try.underlying41 hj hy0 hy1 hy2 rfl (by decide) (.slice ga p gc) p _ rfl h4 ⟨B6, 0, none⟩ 1 1 [.int .i64 (k : Int)] rfl rfl (fun j u h => by rw [Go.WideShapes.add_plain, Nat.zero_add]; exact (hn' j u h).1) (fun u h => by simp only [List.mem_cons, List.not_mem_nil, or_false] at h; rcases h with rfl; rfl) (by unfold maxLen; omega) (by omega) hb.size ?_
            intro v39 w5 ho5 hg5 hnil5
            refine hK _ _ ?_
            clear hK K hnil5
            obtain ⟨xa, xc, rfl, -⟩ := owns_shape ho5
            have hb5 : Below w3.heap.size w3 w5 := Pb.below_grown hb hg5 h4 hb.size (Nat.le_refl _)
            refine wpAny_ready (rs := [11]) (by kernel_rfl) (by simp) ?_
            refine AllReady.cons rfl (fun K hK => ?_) AllReady.nil
            refine (if_pos (show Region.wanted _ _ = true from rfl)).mpr ?_
            refine wp_append_lat w5 (.tmp 39) (.tmp 42) 41 rfl w3.heap.size 3 i1 (.int .i64 0) 1 8 Try.underlying41 hj hy0 hy1 hy2 rfl (by decide) (.slice xa (p + 1) xc) (p + 1) _ rfl ho5 (.slice (some ad) (k - p) (uc - p)) (k - p) _ rfl (HS2.out.below hb5) (by unfold maxLen; omega) (by omega) hb5.size ?_
            intro v43 w6 ho6 hg6
            refine hK _ _ ?_
            clear hK K
            obtain ⟨za, zc, rfl, -⟩ := owns_shape ho6
            have hb6 : Below w3.heap.size w3 w6 := Pb.below_grown hb5 hg6 ho5 hb5.size (Nat.le_refl _)
            refine wpAny_ready (rs := [12]) (by kernel_rfl) (by simp) ?_
            refine AllReady.cons rfl (fun K hK => ?_) AllReady.nil
            go_simp
            refine hK _ _ ?_; clear hK K
            refine wpAny_done (by kernel_rfl) ?_ _
            refine ⟨rfl, ?_⟩
            have hlen6 : p + 1 + (k - p) = k + 1 := by omega
            rw [hlen6] at ho6
            (try rw [hlen6])
            have hB6 := bnext (w := w) hB3 hb6
            clear hb hb5 hb6 hg5 hg6 h4 ho5 HS1 HS2 hn'
            go_wp2_with fail
            go_roundg (n - (k + 1))
            case measure => have h := HGK.out; omega
            case rel => exact ⟨k + 1, by omega, rfl, by go_num, by have e := insR_at (l := l) (i := k) (t := ruleUp l k) (p := p) (by rw [ruleUp_len]; omega) HP.out HNL.out; rw [ruleUp, e, castN_cut, List.map_append, List.map_append, List.map_take, List.map_drop]; have h := owns_base (hB3.size) ho6; rw [Nat.mul_one] at h; exact h, hB6⟩
          · go_wp2_with fail
            go_roundg (k - (p + 1))
            case measure => have h := HGP.out; omega
            case rel => exact ⟨p + 1, by omega, rfl, by go_num, hid (fun q j2 hq hj2 => by (rcases Nat.lt_or_ge q p with h3 | h3); exact HP.out q j2 h3 hj2; (have e : q = p := by omega); subst e; rw [HJ.out] at hj2; injection hj2 with hj2; subst hj2; rw [HXAT.out, HYAT.out]; exact HBB.out), hB2⟩
        · have hpi : ¬ (p : Int) < (k : Int) := by omega
          obtain rfl : k = p := by omega
          refine wp_region_qb (by kernel_rfl) (by kernel_rfl) fun hc => ?_
          repeat (go_big_quiet_step (fail))
          refine wpQuiet_nil ?_
          intro w3 hb
          replace hB2 := bnext (w := w1) hB2 hb
          have HNL : Hid (∀ j, (ruleUp l k)[k]? = some j → Go.Pb.Bung.lowB (atG l j) (atG l k) = false) := fun j hj => by rw [List.getElem?_eq_none (by rw [ruleUp_len]; omega)] at hj; cases hj
          have hB3 := bnext (w := w) hB hB2
          have ho3 := owns_below ho hB2
          go_upto_region 8 with fail
          have hclen : ((castN (ruleUp l k)).map (Value.int .i64)).length = k := by rw [List.length_map, castN_len, ruleUp_len]
          have hlt0 : LAt 1 w3 (.slice ua k uc) k ((castN (ruleUp l k)).map (Value.int .i64)) := ⟨by rw [hclen, Nat.mul_one], fun u hu => by obtain ⟨z, _, rfl⟩ := List.mem_map.1 hu; rfl, by rcases ho3.2 with ⟨e1, e2⟩ | ⟨g, cap', cur, e1, e2, e3, e4, e5, e6, e7⟩; exact .inl ⟨e1, e2⟩; exact .inr ⟨⟨g, 0, none⟩, cap', e1, e4, (by have := e5; unfold maxLen at this; omega), fun j u hu => World.ownsRow.cells ho3 (g := g) (by rw [e1]; rfl) j u hu⟩⟩
          have huc : k ≤ uc := by obtain ⟨_, _, e, x, y, _⟩ := hlt0.shape; injection e with _ _ e3; subst e3; exact x
          cases ua with
          | none =>
            obtain ⟨hk0, huc0, -⟩ := hlt0.nil
            subst hk0
            subst huc0
            have HS1 : Hid (LAt 1 w3 (.slice none 0 0) 0 (((castN (ruleUp l 0)).map (Value.int .i64)).take (0 * 1))) := hid hlt0
            have HS2 : Hid (LAt 1 w3 (.slice none 0 0) (0 - 0) (((castN (ruleUp l 0)).map (Value.int .i64)).drop (0 * 1))) := hid (by have h := hlt0; simpa using h)
            refine wp_region_F [8, 9, 10] (by kernel_rfl) [(0, NewEmpty w3.heap.size 3), (4, fun v W9 => W9.ownsRow w3.heap.size 3 1 v 0 (((castN (ruleUp l 0)).map (Value.int .i64)).take (0 * 1))), (6, NewList w3.heap.size 1 [.int .i64 ((0 : Nat) : Int)])] [0, 1, 2, 3, 4, 5, 6] 3 (by kernel_rfl) rfl (by simp only [List.forall_mem_cons]; exact ⟨keeps_empty, keeps_owns, keeps_list, fun _ h => by cases h⟩) (by kernel_rfl) ?_
            refine ⟨_, _, rfl, .inl ⟨rfl, fun w => rfl⟩, ?_⟩
            refine ⟨_, _, rfl, .inl ⟨rfl, fun w => rfl⟩, ?_⟩
            refine ⟨_, .slice none 0 0, rfl, .inl ⟨rfl, fun w => by go_simp⟩, ?_⟩
            show wpS _ _ _ _ _ _ _ (numbered _ _) _ _
            (try simp only [Act.put, List.getElem_toArray, List.getElem_cons_succ, List.getElem_cons_zero, List.setIfInBounds_toArray, List.set_cons_succ, List.set_cons_zero])
            simp only [numbered, List.filterMap_cons, List.filterMap_nil, List.getElem?_toArray, List.getElem?_cons_succ, List.getElem?_cons_zero, Option.map_some]
            show wpS _ _ _ _ _ _ _ [(_, _), (_, _), (_, _), (_, _), (_, _), (_, _), (_, _)] _ _
            refine wpS_fresh rfl rfl (fun w' hb hF => ?_) ?_
            · change freshAt _ _ _ (NewEmpty w3.heap.size 3) _; unfold freshAt; go_simp; exact empty_of hb
            intro v W hv; simp only [pOf, List.lookup_cons, Nat.reduceBEq, beq_self_eq_true] at hv; have hv0 := hv; obtain ⟨B0, hB0, rfl, -⟩ := hv
            simp only [Act.put, List.setIfInBounds_toArray, List.set_cons_succ, List.set_cons_zero]
            (refine wpS_quiet rfl rfl ?_; intro K hK inst hx; go_big_quiet_op; (first | go_big_quiet_on | (refine ⟨_, fun _ => rfl, ?_⟩; go_big_quiet_on)); clear hx inst)
            (refine wpS_quiet rfl rfl ?_; intro K hK inst hx; go_big_quiet_op; (first | go_big_quiet_on | (refine ⟨_, fun _ => rfl, ?_⟩; go_big_quiet_on)); clear hx inst)
            (refine wpS_quiet rfl rfl ?_; intro K hK inst hx; go_big_quiet_op; (first | go_big_quiet_on | (refine ⟨_, fun _ => rfl, ?_⟩; go_big_quiet_on)); clear hx inst)
            refine wpS_fresh rfl rfl (fun w' hb hF => ?_) ?_
            · change freshAt _ _ _ (fun v W9 => W9.ownsRow w3.heap.size 3 1 v 0 (((castN (ruleUp l 0)).map (Value.int .i64)).take (0 * 1))) _; have h0 : NewEmpty w3.heap.size 3 _ w' := hF 0 _ rfl (by kernel_rfl); exact fresh_append_lat (.tmp 32) (.tmp 35) 41 rfl w3.heap.size 3 i1 (.int .i64 0) 1 8 Try.underlying41 hj hy0 hy1 hy2 rfl (by decide) (.slice (some ⟨B0, 0, none⟩) 0 0) rfl h0 (.slice none 0 0) 0 _ rfl (HS1.out.below hb) (by unfold maxLen; omega) (by omega) hb.size
            intro v W hv; simp only [pOf, List.lookup_cons, Nat.reduceBEq, beq_self_eq_true] at hv; obtain ⟨ga, gc, rfl, -⟩ := owns_shape hv
            simp only [Act.put, List.setIfInBounds_toArray, List.set_cons_succ, List.set_cons_zero]
            (refine wpS_quiet rfl rfl ?_; intro K hK inst hx; go_big_quiet_op; (first | go_big_quiet_on | (refine ⟨_, fun _ => rfl, ?_⟩; go_big_quiet_on)); clear hx inst)
            refine wpS_fresh rfl rfl (fun w' hb hF => ?_) ?_
            · change freshAt _ _ _ (NewList w3.heap.size 1 [.int .i64 ((0 : Nat) : Int)]) _; unfold freshAt; go_simp; exact list_of hb
            intro v W hv; simp only [pOf, List.lookup_cons, Nat.reduceBEq, beq_self_eq_true] at hv; obtain ⟨B6, hB6, rfl, -⟩ := hv
            simp only [Act.put, List.setIfInBounds_toArray, List.set_cons_succ, List.set_cons_zero]
            refine wpS_nil ?_
            intro w4 hall
            have hb := hall.1
            have h4 : w4.ownsRow w3.heap.size 3 1 _ 0 (((castN (ruleUp l 0)).map (Value.int .i64)).take (0 * 1)) := hall.2 4 _ rfl
            have h6 : NewList w3.heap.size 1 [.int .i64 ((0 : Nat) : Int)] _ w4 := hall.2 6 _ rfl
            obtain ⟨B', hB', hv', hn'⟩ := h6
            obtain rfl : B6 = B' := by simpa using hv'
            clear hall
            refine wpAny_ready (rs := [7]) (by kernel_rfl) (by simp) ?_
            refine AllReady.cons rfl (fun K hK => ?_) AllReady.nil
            refine (if_pos (show Region.wanted _ _ = true from rfl)).mpr ?_
            refine wp_append_own w4 (.tmp 36) (.tmp 38) 41 rfl w3.heap.size 3 i1 (.int .i64 0) 1 8 Try.underlying41 hj hy0 hy1 hy2 rfl (by decide) (.slice ga 0 gc) 0 _ rfl h4 ⟨B6, 0, none⟩ 1 1 [.int .i64 ((0 : Nat) : Int)] rfl rfl (fun j u h => by rw [Go.WideShapes.add_plain, Nat.zero_add]; exact (hn' j u h).1) (fun u h => by simp only [List.mem_cons, List.not_mem_nil, or_false] at h; rcases h with rfl; rfl) (by unfold maxLen; omega) (by omega) hb.size ?_
            intro v39 w5 ho5 hg5 hnil5
            refine hK _ _ ?_
            clear hK K hnil5
            obtain ⟨xa, xc, rfl, -⟩ := owns_shape ho5
            have hb5 : Below w3.heap.size w3 w5 := Pb.below_grown hb hg5 h4 hb.size (Nat.le_refl _)
            refine wpAny_ready (rs := [11]) (by kernel_rfl) (by simp) ?_
            refine AllReady.cons rfl (fun K hK => ?_) AllReady.nil
            refine (if_pos (show Region.wanted _ _ = true from rfl)).mpr ?_
            refine wp_append_lat w5 (.tmp 39) (.tmp 42) 41 rfl w3.heap.size 3 i1 (.int .i64 0) 1 8 Try.underlying41 hj hy0 hy1 hy2 rfl (by decide) (.slice xa (0 + 1) xc) (0 + 1) _ rfl ho5 (.slice none 0 0) (0 - 0) _ rfl (HS2.out.below hb5) (by unfold maxLen; omega) (by omega) hb5.size ?_
            intro v43 w6 ho6 hg6
            refine hK _ _ ?_
            clear hK K
            obtain ⟨za, zc, rfl, -⟩ := owns_shape ho6
            have hb6 : Below w3.heap.size w3 w6 := Pb.below_grown hb5 hg6 ho5 hb5.size (Nat.le_refl _)
            refine wpAny_ready (rs := [12]) (by kernel_rfl) (by simp) ?_
            refine AllReady.cons rfl (fun K hK => ?_) AllReady.nil
            go_simp
            refine hK _ _ ?_; clear hK K
            refine wpAny_done (by kernel_rfl) ?_ _
            refine ⟨rfl, ?_⟩
            have hlen6 : 0 + 1 + (0 - 0) = 0 + 1 := by omega
            rw [hlen6] at ho6
            (try rw [hlen6])
            have hB6 := bnext (w := w) hB3 hb6
            clear hb hb5 hb6 hg5 hg6 h4 ho5 HS1 HS2 hn'
            go_wp2_with fail
            go_roundg (n - (0 + 1))
            case measure => have h := HGK.out; omega
            case rel => exact ⟨0 + 1, by omega, rfl, by go_num, by have e := insR_at (l := l) (i := 0) (t := ruleUp l 0) (p := 0) (by rw [ruleUp_len]; omega) HP.out HNL.out; rw [ruleUp, e, castN_cut, List.map_append, List.map_append, List.map_take, List.map_drop]; have h := owns_base (hB3.size) ho6; rw [Nat.mul_one] at h; exact h, hB6⟩
          | some o' =>
            obtain ⟨g, hg0⟩ : ∃ g, o' = ⟨g, 0, none⟩ := by rcases ho3.2 with ⟨e1, _⟩ | ⟨g, _, _, e1, _⟩; cases e1; injection e1 with e1 _ _; injection e1 with e1; exact ⟨g, e1⟩
            subst hg0
            obtain ⟨ad, had⟩ : ∃ ad, (if uc = k then some (⟨g, 0, none⟩ : Addr) else some ⟨g, k, none⟩) = some ad := by split <;> exact ⟨_, rfl⟩
            have hc3 : (k : Int) ≤ (uc : Int) := by omega
            have hc4 : (k : Int) ≤ (k : Int) := by omega
            have hp0 : (0 : Int) ≤ (k : Int) := by omega
            have HS1 := hid (hlt0.head (k := k) (by omega))
            have HS2 := hid (hlt0.tail (k := k) (q := ad) (by omega) (fun hlt => by first | exact absurd hlt (Nat.lt_irrefl _) | (rw [if_neg (by omega)] at had; injection had with had; rw [← had]; simp [Addr.add])))
            refine wp_region_F [8, 9, 10] (by kernel_rfl) [(0, NewEmpty w3.heap.size 3), (4, fun v W9 => W9.ownsRow w3.heap.size 3 1 v k (((castN (ruleUp l k)).map (Value.int .i64)).take (k * 1))), (6, NewList w3.heap.size 1 [.int .i64 (k : Int)])] [0, 1, 2, 3, 4, 5, 6] 3 (by kernel_rfl) rfl (by simp only [List.forall_mem_cons]; exact ⟨keeps_empty, keeps_owns, keeps_list, fun _ h => by cases h⟩) (by kernel_rfl) ?_
            refine ⟨_, _, rfl, .inl ⟨rfl, fun w => rfl⟩, ?_⟩
            refine ⟨_, _, rfl, .inl ⟨rfl, fun w => rfl⟩, ?_⟩
            refine ⟨_, .slice (some ad) (k - k) (uc - k), rfl, .inl ⟨rfl, fun w => by go_simp⟩, ?_⟩
            show wpS _ _ _ _ _ _ _ (numbered _ _) _ _
            (try simp only [Act.put, List.getElem_toArray, List.getElem_cons_succ, List.getElem_cons_zero, List.setIfInBounds_toArray, List.set_cons_succ, List.set_cons_zero])
            simp only [numbered, List.filterMap_cons, List.filterMap_nil, List.getElem?_toArray, List.getElem?_cons_succ, List.getElem?_cons_zero, Option.map_some]
            show wpS _ _ _ _ _ _ _ [(_, _), (_, _), (_, _), (_, _), (_, _), (_, _), (_, _)] _ _
            refine wpS_fresh rfl rfl (fun w' hb hF => ?_) ?_
            · change freshAt _ _ _ (NewEmpty w3.heap.size 3) _; unfold freshAt; go_simp; exact empty_of hb
            intro v W hv; simp only [pOf, List.lookup_cons, Nat.reduceBEq, beq_self_eq_true] at hv; have hv0 := hv; obtain ⟨B0, hB0, rfl, -⟩ := hv
            simp only [Act.put, List.setIfInBounds_toArray, List.set_cons_succ, List.set_cons_zero]
            (refine wpS_quiet rfl rfl ?_; intro K hK inst hx; go_big_quiet_op; (first | go_big_quiet_on | (refine ⟨_, fun _ => rfl, ?_⟩; go_big_quiet_on)); clear hx inst)
            (refine wpS_quiet rfl rfl ?_; intro K hK inst hx; go_big_quiet_op; (first | go_big_quiet_on | (refine ⟨_, fun _ => rfl, ?_⟩; go_big_quiet_on)); clear hx inst)
            (refine wpS_quiet rfl rfl ?_; intro K hK inst hx; go_big_quiet_op; (first | go_big_quiet_on | (refine ⟨_, fun _ => rfl, ?_⟩; go_big_quiet_on)); clear hx inst)
            refine wpS_fresh rfl rfl (fun w' hb hF => ?_) ?_
            · change freshAt _ _ _ (fun v W9 => W9.ownsRow w3.heap.size 3 1 v k (((castN (ruleUp l k)).map (Value.int .i64)).take (k * 1))) _; have h0 : NewEmpty w3.heap.size 3 _ w' := hF 0 _ rfl (by kernel_rfl); exact fresh_append_lat (.tmp 32) (.tmp 35) 41 rfl w3.heap.size 3 i1 (.int .i64 0) 1 8 Try.underlying41 hj hy0 hy1 hy2 rfl (by decide) (.slice (some ⟨B0, 0, none⟩) 0 0) rfl h0 (.slice (some ⟨g, 0, none⟩) k uc) k _ rfl (HS1.out.below hb) (by unfold maxLen; omega) (by omega) hb.size
            intro v W hv; simp only [pOf, List.lookup_cons, Nat.reduceBEq, beq_self_eq_true] at hv; obtain ⟨ga, gc, rfl, -⟩ := owns_shape hv
            simp only [Act.put, List.setIfInBounds_toArray, List.set_cons_succ, List.set_cons_zero]
            (refine wpS_quiet rfl rfl ?_; intro K hK inst hx; go_big_quiet_op; (first | go_big_quiet_on | (refine ⟨_, fun _ => rfl, ?_⟩; go_big_quiet_on)); clear hx inst)
            refine wpS_fresh rfl rfl (fun w' hb hF => ?_) ?_
            · change freshAt _ _ _ (NewList w3.heap.size 1 [.int .i64 (k : Int)]) _; unfold freshAt; go_simp; exact list_of hb
            intro v W hv; simp only [pOf, List.lookup_cons, Nat.reduceBEq, beq_self_eq_true] at hv; obtain ⟨B6, hB6, rfl, -⟩ := hv
            simp only [Act.put, List.setIfInBounds_toArray, List.set_cons_succ, List.set_cons_zero]
            refine wpS_nil ?_
            intro w4 hall
            have hb := hall.1
            have h4 : w4.ownsRow w3.heap.size 3 1 _ k (((castN (ruleUp l k)).map (Value.int .i64)).take (k * 1)) := hall.2 4 _ rfl
            have h6 : NewList w3.heap.size 1 [.int .i64 (k : Int)] _ w4 := hall.2 6 _ rfl
            obtain ⟨B', hB', hv', hn'⟩ := h6
            obtain rfl : B6 = B' := by simpa using hv'
            clear hall
            refine wpAny_ready (rs := [7]) (by kernel_rfl) (by simp) ?_
            refine AllReady.cons rfl (fun K hK => ?_) AllReady.nil
            refine (if_pos (show Region.wanted _ _ = true from rfl)).mpr ?_
            refine wp_append_own w4 (.tmp 36) (.tmp 38) 41 rfl w3.heap.size 3 i1 (.int .i64 0) 1 8 Try.underlying41 hj hy0 hy1 hy2 rfl (by decide) (.slice ga k gc) k _ rfl h4 ⟨B6, 0, none⟩ 1 1 [.int .i64 (k : Int)] rfl rfl (fun j u h => by rw [Go.WideShapes.add_plain, Nat.zero_add]; exact (hn' j u h).1) (fun u h => by simp only [List.mem_cons, List.not_mem_nil, or_false] at h; rcases h with rfl; rfl) (by unfold maxLen; omega) (by omega) hb.size ?_
            intro v39 w5 ho5 hg5 hnil5
            refine hK _ _ ?_
            clear hK K hnil5
            obtain ⟨xa, xc, rfl, -⟩ := owns_shape ho5
            have hb5 : Below w3.heap.size w3 w5 := Pb.below_grown hb hg5 h4 hb.size (Nat.le_refl _)
            refine wpAny_ready (rs := [11]) (by kernel_rfl) (by simp) ?_
            refine AllReady.cons rfl (fun K hK => ?_) AllReady.nil
            refine (if_pos (show Region.wanted _ _ = true from rfl)).mpr ?_
            refine wp_append_lat w5 (.tmp 39) (.tmp 42) 41 rfl w3.heap.size 3 i1 (.int .i64 0) 1 8 Try.underlying41 hj hy0 hy1 hy2 rfl (by decide) (.slice xa (k + 1) xc) (k + 1) _ rfl ho5 (.slice (some ad) (k - k) (uc - k)) (k - k) _ rfl (HS2.out.below hb5) (by unfold maxLen; omega) (by omega) hb5.size ?_
            intro v43 w6 ho6 hg6
            refine hK _ _ ?_
            clear hK K
            obtain ⟨za, zc, rfl, -⟩ := owns_shape ho6
            have hb6 : Below w3.heap.size w3 w6 := Pb.below_grown hb5 hg6 ho5 hb5.size (Nat.le_refl _)
            refine wpAny_ready (rs := [12]) (by kernel_rfl) (by simp) ?_
            refine AllReady.cons rfl (fun K hK => ?_) AllReady.nil
            go_simp
            refine hK _ _ ?_; clear hK K
            refine wpAny_done (by kernel_rfl) ?_ _
            refine ⟨rfl, ?_⟩
            have hlen6 : k + 1 + (k - k) = k + 1 := by omega
            rw [hlen6] at ho6
            (try rw [hlen6])
            have hB6 := bnext (w := w) hB3 hb6
            clear hb hb5 hb6 hg5 hg6 h4 ho5 HS1 HS2 hn'
            go_wp2_with fail
            go_roundg (n - (k + 1))
            case measure => have h := HGK.out; omega
            case rel => exact ⟨k + 1, by omega, rfl, by go_num, by have e := insR_at (l := l) (i := k) (t := ruleUp l k) (p := k) (by rw [ruleUp_len]; omega) HP.out HNL.out; rw [ruleUp, e, castN_cut, List.map_append, List.map_append, List.map_take, List.map_drop]; have h := owns_base (hB3.size) ho6; rw [Nat.mul_one] at h; exact h, hB6⟩
    · obtain rfl : k = n := by omega
      go_wp2_with fail
      go_ret
      exact ⟨_, rfl, hB, numsAt_of_owns (zs := ruleL l) (fun z hz => by have := ruleL_in l z hz; exact I64.mk (by omega) (by rw [HN.out] at this; omega)) (by rw [ruleL_length, HN.out]; show _ ; unfold ruleL ruleN; rw [HN.out]; exact ho)⟩

end Go.Proofs.Ytnchhleokdkejaa

/- Indices in an order that numbers choose. -/
namespace Go.Proofs.Ytnchhleokdkejaa
open Go.RowKit Go.Pb Go.Pb.Ware Go.Pb.Sag
set_option linter.unusedVariables false
set_option linter.unusedSimpArgs false

open Go.Proofs Go.Pb.Bung
/-- A list that is read, and an own one beside it, in another block. -/
structure LO (T lo : Nat) (W : World) (lv ov : Value) (L O : List Int) : Prop where
  nums : NumsAt W lv L
  own : W.ownsRow lo T 1 ov O.length (O.map (Value.int .i64))
  apart : L ≠ [] → ∀ b, ov.ownBlock = some b → lv.ownBlock ≠ some b
theorem LO.next {T lo : Nat} {W W' : World} {lv ov : Value} {L O : List Int} (h : LO T lo W lv ov L O) (hb : Below W.heap.size W W') : LO T lo W' lv ov L O := ⟨h.nums.below hb, owns_below h.own hb, h.apart⟩
theorem block_add (a : Addr) (k : Nat) : (a.add k).block = a.block := by unfold Addr.add; split <;> rfl
theorem LO.push {T lo : Nat} {W W' : World} {lv ov ov' : Value} {L O : List Int} {z : Int} (h : LO T lo W lv ov L O) (hg : W.grownBy W' ov.ownBlock) (ho : W'.ownsRow lo T 1 ov' (O.length + 1) (O.map (Value.int .i64) ++ [.int .i64 z])) (hv : ov'.ownBlock = ov.ownBlock ∨ ov'.ownBlock = some W.heap.size) : LO T lo W' lv ov' L (O ++ [z]) := by
  refine ⟨?_, by rw [List.length_append, List.map_append]; exact ho, fun hL b hb hh => ?_⟩
  · rcases h.nums with h1 | ⟨a, cap, h1, h2, h3, h4⟩
    · exact .inl h1
    · refine .inr ⟨a, cap, h1, h2, h3, fun k z hz => ⟨hg.cell (h4 k z hz).1 ?_, (h4 k z hz).2⟩⟩
      rw [block_add]
      intro e
      have hL : L ≠ [] := by rintro rfl; simp at hz
      exact h.apart hL _ e.symm (by rw [h1]; rfl)
  · rcases hv with e | e
    · exact h.apart hL b (by rw [← e]; exact hb) hh
    · rw [e] at hb
      injection hb with hb
      rcases h.nums with ⟨_, h1⟩ | ⟨a, cap, h1, h2, h3, h4⟩
      · exact hL h1
      · rw [h1] at hh
        injection hh with hh
        obtain ⟨x, xs, rfl⟩ := List.exists_cons_of_ne_nil hL
        have h5 := World.block_lt_of_cell? W _ (h4 0 x rfl).1
        rw [block_add] at h5
        omega
theorem new_cellsZ (w : World) (z : Int) (ty n : Nat) (hn : w.heap.size = n) : ∀ j u, ([.int .i64 z] : List Value)[j]? = some u → (w.alloc (.cells #[.int .i64 z] ty)).cell? ((⟨n, 0, none⟩ : Addr).add j) = some u := by
  subst hn
  intro j u h
  match j, h with
  | 0, h => simp at h; subst h; simp [Addr.add, go_sem]
  | j + 1, h => simp at h

end Go.Proofs.Ytnchhleokdkejaa
