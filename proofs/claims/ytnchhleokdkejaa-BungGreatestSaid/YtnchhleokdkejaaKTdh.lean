/- What the reference of layer 2 does, by plain maths: covers, room, what can be packed. -/
import Derived.Test.YtnchhleokdkejaaKB6h
import Derived.Test.YtnchhleokdkejaaKInRoundh
import Derived.Test.YtnchhleokdkejaaKCbh
import Derived.Laws.OwnMore
import Derived.Laws.AppendOwn
import Derived.OwnWalk
import Derived.Deep.LoopGhost
import Derived.Test.YtnchhleokdkejaaKSch
import Derived.Test.YtnchhleokdkejaaKLibh
import Derived.Maps.AppendAt
import Derived.Deep.CutBlock
import Derived.Deep.RegionHeld3
namespace Go.Pb.Sag
open Go Go.Pb Go.Pb.Ware Go.RowKit
set_option linter.unusedVariables false
/-- No foot is higher than the box, and all together are not too heavy. -/
def lowB (s : Bx) (fs : List Ft) : Bool := !troubleB s fs 1 && !troubleB s fs 3
end Go.Pb.Sag

/- The fewest groups: whatever groups are accepted, the search finds some that are no more. -/
namespace Go.Pb.Sag
open Go Go.Pb Go.Pb.Ware Go.RowKit
set_option linter.unusedVariables false
/-- What of a group lies below i. -/
def below (i : Nat) (g : List Int) : List Int := g.filter fun z => decide (z < (i : Int))
/-- Distinct numbers below n are at most n; if they are n, they are all. -/
theorem nodup_len : ∀ {n : Nat} {l : List Int}, l.Nodup → (∀ z ∈ l, 0 ≤ z ∧ z < (n : Int)) → l.length ≤ n ∧ (l.length = n → ∀ i : Nat, i < n → (i : Int) ∈ l)
  | 0, l, _, h => by
    match l, h with
    | [], _ => exact ⟨Nat.le_refl _, fun _ i hi => by omega⟩
    | a :: l, h => have := h a (by simp); omega
  | n + 1, l, hn, h => by
    by_cases hm : (n : Int) ∈ l
    · have h1 : (l.erase (n : Int)).Nodup := hn.erase _
      have h2 : ∀ z ∈ l.erase (n : Int), 0 ≤ z ∧ z < (n : Int) := by
        intro z hz
        have h3 := (List.Nodup.mem_erase_iff hn).1 hz
        have := h z h3.2
        have := h3.1
        omega
      obtain ⟨h4, h5⟩ := nodup_len h1 h2
      have h6 := List.length_erase_of_mem hm
      have h7 := List.length_pos_of_mem hm
      refine ⟨by omega, fun he i hi => ?_⟩
      by_cases hin : i = n
      · subst hin; exact hm
      · exact List.mem_of_mem_erase (h5 (by omega) i (by omega))
    · have h2 : ∀ z ∈ l, 0 ≤ z ∧ z < (n : Int) := by
        intro z hz
        have := h z hz
        have : z ≠ (n : Int) := fun e => hm (e ▸ hz)
        omega
      obtain ⟨h4, _⟩ := nodup_len hn h2
      exact ⟨by omega, fun he => by omega⟩
end Go.Pb.Sag

/- Partitions of the reference of layer 2, by plain maths: the first one is the groups that the program's search finds. -/
namespace Go.Pb.Sag
open Go Go.Pb Go.Pb.Ware Go.RowKit
set_option linter.unusedVariables false
/-- The indices, from i on, of what is g. -/
def whereL (g : Nat) : Nat → List Nat → List Int
  | _, [] => []
  | i, a :: l => if a = g then (i : Int) :: whereL g (i + 1) l else whereL g (i + 1) l
/-- Lists of indices by group. -/
def groupedL (of : List Nat) (many : Nat) : List (List Int) := (List.range many).map fun g => whereL g 0 of
theorem grouped_len {of : List Nat} {many : Nat} : (groupedL of many).length = many := by unfold groupedL; simp
theorem grouped_at {of : List Nat} {many k : Nat} (h : k < many) : (groupedL of many)[k]? = some (whereL k 0 of) := by unfold groupedL; simp [h]
end Go.Pb.Sag

/- The fewest parts that all do: the search for them, and what it holds in memory. -/
namespace Go.Pb.Sag
open Go Go.Pb Go.Pb.Ware Go.RowKit
set_option linter.unusedVariables false
/-- The first way to put the things from i on (d of them) into at most so many parts; none if there is none. -/
def putG (does : List Int → Bool) (most : Nat) : Nat → Nat → List (List Int) → Option (List (List Int))
  | 0, _, gs => some gs
  | d + 1, i, gs =>
    match (List.range gs.length).findSome? (fun k => if does (gs.getD k [] ++ [(i : Int)]) = true then putG does most d (i + 1) (gs.set k (gs.getD k [] ++ [(i : Int)])) else none) with
    | some r => some r
    | none => if gs.length = most then none else (if does [(i : Int)] = true then putG does most d (i + 1) (gs ++ [[(i : Int)]]) else none)
def tryG (does : List Int → Bool) (most d i : Nat) (gs : List (List Int)) (k : Nat) : Option (List (List Int)) := if does (gs.getD k [] ++ [(i : Int)]) = true then putG does most d (i + 1) (gs.set k (gs.getD k [] ++ [(i : Int)])) else none
theorem tryG_last (does : List Int → Bool) (most d i : Nat) (gs : List (List Int)) : tryG does most d i (gs ++ [[]]) gs.length = if does [(i : Int)] = true then putG does most d (i + 1) (gs ++ [[(i : Int)]]) else none := by
  unfold tryG
  rw [List.getD_eq_getElem?_getD, List.getElem?_append_right (Nat.le_refl _), Nat.sub_self, List.set_append_right _ _ (Nat.le_refl _), Nat.sub_self]
  rfl
theorem putG_succ (does : List Int → Bool) (most d i : Nat) (gs : List (List Int)) : putG does most (d + 1) i gs = match (List.range gs.length).findSome? (tryG does most d i gs) with
    | some r => some r
    | none => if gs.length = most then none else tryG does most d i (gs ++ [[]]) gs.length := by rw [tryG_last, putG]; rfl
theorem putG_some {does : List Int → Bool} {most : Nat} : ∀ (d i : Nat) (gs : List (List Int)), (∀ j, i ≤ j → j < i + d → does [(j : Int)] = true) → i + d ≤ most → gs.length ≤ i → ∃ r, putG does most d i gs = some r
  | 0, i, gs, _, _, _ => ⟨gs, rfl⟩
  | d + 1, i, gs, h, h1, h2 => by
    rw [putG_succ]
    cases hf : (List.range gs.length).findSome? (tryG does most d i gs) with
    | some r => exact ⟨r, rfl⟩
    | none =>
      dsimp only
      rw [if_neg (by omega), tryG_last, if_pos (h i (Nat.le_refl _) (by omega))]
      exact putG_some d (i + 1) _ (fun j h3 h4 => h j (by omega) (by omega)) (by omega) (by rw [List.length_append, List.length_singleton]; omega)
/-- Parts of things below i: as groups are, and each rises. -/
def GoodR (i : Nat) (gs : List (List Int)) : Prop := Good i gs ∧ ∀ g ∈ gs, g.Pairwise (· < ·)
theorem GoodR.nil : GoodR 0 [] := ⟨Good.nil, fun g h => by cases h⟩
theorem rise_snoc {i : Nat} {g : List Int} (h : g.Pairwise (· < ·)) (hl : ∀ z ∈ g, 0 ≤ z ∧ z < (i : Int)) : (g ++ [(i : Int)]).Pairwise (· < ·) := by
  rw [List.pairwise_append]
  exact ⟨h, List.pairwise_singleton _ _, fun a ha b hb => by rw [List.mem_singleton.1 hb]; exact (hl a ha).2⟩
theorem GoodR.push {i k : Nat} {gs : List (List Int)} {g : List Int} (h : GoodR i gs) (hg : gs[k]? = some g) : GoodR (i + 1) (gs.set k (g ++ [(i : Int)])) := by
  refine ⟨h.1.push hg, fun g' hm => ?_⟩
  have hgm := List.mem_of_getElem? hg
  rcases List.mem_or_eq_of_mem_set hm with h1 | rfl
  · exact h.2 g' h1
  · exact rise_snoc (h.2 g hgm) (h.1.lt g hgm)
theorem GoodR.snoc {i : Nat} {gs : List (List Int)} (h : GoodR i gs) : GoodR (i + 1) (gs ++ [[(i : Int)]]) := by
  refine ⟨h.1.snoc, fun g hm => ?_⟩
  rcases List.mem_append.1 hm with h1 | h1
  · exact h.2 g h1
  · simp at h1; subst h1; exact List.pairwise_singleton _ _
theorem set_last (gs : List (List Int)) (g : List Int) : (gs ++ [[]]).set gs.length g = gs ++ [g] := by
  rw [List.set_append_right _ _ (Nat.le_refl _), Nat.sub_self]; rfl
theorem putG_good {does : List Int → Bool} {most : Nat} : ∀ (d i : Nat) (gs rs : List (List Int)), GoodR i gs → gs.length ≤ most → putG does most d i gs = some rs → GoodR (i + d) rs ∧ rs.length ≤ most
  | 0, i, gs, rs, hG, hm, h => by
    rw [putG] at h; injection h with h; subst h; exact ⟨hG, hm⟩
  | d + 1, i, gs, rs, hG, hm, h => by
    rw [putG_succ] at h
    cases hf : (List.range gs.length).findSome? (tryG does most d i gs) with
    | some r =>
      rw [hf] at h
      injection h with h
      subst h
      obtain ⟨k, hk, h2⟩ := find_some hf
      unfold tryG at h2
      split at h2
      · have hg : gs[k]? = some gs[k] := List.getElem?_eq_getElem hk
        rw [List.getD_eq_getElem?_getD, hg, Option.getD_some] at h2
        have := putG_good d (i + 1) _ _ (hG.push hg) (by rw [List.length_set]; exact hm) h2
        rw [show i + 1 + d = i + (d + 1) by omega] at this
        exact this
      · cases h2
    | none =>
      rw [hf] at h
      dsimp only at h
      split at h
      · cases h
      · rw [tryG_last] at h
        split at h
        · have := putG_good d (i + 1) _ _ hG.snoc (by rw [List.length_append, List.length_singleton]; omega) h
          rw [show i + 1 + d = i + (d + 1) by omega] at this
          exact this
        · cases h
/-- The fewest parts: what Fewest answers. -/
def fewG (does : List Int → Bool) (n : Nat) : Option (List (List Int)) :=
  if (List.range n).all (fun j => does [(j : Int)]) = true then (List.range (n + 1)).findSome? (fun m => putG does m n 0 []) else none

/-- From block B on all is as it was. -/
structure Above (B : Nat) (W W' : World) : Prop where
  size : W.heap.size ≤ W'.heap.size
  block : ∀ b, B ≤ b → b < W.heap.size → W'.heap[b]? = W.heap[b]?
theorem Above.of_below {B : Nat} {W W' : World} (h : Below W.heap.size W W') : Above B W W' := ⟨h.size, fun b _ h1 => h.block b h1⟩
theorem Above.cell {B b o : Nat} {W W' : World} {v : Value} (h : Above B W W') (hb : B ≤ b) (hc : W.cell? ⟨b, o, none⟩ = some v) : W'.cell? ⟨b, o, none⟩ = some v :=
  (World.cell?_of_block (a := ⟨b, o, none⟩) (h.block b hb (World.block_lt_of_cell? W _ hc))).trans hc
theorem Above.free {B b o : Nat} {W W' : World} {v : Value} (h : Above B W W') (hb : B ≤ b) (hc : W.cell? ⟨b, o, none⟩ = some v) (hf : W.frozen? ⟨b, o, none⟩ = false) : W'.frozen? ⟨b, o, none⟩ = false :=
  (World.frozen?_of_block (a := ⟨b, o, none⟩) (h.block b hb (World.block_lt_of_cell? W _ hc))).trans hf
theorem owns_above {B lo e s n : Nat} {W W' : World} {v : Value} {xs : List Value} (h : W.ownsRow lo e s v n xs) (hB : B ≤ lo) (ha : Above B W W') : W'.ownsRow lo e s v n xs := by
  refine ⟨h.1, ?_⟩
  rcases h.2 with hn | ⟨g, cap, cur, h1, h2, h3, h4⟩
  · exact .inl hn
  · exact .inr ⟨g, cap, cur, h1, h2, (ha.block g (by omega) (Array.getElem?_eq_some_iff.1 h3).1).trans h3, h4⟩
/-- No two slices share a block. -/
def Apart (vs : List Value) : Prop := ∀ (j k : Nat) (u v : Value), j ≠ k → vs[j]? = some u → vs[k]? = some v → u.ownBlock = none ∨ u.ownBlock ≠ v.ownBlock
/-- The parts so far, in the box B + 3; their memory lies behind the six boxes. -/
def PartsAt (B TO TI : Nat) (gs : List (List Int)) (W : World) : Prop := ∃ (gv : Value) (vs : List Value), (W.cell? ⟨B + 3, 0, none⟩ = some gv ∧ W.frozen? ⟨B + 3, 0, none⟩ = false) ∧ W.ownsRow (B + 6) TO 1 gv gs.length vs ∧ RowsIn (B + 6) TI W vs gs ∧ Apart vs ∧ B + 6 ≤ W.heap.size
theorem PartsAt.keep {B TO TI : Nat} {gs : List (List Int)} {W W' : World} (h : PartsAt B TO TI gs W) (ha : Above B W W') : PartsAt B TO TI gs W' := by
  obtain ⟨gv, vs, ⟨c1, c2⟩, ho, hr, hA, hs⟩ := h
  exact ⟨gv, vs, ⟨ha.cell (by omega) c1, ha.free (by omega) c1 c2⟩, owns_above ho (by omega) ha, fun k v g h1 h2 => owns_above (hr k v g h1 h2) (by omega) ha, hA, by have := ha.size; omega⟩
/-- The five other boxes. -/
def BoxesAt (B : Nat) (a0 a1 a2 a4 a5 : Value) (W : World) : Prop := W.cell? ⟨B, 0, none⟩ = some a0 ∧ W.cell? ⟨B + 1, 0, none⟩ = some a1 ∧ W.cell? ⟨B + 2, 0, none⟩ = some a2 ∧ W.cell? ⟨B + 4, 0, none⟩ = some a4 ∧ W.cell? ⟨B + 5, 0, none⟩ = some a5
theorem BoxesAt.keep {B : Nat} {a0 a1 a2 a4 a5 : Value} {W W' : World} (h : BoxesAt B a0 a1 a2 a4 a5 W) (hb : ∀ b, B ≤ b → b < B + 6 → b ≠ B + 3 → W'.heap[b]? = W.heap[b]?) : BoxesAt B a0 a1 a2 a4 a5 W' := by
  obtain ⟨h0, h1, h2, h4, h5⟩ := h
  have key : ∀ {b : Nat} {v : Value}, B ≤ b → b < B + 6 → b ≠ B + 3 → W.cell? ⟨b, 0, none⟩ = some v → W'.cell? ⟨b, 0, none⟩ = some v := fun h1 h2 h3 h4 => (World.cell?_of_block (a := ⟨_, 0, none⟩) (hb _ h1 h2 h3)).trans h4
  exact ⟨key (by omega) (by omega) (by omega) h0, key (by omega) (by omega) (by omega) h1, key (by omega) (by omega) (by omega) h2, key (by omega) (by omega) (by omega) h4, key (by omega) (by omega) (by omega) h5⟩
theorem BoxesAt.above {B : Nat} {a0 a1 a2 a4 a5 : Value} {W W' : World} (h : BoxesAt B a0 a1 a2 a4 a5 W) (hs : B + 6 ≤ W.heap.size) (ha : Above B W W') : BoxesAt B a0 a1 a2 a4 a5 W' := h.keep fun b h1 h2 _ => ha.block b h1 (by omega)
theorem BoxesAt.below {B : Nat} {a0 a1 a2 a4 a5 : Value} {W W' : World} (h : BoxesAt B a0 a1 a2 a4 a5 W) (hb : Below (B + 6) W W') : BoxesAt B a0 a1 a2 a4 a5 W' := h.keep fun b h1 h2 _ => hb.block b h2
theorem BoxesAt.set {B : Nat} {a0 a1 a2 a4 a5 v : Value} {W : World} (h : BoxesAt B a0 a1 a2 a4 a5 W) : BoxesAt B a0 a1 a2 a4 a5 (W.setCell ⟨B + 3, 0, none⟩ v) := h.keep fun b h1 h2 h3 => Below.heap_setCell _ _ _ _ h3
/-- What is there behind an append to the part k, ahead of its store. -/
theorem PartsAt.push {B TO TI i k : Nat} (hT : TO ≠ TI) {gs : List (List Int)} {g : List Int} {W w2 w3 : World} {v v' : Value} {vs : List Value} {gb cap : Nat} (hG : Good (i + 1) (gs.set k (g ++ [(i : Int)]))) (hg : gs[k]? = some g) (hv : vs[k]? = some v)
    (c8 : W.cell? ⟨B + 3, 0, none⟩ = some (.slice (some ⟨gb, 0, none⟩) gs.length cap) ∧ W.frozen? ⟨B + 3, 0, none⟩ = false) (ho : W.ownsRow (B + 6) TO 1 (.slice (some ⟨gb, 0, none⟩) gs.length cap) gs.length vs) (hr : RowsIn (B + 6) TI W vs gs) (hA : Apart vs) (hsz : B + 6 ≤ W.heap.size)
    (hb : Below W.heap.size W w2) (hg3 : w2.grownBy w3 v.ownBlock) (ho3 : w3.ownsRow (B + 6) TI 1 v' (g.length + 1) (g.map (Value.int .i64) ++ [.int .i64 (i : Int)])) :
    (w3.cell? ⟨gb, k, none⟩ = some v ∧ w3.frozen? ⟨gb, k, none⟩ = false) ∧ PartsAt B TO TI (gs.set k (g ++ [(i : Int)])) (w3.setCell ⟨gb, k, none⟩ v') ∧ Below (B + 6) W (w3.setCell ⟨gb, k, none⟩ v') := by
  have hk : k < gs.length := (List.getElem?_eq_some_iff.1 hg).1
  have hrow := hr k v g hv hg
  have ho2 := owns_below ho hb
  have hrow2 := owns_below hrow hb
  have hgb : B + 6 ≤ gb := own_ge ho gb rfl
  have a1 : (Value.slice (some ⟨gb, 0, none⟩) gs.length cap).ownBlock = none ∨ (Value.slice (some ⟨gb, 0, none⟩) gs.length cap).ownBlock ≠ v.ownBlock := apart_types ho2 hrow2 hT
  have ho4 : w3.ownsRow (B + 6) TO 1 (.slice (some ⟨gb, 0, none⟩) gs.length cap) gs.length vs := ho2.kept hg3 a1
  have hbw : Below (B + 6) W w3 := (hb.mono hsz).grown hg3 (by have := hb.size; omega) (own_ge hrow)
  have a2 : some gb ≠ v.ownBlock := by rcases a1 with h | h; cases h; exact h
  have hcell : w3.cell? ⟨gb, k, none⟩ = some v := by
    have h1 := ho4.cells (g := gb) rfl k v hv
    rw [Go.WideShapes.add_plain, Nat.zero_add] at h1
    exact h1
  have hvl : k < vs.length := (List.getElem?_eq_some_iff.1 hv).1
  have hts : ∀ {u : Value} {n : Nat} {xs : List Value}, w3.ownsRow (B + 6) TI 1 u n xs → u.ownBlock = none ∨ u.ownBlock ≠ some gb := fun h => apart_types h ho4 (Ne.symm hT)
  have hrj : ∀ (j : Nat) (u : Value) (g' : List Int), j ≠ k → vs[j]? = some u → gs[j]? = some g' → w3.ownsRow (B + 6) TI 1 u g'.length (g'.map (Value.int .i64)) := fun j u g' e hu hg' =>
    (owns_below (hr j u g' hu hg') hb).kept hg3 (hA j k u v e hu hv)
  have hkey : ∀ (j : Nat) (u : Value), j ≠ k → vs[j]? = some u → (v'.ownBlock = none ∨ v'.ownBlock ≠ u.ownBlock) ∧ (u.ownBlock = none ∨ u.ownBlock ≠ v'.ownBlock) := fun j u e hu => by
    have hjl : j < gs.length := by have h1 := ho.1; have h2 := (List.getElem?_eq_some_iff.1 hu).1; omega
    have hg' : gs[j]? = some gs[j] := List.getElem?_eq_getElem hjl
    have hj := hrj j u _ e hu hg'
    obtain ⟨x, hx⟩ := hG.one j gs[j] (by rw [List.getElem?_set_ne (Ne.symm e)]; exact hg')
    obtain ⟨y, hy⟩ := hG.one k (g ++ [(i : Int)]) (List.getElem?_set_self hk)
    have hxy := hG.apart j k gs[j] (g ++ [(i : Int)]) x y e (by rw [List.getElem?_set_ne (Ne.symm e)]; exact hg') (List.getElem?_set_self hk) hx hy
    have h1 : (gs[j].map (Value.int .i64))[0]? = some (.int .i64 x) := by rw [List.getElem?_map, hx]; rfl
    have h2 : (g.map (Value.int .i64) ++ [.int .i64 (i : Int)])[0]? = some (.int .i64 y) := by
      have h3 : ((g ++ [(i : Int)]).map (Value.int .i64))[0]? = some (.int .i64 y) := by rw [List.getElem?_map, hy]; rfl
      simpa using h3
    exact ⟨apart_heads ho3 hj h2 h1 (fun h => hxy (by injection h with _ h; exact h.symm)), apart_heads hj ho3 h1 h2 (fun h => hxy (by injection h))⟩
  refine ⟨⟨hcell, owns_frozen ho4 rfl k⟩, ⟨.slice (some ⟨gb, 0, none⟩) gs.length cap, vs.set k v', ⟨?_, ?_⟩, ?_, ?_, ?_, ?_⟩, hbw.setCell (p := ⟨gb, k, none⟩) hgb v'⟩
  · exact setc_block ((hbw.cell (p := ⟨B + 3, 0, none⟩) (by simp)).trans c8.1) (by omega)
  · exact set_free ((hbw.cell (p := ⟨B + 3, 0, none⟩) (by simp)).trans c8.1) ((hbw.frozen (p := ⟨B + 3, 0, none⟩) (by simp)).trans c8.2)
  · rw [List.length_set]; exact row_set ho4 hk
  · intro j u g' hu hg'
    by_cases e : j = k
    · subst e
      rw [List.getElem?_set_self hvl] at hu
      rw [List.getElem?_set_self hk] at hg'
      obtain rfl : v' = u := by simpa using hu
      obtain rfl : g ++ [(i : Int)] = g' := by simpa using hg'
      have h1 := set_own (o := j) (u := v') ho3 (hts ho3)
      simpa using h1
    · rw [List.getElem?_set_ne (Ne.symm e)] at hu hg'
      have h3 := hrj j u g' e hu hg'
      exact set_own h3 (hts h3)
  · intro j l u x hne hu hx
    by_cases e : j = k
    · subst e
      rw [List.getElem?_set_self hvl] at hu
      rw [List.getElem?_set_ne hne] at hx
      obtain rfl : v' = u := by simpa using hu
      exact (hkey l x (Ne.symm hne) hx).1
    · rw [List.getElem?_set_ne (Ne.symm e)] at hu
      by_cases e2 : l = k
      · subst e2
        rw [List.getElem?_set_self hvl] at hx
        obtain rfl : v' = x := by simpa using hx
        exact (hkey j u e hu).2
      · rw [List.getElem?_set_ne (Ne.symm e2)] at hx
        exact hA j l u x hne hu hx
  · have := hbw.size; show B + 6 ≤ (w3.setCell _ _).heap.size; simp; omega
/-- The part k is cut back to g. -/
theorem PartsAt.pop {B TO TI i k : Nat} (hT : TO ≠ TI) {gs : List (List Int)} {g : List Int} {W : World} {gb gcap b cap n : Nat} {vs : List Value} (hgs : gs[k]? = some g) (hn : gs.length = n)
    (c8 : W.cell? ⟨B + 3, 0, none⟩ = some (.slice (some ⟨gb, 0, none⟩) n gcap) ∧ W.frozen? ⟨B + 3, 0, none⟩ = false) (ho : W.ownsRow (B + 6) TO 1 (.slice (some ⟨gb, 0, none⟩) n gcap) n vs) (hr : RowsIn (B + 6) TI W vs (gs.set k (g ++ [(i : Int)]))) (hA : Apart vs) (hsz : B + 6 ≤ W.heap.size)
    (hv : vs[k]? = some (.slice (some ⟨b, 0, none⟩) (g.length + 1) cap)) :
    PartsAt B TO TI gs (W.setCell ⟨gb, k, none⟩ (.slice (some ⟨b, 0, none⟩) g.length cap)) ∧ Below (B + 6) W (W.setCell ⟨gb, k, none⟩ (.slice (some ⟨b, 0, none⟩) g.length cap)) := by
  subst hn
  have hk : k < gs.length := (List.getElem?_eq_some_iff.1 hgs).1
  have hvl : k < vs.length := (List.getElem?_eq_some_iff.1 hv).1
  have hgb : B + 6 ≤ gb := own_ge ho gb rfl
  have hts : ∀ {u : Value} {n : Nat} {xs : List Value}, W.ownsRow (B + 6) TI 1 u n xs → u.ownBlock = none ∨ u.ownBlock ≠ some gb := fun h => apart_types h ho (Ne.symm hT)
  refine ⟨⟨.slice (some ⟨gb, 0, none⟩) gs.length gcap, vs.set k (.slice (some ⟨b, 0, none⟩) g.length cap), ⟨setc_block c8.1 (by omega), set_free c8.1 c8.2⟩, row_set ho hk, ?_, ?_, by simpa using hsz⟩, (Below.refl _ _).setCell (p := ⟨gb, k, none⟩) hgb _⟩
  · intro j u g' hu hg'
    by_cases e : j = k
    · subst e
      rw [List.getElem?_set_self hvl] at hu
      rw [hgs] at hg'
      obtain rfl : Value.slice (some ⟨b, 0, none⟩) g.length cap = u := by simpa using hu
      obtain rfl : g = g' := by simpa using hg'
      have h1 := hr j _ _ hv (List.getElem?_set_self hk)
      rw [List.length_append, List.length_singleton] at h1
      have h2 := row_take (m := g.length) h1 (by omega)
      rw [List.map_append, List.take_append_of_le_length (by simp), List.take_of_length_le (by simp)] at h2
      exact set_own h2 (hts h2)
    · rw [List.getElem?_set_ne (Ne.symm e)] at hu
      have h1 := hr j u g' hu (by rw [List.getElem?_set_ne (Ne.symm e)]; exact hg')
      exact set_own h1 (hts h1)
  · have blk : ∀ (j : Nat) (u : Value), (vs.set k (.slice (some ⟨b, 0, none⟩) g.length cap))[j]? = some u → ∃ u0, vs[j]? = some u0 ∧ u0.ownBlock = u.ownBlock := fun j u hu => by
      by_cases e : j = k
      · subst e
        rw [List.getElem?_set_self hvl] at hu
        injection hu with hu
        subst hu
        exact ⟨_, hv, rfl⟩
      · rw [List.getElem?_set_ne (Ne.symm e)] at hu
        exact ⟨u, hu, rfl⟩
    intro j l u x hne hu hx
    obtain ⟨u0, h1, h2⟩ := blk j u hu
    obtain ⟨x0, h3, h4⟩ := blk l x hx
    rw [← h2, ← h4]
    exact hA j l u0 x0 hne h1 h3
/-- A new empty part. -/
theorem PartsAt.grow {B TO TI n : Nat} {gs : List (List Int)} {W w2 w3 : World} {gv gv' : Value} {vs : List Value} (hT : TO ≠ TI) (hn : gs.length = n)
    (c8 : W.cell? ⟨B + 3, 0, none⟩ = some gv ∧ W.frozen? ⟨B + 3, 0, none⟩ = false) (ho : W.ownsRow (B + 6) TO 1 gv n vs) (hr : RowsIn (B + 6) TI W vs gs) (hA : Apart vs) (hsz : B + 6 ≤ W.heap.size)
    (hb : Below W.heap.size W w2) (hg3 : w2.grownBy w3 gv.ownBlock) (ho3 : w3.ownsRow (B + 6) TO 1 gv' (n + 1) (vs ++ [.slice none 0 0])) :
    (w3.cell? ⟨B + 3, 0, none⟩ = some gv ∧ w3.frozen? ⟨B + 3, 0, none⟩ = false) ∧ PartsAt B TO TI (gs ++ [[]]) (w3.setCell ⟨B + 3, 0, none⟩ gv') ∧ Below (B + 6) W w3 := by
  subst hn
  have hbw : Below (B + 6) W w3 := (hb.mono hsz).grown hg3 (by have := hb.size; omega) (own_ge ho)
  have hG8 : w3.cell? ⟨B + 3, 0, none⟩ = some gv ∧ w3.frozen? ⟨B + 3, 0, none⟩ = false := ⟨(hbw.cell (p := ⟨B + 3, 0, none⟩) (by simp)).trans c8.1, (hbw.frozen (p := ⟨B + 3, 0, none⟩) (by simp)).trans c8.2⟩
  have far : ∀ {T n : Nat} {v : Value} {xs : List Value}, w3.ownsRow (B + 6) T 1 v n xs → v.ownBlock = none ∨ v.ownBlock ≠ some (B + 3) := fun h => .inr fun e => by have := own_ge h _ e; omega
  have hvl : vs.length = gs.length := by have := ho.1; omega
  refine ⟨hG8, ⟨gv', vs ++ [.slice none 0 0], ⟨setc_same hG8.1, set_free hG8.1 hG8.2⟩, ?_, ?_, ?_, ?_⟩, hbw⟩
  · rw [List.length_append, List.length_singleton]; exact set_own ho3 (far ho3)
  · intro k v g hv hg
    rcases Nat.lt_or_ge k gs.length with h1 | h1
    · rw [List.getElem?_append_left (by omega)] at hv
      rw [List.getElem?_append_left h1] at hg
      have h2 := owns_below (hr k v g hv hg) hb
      have h3 := h2.kept hg3 (apart_types h2 (owns_below ho hb) (Ne.symm hT))
      exact set_own h3 (far h3)
    · rw [List.getElem?_append_right (by omega), hvl] at hv
      rw [List.getElem?_append_right h1] at hg
      have h4 := (List.getElem?_eq_some_iff.1 hg).1
      simp at h4
      have e : k = gs.length := by omega
      subst e
      simp at hv hg
      subst hv; subst hg
      exact World.ownsRow_nil _ _ _ _
  · intro j k u v hne hu hv
    rcases Nat.lt_or_ge j vs.length with h1 | h1
    · rw [List.getElem?_append_left h1] at hu
      rcases Nat.lt_or_ge k vs.length with h2 | h2
      · rw [List.getElem?_append_left h2] at hv
        exact hA j k u v hne hu hv
      · rw [List.getElem?_append_right h2] at hv
        have h4 := (List.getElem?_eq_some_iff.1 hv).1
        simp at h4
        rw [show k - vs.length = 0 by omega] at hv
        simp at hv
        subst hv
        cases hob : u.ownBlock with
        | none => exact .inl rfl
        | some b => exact .inr (by simp [Value.ownBlock])
    · rw [List.getElem?_append_right h1] at hu
      have h4 := (List.getElem?_eq_some_iff.1 hu).1
      simp at h4
      rw [show j - vs.length = 0 by omega] at hu
      simp at hu
      subst hu
      exact .inl rfl
  · have := hbw.size; show B + 6 ≤ (w3.setCell _ _).heap.size; simp; omega
/-- The last part is taken away. -/
theorem PartsAt.shrink {B TO TI n gb cap : Nat} {gs : List (List Int)} {g : List Int} {W : World} {vs : List Value} (hn : gs.length = n)
    (c8 : W.cell? ⟨B + 3, 0, none⟩ = some (.slice (some ⟨gb, 0, none⟩) (n + 1) cap) ∧ W.frozen? ⟨B + 3, 0, none⟩ = false) (ho : W.ownsRow (B + 6) TO 1 (.slice (some ⟨gb, 0, none⟩) (n + 1) cap) (n + 1) vs) (hr : RowsIn (B + 6) TI W vs (gs ++ [g])) (hA : Apart vs) (hsz : B + 6 ≤ W.heap.size) :
    PartsAt B TO TI gs (W.setCell ⟨B + 3, 0, none⟩ (.slice (some ⟨gb, 0, none⟩) n cap)) := by
  subst hn
  have far : ∀ {T n : Nat} {v : Value} {xs : List Value}, W.ownsRow (B + 6) T 1 v n xs → v.ownBlock = none ∨ v.ownBlock ≠ some (B + 3) := fun h => .inr fun e => by have := own_ge h _ e; omega
  have h1 := row_take (m := gs.length) ho (by omega)
  refine ⟨.slice (some ⟨gb, 0, none⟩) gs.length cap, vs.take gs.length, ⟨setc_same c8.1, set_free c8.1 c8.2⟩, set_own h1 (far h1), ?_, ?_, by simpa using hsz⟩
  · intro k v g' hv hg
    have hk : k < gs.length := (List.getElem?_eq_some_iff.1 hg).1
    rw [List.getElem?_take, if_pos hk] at hv
    have h2 := hr k v g' hv (by rw [List.getElem?_append_left hk]; exact hg)
    exact set_own h2 (far h2)
  · intro j k u v hne hu hv
    rw [List.getElem?_take] at hu hv
    split at hu
    · split at hv
      · exact hA j k u v hne hu hv
      · cases hv
    · cases hu
/-- What put answers: the parts, or that there are none, and the parts are as they were. -/
def PutsRes (B TO TI : Nat) (a0 a1 a2 a4 a5 : Value) (Q : World → Prop) (gs : List (List Int)) (r : Option (List (List Int))) (e : Ending) (w' : World) : Prop :=
  Q w' ∧ BoxesAt B a0 a1 a2 a4 a5 w' ∧ ((∃ rs, r = some rs ∧ e = .returned (.bool true) ∧ PartsAt B TO TI rs w') ∨ (r = none ∧ e = .returned (.bool false) ∧ PartsAt B TO TI gs w'))
theorem PutsRes.yes {B TO TI : Nat} {a0 a1 a2 a4 a5 : Value} {Q : World → Prop} {gs rs : List (List Int)} {r : Option (List (List Int))} {e : Ending} {w' : World} (hq : Q w') (hB : BoxesAt B a0 a1 a2 a4 a5 w') (hr : r = some rs) (he : e = .returned (.bool true)) (hP : PartsAt B TO TI rs w') : PutsRes B TO TI a0 a1 a2 a4 a5 Q gs r e w' := ⟨hq, hB, .inl ⟨rs, hr, he, hP⟩⟩
theorem PutsRes.no {B TO TI : Nat} {a0 a1 a2 a4 a5 : Value} {Q : World → Prop} {gs : List (List Int)} {r : Option (List (List Int))} {e : Ending} {w' : World} (hq : Q w') (hB : BoxesAt B a0 a1 a2 a4 a5 w') (hr : r = none) (he : e = .returned (.bool false)) (hP : PartsAt B TO TI gs w') : PutsRes B TO TI a0 a1 a2 a4 a5 Q gs r e w' := ⟨hq, hB, .inr ⟨hr, he, hP⟩⟩
theorem Above.trans {B : Nat} {a b c : World} (h : Above B a b) (k : Above B b c) : Above B a c :=
  ⟨Nat.le_trans h.size k.size, fun i h1 h2 => (k.block i h1 (Nat.lt_of_lt_of_le h2 h.size)).trans (h.block i h1 h2)⟩
theorem Above.mono {B B' : Nat} {a b : World} (h : Above B a b) (hB : B ≤ B') : Above B' a b := ⟨h.size, fun i h1 h2 => h.block i (by omega) h2⟩
/-- The rest of a region: a group of it, walked once. -/
theorem wpAny_Rs {P : Program} {Q : Exit → Act → World → Prop} {a : Act} {w0 w : World} {l : List Oper} {L : Array Bool} {n : Nat} (ps : List (Nat × (Value → World → Prop))) (hs : List Nat) (g : Nat) (hn : hs.length + g = n) (hkeep : ∀ x ∈ ps, Keeps x.2)
    (hB : (groupB .any l.toArray L hs && pairsB .any l.toArray ((ps.map (·.1)).contains ·) hs && plainsB l.toArray ((ps.map (·.1)).contains ·) hs) = true) (hw : Below w0.heap.size w0 w)
    (h : wpS P .any l.toArray w0 ((ps.map (·.1)).contains ·) (pOf ps) (fun Γ' a' => ∀ w', All w0 (pOf ps) Γ' w' → wpAny P .any l.toArray Q g (mark hs L) a' w') (numbered l.toArray hs) (fun _ => none) a) :
    wpAny P .any l.toArray Q n L a w := by
  subst hn
  refine wpAny_R (ps.map (·.1)) hs g (pOf_keeps hkeep) hB hw (wpR_of_wpS (fun k hk => ?_) h)
  simp only [groupB, Bool.and_eq_true] at hB
  obtain ⟨_, hmem, _⟩ := orderB_spec hB.1.1.2
  exact (hmem k hk).2.2
end Go.Pb.Sag

/- Lists of indices by group, as they are made: each in memory of its own. -/
namespace Go.Pb.Sag
open Go Go.Pb Go.Pb.Ware Go.RowKit
set_option linter.unusedVariables false
/-- Groups in memory of the call's own. -/
def GrpAt (lo TO TI : Nat) (gv : Value) (gs : List (List Int)) (W : World) : Prop := ∃ vs : List Value, W.ownsRow lo TO 1 gv gs.length vs ∧ RowsIn lo TI W vs gs ∧ Apart vs ∧ ∀ (k : Nat) (u : Value), vs[k]? = some u → gs[k]? = some [] → u.ownBlock = none
theorem GrpAt.push {lo TO TI i k n : Nat} (hT : TO ≠ TI) {gs : List (List Int)} {g : List Int} {W w2 w3 : World} {v v' : Value} {vs : List Value} {gb cap : Nat} (hn : gs.length = n) (hg : gs[k]? = some g) (hv : vs[k]? = some v)
    (hheads : ∀ (j : Nat) (g' : List Int) (x y : Int), j ≠ k → gs[j]? = some g' → g'[0]? = some x → (g ++ [(i : Int)])[0]? = some y → x ≠ y)
    (ho : W.ownsRow lo TO 1 (.slice (some ⟨gb, 0, none⟩) n cap) n vs) (hr : RowsIn lo TI W vs gs) (hA : Apart vs) (hE : ∀ (k : Nat) (u : Value), vs[k]? = some u → gs[k]? = some [] → u.ownBlock = none) (hsz : lo ≤ W.heap.size)
    (hb : Below W.heap.size W w2) (hg3 : w2.grownBy w3 v.ownBlock) (ho3 : w3.ownsRow lo TI 1 v' (g.length + 1) (g.map (Value.int .i64) ++ [.int .i64 (i : Int)])) :
    (w3.cell? ⟨gb, k, none⟩ = some v ∧ w3.frozen? ⟨gb, k, none⟩ = false) ∧ GrpAt lo TO TI (.slice (some ⟨gb, 0, none⟩) n cap) (gs.set k (g ++ [(i : Int)])) (w3.setCell ⟨gb, k, none⟩ v') ∧ Below lo W (w3.setCell ⟨gb, k, none⟩ v') := by
  subst hn
  have hk : k < gs.length := (List.getElem?_eq_some_iff.1 hg).1
  have hrow := hr k v g hv hg
  have ho2 := owns_below ho hb
  have hrow2 := owns_below hrow hb
  have hgb : lo ≤ gb := own_ge ho gb rfl
  have a1 : (Value.slice (some ⟨gb, 0, none⟩) gs.length cap).ownBlock = none ∨ (Value.slice (some ⟨gb, 0, none⟩) gs.length cap).ownBlock ≠ v.ownBlock := apart_types ho2 hrow2 hT
  have ho4 : w3.ownsRow lo TO 1 (.slice (some ⟨gb, 0, none⟩) gs.length cap) gs.length vs := ho2.kept hg3 a1
  have hbw : Below lo W w3 := (hb.mono hsz).grown hg3 (by have := hb.size; omega) (own_ge hrow)
  have hcell : w3.cell? ⟨gb, k, none⟩ = some v := by
    have h1 := ho4.cells (g := gb) rfl k v hv
    rw [Go.WideShapes.add_plain, Nat.zero_add] at h1
    exact h1
  have hvl : k < vs.length := (List.getElem?_eq_some_iff.1 hv).1
  have hts : ∀ {u : Value} {n : Nat} {xs : List Value}, w3.ownsRow lo TI 1 u n xs → u.ownBlock = none ∨ u.ownBlock ≠ some gb := fun h => apart_types h ho4 (Ne.symm hT)
  have hrj : ∀ (j : Nat) (u : Value) (g' : List Int), j ≠ k → vs[j]? = some u → gs[j]? = some g' → w3.ownsRow lo TI 1 u g'.length (g'.map (Value.int .i64)) := fun j u g' e hu hg' =>
    (owns_below (hr j u g' hu hg') hb).kept hg3 (hA j k u v e hu hv)
  have hvb : v'.ownBlock ≠ none := by
    obtain ⟨b, c, rfl, _⟩ := own_some ho3 (by omega)
    simp [Value.ownBlock]
  have hkey : ∀ (j : Nat) (u : Value), j ≠ k → vs[j]? = some u → (v'.ownBlock = none ∨ v'.ownBlock ≠ u.ownBlock) ∧ (u.ownBlock = none ∨ u.ownBlock ≠ v'.ownBlock) := fun j u e hu => by
    have hjl : j < gs.length := by have h1 := ho.1; have h2 := (List.getElem?_eq_some_iff.1 hu).1; omega
    have hg' : gs[j]? = some gs[j] := List.getElem?_eq_getElem hjl
    have hj := hrj j u _ e hu hg'
    cases hq : gs[j] with
    | nil =>
      have h0 := hE j u hu (by rw [hg', hq])
      exact ⟨.inr (by rw [h0]; exact hvb), .inl h0⟩
    | cons a l =>
      obtain ⟨y, hy⟩ : ∃ y, (g ++ [(i : Int)])[0]? = some y := ⟨_, List.getElem?_eq_getElem (by simp)⟩
      have hx : (gs[j])[0]? = some a := by rw [hq]; rfl
      have hxy := hheads j gs[j] a y e hg' hx hy
      have h1 : (gs[j].map (Value.int .i64))[0]? = some (.int .i64 a) := by rw [List.getElem?_map, hx]; rfl
      have h2 : (g.map (Value.int .i64) ++ [.int .i64 (i : Int)])[0]? = some (.int .i64 y) := by
        have h3 : ((g ++ [(i : Int)]).map (Value.int .i64))[0]? = some (.int .i64 y) := by rw [List.getElem?_map, hy]; rfl
        simpa using h3
      exact ⟨apart_heads ho3 hj h2 h1 (fun h => hxy (by injection h with _ h; exact h.symm)), apart_heads hj ho3 h1 h2 (fun h => hxy (by injection h))⟩
  refine ⟨⟨hcell, owns_frozen ho4 rfl k⟩, ⟨vs.set k v', ?_, ?_, ?_, ?_⟩, hbw.setCell (p := ⟨gb, k, none⟩) hgb v'⟩
  · rw [List.length_set]; exact row_set ho4 hk
  · intro j u g' hu hg'
    by_cases e : j = k
    · subst e
      rw [List.getElem?_set_self hvl] at hu
      rw [List.getElem?_set_self hk] at hg'
      obtain rfl : v' = u := by simpa using hu
      obtain rfl : g ++ [(i : Int)] = g' := by simpa using hg'
      have h1 := set_own (o := j) (u := v') ho3 (hts ho3)
      simpa using h1
    · rw [List.getElem?_set_ne (Ne.symm e)] at hu hg'
      have h3 := hrj j u g' e hu hg'
      exact set_own h3 (hts h3)
  · intro j l u x hne hu hx
    by_cases e : j = k
    · subst e
      rw [List.getElem?_set_self hvl] at hu
      rw [List.getElem?_set_ne hne] at hx
      obtain rfl : v' = u := by simpa using hu
      exact (hkey l x (Ne.symm hne) hx).1
    · rw [List.getElem?_set_ne (Ne.symm e)] at hu
      by_cases e2 : l = k
      · subst e2
        rw [List.getElem?_set_self hvl] at hx
        obtain rfl : v' = x := by simpa using hx
        exact (hkey j u e hu).2
      · rw [List.getElem?_set_ne (Ne.symm e2)] at hx
        exact hA j l u x hne hu hx
  · intro j u hu hg'
    by_cases e : j = k
    · subst e
      rw [List.getElem?_set_self hk] at hg'
      injection hg' with hg'
      simp at hg'
    · rw [List.getElem?_set_ne (Ne.symm e)] at hu hg'
      exact hE j u hu hg'
/-- So many empty groups. -/
theorem GrpAt.new {lo TO TI n B : Nat} {W : World} (h : W.ownsRow lo TO 1 (.slice (some ⟨B, 0, none⟩) n n) n (madeCells (Value.slice none 0 0).cells (n * 1)).toList) : GrpAt lo TO TI (.slice (some ⟨B, 0, none⟩) n n) (groupedL [] n) W := by
  have hnil : ∀ (k : Nat) (u : Value), (madeCells (Value.slice none 0 0).cells (n * 1)).toList[k]? = some u → u = .slice none 0 0 := by
    intro k u hu
    have hk : k < n := by have := (List.getElem?_eq_some_iff.1 hu).1; simpa [madeCells] using this
    rw [Array.getElem?_toList] at hu
    unfold madeCells at hu
    rw [Array.getElem?_map, Array.getElem?_range, if_pos (by omega)] at hu
    have h2 : (#[Value.slice none 0 0] : Array Value)[k % 1]! = u := by injection hu
    rw [Nat.mod_one] at h2
    exact h2.symm
  have hg : ∀ (k : Nat) (g : List Int), (groupedL [] n)[k]? = some g → g = [] := by
    intro k g h
    have hk : k < n := by have := (List.getElem?_eq_some_iff.1 h).1; rwa [grouped_len] at this
    rw [grouped_at hk] at h
    injection h with h
    exact h.symm
  refine ⟨_, by rw [grouped_len]; exact h, ?_, ?_, ?_⟩
  · intro k u g hu hg'
    rw [hnil k u hu, hg k g hg']
    exact World.ownsRow_nil _ _ _ _
  · intro j k u v _ hu _
    rw [hnil j u hu]
    exact .inl rfl
  · intro k u hu _
    rw [hnil k u hu]
    rfl
end Go.Pb.Sag

/- Slices read as the cells that they hold, whatever an element is. -/
namespace Go.Pb
open Go Go.RowKit
set_option linter.unusedVariables false
/-- The slice v has m elements of n cells each, which hold cs. -/
structure LAt (n : Nat) (w : World) (v : Value) (m : Nat) (cs : List Value) : Prop where
  len : cs.length = m * n
  one : ∀ u ∈ cs, u.oneCell' = true
  at' : (v = .slice none 0 0 ∧ m = 0) ∨ ∃ (a : Addr) (cap : Nat), v = .slice (some a) m cap ∧ m ≤ cap ∧ cap ≤ 9223372036854775807 ∧ ∀ j u, cs[j]? = some u → w.cell? (a.add j) = some u
theorem LAt.below {n m : Nat} {w w' : World} {v : Value} {cs : List Value} (h : LAt n w v m cs) (hb : Below w.heap.size w w') : LAt n w' v m cs :=
  ⟨h.len, h.one, by
    rcases h.at' with h1 | ⟨a, cap, h1, h2, h3, h4⟩
    · exact .inl h1
    · exact .inr ⟨a, cap, h1, h2, h3, fun j u hu => bkeep hb (h4 j u hu)⟩⟩
theorem LAt.shape {n m : Nat} {w : World} {v : Value} {cs : List Value} (h : LAt n w v m cs) : ∃ (a : Option Addr) (cap : Nat), v = .slice a m cap ∧ m ≤ cap ∧ cap ≤ 9223372036854775807 ∧ (a = none → m = 0 ∧ cap = 0) := by
  rcases h.at' with ⟨h1, h2⟩ | ⟨a, cap, h1, h2, h3, h4⟩
  · subst h2; exact ⟨none, 0, h1, Nat.le_refl _, by omega, fun _ => ⟨rfl, rfl⟩⟩
  · exact ⟨some a, cap, h1, h2, h3, fun e => by cases e⟩
theorem LAt.cells {n m cap : Nat} {w : World} {a : Addr} {cs : List Value} (h : LAt n w (.slice (some a) m cap) m cs) : ∀ j u, cs[j]? = some u → w.cell? (a.add j) = some u := by
  rcases h.at' with ⟨h1, _⟩ | ⟨a', cap', h1, _, _, h4⟩
  · cases h1
  · injection h1 with h1 _ _; injection h1 with h1; subst h1; exact h4
theorem LAt.nil {n cap : Nat} {w : World} {cs : List Value} {m : Nat} (h : LAt n w (.slice none m cap) m cs) : m = 0 ∧ cap = 0 ∧ cs = [] := by
  rcases h.at' with ⟨h1, h2⟩ | ⟨a', cap', h1, _, _, h4⟩
  · injection h1 with _ _ h3; subst h2; exact ⟨rfl, h3, List.length_eq_zero_iff.1 (by rw [h.len]; simp)⟩
  · injection h1 with h1 _ _; cases h1
theorem LAt.head {n m cap k : Nat} {w : World} {a : Addr} {cs : List Value} (h : LAt n w (.slice (some a) m cap) m cs) (hk : k ≤ m) : LAt n w (.slice (some a) k cap) k (cs.take (k * n)) := by
  obtain ⟨_, cap', e, h2, h3, _⟩ := h.shape
  injection e with _ _ e; subst e
  refine ⟨by rw [List.length_take, h.len]; exact Nat.min_eq_left (Nat.mul_le_mul_right n hk), fun u hu => h.one u (List.mem_of_mem_take hu), .inr ⟨a, cap, rfl, by omega, h3, fun j u hu => ?_⟩⟩
  rw [List.getElem?_take] at hu
  split at hu
  · exact h.cells j u hu
  · cases hu
theorem LAt.tail {n m cap k : Nat} {w : World} {a q : Addr} {cs : List Value} (h : LAt n w (.slice (some a) m cap) m cs) (hk : k ≤ m) (hq : k < m → q = a.add (k * n)) : LAt n w (.slice (some q) (m - k) (cap - k)) (m - k) (cs.drop (k * n)) := by
  obtain ⟨_, cap', e, h2, h3, _⟩ := h.shape
  injection e with _ _ e; subst e
  refine ⟨by rw [List.length_drop, h.len, Nat.sub_mul], fun u hu => h.one u (List.mem_of_mem_drop hu), .inr ⟨q, cap - k, rfl, by omega, by omega, fun j u hu => ?_⟩⟩
  have hkm : k < m := by
    rcases Nat.lt_or_ge k m with h5 | h5
    · exact h5
    · have h6 := (List.getElem?_eq_some_iff.1 hu).1
      rw [List.length_drop, h.len] at h6
      have := Nat.mul_le_mul_right n h5
      omega
  rw [hq hkm, Go.Deep.add_add]
  rw [List.getElem?_drop] at hu
  exact h.cells _ u hu
theorem drop_take_erase {n : Nat} {α : Type} {f : α → List Value} (hf : ∀ x, (f x).length = n) : ∀ {l : List α} {k : Nat}, (l.flatMap f).take (k * n) = (l.take k).flatMap f ∧ (l.flatMap f).drop (k * n) = (l.drop k).flatMap f
  | [], k => by simp
  | x :: l, 0 => by simp
  | x :: l, k + 1 => by
    obtain ⟨h1, h2⟩ := drop_take_erase hf (l := l) (k := k)
    rw [List.flatMap_cons, List.take_succ_cons, List.drop_succ_cons, List.flatMap_cons, Nat.succ_mul]
    have e : (f x).length ≤ k * n + n := by rw [hf]; omega
    refine ⟨?_, ?_⟩
    · rw [List.take_append, List.take_of_length_le e, hf, show k * n + n - n = k * n by omega, h1]
    · rw [List.drop_append, List.drop_of_length_le e, hf, show k * n + n - n = k * n by omega, h2, List.nil_append]
theorem flat_erase {n : Nat} {α : Type} {f : α → List Value} (hf : ∀ x, (f x).length = n) (l : List α) (k : Nat) : (l.flatMap f).take (k * n) ++ (l.flatMap f).drop ((k + 1) * n) = (l.eraseIdx k).flatMap f := by
  rw [(drop_take_erase hf).1, (drop_take_erase hf).2, ← List.flatMap_append, ← List.eraseIdx_eq_take_drop_succ]
end Go.Pb
namespace Go.Pb.Sag
open Go Go.Pb Go.Pb.Ware Go.RowKit
set_option linter.unusedVariables false
end Go.Pb.Sag

/- The first packings, as the reference lists them; appends of whatever elements. -/
namespace Go.Pb
set_option linter.unusedVariables false
open Go Go.RowKit
/-- An append to a slice of the call's own, whether the source is nil or not. -/
theorem wp_append_lat {P : Program} {o : Oper} {a : Act} {K : Act → World → Prop} {Q : Exit → Act → World → Prop} (w : World) (s x : Operand) (t : TypeId) (ho : o.op = .call { callee := .builtin .append, args := #[s, x], argTypes := #[t, t] })
    (base : Nat) (e : TypeId) (i : TypeInfo) (z : Value) (size bytes : Nat) (ht : P.underlying t = some (.slice e)) (hi : P.info? e = some i) (hz : i.zero = some z)
    (hsize : i.size = size) (hby : i.bytes = bytes) (hzs : z.cells.size = size) (hsz : 0 < size) (v : Value) (n : Nat) (xs : List Value) (hs : a.eval s = v) (hown : w.ownsRow base e size v n xs)
    (xv : Value) (m : Nat) (cs : List Value) (hx : a.eval x = xv) (hn : LAt size w xv m cs) (h63 : n + m ≤ maxLen) (hbytes : (n + m) * bytes ≤ 140737488355328) (hbase : base ≤ w.heap.size)
    (h : ∀ v' w', w'.ownsRow base e size v' (n + m) (xs ++ cs) → w.grownBy w' v.ownBlock → K (a.put o.dst v') w') : o.wp P a w K Q := by
  rcases hn.at' with ⟨rfl, rfl⟩ | ⟨ad, c, rfl, h2, h3, h4⟩
  · have hcs : cs = [] := List.length_eq_zero_iff.1 (by rw [hn.len]; simp)
    subst hcs
    have hr := run_append_owned_none (P := P) (w := w) base t o.type e i size ht hi v n xs hown
    have h5 := h v w (by simpa using hown) ⟨rfl, rfl, rfl, Nat.le_refl _, fun k _ _ => rfl⟩
    unfold Oper.wp execOp
    simp only [ho, resolve, invoke, builtin, Sem.run_bind, Sem.run_pure, Result.andThen_ok, List.map_toArray, List.map_cons, List.map_nil, hs, hx, hr]
    exact h5
  · exact wp_append_own w s x t ho base e i z size bytes ht hi hz hsize hby hzs hsz v n xs hs hown ad m c cs hx hn.len h4 hn.one h63 hbytes hbase fun v' w' h5 h6 _ => h v' w' h5 h6
theorem wpList_append_lat {P : Program} {w : World} {ops : Array Oper} {rest : List Oper} {o : Oper} {a : Act} {Q : Exit → Act → World → Prop} (hgd : o.guard = none) (s x : Operand) (t : TypeId)
    (ho : o.op = .call { callee := .builtin .append, args := #[s, x], argTypes := #[t, t] })
    (base : Nat) (e : TypeId) (i : TypeInfo) (z : Value) (size bytes : Nat) (ht : P.underlying t = some (.slice e)) (hi : P.info? e = some i) (hz : i.zero = some z)
    (hsize : i.size = size) (hby : i.bytes = bytes) (hzs : z.cells.size = size) (hsz : 0 < size) (v : Value) (n : Nat) (xs : List Value) (hs : a.eval s = v) (hown : w.ownsRow base e size v n xs)
    (xv : Value) (m : Nat) (cs : List Value) (hx : a.eval x = xv) (hn : LAt size w xv m cs) (h63 : n + m ≤ maxLen) (hbytes : (n + m) * bytes ≤ 140737488355328) (hbase : base ≤ w.heap.size)
    (h : ∀ v' w', w'.ownsRow base e size v' (n + m) (xs ++ cs) → w.grownBy w' v.ownBlock → wpList P ops Q rest (a.put o.dst v') w') : wpList P ops Q (o :: rest) a w :=
  wpList_plain hgd fun _ hK => wp_append_lat w s x t ho base e i z size bytes ht hi hz hsize hby hzs hsz v n xs hs hown xv m cs hx hn h63 hbytes hbase fun v' w' h2 h3 => hK _ _ (h v' w' h2 h3)
end Go.Pb
namespace Go.Pb.Sag
open Go Go.Pb Go.Pb.Ware Go.RowKit
set_option linter.unusedVariables false
/-- Rows of stands in memory of the call's own. -/
def RowsQ (lo TQ TS : Nat) (v : Value) (rows : List (List St)) (W : World) : Prop := ∃ us : List Value, W.ownsRow lo TQ 1 v rows.length us ∧ ∀ (k : Nat) (u : Value) (q : List St), us[k]? = some u → rows[k]? = some q → W.ownsRow lo TS 3 u q.length (q.flatMap cellsP)
theorem RowsQ.below {lo TQ TS : Nat} {v : Value} {rows : List (List St)} {W W' : World} (h : RowsQ lo TQ TS v rows W) (hb : Below W.heap.size W W') : RowsQ lo TQ TS v rows W' := by
  obtain ⟨us, h1, h2⟩ := h
  exact ⟨us, owns_below h1 hb, fun k u q h3 h4 => owns_below (h2 k u q h3 h4) hb⟩
theorem RowsQ.nil {lo TQ TS : Nat} {W : World} : RowsQ lo TQ TS (.slice none 0 0) [] W := ⟨[], World.ownsRow_nil _ _ _ _, fun k u q h => by simp at h⟩
theorem RowsQ.shape {lo TQ TS : Nat} {v : Value} {rows : List (List St)} {W : World} (h : RowsQ lo TQ TS v rows W) : ∃ (a : Option Addr) (cap : Nat), v = .slice a rows.length cap ∧ rows.length ≤ 9223372036854775807 := by
  obtain ⟨us, h1, _⟩ := h
  exact owns_shape h1
/-- Rows behind rows: the slice has grown by an append. -/
theorem RowsQ.append {lo TQ TS : Nat} (hT : TQ ≠ TS) {v v' : Value} {rows more : List (List St)} {us ms : List Value} {W w3 : World}
    (ho : W.ownsRow lo TQ 1 v rows.length us) (hr : ∀ (k : Nat) (u : Value) (q : List St), us[k]? = some u → rows[k]? = some q → W.ownsRow lo TS 3 u q.length (q.flatMap cellsP))
    (hm : ∀ (k : Nat) (u : Value) (q : List St), ms[k]? = some u → more[k]? = some q → W.ownsRow lo TS 3 u q.length (q.flatMap cellsP)) (hml : ms.length = more.length)
    (hg : W.grownBy w3 v.ownBlock) (ho3 : w3.ownsRow lo TQ 1 v' (rows.length + more.length) (us ++ ms)) : RowsQ lo TQ TS v' (rows ++ more) w3 := by
  have hul : us.length = rows.length := by have := ho.1; omega
  have kept : ∀ {u : Value} {q : List St}, W.ownsRow lo TS 3 u q.length (q.flatMap cellsP) → w3.ownsRow lo TS 3 u q.length (q.flatMap cellsP) := fun h => h.kept hg (apart_types h ho (Ne.symm hT))
  refine ⟨us ++ ms, by rw [List.length_append]; exact ho3, fun k u q hu hq => ?_⟩
  rcases Nat.lt_or_ge k rows.length with h | h
  · rw [List.getElem?_append_left (by omega)] at hu
    rw [List.getElem?_append_left h] at hq
    exact kept (hr k u q hu hq)
  · rw [List.getElem?_append_right (by omega), hul] at hu
    rw [List.getElem?_append_right h] at hq
    exact kept (hm (k - rows.length) u q hu hq)
/-- One row. -/
theorem RowsQ.one {lo TQ TS B : Nat} {u : Value} {q : List St} {W : World} (hB : W.heap.size = B) (hlo : lo ≤ B) (h : W.ownsRow lo TS 3 u q.length (q.flatMap cellsP)) : RowsQ lo TQ TS (.slice (some ⟨B, 0, none⟩) 1 1) [q] (W.alloc (.cells #[u] TQ)) := by
  subst hB
  refine ⟨[u], ⟨rfl, .inr ⟨W.heap.size, 1, #[u], rfl, hlo, World.alloc_heap_new W _, Nat.le_refl _, by unfold maxLen; omega, rfl, rfl⟩⟩, fun k x y hx hy => ?_⟩
  match k with
  | 0 =>
    injection hx with hx; injection hy with hy
    subst hx; subst hy
    exact h.alloc _
  | k + 1 => simp at hx
end Go.Pb.Sag

/- The reference's rule. -/
namespace Go.Proofs.Ytnchhleokdkejaa
open Go.RowKit Go.Pb Go.Pb.Ware Go.Pb.Sag
set_option linter.unusedVariables false
set_option linter.unusedSimpArgs false

open Go.Proofs Go.Pb.Bung
def castN (t : List Nat) : List Int := t.map fun n : Nat => (n : Int)
theorem castN_len (t : List Nat) : (castN t).length = t.length := by unfold castN; rw [List.length_map]
end Go.Proofs.Ytnchhleokdkejaa

/- Indices in an order that numbers choose. -/
namespace Go.Proofs.Ytnchhleokdkejaa
open Go.RowKit Go.Pb Go.Pb.Ware Go.Pb.Sag
set_option linter.unusedVariables false
set_option linter.unusedSimpArgs false

open Go.Proofs Go.Pb.Bung
def cellsZ (z : Int) : List Value := [.int .i64 z]
theorem lenZ (z : Int) : (cellsZ z).length = 1 := rfl
theorem flatZ (zs : List Int) : zs.flatMap cellsZ = zs.map (Value.int .i64) := by
  induction zs with
  | nil => rfl
  | cons z zs ih => rw [List.flatMap_cons, ih]; rfl
theorem numsZ_lat {w : World} {a : Addr} {cap : Nat} {zs : List Int} (h : NumsAt w (.slice (some a) zs.length cap) zs) : LAt 1 w (.slice (some a) zs.length cap) zs.length (zs.flatMap cellsZ) := by
  obtain ⟨_, _, e, h2, h3⟩ := h.shape
  injection e with _ _ e; subst e
  rw [flatZ]
  refine ⟨by rw [List.length_map, Nat.mul_one], fun u hu => (by obtain ⟨z, _, rfl⟩ := List.mem_map.1 hu; rfl), .inr ⟨a, cap, rfl, h2, h3, fun j u hu => ?_⟩⟩
  rw [List.getElem?_map] at hu
  obtain ⟨hj, hz⟩ : ∃ hj : j < zs.length, u = .int .i64 zs[j] := by
    rcases Nat.lt_or_ge j zs.length with hj | hj
    · rw [List.getElem?_eq_getElem hj] at hu; injection hu with hu; exact ⟨hj, hu.symm⟩
    · rw [List.getElem?_eq_none hj] at hu; cases hu
  obtain ⟨a', e1, e2⟩ := h.elem hj
  injection e1 with e1; subst e1; rw [hz]; exact e2
/-- A list that is read, and an own one beside it, in another block. -/
structure LO (T lo : Nat) (W : World) (lv ov : Value) (L O : List Int) : Prop where
  nums : NumsAt W lv L
  own : W.ownsRow lo T 1 ov O.length (O.map (Value.int .i64))
  apart : L ≠ [] → ∀ b, ov.ownBlock = some b → lv.ownBlock ≠ some b
theorem LO.next {T lo : Nat} {W W' : World} {lv ov : Value} {L O : List Int} (h : LO T lo W lv ov L O) (hb : Below W.heap.size W W') : LO T lo W' lv ov L O := ⟨h.nums.below hb, owns_below h.own hb, h.apart⟩
theorem block_add (a : Addr) (k : Nat) : (a.add k).block = a.block := by unfold Addr.add; split <;> rfl
theorem LO.push {T lo : Nat} {W W' : World} {lv ov ov' : Value} {L O : List Int} {z : Int} (h : LO T lo W lv ov L O) (hg : W.grownBy W' ov.ownBlock) (ho : W'.ownsRow lo T 1 ov' (O.length + 1) (O.map (Value.int .i64) ++ [.int .i64 z])) (hv : ov'.ownBlock = ov.ownBlock ∨ ov'.ownBlock = some W.heap.size) : LO T lo W' lv ov' L (O ++ [z]) := by
  refine ⟨?_, by rw [List.length_append, List.map_append]; exact ho, fun hL b hb hh => ?_⟩
  · rcases h.nums with h1 | ⟨a, cap, h1, h2, h3, h4⟩
    · exact .inl h1
    · refine .inr ⟨a, cap, h1, h2, h3, fun k z hz => ⟨hg.cell (h4 k z hz).1 ?_, (h4 k z hz).2⟩⟩
      rw [block_add]
      intro e
      have hL : L ≠ [] := by rintro rfl; simp at hz
      exact h.apart hL _ e.symm (by rw [h1]; rfl)
  · rcases hv with e | e
    · exact h.apart hL b (by rw [← e]; exact hb) hh
    · rw [e] at hb
      injection hb with hb
      rcases h.nums with ⟨_, h1⟩ | ⟨a, cap, h1, h2, h3, h4⟩
      · exact hL h1
      · rw [h1] at hh
        injection hh with hh
        obtain ⟨x, xs, rfl⟩ := List.exists_cons_of_ne_nil hL
        have h5 := World.block_lt_of_cell? W _ (h4 0 x rfl).1
        rw [block_add] at h5
        omega
theorem LO.left {T T2 lo : Nat} {W W' : World} {lv lv' ov : Value} {L L' O : List Int} {n : Nat} {cs : List Value} (h : LO T lo W lv ov L O) (hb : Below W.heap.size W W') (hn : NumsAt W' lv' L') (ho : W'.ownsRow W.heap.size T2 1 lv' n cs) : LO T lo W' lv' ov L' O := by
  refine ⟨hn, owns_below h.own hb, fun _ b hb2 hh => ?_⟩
  have h1 := (World.ownsRow.lt h.own b hb2).2
  have h2 := (World.ownsRow.lt ho b hh).1
  omega
theorem wpList_append_at {P : Program} {w : World} {ops : Array Oper} {rest : List Oper} {o : Oper} {a : Act} {Q : Exit → Act → World → Prop} (hgd : o.guard = none) (s x : Operand) (t : TypeId) (ho : o.op = .call { callee := .builtin .append, args := #[s, x], argTypes := #[t, t] })
    (base : Nat) (e : TypeId) (i : TypeInfo) (z : Value) (size bytes : Nat) (ht : P.underlying t = some (.slice e)) (hi : P.info? e = some i) (hz : i.zero = some z) (hsize : i.size = size) (hby : i.bytes = bytes) (hzs : z.cells.size = size) (hsz : 0 < size)
    (v : Value) (n : Nat) (xs : List Value) (hs : a.eval s = v) (hown : w.ownsRow base e size v n xs) (ad : Addr) (m c : Nat) (news : List Value) (hx : a.eval x = .slice (some ad) m c) (hl : news.length = m * size) (hnews : ∀ j u, news[j]? = some u → w.cell? (ad.add j) = some u) (h1 : ∀ u ∈ news, u.oneCell' = true)
    (h63 : n + m ≤ maxLen) (hbytes : (n + m) * bytes ≤ 140737488355328) (hbase : base ≤ w.heap.size)
    (h : ∀ v' w', w'.ownsRow base e size v' (n + m) (xs ++ news) → w.grownBy w' v.ownBlock → (v'.ownBlock = v.ownBlock ∨ v'.ownBlock = some w.heap.size) → wpList P ops Q rest (a.put o.dst v') w') : wpList P ops Q (o :: rest) a w := by
  refine wpList_plain hgd fun K hK => ?_
  obtain ⟨v', w', hr, h2, h3, _, h5⟩ := run_append_own_at (P := P) w base t o.type e i z size bytes ht hi hz hsize hby hzs hsz v n xs hown ad m c news hl hnews h1 h63 hbytes hbase
  unfold Oper.wp execOp
  simp only [ho, resolve, invoke, builtin, Sem.run_bind, Sem.run_pure, Result.andThen_ok, List.map_toArray, List.map_cons, List.map_nil, hs, hx, hr]
  exact hK _ _ (h v' w' h2 h3 h5)
theorem perm_take {L : List Int} {c : Nat} (hc : c < L.length) : (L[c] :: L.eraseIdx c).Perm L := by
  rw [List.eraseIdx_eq_take_drop_succ]
  have h1 : L = L.take c ++ L[c] :: L.drop (c + 1) := by rw [← List.drop_eq_getElem_cons hc, List.take_append_drop]
  exact (List.perm_middle (l₁ := L.take c) (l₂ := L.drop (c + 1)) (a := L[c])).symm.trans (by rw [← h1])
theorem perm_step {L O X : List Int} {c : Nat} {x : Int} (h : (O ++ L).Perm X) (hc : c < L.length) (hx : L[c] = x) : ((O ++ [x]) ++ L.eraseIdx c).Perm X := by
  subst hx
  rw [List.append_assoc]
  exact ((perm_take hc).append_left O).trans h
theorem castN_snoc (k : Nat) : castN (List.range (k + 1)) = castN (List.range k) ++ [(k : Int)] := by unfold castN; rw [List.range_succ, List.map_append]; rfl
theorem range_in {n : Nat} {z : Int} (h : z ∈ castN (List.range n)) : 0 ≤ z ∧ z < (n : Int) := by
  unfold castN at h
  obtain ⟨i, hi, rfl⟩ := List.mem_map.1 h
  have := List.mem_range.1 hi
  omega
theorem range_apart (n : Nat) : (castN (List.range n)).Pairwise (· ≠ ·) := by
  unfold castN
  rw [List.pairwise_map]
  exact List.Pairwise.imp (fun {a b} h e => by have e2 : (a : Int) = (b : Int) := e; omega) (List.pairwise_lt_range (n := n))
theorem new_cellsZ (w : World) (z : Int) (ty n : Nat) (hn : w.heap.size = n) : ∀ j u, ([.int .i64 z] : List Value)[j]? = some u → (w.alloc (.cells #[.int .i64 z] ty)).cell? ((⟨n, 0, none⟩ : Addr).add j) = some u := by
  subst hn
  intro j u h
  match j, h with
  | 0, h => simp at h; subst h; simp [Addr.add, go_sem]
  | j + 1, h => simp at h

set_option maxRecDepth 100000 in
set_option maxHeartbeats 1000000 in
theorem rShuf_any {w : World} {v : Value} {zs : List Int} {n : Nat} (hp : NumsAt w v zs) (hn : n ≤ 30) :
    Calls Try.prog 71 #[.int .i64 (n : Int), v] w (fun e w' => ∃ (u : Value) (O : List Int), e = .returned u ∧ Below w.heap.size w w' ∧ O.Perm (castN (List.range n)) ∧ w'.ownsRow w.heap.size 3 1 u O.length (O.map (Value.int .i64))) := by
  obtain ⟨i1, hj, hy0, hy1, hy2⟩ := info_parts Try.infoIn
  obtain ⟨pa, pc, rfl, hp1, hp2⟩ := hp.shape
  have hpi : ∀ z ∈ zs, I64 z := hp.i64
  obtain ⟨m, hm⟩ : ∃ m, zs.length = m := ⟨_, rfl⟩
  have HM : Hid (zs.length = m) := hm
  have HPI : Hid (∀ z ∈ zs, I64 z) := hpi
  rw [hm] at hp hp1 ⊢
  clear hm hpi
  go_enter Try.func71, Try.ntmps71
  go_wp2_with fail
  go_loopg [5, 6] n (fun gk lv iv wr => ∃ k : Nat, k ≤ n ∧ gk = n - k ∧ iv = .int .i64 k ∧ wr.ownsRow w.heap.size 3 1 lv k ((castN (List.range k)).map (Value.int .i64)) ∧ Below w.heap.size w wr)
  case atStart => exact ⟨0, Nat.zero_le _, rfl, rfl, World.ownsRow_nil _ _ _ _, Below.refl _ _⟩
  case round =>
    obtain ⟨k, hk, hgk, rfl, ho, hB⟩ := hrel
    have HGK := hid hgk; clear hgk
    have hzr := hB.size
    obtain ⟨ua, uc, rfl, hul⟩ := owns_shape ho
    by_cases hlt : k < n
    · have hki : (k : Int) < (n : Int) := by omega
      go_wp2_with (at_builtin; go_must (refine wpList_append_own _ rfl _ _ 41 rfl w.heap.size 3 i1 (.int .i64 0) 1 8 Try.underlying41 hj hy0 hy1 hy2 rfl (by decide) _ _ _ rfl (ho.alloc _) ⟨wr.heap.size, 0, none⟩ 1 1 [.int .i64 (k : Int)] rfl rfl (new_cellsZ wr _ _ _ rfl) (fun u hu => by simp only [List.mem_cons, List.not_mem_nil, or_false] at hu; rcases hu with rfl; rfl) (by unfold maxLen; omega) (by omega) (by simp; omega) ?_; intro v' w4 ho4 hg4 hnil; replace hB := Pb.below_grown (hB.alloc (by omega) _) hg4 (ho.alloc _) (by simp; omega) (by omega); clear hg4 hnil ho))
      go_roundg (n - (k + 1))
      case measure => have h := HGK.out; omega
      case rel => exact ⟨k + 1, by omega, rfl, by go_num, by rw [castN_snoc, List.map_append]; exact ho4, hB⟩
    · obtain rfl : k = n := by omega
      clear HGK
      have hLO : LO 3 w.heap.size wr (.slice ua k uc) (.slice none 0 0) (castN (List.range k)) [] := ⟨numsAt_of_owns (fun z hz => by have := range_in hz; exact I64.mk (by omega) (by omega)) (by rw [castN_len, List.length_range]; exact ho), World.ownsRow_nil _ _ _ _, fun _ b h => by cases h⟩
      clear ho
      go_wp2_with fail
      go_loopg [5, 7, 8] k (fun gk lv ov iv wr => ∃ (j : Nat) (L O : List Int), j ≤ k ∧ gk = k - j ∧ iv = .int .i64 j ∧ O.length = j ∧ L.length + j = k ∧ Hid ((O ++ L).Perm (castN (List.range k))) ∧ LO 3 w.heap.size wr lv ov L O ∧ Below w.heap.size w wr)
      case atStart => exact ⟨0, _, [], Nat.zero_le _, rfl, rfl, rfl, by simp [castN], hid (List.Perm.refl _), hLO, hB⟩
      case round =>
        clear hLO hB hzr
        obtain ⟨j, L, O, hj2, hgj, rfl, hO, hL, HP, hLO, hB⟩ := hrel
        have HGJ := hid hgj; clear hgj
        obtain ⟨la, lc, rfl, hl1, hl2⟩ := hLO.nums.shape
        obtain ⟨oa, oc, rfl, -⟩ := owns_shape hLO.own
        obtain ⟨N, hN⟩ : ∃ N, L.length = N := ⟨_, rfl⟩
        have HN : Hid (L.length = N) := hN
        have HO : Hid (O.length = j) := hO
        rw [hN] at hLO hL hl1 ⊢
        rw [hO] at hLO ⊢
        clear hN hO
        have hzr := hB.size
        by_cases hlt : j < k
        · have hji : (j : Int) < (k : Int) := by omega
          have hN1 : 1 ≤ N := by omega
          go_upto_if 26 with fail
          go_cut [9] from 19 to 53 (fun kv wc => ∃ c : Nat, kv = .int .i64 c ∧ c < N ∧ wc = wr)
          case first =>
            by_cases hm0 : m = 0
            · have hmb : ¬ (0 : Int) < (m : Int) := by omega
              have HM0 := hid hm0; clear hm0
              go_wp2_with fail
              go_meet
              exact ⟨0, rfl, by omega, rfl⟩
            · have hmb : (0 : Int) < (m : Int) := by omega
              obtain ⟨q, hq⟩ : ∃ q, j % m = q := ⟨_, rfl⟩
              have hqm : q < m := by subst hq; exact Nat.mod_lt _ (by omega)
              obtain ⟨p', hpa, r0⟩ := (show NumsAt wr (.slice pa zs.length pc) zs by rw [HM.out]; exact hp.below hB).elem (k := q) (by rw [HM.out]; exact hqm)
              subst hpa
              obtain ⟨z, hz⟩ : ∃ z, zs[q]'(by rw [HM.out]; exact hqm) = z := ⟨_, rfl⟩
              rw [hz] at r0
              clear hz
              have hqi : (q : Int) < (m : Int) := by omega
              have hq0 : (0 : Int) ≤ (q : Int) := by omega
              have hmod : IntKind.i64.wrap ((j : Int).tmod (m : Int)) = (q : Int) := by rw [Int.tmod_eq_emod_of_nonneg (by omega), ← Int.natCast_emod, hq]; exact IntWalk.i64_in _ (by omega)
              have hmod2 : ((j : Int).tmod (m : Int)) = (q : Int) := by rw [Int.tmod_eq_emod_of_nonneg (by omega), ← Int.natCast_emod, hq]
              have hnz : ¬ (m : Int) = 0 := by omega
              have hnb : ((m : Int) == 0) = false := beq_eq_false_iff_ne.mpr (by omega)
              clear hq
              obtain ⟨c, hc⟩ : ∃ c : Int, z % (N : Int) = c := ⟨_, rfl⟩
              have hcb := mod_in hc (by omega)
              have HC : Hid _ := hid hc; clear hc
              obtain ⟨d, rfl⟩ : ∃ d : Nat, c = (d : Int) := ⟨c.toNat, by omega⟩
              go_wp2_with fail
              refine (modB HC.out (by omega) (by omega)).mono ?_
              rintro e wm ⟨rfl, rfl⟩
              go_wp2_with fail
              go_meet
              exact ⟨d, rfl, by omega, rfl⟩
          case rest =>
            obtain ⟨c, rfl, hcN, rfl⟩ := hcut
            obtain ⟨wr, hwr⟩ : ∃ v, v = wc := ⟨_, rfl⟩
            subst hwr
            obtain ⟨a', ha, r0⟩ := (show NumsAt wr (.slice la L.length lc) L by rw [HN.out]; exact hLO.nums).elem (k := c) (by rw [HN.out]; exact hcN)
            subst ha
            obtain ⟨x, hx⟩ : ∃ x, L[c]'(by rw [HN.out]; exact hcN) = x := ⟨_, rfl⟩
            rw [hx] at r0
            have HS : Hid (((O ++ [x]) ++ L.eraseIdx c).Perm (castN (List.range k))) := hid (perm_step HP.out (by rw [HN.out]; exact hcN) hx)
            clear hx
            have hci : (c : Int) < (N : Int) := by omega
            have hc0 : (0 : Int) ≤ (c : Int) := by omega
            go_upto_region 14 with (at_builtin; go_must (refine wpList_append_at rfl _ _ 41 rfl w.heap.size 3 i1 (.int .i64 0) 1 8 Try.underlying41 hj hy0 hy1 hy2 rfl (by decide) (.slice oa j oc) j _ rfl (by have h := (hLO.next (W' := wr.alloc (.cells #[.int .i64 x] 3)) ((Below.refl _ _).alloc (Nat.le_refl _) _)).own; rw [HO.out] at h; exact h) ⟨wr.heap.size, 0, none⟩ 1 1 [.int .i64 x] rfl rfl (new_cellsZ wr _ _ _ rfl) (fun u hu => by simp only [List.mem_cons, List.not_mem_nil, or_false] at hu; rcases hu with rfl; rfl) (by unfold maxLen; omega) (by omega) (by simp; omega) ?_; intro v' v4 ho4 hg4 hat4; have hB4 := Pb.below_grown (hB.alloc (by omega) _) hg4 (by have h := (hLO.next (W' := wr.alloc (.cells #[.int .i64 x] 3)) ((Below.refl _ _).alloc (Nat.le_refl _) _)).own; rw [HO.out] at h; exact h) (by simp; omega) (by omega); have hLO4 := LO.push (z := x) (hLO.next (W' := wr.alloc (.cells #[.int .i64 x] 3)) ((Below.refl _ _).alloc (Nat.le_refl _) _)) hg4 (by rw [HO.out]; exact ho4) hat4; obtain ⟨xo, xoc, rfl, -⟩ := owns_shape ho4; clear hg4 hat4 ho4 hLO hB))
            have hlat : LAt 1 v4 (.slice (some a') N lc) N (L.flatMap cellsZ) := by have h := numsZ_lat (show NumsAt v4 (.slice (some a') L.length lc) L by rw [HN.out]; exact hLO4.nums); rwa [HN.out] at h
            have hle : c + (N - (c + 1)) = (L.eraseIdx c).length := by rw [List.length_eraseIdx_of_lt (by rw [HN.out]; exact hcN), HN.out]; omega
            have hfe := flat_erase lenZ L c
            have HLE := hid hle; have HFE := hid hfe
            have HLI : Hid (∀ z ∈ L.eraseIdx c, I64 z) := hid fun z hz => hLO4.nums.i64 z (List.mem_of_mem_eraseIdx hz)
            clear hle hfe r0
            obtain ⟨ad, had⟩ : ∃ ad, (if lc = c + 1 then some a' else some (a'.add ((c + 1) * 1))) = some ad := by split <;> exact ⟨_, rfl⟩
            have hlt0 : LAt 1 v4 (.slice (some a') N lc) N (L.flatMap cellsZ) := hlat
            have hcap : N ≤ lc ∧ lc ≤ 9223372036854775807 := by obtain ⟨_, _, e, x, y, _⟩ := hlt0.shape; injection e with _ _ e3; subst e3; exact ⟨x, y⟩
            have hc3 : (c : Int) ≤ (lc : Int) := by omega
            have hc4 : ((c : Int) + 1) ≤ (lc : Int) := by omega
            have hs1 := hlt0.head (k := c) (by omega)
            have hs2 := hlt0.tail (k := c + 1) (q := ad) (by omega) (fun hlt => by rw [if_neg (by omega)] at had; injection had with had; exact had.symm)
            have HS1 := hid hs1; have HS2 := hid hs2; clear hs1 hs2 hlt0
            have had1 : (if lc = c + 1 then some a' else some (⟨a'.block, a'.off + (c + 1), none⟩ : Addr)) = some ad := by rw [← had]; split <;> simp [Addr.add]
            refine wp_region_F [5, 6, 7, 8] (by kernel_rfl) [(0, NewEmpty v4.heap.size 3), (4, fun v W9 => W9.ownsRow v4.heap.size 3 1 v c ((L.flatMap cellsZ).take (c * 1)))] [0, 1, 2, 3, 4] 2 (by kernel_rfl) rfl (by simp only [List.forall_mem_cons]; exact ⟨keeps_empty, keeps_owns, fun _ h => by cases h⟩) (by kernel_rfl) ?_
            refine ⟨_, _, rfl, .inl ⟨rfl, fun w => rfl⟩, ?_⟩
            refine ⟨_, _, rfl, .inl ⟨rfl, fun w => rfl⟩, ?_⟩
            refine ⟨_, .int .i64 ((c : Int) + 1), rfl, .inl ⟨rfl, fun w => by go_simp; exact IntWalk.i64_in _ (by omega)⟩, ?_⟩
            refine ⟨_, .slice (some ad) (N - (c + 1)) (lc - (c + 1)), rfl, .inl ⟨rfl, fun w => by go_simp; intro h; exfalso; have := h (by omega); omega⟩, ?_⟩
            show wpS _ _ _ _ _ _ _ (numbered _ _) _ _
            (try simp only [Act.put, List.getElem_toArray, List.getElem_cons_succ, List.getElem_cons_zero, List.setIfInBounds_toArray, List.set_cons_succ, List.set_cons_zero])
            simp only [numbered, List.filterMap_cons, List.filterMap_nil, List.getElem?_toArray, List.getElem?_cons_succ, List.getElem?_cons_zero, Option.map_some]
            show wpS _ _ _ _ _ _ _ [(_, _), (_, _), (_, _), (_, _), (_, _)] _ _
            refine wpS_fresh rfl rfl (fun w' hb hF => ?_) ?_
            · change freshAt _ _ _ (NewEmpty v4.heap.size 3) _; unfold freshAt; go_simp; exact empty_of hb
            intro v W hv; simp only [pOf, List.lookup_cons, Nat.reduceBEq, beq_self_eq_true] at hv; have hv0 := hv; obtain ⟨B0, hB0, rfl, -⟩ := hv
            simp only [Act.put, List.setIfInBounds_toArray, List.set_cons_succ, List.set_cons_zero]
            (refine wpS_quiet rfl rfl ?_; intro K hK inst hx; go_big_quiet_op; (first | go_big_quiet_on | (refine ⟨_, fun _ => rfl, ?_⟩; go_big_quiet_on)); clear hx inst)
            (refine wpS_quiet rfl rfl ?_; intro K hK inst hx; go_big_quiet_op; (first | go_big_quiet_on | (refine ⟨_, fun _ => rfl, ?_⟩; go_big_quiet_on)); clear hx inst)
            (refine wpS_quiet rfl rfl ?_; intro K hK inst hx; go_big_quiet_op; (first | go_big_quiet_on | (refine ⟨_, fun _ => rfl, ?_⟩; go_big_quiet_on)); clear hx inst)
            refine wpS_fresh rfl rfl (fun w' hb hF => ?_) ?_
            · change freshAt _ _ _ (fun v W9 => W9.ownsRow v4.heap.size 3 1 v c ((L.flatMap cellsZ).take (c * 1))) _; have h0 : NewEmpty v4.heap.size 3 _ w' := hF 0 _ rfl (by kernel_rfl); exact fresh_append (.tmp 44) (.tmp 47) 41 rfl v4.heap.size 3 i1 (.int .i64 0) 1 8 Try.underlying41 hj hy0 hy1 hy2 rfl (by decide) (.slice (some ⟨B0, 0, none⟩) 0 0) rfl h0 a' c lc _ rfl HS1.out.len (fun j u h => bkeep hb (HS1.out.cells j u h)) HS1.out.one (by unfold maxLen; omega) (by omega) hb.size
            intro v W hv; simp only [pOf, List.lookup_cons, Nat.reduceBEq, beq_self_eq_true] at hv; obtain ⟨ga, gc, rfl, -⟩ := owns_shape hv
            simp only [Act.put, List.setIfInBounds_toArray, List.set_cons_succ, List.set_cons_zero]
            refine wpS_nil ?_
            intro w2 hall
            have hb := hall.1
            have h4 : w2.ownsRow v4.heap.size 3 1 _ c ((L.flatMap cellsZ).take (c * 1)) := hall.2 4 _ rfl
            clear hall
            refine wpAny_ready (rs := [9]) (by kernel_rfl) (by simp) ?_
            refine AllReady.cons rfl (fun K hK => ?_) AllReady.nil
            refine (if_pos (show Region.wanted _ _ = true from rfl)).mpr ?_
            refine wp_append_own w2 (.tmp 48) (.tmp 52) 41 rfl v4.heap.size 3 i1 (.int .i64 0) 1 8 Try.underlying41 hj hy0 hy1 hy2 rfl (by decide) (.slice ga c gc) c _ rfl h4 ad (N - (c + 1)) (lc - (c + 1)) ((L.flatMap cellsZ).drop ((c + 1) * 1)) rfl HS2.out.len (fun j u h => bkeep hb (HS2.out.cells j u h)) HS2.out.one (by unfold maxLen; omega) (by omega) hb.size ?_
            intro v52 w3 ho3 hg3 hnil3
            refine hK _ _ ?_
            clear hK K hnil3
            obtain ⟨xa, xc, rfl, -⟩ := owns_shape ho3
            have hb3 : Below v4.heap.size v4 w3 := Pb.below_grown hb hg3 h4 hb.size (Nat.le_refl _)
            clear hb hg3 h4 HS1 HS2
            refine wpAny_ready (rs := [10]) (by kernel_rfl) (by simp) ?_
            refine AllReady.cons rfl (fun K hK => ?_) AllReady.nil
            go_simp
            refine hK _ _ ?_; clear hK K
            refine wpAny_done (by kernel_rfl) ?_ _
            refine ⟨rfl, ?_⟩
            have ho9 := ho3
            rw [HFE.out, HLE.out, flatZ] at ho9
            have hn3 : NumsAt w3 (.slice xa (L.eraseIdx c).length xc) (L.eraseIdx c) := numsAt_of_owns HLI.out ho9
            have hLO3 := hLO4.left hb3 hn3 ho9
            have hB3 := bnext (w := w) hB4 hb3
            have hEL : (L.eraseIdx c).length + (j + 1) = k := by rw [← HLE.out]; omega
            rw [HLE.out]
            clear hLO4 hn3 ho3 ho9 hb3 hB4
            go_wp2_with fail
            go_roundg (k - (j + 1))
            case measure => have h := HGJ.out; omega
            case rel => exact ⟨j + 1, L.eraseIdx c, O ++ [x], by omega, rfl, by go_num, by rw [List.length_append, HO.out]; rfl, hEL, HS, hLO3, hB3⟩
        · obtain rfl : j = k := by omega
          have hL0 : L = [] := List.length_eq_zero_iff.1 (by rw [HN.out]; omega)
          have hP := HP.out
          rw [hL0, List.append_nil] at hP
          have HPP := hid hP; clear hP hL0
          have ho9 : wr.ownsRow w.heap.size 3 1 (.slice oa j oc) O.length (O.map (Value.int .i64)) := hLO.own
          have hjj : ¬ (j : Int) < (j : Int) := by omega
          go_wp2_with fail
          go_ret
          exact ⟨_, rfl, hB, O, HPP.out, ho9⟩

end Go.Proofs.Ytnchhleokdkejaa

/- Saggars that numbers make. -/
namespace Go.Proofs.Ytnchhleokdkejaa
open Go.RowKit Go.Pb Go.Pb.Ware Go.Pb.Sag
set_option linter.unusedVariables false
set_option linter.unusedSimpArgs false

open Go.Proofs Go.Pb.Bung
theorem len7 {r : List Int} (h : r.length = 7) : ∃ a b c d e f g, r = [a, b, c, d, e, f, g] := by
  match r, h with
  | [a, b, c, d, e, f, g], _ => exact ⟨_, _, _, _, _, _, _, rfl⟩
theorem madeL_i64 {rows : List (List Int)} {k : Nat} (hk : k ≤ 12) : ∀ s ∈ madeL rows k, ∀ z ∈ rowG s, I64 z := by
  intro s hs z hz
  unfold madeL at hs
  obtain ⟨i, hi, rfl⟩ := List.mem_map.1 hs
  have := List.mem_range.1 hi
  simp only [rowG, madeG, List.mem_cons, List.not_mem_nil, or_false] at hz
  rcases hz with rfl | rfl | rfl | rfl | rfl | rfl | rfl | rfl <;> exact I64.mk (by omega) (by omega)

set_option maxRecDepth 100000 in
set_option maxHeartbeats 1000000 in
theorem rMade_any {w : World} {v : Value} {rows : List (List Int)} {most K : Nat} (h : RowsAt 7 w v rows) (hm : most ≤ 12) (hK : min rows.length most = K) :
    Calls Try.prog 70 #[v, .int .i64 (most : Int)] w (fun e w' => ∃ u, e = .returned u ∧ Below w.heap.size w w' ∧ RowsAt 8 w' u ((madeL rows K).map rowG)) := by
  obtain ⟨i0, hi0, hz0, hz1, hz2⟩ := info_parts Try.infoG
  obtain ⟨a, cap, rfl, hll⟩ := h.shape
  have hcap := RowsAt.caps h
  obtain ⟨n, hn⟩ : ∃ n, rows.length = n := ⟨_, rfl⟩
  have HN : Hid (rows.length = n) := hn
  have HI : Hid (∀ r ∈ rows, r.length = 7 ∧ ∀ z ∈ r, I64 z) := hid h.i64
  rw [hn] at h hll hcap hK ⊢
  obtain ⟨hcap1, hcap2⟩ := hcap
  have hK1 : K ≤ n := by omega
  have hK2 : K ≤ most := by omega
  have HK : Hid (min n most = K) := hid hK
  clear hn hK
  go_enter Try.func70, Try.ntmps70
  go_wp2_with fail
  go_loopg [5, 6] K (fun gk ov iv wr => ∃ k : Nat, k ≤ K ∧ gk = K - k ∧ iv = .int .i64 k ∧ wr.ownsRow w.heap.size 33 8 ov k ((madeL rows k).flatMap cellsG) ∧ Below w.heap.size w wr)
  case atStart => exact ⟨0, Nat.zero_le _, rfl, rfl, World.ownsRow_nil _ _ _ _, Below.refl _ _⟩
  case round =>
    obtain ⟨k, hk, hgk, rfl, ho, hB⟩ := hrel
    have HGK := hid hgk; clear hgk
    by_cases hlt : k < K
    · have hki : (k : Int) < (n : Int) := by omega
      have hkm : (k : Int) < (most : Int) := by omega
      obtain ⟨r, hr⟩ : ∃ r, rows[k]? = some r := ⟨_, List.getElem?_eq_getElem (by rw [HN.out]; omega)⟩
      obtain ⟨a', ha, hrl2, hc0, hcc⟩ := (show RowsAt 7 wr (.slice a rows.length cap) rows by rw [HN.out]; exact h.below hB).row (k := k) (by rw [HN.out]; omega)
      subst ha
      have her : rows[k]'(by rw [HN.out]; omega) = r := Option.some.inj ((List.getElem?_eq_getElem _).symm.trans hr)
      rw [her] at hrl2 hc0 hcc
      obtain ⟨y0, y1, y2, y3, y4, y5, y6, rfl⟩ := len7 hrl2
      have r0 := hc0 _ rfl
      have r1 := hcc 1 _ (by decide) rfl
      have r2 := hcc 2 _ (by decide) rfl
      have r3 := hcc 3 _ (by decide) rfl
      have r4 := hcc 4 _ (by decide) rfl
      have r5 := hcc 5 _ (by decide) rfl
      have r6 := hcc 6 _ (by decide) rfl
      obtain ⟨p0, hp0⟩ : ∃ p, y0 % 200 = p := ⟨_, rfl⟩
      have b0 := mod_in hp0 (by decide)
      have HP0 : Hid _ := hid hp0
      obtain ⟨p1, hp1⟩ : ∃ p, y1 % 40 = p := ⟨_, rfl⟩
      have b1 := mod_in hp1 (by decide)
      have HP1 : Hid _ := hid hp1
      obtain ⟨p2, hp2⟩ : ∃ p, y2 % 900 = p := ⟨_, rfl⟩
      have b2 := mod_in hp2 (by decide)
      have HP2 : Hid _ := hid hp2
      obtain ⟨p3, hp3⟩ : ∃ p, y3 % 60 = p := ⟨_, rfl⟩
      have b3 := mod_in hp3 (by decide)
      have HP3 : Hid _ := hid hp3
      obtain ⟨p4, hp4⟩ : ∃ p, y4 % 300 = p := ⟨_, rfl⟩
      have b4 := mod_in hp4 (by decide)
      have HP4 : Hid _ := hid hp4
      obtain ⟨p5, hp5⟩ : ∃ p, y5 % 12 = p := ⟨_, rfl⟩
      have b5 := mod_in hp5 (by decide)
      have HP5 : Hid _ := hid hp5
      obtain ⟨p6, hp6⟩ : ∃ p, y6 % 20 = p := ⟨_, rfl⟩
      have b6 := mod_in hp6 (by decide)
      have HP6 : Hid _ := hid hp6
      obtain ⟨p7, hp7⟩ : ∃ p, y6 % 25 = p := ⟨_, rfl⟩
      have b7 := mod_in hp7 (by decide)
      have HP7 : Hid _ := hid hp7
      have HE : Hid (madeL rows (k + 1) = madeL rows k ++ [(⟨1 + (k : Int) + 40 * p6, p0, p0 + p1, p2, p2 + p3, 20 + p4, 20 + p4 + p5, p7⟩ : Sg)]) := hid (by rw [madeL_snoc hr]; unfold madeG; simp only [List.getD_cons_zero, List.getD_cons_succ]; rw [hp0, hp1, hp2, hp3, hp4, hp5, hp6, hp7])
      clear hr her hc0 hcc hrl2 hp0 hp1 hp2 hp3 hp4 hp5 hp6 hp7
      obtain ⟨ua, uc, rfl, hul⟩ := owns_shape ho
      go_upto_region 6 with fail
      have r5w : Below wr.heap.size wr (wr.alloc (.cells #[.int .i64 y0, .int .i64 y1, .int .i64 y2, .int .i64 y3, .int .i64 y4, .int .i64 y5, .int .i64 y6] 158)) := (Below.refl _ _).alloc (Nat.le_refl _) _
      have yc : CellsAt (wr.alloc (.cells #[.int .i64 y0, .int .i64 y1, .int .i64 y2, .int .i64 y3, .int .i64 y4, .int .i64 y5, .int .i64 y6] 158)) wr.heap.size [.int .i64 y0, .int .i64 y1, .int .i64 y2, .int .i64 y3, .int .i64 y4, .int .i64 y5, .int .i64 y6] := CellsAt.new wr _ 158
      have ho9 := owns_below ho r5w
      have hB9 := bnext (w := w) hB r5w
      have hz9 := r5w.size
      generalize World.alloc wr _ = W9 at *
      clear r5w r0 r1 r2 r3 r4 r5 r6
      have c0 := (yc 0 _ rfl).1
      have c1 := (yc 1 _ rfl).1
      have c2 := (yc 2 _ rfl).1
      have c3 := (yc 3 _ rfl).1
      have c4 := (yc 4 _ rfl).1
      have c5 := (yc 5 _ rfl).1
      have c6 := (yc 6 _ rfl).1
      go_wp2_with fail
      refine (modB HP0.out (by decide) (by decide)).mono ?_
      rintro e wm ⟨rfl, rfl⟩
      go_wp2_with fail
      refine (modB HP2.out (by decide) (by decide)).mono ?_
      rintro e wm ⟨rfl, rfl⟩
      go_wp2_with fail
      refine (modB HP4.out (by decide) (by decide)).mono ?_
      rintro e wm ⟨rfl, rfl⟩
      go_upto_region 9 with fail
      refine wp_region_Rs [(5, fun v _ => v = .int .i64 p6), (12, fun v _ => v = .int .i64 p1), (19, fun v _ => v = .int .i64 p3), (26, fun v _ => v = .int .i64 p5), (31, fun v _ => v = .int .i64 p7), (33, NewList W9.heap.size 1 [.int .i64 (1 + (k : Int) + 40 * p6), .int .i64 p0, .int .i64 (p0 + p1), .int .i64 p2, .int .i64 (p2 + p3), .int .i64 (20 + p4), .int .i64 (20 + p4 + p5), .int .i64 p7])] [0, 1, 2, 3, 4, 5, 6, 7, 8, 9, 10, 11, 12, 13, 14, 15, 16, 17, 18, 19, 20, 21, 22, 23, 24, 25, 26, 27, 28, 29, 30, 31, 32, 33] 2 (by kernel_rfl) rfl (by simp only [List.forall_mem_cons]; exact ⟨keeps_eq, keeps_eq, keeps_eq, keeps_eq, keeps_eq, keeps_list, fun _ h => by cases h⟩) (by kernel_rfl) ?_
      simp only [numbered, List.filterMap_cons, List.filterMap_nil, List.getElem?_toArray, List.getElem?_cons_succ, List.getElem?_cons_zero, Option.map_some]
      show wpS _ _ _ _ _ _ _ [(_, _), (_, _), (_, _), (_, _), (_, _), (_, _), (_, _), (_, _), (_, _), (_, _), (_, _), (_, _), (_, _), (_, _), (_, _), (_, _), (_, _), (_, _), (_, _), (_, _), (_, _), (_, _), (_, _), (_, _), (_, _), (_, _), (_, _), (_, _), (_, _), (_, _), (_, _), (_, _), (_, _), (_, _)] _ _
      (refine wpS_quiet rfl rfl ?_; intro K2 hK inst hx; go_big_quiet_op; (first | go_big_quiet_on | (refine ⟨_, fun _ => rfl, ?_⟩; go_big_quiet_on)); clear hx inst)
      (refine wpS_quiet rfl rfl ?_; intro K2 hK inst hx; go_big_quiet_op; (first | go_big_quiet_on | (refine ⟨_, fun _ => rfl, ?_⟩; go_big_quiet_on)); clear hx inst)
      (refine wpS_quiet rfl rfl ?_; intro K2 hK inst hx; go_big_quiet_op; (first | go_big_quiet_on | (refine ⟨_, fun _ => rfl, ?_⟩; go_big_quiet_on)); clear hx inst)
      (refine wpS_quiet rfl rfl ?_; intro K2 hK inst hx; go_big_quiet_op; (first | go_big_quiet_on | (refine ⟨_, fun _ => rfl, ?_⟩; go_big_quiet_on)); clear hx inst)
      (refine wpS_quiet rfl rfl ?_; intro K2 hK inst hx; have sc6 := fun x => (fun _ => bkeep (BQ.below x) c6) (hx x); go_big_quiet_op; (first | go_big_quiet_on | (refine ⟨_, fun _ => rfl, ?_⟩; go_big_quiet_on)); clear hx inst)
      refine wpS_fresh rfl rfl (fun w' hb hF => ?_) ?_
      · change freshAt _ _ _ (fun v _ => v = .int .i64 p6) _; unfold freshAt; go_simp; exact modBR HP6.out (by decide) (by decide)
      intro v W hv; simp only [pOf, List.lookup_cons, Nat.reduceBEq, beq_self_eq_true] at hv; subst hv
      simp only [Act.put, List.setIfInBounds_toArray, List.set_cons_succ, List.set_cons_zero]
      (refine wpS_quiet rfl rfl ?_; intro K2 hK inst hx; go_big_quiet_op; (first | go_big_quiet_on | (refine ⟨_, fun _ => rfl, ?_⟩; go_big_quiet_on)); clear hx inst)
      (refine wpS_quiet rfl rfl ?_; intro K2 hK inst hx; go_big_quiet_op; (first | go_big_quiet_on | (refine ⟨_, fun _ => rfl, ?_⟩; go_big_quiet_on)); clear hx inst)
      (refine wpS_quiet rfl rfl ?_; intro K2 hK inst hx; go_big_quiet_op; (first | go_big_quiet_on | (refine ⟨_, fun _ => rfl, ?_⟩; go_big_quiet_on)); clear hx inst)
      (refine wpS_quiet rfl rfl ?_; intro K2 hK inst hx; go_big_quiet_op; (first | go_big_quiet_on | (refine ⟨_, fun _ => rfl, ?_⟩; go_big_quiet_on)); clear hx inst)
      (refine wpS_quiet rfl rfl ?_; intro K2 hK inst hx; go_big_quiet_op; (first | go_big_quiet_on | (refine ⟨_, fun _ => rfl, ?_⟩; go_big_quiet_on)); clear hx inst)
      (refine wpS_quiet rfl rfl ?_; intro K2 hK inst hx; have sc1 := fun x => (fun _ => bkeep (BQ.below x) c1) (hx x); go_big_quiet_op; (first | go_big_quiet_on | (refine ⟨_, fun _ => rfl, ?_⟩; go_big_quiet_on)); clear hx inst)
      refine wpS_fresh rfl rfl (fun w' hb hF => ?_) ?_
      · change freshAt _ _ _ (fun v _ => v = .int .i64 p1) _; unfold freshAt; go_simp; exact modBR HP1.out (by decide) (by decide)
      intro v W hv; simp only [pOf, List.lookup_cons, Nat.reduceBEq, beq_self_eq_true] at hv; subst hv
      simp only [Act.put, List.setIfInBounds_toArray, List.set_cons_succ, List.set_cons_zero]
      (refine wpS_quiet rfl rfl ?_; intro K2 hK inst hx; go_big_quiet_op; (first | go_big_quiet_on | (refine ⟨_, fun _ => rfl, ?_⟩; go_big_quiet_on)); clear hx inst)
      (refine wpS_quiet rfl rfl ?_; intro K2 hK inst hx; go_big_quiet_op; (first | go_big_quiet_on | (refine ⟨_, fun _ => rfl, ?_⟩; go_big_quiet_on)); clear hx inst)
      (refine wpS_quiet rfl rfl ?_; intro K2 hK inst hx; go_big_quiet_op; (first | go_big_quiet_on | (refine ⟨_, fun _ => rfl, ?_⟩; go_big_quiet_on)); clear hx inst)
      (refine wpS_quiet rfl rfl ?_; intro K2 hK inst hx; go_big_quiet_op; (first | go_big_quiet_on | (refine ⟨_, fun _ => rfl, ?_⟩; go_big_quiet_on)); clear hx inst)
      (refine wpS_quiet rfl rfl ?_; intro K2 hK inst hx; go_big_quiet_op; (first | go_big_quiet_on | (refine ⟨_, fun _ => rfl, ?_⟩; go_big_quiet_on)); clear hx inst)
      (refine wpS_quiet rfl rfl ?_; intro K2 hK inst hx; have sc3 := fun x => (fun _ => bkeep (BQ.below x) c3) (hx x); go_big_quiet_op; (first | go_big_quiet_on | (refine ⟨_, fun _ => rfl, ?_⟩; go_big_quiet_on)); clear hx inst)
      refine wpS_fresh rfl rfl (fun w' hb hF => ?_) ?_
      · change freshAt _ _ _ (fun v _ => v = .int .i64 p3) _; unfold freshAt; go_simp; exact modBR HP3.out (by decide) (by decide)
      intro v W hv; simp only [pOf, List.lookup_cons, Nat.reduceBEq, beq_self_eq_true] at hv; subst hv
      simp only [Act.put, List.setIfInBounds_toArray, List.set_cons_succ, List.set_cons_zero]
      (refine wpS_quiet rfl rfl ?_; intro K2 hK inst hx; go_big_quiet_op; (first | go_big_quiet_on | (refine ⟨_, fun _ => rfl, ?_⟩; go_big_quiet_on)); clear hx inst)
      (refine wpS_quiet rfl rfl ?_; intro K2 hK inst hx; go_big_quiet_op; (first | go_big_quiet_on | (refine ⟨_, fun _ => rfl, ?_⟩; go_big_quiet_on)); clear hx inst)
      (refine wpS_quiet rfl rfl ?_; intro K2 hK inst hx; go_big_quiet_op; (first | go_big_quiet_on | (refine ⟨_, fun _ => rfl, ?_⟩; go_big_quiet_on)); clear hx inst)
      (refine wpS_quiet rfl rfl ?_; intro K2 hK inst hx; go_big_quiet_op; (first | go_big_quiet_on | (refine ⟨_, fun _ => rfl, ?_⟩; go_big_quiet_on)); clear hx inst)
      (refine wpS_quiet rfl rfl ?_; intro K2 hK inst hx; go_big_quiet_op; (first | go_big_quiet_on | (refine ⟨_, fun _ => rfl, ?_⟩; go_big_quiet_on)); clear hx inst)
      (refine wpS_quiet rfl rfl ?_; intro K2 hK inst hx; have sc5 := fun x => (fun _ => bkeep (BQ.below x) c5) (hx x); go_big_quiet_op; (first | go_big_quiet_on | (refine ⟨_, fun _ => rfl, ?_⟩; go_big_quiet_on)); clear hx inst)
      refine wpS_fresh rfl rfl (fun w' hb hF => ?_) ?_
      · change freshAt _ _ _ (fun v _ => v = .int .i64 p5) _; unfold freshAt; go_simp; exact modBR HP5.out (by decide) (by decide)
      intro v W hv; simp only [pOf, List.lookup_cons, Nat.reduceBEq, beq_self_eq_true] at hv; subst hv
      simp only [Act.put, List.setIfInBounds_toArray, List.set_cons_succ, List.set_cons_zero]
      (refine wpS_quiet rfl rfl ?_; intro K2 hK inst hx; go_big_quiet_op; (first | go_big_quiet_on | (refine ⟨_, fun _ => rfl, ?_⟩; go_big_quiet_on)); clear hx inst)
      (refine wpS_quiet rfl rfl ?_; intro K2 hK inst hx; go_big_quiet_op; (first | go_big_quiet_on | (refine ⟨_, fun _ => rfl, ?_⟩; go_big_quiet_on)); clear hx inst)
      (refine wpS_quiet rfl rfl ?_; intro K2 hK inst hx; go_big_quiet_op; (first | go_big_quiet_on | (refine ⟨_, fun _ => rfl, ?_⟩; go_big_quiet_on)); clear hx inst)
      (refine wpS_quiet rfl rfl ?_; intro K2 hK inst hx; have sc6 := fun x => (fun _ => bkeep (BQ.below x) c6) (hx x); go_big_quiet_op; (first | go_big_quiet_on | (refine ⟨_, fun _ => rfl, ?_⟩; go_big_quiet_on)); clear hx inst)
      refine wpS_fresh rfl rfl (fun w' hb hF => ?_) ?_
      · change freshAt _ _ _ (fun v _ => v = .int .i64 p7) _; unfold freshAt; go_simp; exact modBR HP7.out (by decide) (by decide)
      intro v W hv; simp only [pOf, List.lookup_cons, Nat.reduceBEq, beq_self_eq_true] at hv; subst hv
      simp only [Act.put, List.setIfInBounds_toArray, List.set_cons_succ, List.set_cons_zero]
      (refine wpS_quiet rfl rfl ?_; intro K2 hK inst hx; go_big_quiet_op; (first | go_big_quiet_on | (refine ⟨_, fun _ => rfl, ?_⟩; go_big_quiet_on)); clear hx inst)
      refine wpS_fresh rfl rfl (fun w' hb hF => ?_) ?_
      · change freshAt _ _ _ (NewList W9.heap.size 1 [.int .i64 (1 + (k : Int) + 40 * p6), .int .i64 p0, .int .i64 (p0 + p1), .int .i64 p2, .int .i64 (p2 + p3), .int .i64 (20 + p4), .int .i64 (20 + p4 + p5), .int .i64 p7]) _; unfold freshAt; go_simp; exact list_of hb
      intro v W hv; simp only [pOf, List.lookup_cons, Nat.reduceBEq, beq_self_eq_true] at hv; obtain ⟨B33, hB33, rfl, -⟩ := hv
      simp only [Act.put, List.setIfInBounds_toArray, List.set_cons_succ, List.set_cons_zero]
      refine wpS_nil ?_
      intro w2 hall
      have hb := hall.1
      have h33 : NewList W9.heap.size 1 [.int .i64 (1 + (k : Int) + 40 * p6), .int .i64 p0, .int .i64 (p0 + p1), .int .i64 p2, .int .i64 (p2 + p3), .int .i64 (20 + p4), .int .i64 (20 + p4 + p5), .int .i64 p7] _ w2 := hall.2 33 _ rfl
      obtain ⟨B', hB', hv', hn'⟩ := h33
      obtain rfl : B33 = B' := by simpa using hv'
      clear hall
      have ho2 := owns_below ho9 hb
      have hB2 := bnext (w := w) hB9 hb
      have hzw2 := hb.size
      refine wpAny_ready (rs := [34]) (by kernel_rfl) (by simp) ?_
      refine AllReady.cons rfl (fun K hK => ?_) AllReady.nil
      refine (if_pos (show Region.wanted _ _ = true from rfl)).mpr ?_
      refine wp_append_own w2 (.tmp 36) (.tmp 69) 24 rfl w.heap.size 33 i0 (.agg #[.int .i64 0, .int .i64 0, .int .i64 0, .int .i64 0, .int .i64 0, .int .i64 0, .int .i64 0, .int .i64 0]) 8 64 Try.underlying24 hi0 hz0 hz1 hz2 rfl (by decide) (.slice ua k uc) k _ rfl ho2 ⟨B33, 0, none⟩ 1 1 [.int .i64 (1 + (k : Int) + 40 * p6), .int .i64 p0, .int .i64 (p0 + p1), .int .i64 p2, .int .i64 (p2 + p3), .int .i64 (20 + p4), .int .i64 (20 + p4 + p5), .int .i64 p7] rfl rfl (fun j u h => by rw [Go.WideShapes.add_plain, Nat.zero_add]; exact (hn' j u h).1) (one_cellsG (⟨1 + (k : Int) + 40 * p6, p0, p0 + p1, p2, p2 + p3, 20 + p4, 20 + p4 + p5, p7⟩ : Sg)) (by unfold maxLen; omega) (by omega) (by have := hB2.size; omega) ?_
      intro v70 w3 ho3 hg3 hnil3
      refine hK _ _ ?_
      clear hK K hnil3
      obtain ⟨xa, xc, rfl, -⟩ := owns_shape ho3
      have hB3 : Below w.heap.size w w3 := Pb.below_grown hB2 hg3 ho2 hB2.size (Nat.le_refl _)
      refine wpAny_ready (rs := [35]) (by kernel_rfl) (by simp) ?_
      refine AllReady.cons rfl (fun K hK => ?_) AllReady.nil
      go_simp
      refine hK _ _ ?_; clear hK K
      refine wpAny_done (by kernel_rfl) ?_ _
      clear hB2 ho2 hg3 hn' hB9 ho9 yc c0 c1 c2 c3 c4 c5 c6
      go_wp2_with fail
      go_roundg (K - (k + 1))
      case measure => have h := HGK.out; omega
      case rel => exact ⟨k + 1, by omega, rfl, by go_num, by rw [HE.out, List.flatMap_append, List.flatMap_singleton]; exact ho3, hB3⟩
    · obtain rfl : k = K := by omega
      by_cases hkn : k < n
      · have hki : (k : Int) < (n : Int) := by omega
        have hkm : ¬ (k : Int) < (most : Int) := by have := HK.out; omega
        go_wp2_with fail
        go_ret
        exact ⟨_, rfl, hB, rows_of_owns (by rw [madeL_len]; exact ho) (madeL_i64 (by omega))⟩
      · have hki : ¬ (k : Int) < (n : Int) := by omega
        go_wp2_with fail
        go_ret
        exact ⟨_, rfl, hB, rows_of_owns (by rw [madeL_len]; exact ho) (madeL_i64 (by omega))⟩

end Go.Proofs.Ytnchhleokdkejaa
