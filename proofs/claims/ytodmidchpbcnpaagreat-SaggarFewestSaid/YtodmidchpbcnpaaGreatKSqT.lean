/- Groups: copies of them, and how many are enough. -/
import Derived.Test.YtodmidchpbcnpaaGreatKInRoundT
import Derived.Laws.CopyOwn
import Derived.Test.YtodmidchpbcnpaaGreatKP6T
import Derived.Test.YtodmidchpbcnpaaGreatKLibT
import Derived.Shelf.Small.Bits
import Derived.Shelf.SlSortCmp.SmallK
import Derived.Ground.SlsfProg
import Derived.Test.YtodmidchpbcnpaaGreatProg
import Derived.Laws.CopyRow
namespace Go.Pb.Sag
open Go Go.Pb Go.Pb.Ware Go.RowKit
set_option linter.unusedVariables false
theorem copy_owns {w : World} {lo T B m : Nat} {cur : Array Value} {cs : List Value} (hg : w.heap[B]? = some (.cells cur T (0, 0))) (hlo : lo ≤ B) (hs : cur.size = m) (hm : m ≤ maxLen) (hc : cs.length = m) :
    (w.setRow B (cur.toList.take 0 ++ (cs ++ cur.toList.drop (0 + cs.length))).toArray).ownsRow lo T 1 (.slice (some ⟨B, 0, none⟩) m m) m cs := by
  have e : cur.toList.take 0 ++ (cs ++ cur.toList.drop (0 + cs.length)) = cs := by
    rw [List.take_zero, List.nil_append, Nat.zero_add, List.drop_of_length_le (by rw [Array.length_toList]; omega), List.append_nil]
  rw [e]
  refine ⟨by omega, .inr ⟨B, m, cs.toArray, rfl, hlo, setRow_heap w B cur _ T (0, 0) hg, Nat.le_refl _, hm, by simp; omega, ?_⟩⟩
  rw [Nat.mul_one, List.take_of_length_le (by simp; omega)]
/-- With as many groups as items there is a way. -/
theorem putF_some {s : Bx} {fs : List Ft} {most : Nat} : ∀ (d i : Nat) (gs : List (List Int)), i + d ≤ most → gs.length ≤ i → ∃ r, putF s fs most d i gs = some r
  | 0, i, gs, _, _ => ⟨gs, rfl⟩
  | d + 1, i, gs, h1, h2 => by
    rw [putF_succ]
    cases hf : (List.range gs.length).findSome? (tryF s fs most d i gs) with
    | some r => exact ⟨r, rfl⟩
    | none =>
      dsimp only
      rw [if_neg (by omega)]
      exact putF_some d (i + 1) _ (by omega) (by rw [List.length_append, List.length_singleton]; omega)
/-- The fewest groups. -/
def groupsF (s : Bx) (fs : List Ft) : Option (List (List Int)) := (List.range (fs.length + 1)).findSome? fun m => putF s fs m fs.length 0 []
def groupsA (ss bs : List (List Int)) (s : Bx) (xs : List It) : List (List Int) × Int :=
  if ckL ss bs s xs = 0 then (if (feetV ss bs s xs).all (fun f => fitsB s [f]) = true then ((groupsF s (feetV ss bs s xs)).getD [], 0) else ([], 24)) else ([], ckL ss bs s xs)
theorem find_some {α : Type} {f : Nat → Option α} {n : Nat} {r : α} (h : (List.range n).findSome? f = some r) : ∃ k, k < n ∧ f k = some r := by
  obtain ⟨k, hk, h2⟩ := List.exists_of_findSome?_eq_some h
  exact ⟨k, List.mem_range.1 hk, h2⟩
theorem putF_good {s : Bx} {fs : List Ft} {most : Nat} : ∀ (d i : Nat) (gs rs : List (List Int)), Good i gs → gs.length ≤ most → putF s fs most d i gs = some rs → Good (i + d) rs ∧ rs.length ≤ most
  | 0, i, gs, rs, hG, hm, h => by
    rw [putF] at h; injection h with h; subst h; exact ⟨hG, hm⟩
  | d + 1, i, gs, rs, hG, hm, h => by
    rw [putF_succ] at h
    cases hf : (List.range gs.length).findSome? (tryF s fs most d i gs) with
    | some r =>
      rw [hf] at h
      injection h with h
      subst h
      obtain ⟨k, hk, h2⟩ := find_some hf
      unfold tryF at h2
      split at h2
      · have hg : gs[k]? = some gs[k] := List.getElem?_eq_getElem hk
        rw [List.getD_eq_getElem?_getD, hg, Option.getD_some] at h2
        have := putF_good d (i + 1) _ _ (hG.push hg) (by rw [List.length_set]; exact hm) h2
        rw [show i + 1 + d = i + (d + 1) by omega] at this
        exact this
      · cases h2
    | none =>
      rw [hf] at h
      dsimp only at h
      split at h
      · cases h
      · have := putF_good d (i + 1) _ _ hG.snoc (by rw [List.length_append, List.length_singleton]; omega) h
        rw [show i + 1 + d = i + (d + 1) by omega] at this
        exact this
theorem GAt.most {G : Nat} {l : List Value} {u v : Value} {W : World} (hl : l.length = 7) (h : GAt G (l ++ [u]) W) : GAt G (l ++ [v]) (W.setCell ⟨G, 7, none⟩ v) := by
  intro o x hx
  rcases Nat.lt_or_ge o 7 with h1 | h1
  · rw [List.getElem?_append_left (by omega)] at hx
    have h2 := h o x (by rw [List.getElem?_append_left (by omega)]; exact hx)
    exact ⟨setc_other h2.1 (by omega), set_free h2.1 h2.2⟩
  · rw [List.getElem?_append_right (by omega), hl] at hx
    have h2 := (List.getElem?_eq_some_iff.1 hx).1
    simp at h2
    have e : o = 7 := by omega
    subst e
    simp at hx
    subst hx
    have h3 := h 7 u (by rw [List.getElem?_append_right (by omega), hl]; rfl)
    exact ⟨setc_same h3.1, set_free h3.1 h3.2⟩
/-- One row of rows. -/
theorem rows_cut {n k cap cap2 : Nat} {w : World} {a q : Addr} {rows : List (List Int)} {r : List Int} {m : Nat} (h : RowsAt n w (.slice (some a) m cap) rows) (hr : rows[k]? = some r) (hq : ∀ j, q.add j = a.add (k * n + j)) (h1 : 1 ≤ cap2) (h2 : cap2 ≤ 9223372036854775807) : RowsAt n w (.slice (some q) 1 cap2) [r] := by
  rcases h with ⟨h, _⟩ | ⟨a', cap', e, _, _, h4⟩
  · cases h
  · injection e with e _ _
    injection e with e
    subst e
    refine .inr ⟨q, cap2, rfl, h1, h2, fun j r' hr' => ?_⟩
    have hj : j = 0 := by have := (List.getElem?_eq_some_iff.1 hr').1; simp at this; omega
    subst hj
    have e2 : r = r' := by simpa using hr'
    subst e2
    refine ⟨(h4 k r hr).1, fun j z hz => ?_⟩
    rw [Nat.zero_mul, Nat.zero_add, hq]
    exact (h4 k r hr).2 j z hz
end Go.Pb.Sag

/- The fewest parts that all do: the search for them, and what it holds in memory. -/
namespace Go.Pb.Sag
open Go Go.Pb Go.Pb.Ware Go.RowKit
set_option linter.unusedVariables false
/-- The first way to put the things from i on (d of them) into at most so many parts; none if there is none. -/
def putG (does : List Int → Bool) (most : Nat) : Nat → Nat → List (List Int) → Option (List (List Int))
  | 0, _, gs => some gs
  | d + 1, i, gs =>
    match (List.range gs.length).findSome? (fun k => if does (gs.getD k [] ++ [(i : Int)]) = true then putG does most d (i + 1) (gs.set k (gs.getD k [] ++ [(i : Int)])) else none) with
    | some r => some r
    | none => if gs.length = most then none else (if does [(i : Int)] = true then putG does most d (i + 1) (gs ++ [[(i : Int)]]) else none)
def tryG (does : List Int → Bool) (most d i : Nat) (gs : List (List Int)) (k : Nat) : Option (List (List Int)) := if does (gs.getD k [] ++ [(i : Int)]) = true then putG does most d (i + 1) (gs.set k (gs.getD k [] ++ [(i : Int)])) else none
theorem tryG_last (does : List Int → Bool) (most d i : Nat) (gs : List (List Int)) : tryG does most d i (gs ++ [[]]) gs.length = if does [(i : Int)] = true then putG does most d (i + 1) (gs ++ [[(i : Int)]]) else none := by
  unfold tryG
  rw [List.getD_eq_getElem?_getD, List.getElem?_append_right (Nat.le_refl _), Nat.sub_self, List.set_append_right _ _ (Nat.le_refl _), Nat.sub_self]
  rfl
theorem putG_succ (does : List Int → Bool) (most d i : Nat) (gs : List (List Int)) : putG does most (d + 1) i gs = match (List.range gs.length).findSome? (tryG does most d i gs) with
    | some r => some r
    | none => if gs.length = most then none else tryG does most d i (gs ++ [[]]) gs.length := by rw [tryG_last, putG]; rfl
/-- Where each thing does by itself, the search is that for items. -/
theorem putG_F {s : Bx} {fs : List Ft} {most : Nat} : ∀ (d i : Nat) (gs : List (List Int)), (∀ j, i ≤ j → j < i + d → fitsB s (chosenL fs [(j : Int)]) = true) → putG (fun g => fitsB s (chosenL fs g)) most d i gs = putF s fs most d i gs
  | 0, i, gs, _ => by rw [putG, putF]
  | d + 1, i, gs, h => by
    have ih : ∀ gs, putG (fun g => fitsB s (chosenL fs g)) most d (i + 1) gs = putF s fs most d (i + 1) gs := fun gs => putG_F d (i + 1) gs fun j h1 h2 => h j (by omega) (by omega)
    rw [putG, putF]
    simp only [ih, h i (Nat.le_refl _) (by omega), if_true]
    generalize (List.range gs.length).findSome? _ = r
    cases r <;> rfl
theorem putG_some {does : List Int → Bool} {most : Nat} : ∀ (d i : Nat) (gs : List (List Int)), (∀ j, i ≤ j → j < i + d → does [(j : Int)] = true) → i + d ≤ most → gs.length ≤ i → ∃ r, putG does most d i gs = some r
  | 0, i, gs, _, _, _ => ⟨gs, rfl⟩
  | d + 1, i, gs, h, h1, h2 => by
    rw [putG_succ]
    cases hf : (List.range gs.length).findSome? (tryG does most d i gs) with
    | some r => exact ⟨r, rfl⟩
    | none =>
      dsimp only
      rw [if_neg (by omega), tryG_last, if_pos (h i (Nat.le_refl _) (by omega))]
      exact putG_some d (i + 1) _ (fun j h3 h4 => h j (by omega) (by omega)) (by omega) (by rw [List.length_append, List.length_singleton]; omega)
/-- Parts of things below i: as groups are, and each rises. -/
def GoodR (i : Nat) (gs : List (List Int)) : Prop := Good i gs ∧ ∀ g ∈ gs, g.Pairwise (· < ·)
theorem GoodR.nil : GoodR 0 [] := ⟨Good.nil, fun g h => by cases h⟩
theorem rise_snoc {i : Nat} {g : List Int} (h : g.Pairwise (· < ·)) (hl : ∀ z ∈ g, 0 ≤ z ∧ z < (i : Int)) : (g ++ [(i : Int)]).Pairwise (· < ·) := by
  rw [List.pairwise_append]
  exact ⟨h, List.pairwise_singleton _ _, fun a ha b hb => by rw [List.mem_singleton.1 hb]; exact (hl a ha).2⟩
theorem GoodR.push {i k : Nat} {gs : List (List Int)} {g : List Int} (h : GoodR i gs) (hg : gs[k]? = some g) : GoodR (i + 1) (gs.set k (g ++ [(i : Int)])) := by
  refine ⟨h.1.push hg, fun g' hm => ?_⟩
  have hgm := List.mem_of_getElem? hg
  rcases List.mem_or_eq_of_mem_set hm with h1 | rfl
  · exact h.2 g' h1
  · exact rise_snoc (h.2 g hgm) (h.1.lt g hgm)
theorem GoodR.snoc {i : Nat} {gs : List (List Int)} (h : GoodR i gs) : GoodR (i + 1) (gs ++ [[(i : Int)]]) := by
  refine ⟨h.1.snoc, fun g hm => ?_⟩
  rcases List.mem_append.1 hm with h1 | h1
  · exact h.2 g h1
  · simp at h1; subst h1; exact List.pairwise_singleton _ _
theorem set_last (gs : List (List Int)) (g : List Int) : (gs ++ [[]]).set gs.length g = gs ++ [g] := by
  rw [List.set_append_right _ _ (Nat.le_refl _), Nat.sub_self]; rfl
theorem putG_good {does : List Int → Bool} {most : Nat} : ∀ (d i : Nat) (gs rs : List (List Int)), GoodR i gs → gs.length ≤ most → putG does most d i gs = some rs → GoodR (i + d) rs ∧ rs.length ≤ most
  | 0, i, gs, rs, hG, hm, h => by
    rw [putG] at h; injection h with h; subst h; exact ⟨hG, hm⟩
  | d + 1, i, gs, rs, hG, hm, h => by
    rw [putG_succ] at h
    cases hf : (List.range gs.length).findSome? (tryG does most d i gs) with
    | some r =>
      rw [hf] at h
      injection h with h
      subst h
      obtain ⟨k, hk, h2⟩ := find_some hf
      unfold tryG at h2
      split at h2
      · have hg : gs[k]? = some gs[k] := List.getElem?_eq_getElem hk
        rw [List.getD_eq_getElem?_getD, hg, Option.getD_some] at h2
        have := putG_good d (i + 1) _ _ (hG.push hg) (by rw [List.length_set]; exact hm) h2
        rw [show i + 1 + d = i + (d + 1) by omega] at this
        exact this
      · cases h2
    | none =>
      rw [hf] at h
      dsimp only at h
      split at h
      · cases h
      · rw [tryG_last] at h
        split at h
        · have := putG_good d (i + 1) _ _ hG.snoc (by rw [List.length_append, List.length_singleton]; omega) h
          rw [show i + 1 + d = i + (d + 1) by omega] at this
          exact this
        · cases h
/-- The fewest parts: what Fewest answers. -/
def fewG (does : List Int → Bool) (n : Nat) : Option (List (List Int)) :=
  if (List.range n).all (fun j => does [(j : Int)]) = true then (List.range (n + 1)).findSome? (fun m => putG does m n 0 []) else none

/-- From block B on all is as it was. -/
structure Above (B : Nat) (W W' : World) : Prop where
  size : W.heap.size ≤ W'.heap.size
  block : ∀ b, B ≤ b → b < W.heap.size → W'.heap[b]? = W.heap[b]?
theorem Above.of_below {B : Nat} {W W' : World} (h : Below W.heap.size W W') : Above B W W' := ⟨h.size, fun b _ h1 => h.block b h1⟩
theorem Above.cell {B b o : Nat} {W W' : World} {v : Value} (h : Above B W W') (hb : B ≤ b) (hc : W.cell? ⟨b, o, none⟩ = some v) : W'.cell? ⟨b, o, none⟩ = some v :=
  (World.cell?_of_block (a := ⟨b, o, none⟩) (h.block b hb (World.block_lt_of_cell? W _ hc))).trans hc
theorem Above.free {B b o : Nat} {W W' : World} {v : Value} (h : Above B W W') (hb : B ≤ b) (hc : W.cell? ⟨b, o, none⟩ = some v) (hf : W.frozen? ⟨b, o, none⟩ = false) : W'.frozen? ⟨b, o, none⟩ = false :=
  (World.frozen?_of_block (a := ⟨b, o, none⟩) (h.block b hb (World.block_lt_of_cell? W _ hc))).trans hf
theorem owns_above {B lo e s n : Nat} {W W' : World} {v : Value} {xs : List Value} (h : W.ownsRow lo e s v n xs) (hB : B ≤ lo) (ha : Above B W W') : W'.ownsRow lo e s v n xs := by
  refine ⟨h.1, ?_⟩
  rcases h.2 with hn | ⟨g, cap, cur, h1, h2, h3, h4⟩
  · exact .inl hn
  · exact .inr ⟨g, cap, cur, h1, h2, (ha.block g (by omega) (Array.getElem?_eq_some_iff.1 h3).1).trans h3, h4⟩
/-- No two slices share a block. -/
def Apart (vs : List Value) : Prop := ∀ (j k : Nat) (u v : Value), j ≠ k → vs[j]? = some u → vs[k]? = some v → u.ownBlock = none ∨ u.ownBlock ≠ v.ownBlock
/-- The parts so far, in the box B + 3; their memory lies behind the six boxes. -/
def PartsAt (B TO TI : Nat) (gs : List (List Int)) (W : World) : Prop := ∃ (gv : Value) (vs : List Value), (W.cell? ⟨B + 3, 0, none⟩ = some gv ∧ W.frozen? ⟨B + 3, 0, none⟩ = false) ∧ W.ownsRow (B + 6) TO 1 gv gs.length vs ∧ RowsIn (B + 6) TI W vs gs ∧ Apart vs ∧ B + 6 ≤ W.heap.size
theorem PartsAt.keep {B TO TI : Nat} {gs : List (List Int)} {W W' : World} (h : PartsAt B TO TI gs W) (ha : Above B W W') : PartsAt B TO TI gs W' := by
  obtain ⟨gv, vs, ⟨c1, c2⟩, ho, hr, hA, hs⟩ := h
  exact ⟨gv, vs, ⟨ha.cell (by omega) c1, ha.free (by omega) c1 c2⟩, owns_above ho (by omega) ha, fun k v g h1 h2 => owns_above (hr k v g h1 h2) (by omega) ha, hA, by have := ha.size; omega⟩
/-- The five other boxes. -/
def BoxesAt (B : Nat) (a0 a1 a2 a4 a5 : Value) (W : World) : Prop := W.cell? ⟨B, 0, none⟩ = some a0 ∧ W.cell? ⟨B + 1, 0, none⟩ = some a1 ∧ W.cell? ⟨B + 2, 0, none⟩ = some a2 ∧ W.cell? ⟨B + 4, 0, none⟩ = some a4 ∧ W.cell? ⟨B + 5, 0, none⟩ = some a5
theorem BoxesAt.keep {B : Nat} {a0 a1 a2 a4 a5 : Value} {W W' : World} (h : BoxesAt B a0 a1 a2 a4 a5 W) (hb : ∀ b, B ≤ b → b < B + 6 → b ≠ B + 3 → W'.heap[b]? = W.heap[b]?) : BoxesAt B a0 a1 a2 a4 a5 W' := by
  obtain ⟨h0, h1, h2, h4, h5⟩ := h
  have key : ∀ {b : Nat} {v : Value}, B ≤ b → b < B + 6 → b ≠ B + 3 → W.cell? ⟨b, 0, none⟩ = some v → W'.cell? ⟨b, 0, none⟩ = some v := fun h1 h2 h3 h4 => (World.cell?_of_block (a := ⟨_, 0, none⟩) (hb _ h1 h2 h3)).trans h4
  exact ⟨key (by omega) (by omega) (by omega) h0, key (by omega) (by omega) (by omega) h1, key (by omega) (by omega) (by omega) h2, key (by omega) (by omega) (by omega) h4, key (by omega) (by omega) (by omega) h5⟩
theorem BoxesAt.above {B : Nat} {a0 a1 a2 a4 a5 : Value} {W W' : World} (h : BoxesAt B a0 a1 a2 a4 a5 W) (hs : B + 6 ≤ W.heap.size) (ha : Above B W W') : BoxesAt B a0 a1 a2 a4 a5 W' := h.keep fun b h1 h2 _ => ha.block b h1 (by omega)
theorem BoxesAt.below {B : Nat} {a0 a1 a2 a4 a5 : Value} {W W' : World} (h : BoxesAt B a0 a1 a2 a4 a5 W) (hb : Below (B + 6) W W') : BoxesAt B a0 a1 a2 a4 a5 W' := h.keep fun b h1 h2 _ => hb.block b h2
theorem BoxesAt.set {B : Nat} {a0 a1 a2 a4 a5 v : Value} {W : World} (h : BoxesAt B a0 a1 a2 a4 a5 W) : BoxesAt B a0 a1 a2 a4 a5 (W.setCell ⟨B + 3, 0, none⟩ v) := h.keep fun b h1 h2 h3 => Below.heap_setCell _ _ _ _ h3
/-- What is there behind an append to the part k, ahead of its store. -/
theorem PartsAt.push {B TO TI i k : Nat} (hT : TO ≠ TI) {gs : List (List Int)} {g : List Int} {W w2 w3 : World} {v v' : Value} {vs : List Value} {gb cap : Nat} (hG : Good (i + 1) (gs.set k (g ++ [(i : Int)]))) (hg : gs[k]? = some g) (hv : vs[k]? = some v)
    (c8 : W.cell? ⟨B + 3, 0, none⟩ = some (.slice (some ⟨gb, 0, none⟩) gs.length cap) ∧ W.frozen? ⟨B + 3, 0, none⟩ = false) (ho : W.ownsRow (B + 6) TO 1 (.slice (some ⟨gb, 0, none⟩) gs.length cap) gs.length vs) (hr : RowsIn (B + 6) TI W vs gs) (hA : Apart vs) (hsz : B + 6 ≤ W.heap.size)
    (hb : Below W.heap.size W w2) (hg3 : w2.grownBy w3 v.ownBlock) (ho3 : w3.ownsRow (B + 6) TI 1 v' (g.length + 1) (g.map (Value.int .i64) ++ [.int .i64 (i : Int)])) :
    (w3.cell? ⟨gb, k, none⟩ = some v ∧ w3.frozen? ⟨gb, k, none⟩ = false) ∧ PartsAt B TO TI (gs.set k (g ++ [(i : Int)])) (w3.setCell ⟨gb, k, none⟩ v') ∧ Below (B + 6) W (w3.setCell ⟨gb, k, none⟩ v') := by
  have hk : k < gs.length := (List.getElem?_eq_some_iff.1 hg).1
  have hrow := hr k v g hv hg
  have ho2 := owns_below ho hb
  have hrow2 := owns_below hrow hb
  have hgb : B + 6 ≤ gb := own_ge ho gb rfl
  have a1 : (Value.slice (some ⟨gb, 0, none⟩) gs.length cap).ownBlock = none ∨ (Value.slice (some ⟨gb, 0, none⟩) gs.length cap).ownBlock ≠ v.ownBlock := apart_types ho2 hrow2 hT
  have ho4 : w3.ownsRow (B + 6) TO 1 (.slice (some ⟨gb, 0, none⟩) gs.length cap) gs.length vs := ho2.kept hg3 a1
  have hbw : Below (B + 6) W w3 := (hb.mono hsz).grown hg3 (by have := hb.size; omega) (own_ge hrow)
  have a2 : some gb ≠ v.ownBlock := by rcases a1 with h | h; cases h; exact h
  have hcell : w3.cell? ⟨gb, k, none⟩ = some v := by
    have h1 := ho4.cells (g := gb) rfl k v hv
    rw [Go.WideShapes.add_plain, Nat.zero_add] at h1
    exact h1
  have hvl : k < vs.length := (List.getElem?_eq_some_iff.1 hv).1
  have hts : ∀ {u : Value} {n : Nat} {xs : List Value}, w3.ownsRow (B + 6) TI 1 u n xs → u.ownBlock = none ∨ u.ownBlock ≠ some gb := fun h => apart_types h ho4 (Ne.symm hT)
  have hrj : ∀ (j : Nat) (u : Value) (g' : List Int), j ≠ k → vs[j]? = some u → gs[j]? = some g' → w3.ownsRow (B + 6) TI 1 u g'.length (g'.map (Value.int .i64)) := fun j u g' e hu hg' =>
    (owns_below (hr j u g' hu hg') hb).kept hg3 (hA j k u v e hu hv)
  have hkey : ∀ (j : Nat) (u : Value), j ≠ k → vs[j]? = some u → (v'.ownBlock = none ∨ v'.ownBlock ≠ u.ownBlock) ∧ (u.ownBlock = none ∨ u.ownBlock ≠ v'.ownBlock) := fun j u e hu => by
    have hjl : j < gs.length := by have h1 := ho.1; have h2 := (List.getElem?_eq_some_iff.1 hu).1; omega
    have hg' : gs[j]? = some gs[j] := List.getElem?_eq_getElem hjl
    have hj := hrj j u _ e hu hg'
    obtain ⟨x, hx⟩ := hG.one j gs[j] (by rw [List.getElem?_set_ne (Ne.symm e)]; exact hg')
    obtain ⟨y, hy⟩ := hG.one k (g ++ [(i : Int)]) (List.getElem?_set_self hk)
    have hxy := hG.apart j k gs[j] (g ++ [(i : Int)]) x y e (by rw [List.getElem?_set_ne (Ne.symm e)]; exact hg') (List.getElem?_set_self hk) hx hy
    have h1 : (gs[j].map (Value.int .i64))[0]? = some (.int .i64 x) := by rw [List.getElem?_map, hx]; rfl
    have h2 : (g.map (Value.int .i64) ++ [.int .i64 (i : Int)])[0]? = some (.int .i64 y) := by
      have h3 : ((g ++ [(i : Int)]).map (Value.int .i64))[0]? = some (.int .i64 y) := by rw [List.getElem?_map, hy]; rfl
      simpa using h3
    exact ⟨apart_heads ho3 hj h2 h1 (fun h => hxy (by injection h with _ h; exact h.symm)), apart_heads hj ho3 h1 h2 (fun h => hxy (by injection h))⟩
  refine ⟨⟨hcell, owns_frozen ho4 rfl k⟩, ⟨.slice (some ⟨gb, 0, none⟩) gs.length cap, vs.set k v', ⟨?_, ?_⟩, ?_, ?_, ?_, ?_⟩, hbw.setCell (p := ⟨gb, k, none⟩) hgb v'⟩
  · exact setc_block ((hbw.cell (p := ⟨B + 3, 0, none⟩) (by simp)).trans c8.1) (by omega)
  · exact set_free ((hbw.cell (p := ⟨B + 3, 0, none⟩) (by simp)).trans c8.1) ((hbw.frozen (p := ⟨B + 3, 0, none⟩) (by simp)).trans c8.2)
  · rw [List.length_set]; exact row_set ho4 hk
  · intro j u g' hu hg'
    by_cases e : j = k
    · subst e
      rw [List.getElem?_set_self hvl] at hu
      rw [List.getElem?_set_self hk] at hg'
      obtain rfl : v' = u := by simpa using hu
      obtain rfl : g ++ [(i : Int)] = g' := by simpa using hg'
      have h1 := set_own (o := j) (u := v') ho3 (hts ho3)
      simpa using h1
    · rw [List.getElem?_set_ne (Ne.symm e)] at hu hg'
      have h3 := hrj j u g' e hu hg'
      exact set_own h3 (hts h3)
  · intro j l u x hne hu hx
    by_cases e : j = k
    · subst e
      rw [List.getElem?_set_self hvl] at hu
      rw [List.getElem?_set_ne hne] at hx
      obtain rfl : v' = u := by simpa using hu
      exact (hkey l x (Ne.symm hne) hx).1
    · rw [List.getElem?_set_ne (Ne.symm e)] at hu
      by_cases e2 : l = k
      · subst e2
        rw [List.getElem?_set_self hvl] at hx
        obtain rfl : v' = x := by simpa using hx
        exact (hkey j u e hu).2
      · rw [List.getElem?_set_ne (Ne.symm e2)] at hx
        exact hA j l u x hne hu hx
  · have := hbw.size; show B + 6 ≤ (w3.setCell _ _).heap.size; simp; omega
/-- The part k is cut back to g. -/
theorem PartsAt.pop {B TO TI i k : Nat} (hT : TO ≠ TI) {gs : List (List Int)} {g : List Int} {W : World} {gb gcap b cap n : Nat} {vs : List Value} (hgs : gs[k]? = some g) (hn : gs.length = n)
    (c8 : W.cell? ⟨B + 3, 0, none⟩ = some (.slice (some ⟨gb, 0, none⟩) n gcap) ∧ W.frozen? ⟨B + 3, 0, none⟩ = false) (ho : W.ownsRow (B + 6) TO 1 (.slice (some ⟨gb, 0, none⟩) n gcap) n vs) (hr : RowsIn (B + 6) TI W vs (gs.set k (g ++ [(i : Int)]))) (hA : Apart vs) (hsz : B + 6 ≤ W.heap.size)
    (hv : vs[k]? = some (.slice (some ⟨b, 0, none⟩) (g.length + 1) cap)) :
    PartsAt B TO TI gs (W.setCell ⟨gb, k, none⟩ (.slice (some ⟨b, 0, none⟩) g.length cap)) ∧ Below (B + 6) W (W.setCell ⟨gb, k, none⟩ (.slice (some ⟨b, 0, none⟩) g.length cap)) := by
  subst hn
  have hk : k < gs.length := (List.getElem?_eq_some_iff.1 hgs).1
  have hvl : k < vs.length := (List.getElem?_eq_some_iff.1 hv).1
  have hgb : B + 6 ≤ gb := own_ge ho gb rfl
  have hts : ∀ {u : Value} {n : Nat} {xs : List Value}, W.ownsRow (B + 6) TI 1 u n xs → u.ownBlock = none ∨ u.ownBlock ≠ some gb := fun h => apart_types h ho (Ne.symm hT)
  refine ⟨⟨.slice (some ⟨gb, 0, none⟩) gs.length gcap, vs.set k (.slice (some ⟨b, 0, none⟩) g.length cap), ⟨setc_block c8.1 (by omega), set_free c8.1 c8.2⟩, row_set ho hk, ?_, ?_, by simpa using hsz⟩, (Below.refl _ _).setCell (p := ⟨gb, k, none⟩) hgb _⟩
  · intro j u g' hu hg'
    by_cases e : j = k
    · subst e
      rw [List.getElem?_set_self hvl] at hu
      rw [hgs] at hg'
      obtain rfl : Value.slice (some ⟨b, 0, none⟩) g.length cap = u := by simpa using hu
      obtain rfl : g = g' := by simpa using hg'
      have h1 := hr j _ _ hv (List.getElem?_set_self hk)
      rw [List.length_append, List.length_singleton] at h1
      have h2 := row_take (m := g.length) h1 (by omega)
      rw [List.map_append, List.take_append_of_le_length (by simp), List.take_of_length_le (by simp)] at h2
      exact set_own h2 (hts h2)
    · rw [List.getElem?_set_ne (Ne.symm e)] at hu
      have h1 := hr j u g' hu (by rw [List.getElem?_set_ne (Ne.symm e)]; exact hg')
      exact set_own h1 (hts h1)
  · have blk : ∀ (j : Nat) (u : Value), (vs.set k (.slice (some ⟨b, 0, none⟩) g.length cap))[j]? = some u → ∃ u0, vs[j]? = some u0 ∧ u0.ownBlock = u.ownBlock := fun j u hu => by
      by_cases e : j = k
      · subst e
        rw [List.getElem?_set_self hvl] at hu
        injection hu with hu
        subst hu
        exact ⟨_, hv, rfl⟩
      · rw [List.getElem?_set_ne (Ne.symm e)] at hu
        exact ⟨u, hu, rfl⟩
    intro j l u x hne hu hx
    obtain ⟨u0, h1, h2⟩ := blk j u hu
    obtain ⟨x0, h3, h4⟩ := blk l x hx
    rw [← h2, ← h4]
    exact hA j l u0 x0 hne h1 h3
/-- A new empty part. -/
theorem PartsAt.grow {B TO TI n : Nat} {gs : List (List Int)} {W w2 w3 : World} {gv gv' : Value} {vs : List Value} (hT : TO ≠ TI) (hn : gs.length = n)
    (c8 : W.cell? ⟨B + 3, 0, none⟩ = some gv ∧ W.frozen? ⟨B + 3, 0, none⟩ = false) (ho : W.ownsRow (B + 6) TO 1 gv n vs) (hr : RowsIn (B + 6) TI W vs gs) (hA : Apart vs) (hsz : B + 6 ≤ W.heap.size)
    (hb : Below W.heap.size W w2) (hg3 : w2.grownBy w3 gv.ownBlock) (ho3 : w3.ownsRow (B + 6) TO 1 gv' (n + 1) (vs ++ [.slice none 0 0])) :
    (w3.cell? ⟨B + 3, 0, none⟩ = some gv ∧ w3.frozen? ⟨B + 3, 0, none⟩ = false) ∧ PartsAt B TO TI (gs ++ [[]]) (w3.setCell ⟨B + 3, 0, none⟩ gv') ∧ Below (B + 6) W w3 := by
  subst hn
  have hbw : Below (B + 6) W w3 := (hb.mono hsz).grown hg3 (by have := hb.size; omega) (own_ge ho)
  have hG8 : w3.cell? ⟨B + 3, 0, none⟩ = some gv ∧ w3.frozen? ⟨B + 3, 0, none⟩ = false := ⟨(hbw.cell (p := ⟨B + 3, 0, none⟩) (by simp)).trans c8.1, (hbw.frozen (p := ⟨B + 3, 0, none⟩) (by simp)).trans c8.2⟩
  have far : ∀ {T n : Nat} {v : Value} {xs : List Value}, w3.ownsRow (B + 6) T 1 v n xs → v.ownBlock = none ∨ v.ownBlock ≠ some (B + 3) := fun h => .inr fun e => by have := own_ge h _ e; omega
  have hvl : vs.length = gs.length := by have := ho.1; omega
  refine ⟨hG8, ⟨gv', vs ++ [.slice none 0 0], ⟨setc_same hG8.1, set_free hG8.1 hG8.2⟩, ?_, ?_, ?_, ?_⟩, hbw⟩
  · rw [List.length_append, List.length_singleton]; exact set_own ho3 (far ho3)
  · intro k v g hv hg
    rcases Nat.lt_or_ge k gs.length with h1 | h1
    · rw [List.getElem?_append_left (by omega)] at hv
      rw [List.getElem?_append_left h1] at hg
      have h2 := owns_below (hr k v g hv hg) hb
      have h3 := h2.kept hg3 (apart_types h2 (owns_below ho hb) (Ne.symm hT))
      exact set_own h3 (far h3)
    · rw [List.getElem?_append_right (by omega), hvl] at hv
      rw [List.getElem?_append_right h1] at hg
      have h4 := (List.getElem?_eq_some_iff.1 hg).1
      simp at h4
      have e : k = gs.length := by omega
      subst e
      simp at hv hg
      subst hv; subst hg
      exact World.ownsRow_nil _ _ _ _
  · intro j k u v hne hu hv
    rcases Nat.lt_or_ge j vs.length with h1 | h1
    · rw [List.getElem?_append_left h1] at hu
      rcases Nat.lt_or_ge k vs.length with h2 | h2
      · rw [List.getElem?_append_left h2] at hv
        exact hA j k u v hne hu hv
      · rw [List.getElem?_append_right h2] at hv
        have h4 := (List.getElem?_eq_some_iff.1 hv).1
        simp at h4
        rw [show k - vs.length = 0 by omega] at hv
        simp at hv
        subst hv
        cases hob : u.ownBlock with
        | none => exact .inl rfl
        | some b => exact .inr (by simp [Value.ownBlock])
    · rw [List.getElem?_append_right h1] at hu
      have h4 := (List.getElem?_eq_some_iff.1 hu).1
      simp at h4
      rw [show j - vs.length = 0 by omega] at hu
      simp at hu
      subst hu
      exact .inl rfl
  · have := hbw.size; show B + 6 ≤ (w3.setCell _ _).heap.size; simp; omega
/-- The last part is taken away. -/
theorem PartsAt.shrink {B TO TI n gb cap : Nat} {gs : List (List Int)} {g : List Int} {W : World} {vs : List Value} (hn : gs.length = n)
    (c8 : W.cell? ⟨B + 3, 0, none⟩ = some (.slice (some ⟨gb, 0, none⟩) (n + 1) cap) ∧ W.frozen? ⟨B + 3, 0, none⟩ = false) (ho : W.ownsRow (B + 6) TO 1 (.slice (some ⟨gb, 0, none⟩) (n + 1) cap) (n + 1) vs) (hr : RowsIn (B + 6) TI W vs (gs ++ [g])) (hA : Apart vs) (hsz : B + 6 ≤ W.heap.size) :
    PartsAt B TO TI gs (W.setCell ⟨B + 3, 0, none⟩ (.slice (some ⟨gb, 0, none⟩) n cap)) := by
  subst hn
  have far : ∀ {T n : Nat} {v : Value} {xs : List Value}, W.ownsRow (B + 6) T 1 v n xs → v.ownBlock = none ∨ v.ownBlock ≠ some (B + 3) := fun h => .inr fun e => by have := own_ge h _ e; omega
  have h1 := row_take (m := gs.length) ho (by omega)
  refine ⟨.slice (some ⟨gb, 0, none⟩) gs.length cap, vs.take gs.length, ⟨setc_same c8.1, set_free c8.1 c8.2⟩, set_own h1 (far h1), ?_, ?_, by simpa using hsz⟩
  · intro k v g' hv hg
    have hk : k < gs.length := (List.getElem?_eq_some_iff.1 hg).1
    rw [List.getElem?_take, if_pos hk] at hv
    have h2 := hr k v g' hv (by rw [List.getElem?_append_left hk]; exact hg)
    exact set_own h2 (far h2)
  · intro j k u v hne hu hv
    rw [List.getElem?_take] at hu hv
    split at hu
    · split at hv
      · exact hA j k u v hne hu hv
      · cases hv
    · cases hu
/-- What put answers: the parts, or that there are none, and the parts are as they were. -/
def PutsRes (B TO TI : Nat) (a0 a1 a2 a4 a5 : Value) (Q : World → Prop) (gs : List (List Int)) (r : Option (List (List Int))) (e : Ending) (w' : World) : Prop :=
  Q w' ∧ BoxesAt B a0 a1 a2 a4 a5 w' ∧ ((∃ rs, r = some rs ∧ e = .returned (.bool true) ∧ PartsAt B TO TI rs w') ∨ (r = none ∧ e = .returned (.bool false) ∧ PartsAt B TO TI gs w'))
theorem PutsRes.yes {B TO TI : Nat} {a0 a1 a2 a4 a5 : Value} {Q : World → Prop} {gs rs : List (List Int)} {r : Option (List (List Int))} {e : Ending} {w' : World} (hq : Q w') (hB : BoxesAt B a0 a1 a2 a4 a5 w') (hr : r = some rs) (he : e = .returned (.bool true)) (hP : PartsAt B TO TI rs w') : PutsRes B TO TI a0 a1 a2 a4 a5 Q gs r e w' := ⟨hq, hB, .inl ⟨rs, hr, he, hP⟩⟩
theorem PutsRes.no {B TO TI : Nat} {a0 a1 a2 a4 a5 : Value} {Q : World → Prop} {gs : List (List Int)} {r : Option (List (List Int))} {e : Ending} {w' : World} (hq : Q w') (hB : BoxesAt B a0 a1 a2 a4 a5 w') (hr : r = none) (he : e = .returned (.bool false)) (hP : PartsAt B TO TI gs w') : PutsRes B TO TI a0 a1 a2 a4 a5 Q gs r e w' := ⟨hq, hB, .inr ⟨hr, he, hP⟩⟩
theorem Above.trans {B : Nat} {a b c : World} (h : Above B a b) (k : Above B b c) : Above B a c :=
  ⟨Nat.le_trans h.size k.size, fun i h1 h2 => (k.block i h1 (Nat.lt_of_lt_of_le h2 h.size)).trans (h.block i h1 h2)⟩
theorem Above.mono {B B' : Nat} {a b : World} (h : Above B a b) (hB : B ≤ B') : Above B' a b := ⟨h.size, fun i h1 h2 => h.block i (by omega) h2⟩
/-- The rest of a region: a group of it, walked once. -/
theorem wpAny_Rs {P : Program} {Q : Exit → Act → World → Prop} {a : Act} {w0 w : World} {l : List Oper} {L : Array Bool} {n : Nat} (ps : List (Nat × (Value → World → Prop))) (hs : List Nat) (g : Nat) (hn : hs.length + g = n) (hkeep : ∀ x ∈ ps, Keeps x.2)
    (hB : (groupB .any l.toArray L hs && pairsB .any l.toArray ((ps.map (·.1)).contains ·) hs && plainsB l.toArray ((ps.map (·.1)).contains ·) hs) = true) (hw : Below w0.heap.size w0 w)
    (h : wpS P .any l.toArray w0 ((ps.map (·.1)).contains ·) (pOf ps) (fun Γ' a' => ∀ w', All w0 (pOf ps) Γ' w' → wpAny P .any l.toArray Q g (mark hs L) a' w') (numbered l.toArray hs) (fun _ => none) a) :
    wpAny P .any l.toArray Q n L a w := by
  subst hn
  refine wpAny_R (ps.map (·.1)) hs g (pOf_keeps hkeep) hB hw (wpR_of_wpS (fun k hk => ?_) h)
  simp only [groupB, Bool.and_eq_true] at hB
  obtain ⟨_, hmem, _⟩ := orderB_spec hB.1.1.2
  exact (hmem k hk).2.2
end Go.Pb.Sag

/- A region that draws: loads of what stays as it is, whatever the other operations do, are run first; then a group; then the rest. -/
namespace Go.Pb
set_option linter.unusedVariables false
open Go Go.RowKit
section
variable {P : Program} {md : Region.Mode} {ops : Array Oper} {Q : Exit → Act → World → Prop} {C : World → Prop}
/-- As wpAny; C holds wherever an operation is about to be run. -/
def wpAnyC (P : Program) (md : Region.Mode) (ops : Array Oper) (Q : Exit → Act → World → Prop) (C : World → Prop) : Nat → Array Bool → Act → World → Prop
  | 0, L, a, w => C w ∧ Region.ready md ops L = [] ∧ Q .normal a w
  | n + 1, L, a, w => C w ∧ (Region.ready md ops L = [] → Q .normal a w) ∧ ∀ i ∈ Region.ready md ops L, wpOp P ops Q i (wpAnyC P md ops Q C n (L.setIfInBounds i true)) a w
theorem wpAnyC_any : ∀ {n : Nat} {L : Array Bool} {a : Act} {w : World}, wpAnyC P md ops Q C n L a w → wpAny P md ops Q n L a w
  | 0, _, _, _, h => h.2
  | n + 1, _, _, _, h => ⟨h.2.1, fun i hi => wpOp_mono (fun _ _ h => wpAnyC_any h) (h.2.2 i hi)⟩
theorem wpAnyC_ready {n r : Nat} {L : Array Bool} {a : Act} {w : World} (hC : C w) (hr : Region.ready md ops L = [r]) (h : wpOp P ops Q r (wpAnyC P md ops Q C n (L.setIfInBounds r true)) a w) : wpAnyC P md ops Q C (n + 1) L a w :=
  ⟨hC, fun h0 => (by rw [hr] at h0; cases h0), fun i hi => by rw [hr, List.mem_singleton] at hi; subst hi; exact h⟩
theorem wpAnyC_op {n r : Nat} {o : Oper} {L : Array Bool} {a : Act} {w : World} (hC : C w) (hr : Region.ready md ops L = [r]) (ho : ops[r]? = some o) (hw : Region.wanted o (yielded ops a.tmps) = true)
    (h : ∀ K : Act → World → Prop, (∀ a' w', wpAnyC P md ops Q C n (L.setIfInBounds r true) a' w' → K a' w') → o.wp P a w K Q) : wpAnyC P md ops Q C (n + 1) L a w := by
  refine wpAnyC_ready hC hr ?_
  unfold wpOp
  simp only [ho, hw, if_true]
  exact .inl (h _ fun _ _ h => h)
theorem wpAnyC_end {L : Array Bool} {a : Act} {w : World} (hC : C w) (hr : Region.ready md ops L = []) (h : Q .normal a w) : wpAnyC P md ops Q C 0 L a w := ⟨hC, hr, h⟩
theorem wpAnyC_at {n : Nat} {L : Array Bool} {a : Act} {w : World} (h : wpAnyC P md ops Q C n L a w) : C w := by cases n <;> exact h.1
/-- Where C holds, the operation yields v and leaves the world as it is. -/
def LoadsC (P : Program) (ops : Array Oper) (C : World → Prop) (o : Oper) (v : Value) (a : Act) : Prop := Region.wanted o (yielded ops a.tmps) = true ∧ ∀ w, C w → (execOp a.eval o).run P w = .ok (.value v) w
theorem wpOp_keep {R : Act → Prop} {j : Nat} {oj : Oper} (hj : ops[j]? = some oj) {K : Act → World → Prop} {a : Act} {w : World} (hk : ∀ u, R (a.put oj.dst u)) (hkD : ∀ d u, R (({ a with defers := d :: a.defers } : Act).put oj.dst u))
    (h : wpOp P ops Q j K a w) : wpOp P ops Q j (fun a' w' => R a' ∧ K a' w') a w := by
  unfold wpOp at *
  simp only [hj] at *
  split
  · rename_i hw
    simp only [hw, if_true] at h
    rcases h with h | h
    · left
      unfold Oper.wp at *
      generalize (execOp a.eval oj).run P w = r at *
      cases r with
      | ok n w' =>
        cases n <;> simp only [Oper.upon] at h ⊢
        case value u => exact ⟨hk u, h⟩
        case skip => exact ⟨hk _, h⟩
        case defer d => exact ⟨hkD d _, h⟩
        case enter f args =>
          refine Calls.mono h fun e w'' he => ?_
          cases e with
          | returned u => exact ⟨hk u, he⟩
          | panicked c => exact he
          | outgrown => exact he
        case row row args => exact Rows.mono h fun u w'' he => ⟨hk u, he⟩
      | halt x w' => cases x <;> exact h
    · exact .inr h
  · rename_i hw
    simp only [hw] at h
    exact ⟨hk _, h⟩
theorem wpOp_putC {j : Nat} {oi oj : Oper} {v : Value} (hj : ops[j]? = some oj) (hap : oi.apart ops oj = true) (hsi : ∀ cs b, oi.op ≠ .select cs b) (hsj : ∀ cs b, oj.op ≠ .select cs b) {K : Act → World → Prop} {a : Act} {w : World}
    (hy : LoadsC P ops C oi v a) (h : wpOp P ops (Only Q) j K (a.put oi.dst v) w) : wpOp P ops (Only Q) j (fun a' w' => LoadsC P ops C oi v a' ∧ K (a'.put oi.dst v) w') a w := by
  obtain ⟨h1, h2, h3⟩ := Oper.apart_spec hap
  refine wpOp_keep hj (fun u => ?_) (fun d u => ?_) ?_
  · exact ⟨by rw [wanted_put oi a oj.dst u h3]; exact hy.1, fun w hC => by rw [execOp_put oi hsi a oj.dst u h3]; exact hy.2 w hC⟩
  · exact ⟨by rw [wanted_put oi _ oj.dst u h3]; exact hy.1, fun w hC => by rw [execOp_put oi hsi _ oj.dst u h3]; exact hy.2 w hC⟩
  · unfold wpOp at *
    simp only [hj] at *
    rw [wanted_put oj a oi.dst v h1] at h
    split
    · rename_i hw
      simp only [hw, if_true] at h
      rcases h with h | ⟨_, hl⟩
      · left
        unfold Oper.wp at *
        rw [execOp_put oj hsj a oi.dst v h1] at h
        generalize (execOp a.eval oj).run P w = r at *
        cases r with
        | ok n w' =>
          cases n <;> simp only [Oper.upon] at h ⊢
          case value u => rw [← Act.put_comm a v u h2]; exact h
          case skip => rw [← Act.put_comm a v undef h2]; exact h
          case defer d => rw [← Act.put_comm _ v undef h2, ← Act.put_defers]; exact h
          case enter f args =>
            refine Calls.mono h fun e w'' he => ?_
            cases e with
            | returned u => show K _ _; rw [← Act.put_comm a v u h2]; exact he
            | panicked c => exact absurd he.1 (by simp)
            | outgrown => exact absurd he only_lets
          case row row args => exact Rows.mono h fun u w'' he => by rw [← Act.put_comm a v u h2]; exact he
        | halt x w' =>
          cases x <;> simp only [Oper.upon] at h ⊢
          case panic u => exact absurd h.1 (by simp)
      · exact absurd hl only_lets
    · rename_i hw
      simp only [hw] at h
      rw [← Act.put_comm a v undef h2]; exact h
theorem LoadsC.op {i : Nat} {o : Oper} {v : Value} {a : Act} (hi : ops[i]? = some o) (hy : LoadsC P ops C o v a) {K : Act → World → Prop} {w : World} (hC : C w) (h : K (a.put o.dst v) w) : wpOp P ops Q i K a w := by
  unfold wpOp
  simp only [hi, hy.1, if_true]
  left
  unfold Oper.wp
  rw [hy.2 w hC]
  exact h
/-- Such a load may be run first. -/
theorem wpAnyC_first {i : Nat} {oi : Oper} {v : Value} (hi : ops[i]? = some oi) (hsel : ∀ (j : Nat) (o : Oper) cs b, ops[j]? = some o → o.op ≠ .select cs b) :
    ∀ (n : Nat) (L : Array Bool) (a : Act) (w : World),
      (∀ j oj, ops[j]? = some oj → j ≠ i → L.getD j true = false → (∀ e ∈ oj.after, Region.binds md e = true → e.on ≠ i) → oi.apart ops oj = true) →
      i ∈ Region.ready md ops L → LoadsC P ops C oi v a → C w →
      wpAnyC P md ops (Only Q) C n (L.setIfInBounds i true) (a.put oi.dst v) w → wpAnyC P md ops (Only Q) C (n + 1) L a w := by
  intro n
  induction n with
  | zero =>
    intro L a w _ hr hy hC H
    refine ⟨hC, fun h => (by rw [h] at hr; cases hr), fun j hj => ?_⟩
    by_cases hji : j = i
    · subst hji; exact hy.op hi hC H
    · have := ready_mono hj hji
      rw [H.2.1] at this
      cases this
  | succ n ih =>
    intro L a w hfree hr hy hC H
    refine ⟨hC, fun h => (by rw [h] at hr; cases hr), fun j hj => ?_⟩
    by_cases hji : j = i
    · subst hji; exact hy.op hi hC H
    · have h1 := H.2.2 j (ready_mono hj hji)
      obtain ⟨hjun, oj, hoj, hall⟩ := mem_ready.1 hj
      have hnot : ∀ e ∈ oj.after, Region.binds md e = true → e.on ≠ i := fun e he hb heq => by
        have h2 := hall e he hb
        have h0 := (mem_ready.1 hr).1
        rw [heq] at h2
        rcases Nat.lt_or_ge i L.size with h' | h'
        · simp [h'] at h0 h2; rw [h0] at h2; cases h2
        · simp [Array.getElem?_eq_none h'] at h2
      have h2 := wpOp_putC hoj (hfree j oj hoj hji hjun hnot) (fun cs b => hsel i oi cs b hi) (fun cs b => hsel j oj cs b hoj) hy h1
      have hfree' : ∀ k ok, ops[k]? = some ok → k ≠ i → (L.setIfInBounds j true).getD k true = false → (∀ e ∈ ok.after, Region.binds md e = true → e.on ≠ i) → oi.apart ops ok = true := fun k ok hk hki hun hno => by
        refine hfree k ok hk hki ?_ hno
        by_cases hjk : j = k
        · subst hjk; exact hjun
        · rw [getD_set_ne true hjk] at hun; exact hun
      have key : ∀ a' w', LoadsC P ops C oi v a' → wpAnyC P md ops (Only Q) C n ((L.setIfInBounds i true).setIfInBounds j true) (a'.put oi.dst v) w' → wpAnyC P md ops (Only Q) C (n + 1) (L.setIfInBounds j true) a' w' := by
        intro a' w' hy' H'
        rw [Array.setIfInBounds_comm _ _ (Ne.symm hji)] at H'
        have hr' := ready_mono hr (Ne.symm hji)
        exact ih (L.setIfInBounds j true) a' w' hfree' hr' hy' (wpAnyC_at H') H'
      exact wpOp_mono (fun a' w' h3 => key a' w' h3.1 h3.2) h2
end
section
variable {P : Program} {md : Region.Mode} {ops : Array Oper} {w0 : World} {fr : Nat → Bool} {p : Nat → Value → World → Prop} {C : World → Prop}
theorem wpAnyC_of_wpR {Q : Exit → Act → World → Prop} (hC : ∀ w, Below w0.heap.size w0 w → C w) {g : Nat} {hs : List Nat} {L : Array Bool} (hsel : Region.noSelect ops = true) (hplain : ∀ h o, h ∈ hs → fr h = false → ops[h]? = some o → plainOp o.op = true)
    (hkeep : ∀ i v w1 w2, p i v w1 → Below w1.heap.size w1 w2 → p i v w2) (hL : L.size = ops.size) :
    ∀ (f : Nat) (M : Array Bool) (l : List Nat) (Γ : Known) (a : Act) (w : World), l.length = f → l.Nodup → l.Pairwise (Pair md ops fr) → (∀ j ∈ l, M.getD j true = false) →
      (∀ j ∈ hs, j ∈ l ∨ M.getD j true = true) → (∀ h ∈ l, Γ h = none) → Hered md ops hs f M → All w0 p Γ w → mark l M = mark hs L →
      wpR P md ops w0 fr p (fun Γ' a' => ∀ w', All w0 p Γ' w' → wpAnyC P md ops Q C g (mark hs L) a' w') l Γ a → wpAnyC P md ops Q C (f + g) M a w := by
  intro f
  induction f with
  | zero =>
    intro M l Γ a w hlen _ _ _ _ _ _ hall hmk H
    obtain rfl := List.length_eq_zero_iff.1 hlen
    rw [Nat.zero_add, show M = mark hs L from hmk]
    exact H w hall
  | succ f ih =>
    intro M l Γ a w hlen hnd hpw hun hcov hΓ hh hall hmk H
    rw [show f + 1 + g = (f + g) + 1 by omega]
    refine ⟨hC _ hall.1, fun h0 => absurd h0 hh.1, fun i hi => ?_⟩
    obtain ⟨hiu, oi, hoi, hdeps⟩ := mem_ready.1 hi
    have hil : i ∈ l := by
      rcases hcov i (hh.2.1 i hi) with h1 | h1
      · exact h1
      · rw [h1] at hiu; cases hiu
    have hiM : i < M.size := by
      rcases Nat.lt_or_ge i M.size with h' | h'
      · exact h'
      · simp [Array.getElem?_eq_none h'] at hiu
    have H1 := wpR_pull hsel hkeep hoi l Γ a hil hnd hpw (fun j hj => waits_dep hdeps (hun j hj)) hΓ ⟨w, hall⟩ H
    have hle : (l.erase i).length = f := by rw [List.length_erase_of_mem hil]; omega
    have next : ∀ Γ' a' w', (∀ h ∈ l.erase i, Γ' h = none) → All w0 p Γ' w' → wpR P md ops w0 fr p (fun Γ' a' => ∀ w', All w0 p Γ' w' → wpAnyC P md ops Q C g (mark hs L) a' w') (l.erase i) Γ' a' →
        wpAnyC P md ops Q C (f + g) (M.setIfInBounds i true) a' w' := fun Γ' a' w' hΓ' hall' H' =>
      ih (M.setIfInBounds i true) (l.erase i) Γ' a' w' hle (hnd.erase i) (hpw.sublist List.erase_sublist) (fun j hj => by
          have hne : j ≠ i := by rintro rfl; exact (List.Nodup.not_mem_erase hnd) hj
          rw [getD_set_ne true (Ne.symm hne)]; exact hun j (List.mem_of_mem_erase hj))
        (fun j hj => by
          by_cases hji : j = i
          · subst hji; right; simp
          · rcases hcov j hj with h1 | h1
            · left; exact (List.mem_erase_of_ne hji).2 h1
            · right; rw [getD_set_ne true (Ne.symm hji)]; exact h1)
        hΓ' (hh.2.2.2 i hi) hall' (by
          rw [← hmk]
          have key : ∀ (l : List Nat) (M : Array Bool), i ∈ l → mark l M = mark (l.erase i) (M.setIfInBounds i true) := by
            intro l
            induction l with
            | nil => intro M h; cases h
            | cons x l ihl =>
              intro M h
              by_cases hx : x = i
              · subst hx; simp [mark]
              · rw [List.erase_cons_tail (by simpa using hx)]
                simp only [mark, List.foldl_cons]
                have h2 := ihl (M.setIfInBounds x true) (by simpa [Ne.symm hx] using h)
                simp only [mark] at h2
                rw [h2, Array.setIfInBounds_comm _ _ hx]
          exact (key l M hil).symm) H'
    have hΓe : ∀ h ∈ l.erase i, Γ h = none := fun h hh' => hΓ h (List.mem_of_mem_erase hh')
    unfold wpR oneR at H1
    simp only [hoi] at H1
    unfold wpOp
    simp only [hoi]
    split
    · rename_i hwant
      rw [if_pos hwant] at H1
      left
      split at H1
      · rename_i hf
        obtain ⟨h1, h2⟩ := H1
        have h3 := h1 w (hall.cl oi)
        have go : ∀ u w'', Below w.heap.size w w'' → p i u w'' → wpAnyC P md ops Q C (f + g) (M.setIfInBounds i true) (a.put oi.dst u) w'' := by
          intro u w'' hb hq
          have hall' : All w0 p (upd Γ i u) w'' := ⟨hall.1.trans (hb.mono hall.1.size), fun k v hk => by
            unfold upd at hk
            by_cases hki : k = i
            · subst hki; rw [if_pos rfl] at hk; cases hk; exact hq
            · rw [if_neg hki] at hk; exact hkeep _ _ _ _ (hall.2 k v hk) hb⟩
          refine next _ _ _ (fun k hk => ?_) hall' (h2 u ⟨w'', hall'⟩)
          unfold upd
          rw [if_neg (by rintro rfl; exact (List.Nodup.not_mem_erase hnd) hk)]
          exact hΓe k hk
        unfold freshAt at h3
        unfold Oper.wp
        generalize (execOp a.eval oi).run P w = r at h3 ⊢
        cases r with
        | halt x w' => exact h3.elim
        | ok n w' =>
          cases n <;> simp only at h3
          case value u => exact go u w' h3.1 h3.2
          case enter fn args =>
            obtain ⟨rfl, hc⟩ := h3
            exact hc.mono fun e w'' ⟨u, he, hb, hq⟩ => by subst he; exact go u w'' hb hq
      · rename_i hf
        obtain ⟨v, h1, h2⟩ := H1 ⟨w, hall.cl oi⟩
        have h3 := h1 w (hall.cl oi)
        unfold Oper.quietAt at h3
        unfold Oper.wp
        generalize hr : (execOp a.eval oi).run P w = r at h3 ⊢
        cases r with
        | halt x w' => simp only [Oper.quietUpon] at h3
        | ok n w' =>
          cases n <;> simp only [Oper.quietUpon] at h3
          case value u =>
            obtain ⟨rfl, rfl⟩ := h3
            exact next _ _ _ hΓe hall h2
          case skip =>
            obtain ⟨rfl, rfl⟩ := h3
            exact next _ _ _ hΓe hall h2
          case enter fn args => exact absurd hr (plain_ne (hplain i oi (hh.2.1 i hi) (by simpa using hf) hoi) _)
    · rename_i hwant
      rw [if_neg hwant] at H1
      exact next _ _ _ hΓe hall H1

theorem wpAnyC_R {Q : Exit → Act → World → Prop} (hC : ∀ w, Below w0.heap.size w0 w → C w) {L : Array Bool} {a : Act} {w : World} (fs : List Nat) (hs : List Nat) (g : Nat)
    (hkeep : ∀ i v w1 w2, p i v w1 → Below w1.heap.size w1 w2 → p i v w2)
    (hB : (groupB md ops L hs && pairsB md ops (fs.contains ·) hs && plainsB ops (fs.contains ·) hs) = true) (hw : Below w0.heap.size w0 w)
    (h : wpR P md ops w0 (fs.contains ·) p (fun Γ' a' => ∀ w', All w0 p Γ' w' → wpAnyC P md ops Q C g (mark hs L) a' w') hs (fun _ => none) a) : wpAnyC P md ops Q C (hs.length + g) L a w := by
  simp only [Bool.and_eq_true] at hB
  obtain ⟨⟨hG, hP⟩, hPl⟩ := hB
  have hG' := hG
  simp only [groupB, Bool.and_eq_true, decide_eq_true_eq] at hG'
  obtain ⟨⟨⟨⟨hsz, hsel⟩, hcl⟩, hout⟩, hord⟩ := hG'
  obtain ⟨hnd, hmem, hpre⟩ := orderB_spec hord
  have hleft : left hs L = hs.length := by
    unfold left
    rw [List.filter_eq_self.2 (fun j hj => by rw [(hmem j hj).2.1]; rfl)]
  have hsh : Shut md ops L := by
    intro j o ho hj e he hb
    have hjo : j < ops.size := by
      rcases Nat.lt_or_ge j ops.size with h' | h'
      · exact h'
      · simp [Array.getElem?_eq_none h'] at ho
    have h1 := List.all_eq_true.1 hcl j (List.mem_range.2 hjo)
    simp only [hj, ho, Bool.not_true, Bool.false_or] at h1
    simpa [hb] using Array.all_eq_true'.1 h1 e he
  have hh := hered_of hG hs.length L hleft hsh hsz (fun j hj => .inl hj) (fun j hj => hj)
  refine wpAnyC_of_wpR hC (hs := hs) (L := L) hsel (fun k o hk hf ho => ?_) hkeep hsz hs.length L hs (fun _ => none) a w rfl hnd (pairs_of hP) (fun j hj => (hmem j hj).2.1)
    (fun j hj => .inl hj) (fun _ _ => rfl) hh ⟨hw, fun _ _ hg => by cases hg⟩ rfl h
  have := List.all_eq_true.1 hPl k hk
  simp only [show (fs.contains k) = false from hf, ho, Bool.false_or] at this
  exact this

end

section
variable {P : Program} {md : Region.Mode} {ops : Array Oper} {C : World → Prop}
/-- These loads, one behind the other. -/
def wpFirstC (P : Program) (ops : Array Oper) (C : World → Prop) : List Nat → (Act → Prop) → Act → Prop
  | [], H, a => H a
  | i :: is, H, a => ∃ o v, ops[i]? = some o ∧ LoadsC P ops C o v a ∧ wpFirstC P ops C is H (a.put o.dst v)
theorem wpFirstC_any {Q : Exit → Act → World → Prop} (hsel : Region.noSelect ops = true) {w : World} (hC : C w) {n : Nat} {H : Act → Prop} : ∀ (fs : List Nat) (L : Array Bool) (a : Act), firstB md ops fs L = true →
    (∀ a, H a → wpAnyC P md ops (Only Q) C n (mark fs L) a w) → wpFirstC P ops C fs H a → wpAnyC P md ops (Only Q) C (fs.length + n) L a w
  | [], L, a, _, hH, h => by simpa using hH a h
  | i :: is, L, a, hb, hH, h => by
    obtain ⟨o, v, ho, hy, h⟩ := h
    simp only [firstB, Bool.and_eq_true, ho] at hb
    obtain ⟨⟨hr, hf⟩, hb⟩ := hb
    have hr2 : i ∈ Region.ready md ops L := by simpa using hr
    have ih := wpFirstC_any hsel hC is (L.setIfInBounds i true) _ hb hH h
    rw [List.length_cons, show is.length + 1 + n = is.length + n + 1 by omega]
    exact wpAnyC_first ho (Region.noSelect_spec hsel) _ L a w (fun j oj hj hne hun hno => freeB_spec ho hf hr2 j oj hj hne hun hno) hr2 hy hC ih
end
theorem wpAny_G {P : Program} {Q : Exit → Act → World → Prop} {a : Act} {w : World} {l : List Oper} (C : World → Prop) (hC : ∀ w', Below w.heap.size w w' → C w') (fs : List Nat)
    (hF : (Region.noSelect l.toArray && firstB .any l.toArray fs (Array.replicate l.length false)) = true)
    (ps : List (Nat × (Value → World → Prop))) (hs : List Nat) (g : Nat)
    (hn : fs.length + (hs.length + g) = l.length) (hkeep : ∀ x ∈ ps, Keeps x.2)
    (hB : (groupB .any l.toArray (mark fs (Array.replicate l.length false)) hs && pairsB .any l.toArray ((ps.map (·.1)).contains ·) hs && plainsB l.toArray ((ps.map (·.1)).contains ·) hs) = true)
    (h : wpFirstC P l.toArray C fs (fun a => wpS P .any l.toArray w ((ps.map (·.1)).contains ·) (pOf ps) (fun Γ' a' => ∀ w', All w (pOf ps) Γ' w' → wpAnyC P .any l.toArray (Only Q) C g (mark hs (mark fs (Array.replicate l.length false))) a' w') (numbered l.toArray hs) (fun _ => none) a) a) :
    wpAny P .any l.toArray (Only Q) l.toArray.size (Array.replicate l.toArray.size false) a w.drew := by
  simp only [Bool.and_eq_true] at hF
  have h1 := wpFirstC_any (P := P) (Q := Q) (md := .any) (C := C) hF.1 (w := w.drew) (hC _ (Below.refl _ w).drew) (n := hs.length + g) fs (Array.replicate l.length false) a hF.2 (fun a h => ?_) h
  · rw [hn] at h1
    simpa using wpAnyC_any h1
  · have h2 := wpR_of_wpS (fun k hk => by
      simp only [groupB, Bool.and_eq_true] at hB
      obtain ⟨_, hmem, _⟩ := orderB_spec hB.1.1.2
      exact (hmem k hk).2.2) h
    exact wpAnyC_R (P := P) (Q := Only Q) (w0 := w) (w := w.drew) (a := a) hC (ps.map (·.1)) hs g (pOf_keeps hkeep) hB (Below.refl _ w).drew h2
theorem wp_region_G {P : Program} {id : Nat} {Q : Exit → Act → World → Prop} {a : Act} {w : World} {l : List Oper} (C : World → Prop) (hC : ∀ w', Below w.heap.size w w' → C w') (fs : List Nat)
    (hF : (Region.noSelect l.toArray && firstB .any l.toArray fs (Array.replicate l.length false)) = true)
    (ps : List (Nat × (Value → World → Prop))) (hs : List Nat) (g : Nat) (hm : P.follows .mixedOrders = true)
    (hn : fs.length + (hs.length + g) = l.length) (hkeep : ∀ x ∈ ps, Keeps x.2)
    (hB : (groupB .any l.toArray (mark fs (Array.replicate l.length false)) hs && pairsB .any l.toArray ((ps.map (·.1)).contains ·) hs && plainsB l.toArray ((ps.map (·.1)).contains ·) hs) = true)
    (h : wpFirstC P l.toArray C fs (fun a => wpS P .any l.toArray w ((ps.map (·.1)).contains ·) (pOf ps) (fun Γ' a' => ∀ w', All w (pOf ps) Γ' w' → wpAnyC P .any l.toArray (Only Q) C g (mark hs (mark fs (Array.replicate l.length false))) a' w') (numbered l.toArray hs) (fun _ => none) a) a) :
    (Code.region id l.toArray true).wp P Q a w := wp_region_any hm (wpAny_only (wpAny_G C hC fs hF ps hs g hn hkeep hB h))
/-- The same in the body of a range over a function. -/
theorem wpIn_region_G {P : Program} {id : Nat} {Q : Exit → Act → World → Prop} {a : Act} {w : World} {l : List Oper} {lv n : Nat} (hd : noDefer l = true) (C : World → Prop) (hC : ∀ w', Below w.heap.size w w' → C w') (fs : List Nat)
    (hF : (Region.noSelect l.toArray && firstB .any l.toArray fs (Array.replicate l.length false)) = true)
    (ps : List (Nat × (Value → World → Prop))) (hs : List Nat) (g : Nat) (hm : P.follows .mixedOrders = true)
    (hn : fs.length + (hs.length + g) = l.length) (hkeep : ∀ x ∈ ps, Keeps x.2)
    (hB : (groupB .any l.toArray (mark fs (Array.replicate l.length false)) hs && pairsB .any l.toArray ((ps.map (·.1)).contains ·) hs && plainsB l.toArray ((ps.map (·.1)).contains ·) hs) = true)
    (h : wpFirstC P l.toArray C fs (fun a => wpS P .any l.toArray w ((ps.map (·.1)).contains ·) (pOf ps) (fun Γ' a' => ∀ w', All w (pOf ps) Γ' w' → wpAnyC P .any l.toArray (Only Q) C g (mark hs (mark fs (Array.replicate l.length false))) a' w') (numbered l.toArray hs) (fun _ => none) a) a) :
    (Code.region id l.toArray true).wpIn (Fence.wide.inRound lv) n P Q a w :=
  Go.wpIn_mono (Q := Only Q) (wpIn_region_any hm (wpAny_inRound (fun i o ho => noDefer_ne hd ho) (fun h => only_lets h) _ _ _ _ (wpAny_G C hC fs hF ps hs g hn hkeep hB h))) (fun e a w h => by obtain ⟨rfl, h⟩ := h; exact h)
end Go.Pb

/- Appending to an empty slice of the call's own; slices of the call's own, by predicates. -/
namespace Go.Pb
set_option linter.unusedVariables false
open Go Go.RowKit
/-- An empty slice of the call's own. -/
def NewEmpty (B0 : Nat) (e : TypeId) (v : Value) (W : World) : Prop := ∃ B, B0 ≤ B ∧ v = .slice (some ⟨B, 0, none⟩) 0 0 ∧ W.heap[B]? = some (.cells #[] e (0, 0))
theorem keeps_empty {B0 : Nat} {e : TypeId} : Keeps (NewEmpty B0 e) := fun _ _ _ ⟨B, h1, h2, h3⟩ hb => ⟨B, h1, h2, (hb.block B (Array.getElem?_eq_some_iff.1 h3).1).trans h3⟩
theorem empty_of {w w' : World} {e : TypeId} (hb : Below w.heap.size w w') :
    Below w'.heap.size w' (w'.alloc (.cells #[] e)) ∧ NewEmpty w.heap.size e (.slice (some ⟨w'.heap.size, 0, none⟩) 0 0) (w'.alloc (.cells #[] e)) :=
  ⟨(Below.refl _ _).alloc (Nat.le_refl _) _, w'.heap.size, hb.size, rfl, heap_alloc_new w' _⟩
/-- A slice of the call's own that was written out. -/
def NewList (B0 n : Nat) (cs : List Value) (v : Value) (W : World) : Prop :=
  ∃ B, B0 ≤ B ∧ v = .slice (some ⟨B, 0, none⟩) n n ∧ ∀ o c, cs[o]? = some c → W.cell? ⟨B, o, none⟩ = some c ∧ W.frozen? ⟨B, o, none⟩ = false
theorem keeps_list {B0 n : Nat} {cs : List Value} : Keeps (NewList B0 n cs) := fun _ _ _ ⟨B, h1, h2, h3⟩ hb =>
  ⟨B, h1, h2, fun o c hc => ⟨bkeep hb (h3 o c hc).1, bfree hb (h3 o c hc).1 (h3 o c hc).2⟩⟩
theorem list_of {w w' : World} {n : Nat} {cs : List Value} {t : TypeId} (hb : Below w.heap.size w w') :
    Below w'.heap.size w' (w'.alloc (.cells cs.toArray t)) ∧ NewList w.heap.size n cs (.slice (some ⟨w'.heap.size, 0, none⟩) n n) (w'.alloc (.cells cs.toArray t)) :=
  ⟨(Below.refl _ _).alloc (Nat.le_refl _) _, w'.heap.size, hb.size, rfl, fun o c hc => by
    refine ⟨?_, World.frozen?_alloc_new w' cs.toArray t o⟩
    rw [World.cell?_alloc_new]; simpa using hc⟩
theorem keeps_owns {base size n : Nat} {e : TypeId} {xs : List Value} : Keeps (fun v w => w.ownsRow base e size v n xs) := fun _ _ _ h hb => owns_below h hb
theorem append_fresh {P : Program} (w : World) (base : Nat) (t ty e : TypeId) (i : TypeInfo) (z : Value) (size bytes : Nat) (ht : P.underlying t = some (.slice e)) (hi : P.info? e = some i) (hz : i.zero = some z)
    (hsize : i.size = size) (hby : i.bytes = bytes) (hzs : z.cells.size = size) (hsz : 0 < size) {B : Nat} (hB : base ≤ B) (hg : w.heap[B]? = some (.cells #[] e (0, 0)))
    (a : Addr) (m c : Nat) (news : List Value) (hl : news.length = m * size) (hnews : ∀ j u, news[j]? = some u → w.cell? (a.add j) = some u) (h1 : ∀ u ∈ news, u.oneCell' = true)
    (h63 : m ≤ maxLen) (hbytes : m * bytes ≤ 140737488355328) (hbase : base ≤ w.heap.size) :
    ∃ v' w', (Builtin.append_ #[t, t] ty #[.slice (some ⟨B, 0, none⟩) 0 0, .slice (some a) m c]).run P w = .ok v' w' ∧ Below w.heap.size w w' ∧ w'.ownsRow base e size v' m news := by
  have hown : w.ownsRow base e size (.slice (some ⟨B, 0, none⟩) 0 0) 0 [] := ⟨by simp, .inr ⟨B, 0, #[], rfl, hB, hg, Nat.le_refl _, by simp [maxLen], by simp, by simp⟩⟩
  obtain ⟨v', w', hr, h2, h3, -⟩ := run_append_own (P := P) w base t ty e i z size bytes ht hi hz hsize hby hzs hsz _ 0 [] hown a m c news hl hnews h1 (by omega) (by simpa using hbytes) hbase
  refine ⟨v', w', hr, ?_, by simpa using h2⟩
  subst hsize; subst hby
  by_cases hm : m = 0
  · subst hm
    have hn : news = [] := List.eq_nil_of_length_eq_zero (by simpa using hl)
    subst hn
    have hr2 := run_append_room (P := P) w t ty e i ht hi B 0 0 #[] hg a 0 c [] (by simp) (by simp) (by simp) (by omega) (by simp)
    rw [hr2] at hr
    injection hr with _ hw
    subst hw
    refine ⟨rfl, rfl, rfl, by simp [World.setRow], fun k hk => ?_⟩
    by_cases hkB : k = B
    · subst hkB
      rw [setRow_heap w k #[] _ e _ hg, hg]; simp
    · exact setRow_other w B k _ hkB
  · have hcap : Builtin.nextslicecap (0 + m) 0 * i.bytes ≤ 281474976710656 := growslice_fits (by omega) (by simpa using hbytes)
    have hr2 := run_append_grow (P := P) w t ty e i z ht hi hz ⟨B, 0, none⟩ 0 0 [] (by simp) (by simp) a m c news hl hnews (by omega) (by simp only [maxLen] at h63; omega) hcap
    rw [hr2] at hr
    injection hr with _ hw
    subst hw
    exact (Below.refl _ _).drew.alloc (Nat.le_refl _) _
theorem fresh_append {P : Program} {o : Oper} {a : Act} {w : World} (s x : Operand) (t : TypeId) (ho : o.op = .call { callee := .builtin .append, args := #[s, x], argTypes := #[t, t] })
    (base : Nat) (e : TypeId) (i : TypeInfo) (z : Value) (size bytes : Nat) (ht : P.underlying t = some (.slice e)) (hi : P.info? e = some i) (hz : i.zero = some z)
    (hsize : i.size = size) (hby : i.bytes = bytes) (hzs : z.cells.size = size) (hsz : 0 < size) (v : Value) (hs : a.eval s = v) (hv : NewEmpty base e v w)
    (ad : Addr) (m c : Nat) (news : List Value) (hx : a.eval x = .slice (some ad) m c) (hl : news.length = m * size) (hnews : ∀ j u, news[j]? = some u → w.cell? (ad.add j) = some u) (h1 : ∀ u ∈ news, u.oneCell' = true)
    (h63 : m ≤ maxLen) (hbytes : m * bytes ≤ 140737488355328) (hbase : base ≤ w.heap.size) :
    freshAt P o a (fun v w => w.ownsRow base e size v m news) w := by
  obtain ⟨B, hB, rfl, hg⟩ := hv
  obtain ⟨v', w', hr, h2, h3⟩ := append_fresh (P := P) w base t o.type e i z size bytes ht hi hz hsize hby hzs hsz hB hg ad m c news hl hnews h1 h63 hbytes hbase
  unfold freshAt execOp
  simp only [ho, resolve, invoke, builtin, Sem.run_bind, Sem.run_pure, Result.andThen_ok, List.map_toArray, List.map_cons, List.map_nil, hs, hx, hr]
  exact ⟨h2, h3⟩
end Go.Pb
namespace Go.Pb.Ware
open Go Go.Pb Go.RowKit
/-- Cells of a part of trials that lie in a slice. -/
theorem rows_cells {w : World} {a : Addr} {cap : Nat} {ts : List TT} (h : RowsAt 5 w (.slice (some a) ts.length cap) (ts.map rowT)) {k m : Nat} :
    ∀ j u, (((ts.drop k).take m).flatMap cellsT)[j]? = some u → w.cell? (a.add (k * 5 + j)) = some u := by
  have key : ∀ (l : List TT) (j : Nat) (u : Value), (l.flatMap cellsT)[j]? = some u → ∃ i o t, j = i * 5 + o ∧ l[i]? = some t ∧ (cellsT t)[o]? = some u := by
    intro l
    induction l with
    | nil => intro j u h; simp at h
    | cons t l ih =>
      intro j u h
      rw [List.flatMap_cons] at h
      by_cases hj : j < 5
      · rw [List.getElem?_append_left (by simpa [cellsT] using hj)] at h
        exact ⟨0, j, t, by omega, rfl, h⟩
      · rw [List.getElem?_append_right (by simp [cellsT]; omega)] at h
        obtain ⟨i, o, t', h1, h2, h3⟩ := ih _ _ h
        simp only [cellsT, List.length_cons, List.length_nil] at h1
        exact ⟨i + 1, o, t', by omega, by simpa using h2, h3⟩
  intro j u hu
  obtain ⟨i, o, t, rfl, h2, h3⟩ := key _ _ _ hu
  have ho : o < 5 := by have := (List.getElem?_eq_some_iff.1 h3).1; simpa [cellsT] using this
  rw [List.getElem?_take] at h2
  split at h2
  · rename_i him
    rw [List.getElem?_drop] at h2
    rcases h with ⟨h, _⟩ | ⟨a', cap', h4, h5, h6, h7⟩
    · cases h
    · injection h4 with e1 e2 e3
      injection e1 with e1
      subst e1
      have h8 := (h7 (k + i) (rowT t) (by rw [List.getElem?_map, h2]; rfl)).2
      have h9 : (rowT t)[o]? = some ((rowT t)[o]'(by simpa [rowT] using ho)) := List.getElem?_eq_getElem _
      have h10 := (h8 o _ h9).1
      rw [show k * 5 + (i * 5 + o) = (k + i) * 5 + o by omega, h10]
      have h11 : cellsT t = (rowT t).map (Value.int .i64) := rfl
      rw [h11, List.getElem?_map, h9] at h3
      exact h3
  · cases h2
theorem flatMap_len (ts : List TT) : (ts.flatMap cellsT).length = ts.length * 5 := by
  induction ts with
  | nil => rfl
  | cons t ts ih => rw [List.flatMap_cons, List.length_append, ih]; simp only [cellsT, List.length_cons, List.length_nil]; omega
theorem one_flat {ts : List TT} : ∀ u ∈ ts.flatMap cellsT, u.oneCell' = true := fun u hu => by
  obtain ⟨t, _, h⟩ := List.mem_flatMap.1 hu; exact one_cellsT u h
end Go.Pb.Ware
namespace Go.Pb
theorem RowsAt.caps {n : Nat} {w : World} {a : Option Addr} {m cap : Nat} {rows : List (List Int)} (h : RowsAt n w (.slice a m cap) rows) : rows.length ≤ cap ∧ cap ≤ 9223372036854775807 := by
  rcases h with ⟨h1, h2⟩ | ⟨a', cap', h1, h2, h3, _⟩
  · injection h1 with _ _ h4; subst h2; subst h4; simp
  · injection h1 with _ _ h4; subst h4; exact ⟨h2, h3⟩
end Go.Pb
namespace Go.Pb.Ware
open Go Go.Pb Go.RowKit
theorem len_cells {t : TT} : (cellsT t).length = 5 := rfl
/-- Two trials that were written out read as trials. -/
theorem rows_two {w : World} {B0 : Nat} {v : Value} {x y : TT} {cs : List Value} (h : NewList B0 2 cs v w) (hc : cs = cellsT x ++ cellsT y) : RowsAt 5 w v ([x, y].map rowT) := by
  obtain ⟨B, _, rfl, hn⟩ := h
  subst hc
  refine .inr ⟨_, 2, rfl, Nat.le_refl _, by omega, fun k r hk => ?_⟩
  have key : ∀ (t : TT) (j : Nat) (z : Int), (rowT t)[j]? = some z → (cellsT t)[j]? = some (.int .i64 z) ∧ j < 5 := fun t j z hz => by
    have h1 : cellsT t = (rowT t).map (Value.int .i64) := rfl
    exact ⟨by rw [h1, List.getElem?_map, hz]; rfl, (List.getElem?_eq_some_iff.1 hz).1⟩
  match k, hk with
  | 0, hk =>
    simp at hk; subst hk
    refine ⟨rfl, fun j z hz => ⟨?_, i64T z (List.mem_of_getElem? hz)⟩⟩
    obtain ⟨h1, h2⟩ := key x j z hz
    rw [Go.WideShapes.add_plain, Nat.zero_mul, Nat.zero_add, Nat.zero_add]
    exact (hn j _ (by rw [List.getElem?_append_left (by rw [len_cells]; exact h2)]; exact h1)).1
  | 1, hk =>
    simp at hk; subst hk
    refine ⟨rfl, fun j z hz => ⟨?_, i64T z (List.mem_of_getElem? hz)⟩⟩
    obtain ⟨h1, h2⟩ := key y j z hz
    rw [Go.WideShapes.add_plain, Nat.zero_add]
    exact (hn (1 * 5 + j) _ (by rw [List.getElem?_append_right (by rw [len_cells]; omega), len_cells, show 1 * 5 + j - 5 = j by omega]; exact h1)).1
  | k + 2, hk => simp at hk
end Go.Pb.Ware

/- The library's contracts of slices.SortFunc at slices of feet, at this translation's numbers. -/
namespace Go.Proofs
open Go.Shelf
def Tryz.lays125_ren : Go.Shelf.Ren := ⟨fun | 125 => 162 | 128 => 178 | 129 => 179 | n => n, fun | 46 => 193 | 3 => 3 | 51 => 205 | 53 => 175 | 4 => 4 | 5 => 5 | 9 => 9 | n => n, fun | n => n⟩
theorem Tryz.lays125 : Go.Proofs.Lays.n125 Tryz.prog Tryz.lays125_ren := {
  mixed := by kernel_rfl
  f125 := Tryz.func162.trans (congrArg some (by kernel_rfl))
  f128 := Tryz.func178.trans (congrArg some (by kernel_rfl))
  f129 := Tryz.func179.trans (congrArg some (by kernel_rfl))
  t3 := Tryz.underlying3
  a3 := Tryz.isAgg3
  z3 := Tryz.sizeOf3
  v3 := Tryz.zeroValue3
  t4 := Tryz.underlying4
  a4 := Tryz.isAgg4
  z4 := Tryz.sizeOf4
  v4 := Tryz.zeroValue4
  t5 := Tryz.underlying5
  a5 := Tryz.isAgg5
  z5 := Tryz.sizeOf5
  v5 := Tryz.zeroValue5
  t9 := Tryz.underlying9
  a9 := Tryz.isAgg9
  z9 := Tryz.sizeOf9
  v9 := Tryz.zeroValue9
  t46 := Tryz.underlying193
  a46 := Tryz.isAgg193
  z46 := Tryz.sizeOf193
  v46 := Tryz.zeroValue193
  t51 := Tryz.underlying205
  a51 := Tryz.isAgg205
  z51 := Tryz.sizeOf205
  v51 := Tryz.zeroValue205
  t53 := Tryz.underlying175
  a53 := Tryz.isAgg175
  z53 := Tryz.sizeOf175
  v53 := Tryz.zeroValue175 }
theorem Tryz.bits_Len (x : Int) (w : World) (h0 : 0 ≤ x) (h1 : x ≤ 18446744073709551615) :
    Calls Tryz.prog 162 #[.int .u64 x] w fun e w' => e = .returned (.int .i64 (Lib.bitLen x.toNat)) ∧ w' = w := Any.bits_Len Tryz.lays125 x w h0 h1
def Tryz.sortFeet_ren : Go.Shelf.Ren := ⟨fun | 6 => 145 | 15 => 162 | 14 => 161 | 28 => 178 | 29 => 179 | 20 => 170 | 21 => 171 | 22 => 172 | 23 => 173 | 24 => 174 | 25 => 175 | 26 => 176 | 27 => 177 | 46 => 181 | 47 => 182 | 48 => 183 | 49 => 184 | 50 => 185 | 57 => 186 | n => n, fun | 22 => 38 | 24 => 34 | 25 => 192 | 3 => 3 | 39 => 193 | 0 => 0 | 53 => 205 | 55 => 175 | 4 => 4 | 46 => 216 | 45 => 215 | 50 => 184 | 5 => 5 | 9 => 9 | 66 => 223 | 70 => 227 | 76 => 229 | 77 => 154 | n => n, fun | n => n⟩
theorem Tryz.sortFeet : Go.Proofs.SlLaysF0.n6 Tryz.prog Tryz.sortFeet_ren := {
  mixed := by kernel_rfl
  f6 := ⟨Tryz.f145.name, by decide, Tryz.func145.trans (congrArg some (by kernel_rfl))⟩
  f14 := ⟨Tryz.f161.name, by decide, Tryz.func161.trans (congrArg some (by kernel_rfl))⟩
  f15 := Tryz.func162.trans (congrArg some (by kernel_rfl))
  f20 := ⟨Tryz.f170.name, by decide, Tryz.func170.trans (congrArg some (by kernel_rfl))⟩
  f21 := ⟨Tryz.f171.name, by decide, Tryz.func171.trans (congrArg some (by kernel_rfl))⟩
  f22 := ⟨Tryz.f172.name, by decide, Tryz.func172.trans (congrArg some (by kernel_rfl))⟩
  f23 := ⟨Tryz.f173.name, by decide, Tryz.func173.trans (congrArg some (by kernel_rfl))⟩
  f24 := ⟨Tryz.f174.name, by decide, Tryz.func174.trans (congrArg some (by kernel_rfl))⟩
  f25 := ⟨Tryz.f175.name, by decide, Tryz.func175.trans (congrArg some (by kernel_rfl))⟩
  f26 := ⟨Tryz.f176.name, by decide, Tryz.func176.trans (congrArg some (by kernel_rfl))⟩
  f27 := ⟨Tryz.f177.name, by decide, Tryz.func177.trans (congrArg some (by kernel_rfl))⟩
  f28 := Tryz.func178.trans (congrArg some (by kernel_rfl))
  f29 := Tryz.func179.trans (congrArg some (by kernel_rfl))
  f46 := ⟨Tryz.f181.name, by decide, Tryz.func181.trans (congrArg some (by kernel_rfl))⟩
  f47 := Tryz.func182.trans (congrArg some (by kernel_rfl))
  f48 := Tryz.func183.trans (congrArg some (by kernel_rfl))
  f49 := ⟨Tryz.f184.name, by decide, Tryz.func184.trans (congrArg some (by kernel_rfl))⟩
  f50 := ⟨Tryz.f185.name, by decide, Tryz.func185.trans (congrArg some (by kernel_rfl))⟩
  f57 := ⟨Tryz.f186.name, by decide, Tryz.func186.trans (congrArg some (by kernel_rfl))⟩
  t0 := Tryz.underlying0
  a0 := Tryz.isAgg0
  z0 := Tryz.sizeOf0
  v0 := Tryz.zeroValue0
  t3 := Tryz.underlying3
  a3 := Tryz.isAgg3
  z3 := Tryz.sizeOf3
  v3 := Tryz.zeroValue3
  t4 := Tryz.underlying4
  a4 := Tryz.isAgg4
  z4 := Tryz.sizeOf4
  v4 := Tryz.zeroValue4
  t5 := Tryz.underlying5
  a5 := Tryz.isAgg5
  z5 := Tryz.sizeOf5
  v5 := Tryz.zeroValue5
  t9 := Tryz.underlying9
  a9 := Tryz.isAgg9
  z9 := Tryz.sizeOf9
  v9 := Tryz.zeroValue9
  t22 := Tryz.underlying38
  a22 := Tryz.isAgg38
  z22 := Tryz.sizeOf38
  v22 := Tryz.zeroValue38
  t25 := Tryz.underlying192
  a25 := Tryz.isAgg192
  z25 := Tryz.sizeOf192
  v25 := Tryz.zeroValue192
  t39 := Tryz.underlying193
  a39 := Tryz.isAgg193
  z39 := Tryz.sizeOf193
  v39 := Tryz.zeroValue193
  t45 := Tryz.underlying215
  a45 := Tryz.isAgg215
  z45 := Tryz.sizeOf215
  v45 := Tryz.zeroValue215
  t46 := Tryz.underlying216
  a46 := Tryz.isAgg216
  z46 := Tryz.sizeOf216
  v46 := Tryz.zeroValue216
  t50 := Tryz.underlying184
  a50 := Tryz.isAgg184
  z50 := Tryz.sizeOf184
  v50 := Tryz.zeroValue184
  t53 := Tryz.underlying205
  a53 := Tryz.isAgg205
  z53 := Tryz.sizeOf205
  v53 := Tryz.zeroValue205
  t55 := Tryz.underlying175
  a55 := Tryz.isAgg175
  z55 := Tryz.sizeOf175
  v55 := Tryz.zeroValue175
  t66 := Tryz.underlying223
  a66 := Tryz.isAgg223
  z66 := Tryz.sizeOf223
  v66 := Tryz.zeroValue223
  t70 := Tryz.underlying227
  a70 := Tryz.isAgg227
  z70 := Tryz.sizeOf227
  v70 := Tryz.zeroValue227
  t76 := Tryz.underlying229
  a76 := Tryz.isAgg229
  z76 := Tryz.sizeOf229
  v76 := Tryz.zeroValue229
  t77 := Tryz.underlying154
  a77 := Tryz.isAgg154
  z77 := Tryz.sizeOf154
  v77 := Tryz.zeroValue154 }
end Go.Proofs

/- The chapter's example, by the plain mathematics. -/
namespace Go.Pb.Sag
open Go Go.Pb Go.Pb.Ware Go.RowKit
def exS : Bx := ⟨1, 3, 2, 110, 100, 3000⟩
def exT : Bx := ⟨1, 3, 3, 110, 100, 3000⟩
def exRows : List (List Int) := [[1, 100, 102, 100, 102, 50, 51, 10, 200, 210, 1000], [2, 190, 200, 90, 100, 30, 30, 0, 500, 500, 0]]
def exL : List It := [⟨2, 1, 5⟩, ⟨2, 1, 5⟩, ⟨1, 2, 4⟩]
theorem ex_ok : ckW exRows [] = 0 ∧ boxOk exS = true ∧ boxOk exT = true := by decide
theorem ex_foot : footR exRows 110 ⟨1, 2, 4⟩ = ⟨1, 1, 92, 420⟩ := by rfl
theorem ex_feet : feetV exRows [] exS exL = [⟨2, 1, 30, 500⟩, ⟨2, 1, 30, 500⟩, ⟨1, 1, 92, 420⟩] := by rfl
theorem ex_plain : plainB exS [⟨2, 1, 30, 500⟩, ⟨2, 1, 30, 500⟩, ⟨1, 1, 92, 420⟩] = false := by decide
theorem ex_packs : (shownL exS [⟨2, 1, 30, 500⟩, ⟨2, 1, 30, 500⟩, ⟨1, 1, 92, 420⟩]).length = 44 := by decide +kernel
theorem ex_first : (shownL exS [⟨2, 1, 30, 500⟩, ⟨2, 1, 30, 500⟩, ⟨1, 1, 92, 420⟩])[0]? = some [⟨0, 0, false⟩, ⟨0, 2, true⟩, ⟨1, 0, false⟩] := by decide +kernel
theorem ex_high : troubleB exS [footR exRows 110 ⟨1, 3, 4⟩] 1 = true := by decide
theorem ex_tight : (shownL exT [footR exRows 110 ⟨1, 1, 5⟩, footR exRows 110 ⟨1, 1, 5⟩]).length = 0 ∧ (shownL exT [footR exRows 110 ⟨1, 1, 5⟩]).length = 4 := by decide +kernel
end Go.Pb.Sag

/- What the laws' inputs are: shapes that are well made, items of one piece of them. -/
namespace Go.Pb.Sag
open Go Go.Pb Go.Pb.Ware Go.RowKit
set_option linter.unusedVariables false
/-- Shapes with the numbers 1, 2, .. -/
def GoodS (ss : List (List Int)) : Prop := ss.length ≤ 40 ∧ ∀ (k : Nat) r, ss[k]? = some r → r.length = 11 ∧ r.getD 0 0 = (k : Int) + 1 ∧ okS r = true
theorem kept_up : ∀ {rs : List (List Int)} {b : Nat}, (∀ (k : Nat) r, rs[k]? = some r → r.getD 0 0 = ((b + k : Nat) : Int) + 1 ∧ okS r = true) → kept okS (b : Int) rs = true
  | [], _, _ => rfl
  | r :: rs, b, h => by
    have h0 := h 0 r rfl
    rw [kept_next h0.2 (by rw [h0.1]; omega), h0.1]
    have e : ((b + 0 : Nat) : Int) + 1 = ((b + 1 : Nat) : Int) := by omega
    rw [e]
    refine kept_up fun k r2 hk => ?_
    have h1 := h (k + 1) r2 (by simpa using hk)
    rw [show b + 1 + k = b + (k + 1) by omega]
    exact h1
theorem goodS_ck {ss : List (List Int)} (h : GoodS ss) : ckW ss [] = 0 := by
  refine ckW_1 ?_ rfl
  rw [keptB_short (by have := h.1; omega)]
  exact kept_up (b := 0) fun k r hk => by rw [Nat.zero_add]; exact (h.2 k r hk).2
theorem goodS_snoc {ss : List (List Int)} {r : List Int} (h : GoodS ss) (hl : ss.length < 40) (h1 : r.length = 11) (h2 : r.getD 0 0 = (ss.length : Int) + 1) (h3 : okS r = true) : GoodS (ss ++ [r]) := by
  refine ⟨by rw [List.length_append, List.length_singleton]; omega, fun k x hx => ?_⟩
  rcases Nat.lt_or_ge k ss.length with hk | hk
  · rw [List.getElem?_append_left hk] at hx; exact h.2 k x hx
  · rw [List.getElem?_append_right hk] at hx
    have hk2 := (List.getElem?_eq_some_iff.1 hx).1
    simp at hk2
    have e : k = ss.length := by omega
    subst e
    simp at hx
    subst hx
    exact ⟨h1, h2, h3⟩
theorem goodS_nil : GoodS [] := ⟨by simp, fun k r h => by simp at h⟩
theorem findR_at : ∀ {rs : List (List Int)} {b k : Nat} {r : List Int}, (∀ (k : Nat) r, rs[k]? = some r → r.getD 0 0 = ((b + k : Nat) : Int) + 1) → rs[k]? = some r → findR (((b + k : Nat) : Int) + 1) rs = some r
  | [], _, k, r, _, hk => by simp at hk
  | x :: rs, b, 0, r, h, hk => by
    have h0 := h 0 x rfl
    simp at hk
    subst hk
    rw [findR, if_pos h0]
  | x :: rs, b, k + 1, r, h, hk => by
    have h0 := h 0 x rfl
    rw [findR, if_neg (by rw [h0]; omega)]
    have h2 : ∀ (j : Nat) y, rs[j]? = some y → y.getD 0 0 = ((b + 1 + j : Nat) : Int) + 1 := fun j y hj => by
      have := h (j + 1) y (by simpa using hj)
      rw [show b + 1 + j = b + (j + 1) by omega]; exact this
    have := findR_at (rs := rs) (b := b + 1) (k := k) h2 (by simpa using hk)
    rwa [show b + 1 + k = b + (k + 1) by omega] at this
/-- One piece stands. -/
theorem goodS_item {ss : List (List Int)} {sh cl : Int} (h : GoodS ss) (h1 : 1 ≤ sh) (h2 : sh ≤ (ss.length : Int)) (h3 : 0 ≤ cl) (h4 : cl ≤ 50) : itemB ss ⟨sh, 1, cl⟩ = true := by
  obtain ⟨k, rfl⟩ : ∃ k : Nat, sh = (k : Int) + 1 := ⟨(sh - 1).toNat, by omega⟩
  have hk : k < ss.length := by omega
  have hr : ss[k]? = some ss[k] := List.getElem?_eq_getElem hk
  have hg := h.2 k _ hr
  have hf : findR ((k : Int) + 1) ss = some ss[k] := by
    have := findR_at (rs := ss) (b := 0) (k := k) (r := ss[k]) (fun j y hj => by rw [Nat.zero_add]; exact (h.2 j y hj).2.1) hr
    rwa [Nat.zero_add] at this
  unfold itemB
  dsimp only
  rw [hf]
  dsimp only
  have hs : (Ware.stands (shR ss[k]) 1).1 = true := by
    have ho : shOk (shR ss[k]) = true := hg.2.2
    have hb : 0 ≤ (shR ss[k]).bears := by
      simp only [shOk, Bool.and_eq_true, btw_iff] at ho; omega
    unfold Ware.stands
    have hp : ckP (shR ss[k]) 1 = 0 := by unfold ckP; rw [ho]; rfl
    rw [if_pos hp]
    exact decide_eq_true (by omega)
  rw [hs, btw_iff.2 ⟨h3, h4⟩]; rfl
theorem goodS_ex : GoodS exRows := by
  refine ⟨by decide, fun k r hk => ?_⟩
  match k, hk with
  | 0, hk => simp [exRows] at hk; subst hk; exact ⟨rfl, rfl, by decide⟩
  | 1, hk => simp [exRows] at hk; subst hk; exact ⟨rfl, rfl, by decide⟩
  | k + 2, hk => simp [exRows] at hk
theorem good_ck {ss : List (List Int)} {s : Bx} {xs : List It} (h : GoodS ss) (hX : boxOk s = true) (hn : xs.length ≤ 5) (hi : xs.all (itemB ss) = true) : ckL ss [] s xs = 0 := by
  refine ckL_good ?_ (by omega) hi
  unfold ckG; rw [if_pos (goodS_ck h)]
  unfold ckX; rw [if_pos hX]
end Go.Pb.Sag

/- What making a floor holds in memory. -/
namespace Go.Pb.Sag
open Go Go.Pb Go.Pb.Ware Go.RowKit
set_option linter.unusedVariables false
theorem cells_store {W : World} {B o : Nat} {u : Value} {vs : List Value} (h : CellsAt W B vs) : CellsAt (W.setCell ⟨B, o, none⟩ u) B (vs.set o u) := by
  intro j v hv
  by_cases hj : j = o
  · subst hj
    have hl : j < vs.length := by have := (List.getElem?_eq_some_iff.1 hv).1; simpa using this
    rw [List.getElem?_set_self hl] at hv
    injection hv with hv
    subst hv
    have h1 := h j _ (List.getElem?_eq_getElem hl)
    exact ⟨setc_same h1.1, set_free h1.1 h1.2⟩
  · rw [List.getElem?_set_ne (Ne.symm hj)] at hv
    have h1 := h j v hv
    exact ⟨setc_other h1.1 hj, set_free h1.1 h1.2⟩
theorem cells_grown {W W' : World} {B : Nat} {vs : List Value} {row : Option Nat} (h : CellsAt W B vs) (hg : W.grownBy W' row) (hne : some B ≠ row) : CellsAt W' B vs :=
  fun o v hv => ⟨grown_kept hg (h o v hv).1 hne, grown_free hg (h o v hv).1 (h o v hv).2 hne⟩
def Z9 : List Value := [.slice none 0 0, .slice none 0 0, .int .i64 0, .int .i64 0, .int .i64 0, .int .i64 0, .int .i64 0, .int .i64 0, .slice none 0 0]
/-- The argument's block, the answer's, the floor's (with shapes and items that are the call's own). -/
structure MadeAt (TS TI B : Nat) (w : World) (args : List Value) (c : List Int) (sv iv : Value) (ss : List (List Int)) (xs : List It) (W : World) : Prop where
  below : Below B w W
  size : B + 1 + 1 + 1 ≤ W.heap.size
  arg : CellsAt W B args
  res : CellsAt W (B + 1) Z9
  floor : CellsAt W (B + 1 + 1) (sv :: .slice none 0 0 :: (c.map (Value.int .i64) ++ [iv]))
  clen : c.length = 6
  shapes : W.ownsRow (B + 1 + 1 + 1) TS 11 sv ss.length (ss.flatten.map (Value.int .i64))
  items : W.ownsRow (B + 1 + 1 + 1) TI 3 iv xs.length ((xs.map rowX).flatten.map (Value.int .i64))
theorem MadeAt.next {TS TI B : Nat} {w W W' : World} {args : List Value} {c : List Int} {sv iv : Value} {ss : List (List Int)} {xs : List It} (h : MadeAt TS TI B w args c sv iv ss xs W) (hb : Below W.heap.size W W') : MadeAt TS TI B w args c sv iv ss xs W' :=
  ⟨h.below.trans (hb.mono (by have := h.size; omega)), by have := hb.size; have := h.size; omega, h.arg.below hb, h.res.below hb, h.floor.below hb, h.clen, owns_below h.shapes hb, owns_below h.items hb⟩
theorem own_ne {W : World} {lo T s n b : Nat} {v : Value} {xs : List Value} (h : W.ownsRow lo T s v n xs) (hb : b < lo) : some b ≠ v.ownBlock := fun e => by
  have := own_ge h b e.symm; omega
theorem own_ne' {W : World} {lo T s n b : Nat} {v : Value} {xs : List Value} (h : W.ownsRow lo T s v n xs) (hb : b < lo) : v.ownBlock = none ∨ v.ownBlock ≠ some b := .inr fun e => own_ne h hb e.symm
/-- One shape more, and its store. -/
theorem MadeAt.push {TS TI B : Nat} {w W W' : World} {args : List Value} {c : List Int} {sv sv' iv : Value} {ss : List (List Int)} {xs : List It} {r : List Int} (h : MadeAt TS TI B w args c sv iv ss xs W) (hT : TI ≠ TS) (hg : W.grownBy W' sv.ownBlock)
    (ho : W'.ownsRow (B + 1 + 1 + 1) TS 11 sv' (ss.length + 1) (ss.flatten.map (Value.int .i64) ++ r.map (Value.int .i64))) : MadeAt TS TI B w args c sv' iv (ss ++ [r]) xs (W'.setCell ⟨B + 1 + 1, 0, none⟩ sv') := by
  have h0 := h.size
  have e1 : (ss ++ [r]).length = ss.length + 1 := by simp
  have e2 : (ss ++ [r]).flatten.map (Value.int .i64) = ss.flatten.map (Value.int .i64) ++ r.map (Value.int .i64) := by simp
  refine ⟨(below_grown h.below hg h.shapes (by omega) (by omega)).setCell (p := ⟨B + 1 + 1, 0, none⟩) (by show B ≤ B + 1 + 1; omega) _, by have := hg.size; simp; omega, (cells_grown h.arg hg (own_ne h.shapes (by omega))).other (by omega) _, (cells_grown h.res hg (own_ne h.shapes (by omega))).other (by omega) _, ?_, h.clen, ?_, ?_⟩
  · exact cells_store (cells_grown h.floor hg (own_ne h.shapes (by omega)))
  · rw [e1, e2]; exact set_own ho (own_ne' ho (by omega))
  · exact set_own (h.items.kept hg (apart_types h.items h.shapes hT)) (own_ne' h.items (by omega))
/-- One item more, and its store. -/
theorem MadeAt.add {TS TI B : Nat} {w W W' : World} {args : List Value} {c : List Int} {sv iv iv' : Value} {ss : List (List Int)} {xs : List It} {x : It} (h : MadeAt TS TI B w args c sv iv ss xs W) (hT : TS ≠ TI) (hg : W.grownBy W' iv.ownBlock)
    (ho : W'.ownsRow (B + 1 + 1 + 1) TI 3 iv' (xs.length + 1) ((xs.map rowX).flatten.map (Value.int .i64) ++ (rowX x).map (Value.int .i64))) : MadeAt TS TI B w args c sv iv' ss (xs ++ [x]) (W'.setCell ⟨B + 1 + 1, 8, none⟩ iv') := by
  have h0 := h.size
  have e1 : (xs ++ [x]).length = xs.length + 1 := by simp
  have e2 : ((xs ++ [x]).map rowX).flatten.map (Value.int .i64) = (xs.map rowX).flatten.map (Value.int .i64) ++ (rowX x).map (Value.int .i64) := by simp
  refine ⟨(below_grown h.below hg h.items (by omega) (by omega)).setCell (p := ⟨B + 1 + 1, 8, none⟩) (by show B ≤ B + 1 + 1; omega) _, by have := hg.size; simp; omega, (cells_grown h.arg hg (own_ne h.items (by omega))).other (by omega) _, (cells_grown h.res hg (own_ne h.items (by omega))).other (by omega) _, ?_, h.clen, ?_, ?_⟩
  · have h1 := cells_store (o := 8) (u := iv') (cells_grown h.floor hg (own_ne h.items (by omega)))
    match c, h.clen, h1 with
    | [c1, c2, c3, c4, c5, c6], _, h1 => exact h1
  · exact set_own (h.shapes.kept hg (apart_types h.shapes h.items hT)) (own_ne' h.shapes (by omega))
  · rw [e1, e2]; exact set_own ho (own_ne' ho (by omega))
theorem own_set {W : World} {lo T n s cap g k : Nat} {xs : List Value} {v : Value} (h : W.ownsRow lo T s (.slice (some ⟨g, 0, none⟩) n cap) n xs) : (W.setCell ⟨g, k, none⟩ v).ownsRow lo T s (.slice (some ⟨g, 0, none⟩) n cap) n (xs.set k v) := by
  refine ⟨by rw [List.length_set]; exact h.1, ?_⟩
  rcases h.2 with ⟨h1, _⟩ | ⟨g', cap', cur, h1, h2, h3, h4, h5, h6, h7⟩
  · cases h1
  · injection h1 with e1 _ e2
    injection e1 with e1
    injection e1 with e1
    subst e1; subst e2
    refine .inr ⟨g, cap, cur.setIfInBounds k v, rfl, h2, ?_, h4, h5, by rw [Array.size_setIfInBounds]; exact h6, ?_⟩
    · rw [Go.Sort.setCell_eq]
      unfold Go.Sort.mapBlock
      rw [Array.getElem?_modify, if_pos rfl, h3]; rfl
    · rw [Array.toList_setIfInBounds, List.take_set, h7]
theorem flat_set : ∀ {xs : List It} {i : Nat} {x : It}, i < xs.length → (((((xs.map rowX).flatten.map (Value.int .i64)).set (i * 3) (.int .i64 x.shape)).set (i * 3 + 1) (.int .i64 x.many)).set (i * 3 + 2) (.int .i64 x.clear)) = ((xs.set i x).map rowX).flatten.map (Value.int .i64)
  | [], i, x, h => by simp at h
  | y :: ys, 0, x, h => rfl
  | y :: ys, i + 1, x, h => by
    have ih := flat_set (xs := ys) (i := i) (x := x) (by simpa using h)
    have e : ∀ (l : List Value) (j : Nat) (v : Value), (Value.int .i64 y.shape :: .int .i64 y.many :: .int .i64 y.clear :: l).set (j + 3) v = .int .i64 y.shape :: .int .i64 y.many :: .int .i64 y.clear :: l.set j v := fun l j v => rfl
    have e0 : (((y :: ys).map rowX).flatten.map (Value.int .i64)) = .int .i64 y.shape :: .int .i64 y.many :: .int .i64 y.clear :: ((ys.map rowX).flatten.map (Value.int .i64)) := rfl
    rw [e0, show (i + 1) * 3 = i * 3 + 3 by omega, show i * 3 + 3 + 1 = i * 3 + 1 + 3 by omega, show i * 3 + 3 + 2 = i * 3 + 2 + 3 by omega, e, e, e, ih]
    rfl
/-- One item overwritten. -/
theorem MadeAt.over {TS TI B g cap i : Nat} {w W : World} {args : List Value} {c : List Int} {sv : Value} {ss : List (List Int)} {xs : List It} {x : It} (h : MadeAt TS TI B w args c sv (.slice (some ⟨g, 0, none⟩) xs.length cap) ss xs W) (hT : TS ≠ TI) (hi : i < xs.length) :
    MadeAt TS TI B w args c sv (.slice (some ⟨g, 0, none⟩) xs.length cap) ss (xs.set i x) (((W.setCell ⟨g, i * 3, none⟩ (.int .i64 x.shape)).setCell ⟨g, i * 3 + 1, none⟩ (.int .i64 x.many)).setCell ⟨g, i * 3 + 2, none⟩ (.int .i64 x.clear)) := by
  have h0 := h.size
  have hgb := own_ge h.items g rfl
  have n1 : ∀ o u, sv.ownBlock = none ∨ sv.ownBlock ≠ some (⟨g, o, u⟩ : Addr).block := fun o u => apart_types h.shapes h.items hT
  refine ⟨((h.below.setCell (p := ⟨g, i * 3, none⟩) (by show B ≤ g; omega) _).setCell (p := ⟨g, i * 3 + 1, none⟩) (by show B ≤ g; omega) _).setCell (p := ⟨g, i * 3 + 2, none⟩) (by show B ≤ g; omega) _, by simp; omega, ((h.arg.other (by omega) _).other (by omega) _).other (by omega) _, ((h.res.other (by omega) _).other (by omega) _).other (by omega) _, ((h.floor.other (by omega) _).other (by omega) _).other (by omega) _, h.clen, ?_, ?_⟩
  · exact set_own (set_own (set_own h.shapes (n1 0 none)) (n1 0 none)) (n1 0 none)
  · rw [List.length_set, ← flat_set hi]
    exact own_set (own_set (own_set h.items))
/-- Another slice of shapes. -/
theorem MadeAt.wares {TS TI B : Nat} {w W : World} {args : List Value} {c : List Int} {sv sv' iv : Value} {ss ss' : List (List Int)} {xs : List It} (h : MadeAt TS TI B w args c sv iv ss xs W) (ho : W.ownsRow (B + 1 + 1 + 1) TS 11 sv' ss'.length (ss'.flatten.map (Value.int .i64))) :
    MadeAt TS TI B w args c sv' iv ss' xs ((W.setCell ⟨B + 1 + 1, 0, none⟩ sv').setCell ⟨B + 1 + 1, 1, none⟩ (.slice none 0 0)) := by
  have h0 := h.size
  refine ⟨(h.below.setCell (p := ⟨B + 1 + 1, 0, none⟩) (by show B ≤ B + 1 + 1; omega) _).setCell (p := ⟨B + 1 + 1, 1, none⟩) (by show B ≤ B + 1 + 1; omega) _, by simp; omega, (h.arg.other (by omega) _).other (by omega) _, (h.res.other (by omega) _).other (by omega) _, ?_, h.clen, set_own (set_own ho (own_ne' ho (by omega))) (own_ne' ho (by omega)), set_own (set_own h.items (own_ne' h.items (by omega))) (own_ne' h.items (by omega))⟩
  exact cells_store (o := 1) (cells_store (o := 0) h.floor)
/-- Another box. -/
theorem MadeAt.box {TS TI B : Nat} {w W : World} {args : List Value} {c : List Int} {sv iv : Value} {ss : List (List Int)} {xs : List It} {c1 c2 c3 c4 c5 c6 : Int} (h : MadeAt TS TI B w args c sv iv ss xs W) :
    MadeAt TS TI B w args [c1, c2, c3, c4, c5, c6] sv iv ss xs ((((((W.setCell ⟨B + 1 + 1, 2, none⟩ (.int .i64 c1)).setCell ⟨B + 1 + 1, 3, none⟩ (.int .i64 c2)).setCell ⟨B + 1 + 1, 4, none⟩ (.int .i64 c3)).setCell ⟨B + 1 + 1, 5, none⟩ (.int .i64 c4)).setCell ⟨B + 1 + 1, 6, none⟩ (.int .i64 c5)).setCell ⟨B + 1 + 1, 7, none⟩ (.int .i64 c6)) := by
  have h0 := h.size
  have hb : ∀ {V : World} (o : Nat) (u : Value), Below B w V → Below B w (V.setCell ⟨B + 1 + 1, o, none⟩ u) := fun o u h => h.setCell (p := ⟨B + 1 + 1, o, none⟩) (by show B ≤ B + 1 + 1; omega) u
  have hs := own_ne' h.shapes (b := B + 1 + 1) (by omega)
  have hi := own_ne' h.items (b := B + 1 + 1) (by omega)
  refine ⟨hb _ _ (hb _ _ (hb _ _ (hb _ _ (hb _ _ (hb _ _ h.below))))), by simp; omega, (((((h.arg.other (by omega) _).other (by omega) _).other (by omega) _).other (by omega) _).other (by omega) _).other (by omega) _, (((((h.res.other (by omega) _).other (by omega) _).other (by omega) _).other (by omega) _).other (by omega) _).other (by omega) _, ?_, rfl, set_own (set_own (set_own (set_own (set_own (set_own h.shapes hs) hs) hs) hs) hs) hs, set_own (set_own (set_own (set_own (set_own (set_own h.items hi) hi) hi) hi) hi) hi⟩
  have h1 := cells_store (o := 7) (u := .int .i64 c6) (cells_store (o := 6) (u := .int .i64 c5) (cells_store (o := 5) (u := .int .i64 c4) (cells_store (o := 4) (u := .int .i64 c3) (cells_store (o := 3) (u := .int .i64 c2) (cells_store (o := 2) (u := .int .i64 c1) h.floor)))))
  match c, h.clen, h1 with
  | [a1, a2, a3, a4, a5, a6], _, h1 => exact h1
/-- A block of the call's own beside. -/
theorem MadeAt.side {TS TI B b o : Nat} {w W : World} {args : List Value} {c : List Int} {sv iv u : Value} {ss : List (List Int)} {xs : List It} (h : MadeAt TS TI B w args c sv iv ss xs W) (hb : B + 1 + 1 + 1 ≤ b) (hs : ∀ a, sv.ownBlock = some a → a < b) (hi : ∀ a, iv.ownBlock = some a → a < b) :
    MadeAt TS TI B w args c sv iv ss xs (W.setCell ⟨b, o, none⟩ u) := by
  have h0 := h.size
  exact ⟨h.below.setCell (p := ⟨b, o, none⟩) (by show B ≤ b; omega) _, by simp; omega, h.arg.other (by omega) _, h.res.other (by omega) _, h.floor.other (by omega) _, h.clen, set_own h.shapes (.inr fun e => by have := hs b e; omega), set_own h.items (.inr fun e => by have := hi b e; omega)⟩
theorem MadeAt.lt {TS TI B : Nat} {w W : World} {args : List Value} {c : List Int} {sv iv : Value} {ss : List (List Int)} {xs : List It} (h : MadeAt TS TI B w args c sv iv ss xs W) : (∀ a, sv.ownBlock = some a → a < W.heap.size) ∧ ∀ a, iv.ownBlock = some a → a < W.heap.size :=
  ⟨fun a e => (World.ownsRow.lt h.shapes a e).2, fun a e => (World.ownsRow.lt h.items a e).2⟩
theorem goodS_i64 {ss : List (List Int)} (h : GoodS ss) : ∀ r ∈ ss, r.length = 11 ∧ ∀ z ∈ r, I64 z := by
  intro r hr
  obtain ⟨k, hk⟩ := List.getElem?_of_mem hr
  obtain ⟨h1, _, h3⟩ := h.2 k r hk
  refine ⟨h1, ?_⟩
  obtain ⟨a0, a1, a2, a3, a4, a5, a6, a7, a8, a9, a10, rfl⟩ := len11 h1
  have h4 := shOk_iff.1 h3
  simp only [shR, List.getD_cons_zero, List.getD_cons_succ] at h4
  intro z hz
  simp only [List.mem_cons, List.not_mem_nil, or_false] at hz
  rcases hz with rfl | rfl | rfl | rfl | rfl | rfl | rfl | rfl | rfl | rfl | rfl <;> exact I64.mk (by omega) (by omega)
theorem item_i64 {ss : List (List Int)} {x : It} (h : GoodS ss) (hx : itemB ss x = true) : ∀ z ∈ rowX x, I64 z := by
  unfold itemB at hx
  split at hx
  · rename_i r hf
    obtain ⟨hm, hid⟩ := findR_mem hf
    obtain ⟨k, hk⟩ := List.getElem?_of_mem hm
    have h3 := shOk_iff.1 (h.2 k r hk).2.2
    rw [Bool.and_eq_true, btw_iff] at hx
    have hs : ckP (shR r) x.many = 0 := by
      have h4 := hx.1
      unfold Ware.stands at h4
      split at h4
      · assumption
      · cases h4
    have hmn : 1 ≤ x.many ∧ x.many ≤ 40 := by
      unfold ckP at hs
      split at hs
      · split at hs
        · rename_i hb; exact btw_iff.1 hb
        · cases hs
      · cases hs
    have hsh : (shR r).id = x.shape := hid
    intro z hz
    simp only [rowX, List.mem_cons, List.not_mem_nil, or_false] at hz
    rcases hz with rfl | rfl | rfl
    · exact I64.mk (by omega) (by omega)
    · exact I64.mk (by omega) (by omega)
    · exact I64.mk (by omega) (by omega)
  · cases hx
theorem MadeAt.rows {TS TI B : Nat} {w W : World} {args : List Value} {c : List Int} {sv iv : Value} {ss : List (List Int)} {xs : List It} (h : MadeAt TS TI B w args c sv iv ss xs W) (hg : GoodS ss) : RowsAt 11 W sv ss :=
  rowsAt_of_owns (rows := ss) (fun r hr => (goodS_i64 hg r hr).1) h.shapes (fun r hr => (goodS_i64 hg r hr).2)
theorem MadeAt.its {TS TI B : Nat} {w W : World} {args : List Value} {c : List Int} {sv iv : Value} {ss : List (List Int)} {xs : List It} (h : MadeAt TS TI B w args c sv iv ss xs W) (hg : GoodS ss) (ha : xs.all (itemB ss) = true) : RowsAt 3 W iv (xs.map rowX) := by
  refine rowsAt_of_owns (rows := xs.map rowX) (e := TI) (base := B + 1 + 1 + 1) (fun r hr => ?_) (by rw [List.length_map]; exact h.items) (fun r hr => ?_)
  · obtain ⟨x, _, rfl⟩ := List.mem_map.1 hr; rfl
  · obtain ⟨x, hx, rfl⟩ := List.mem_map.1 hr
    exact item_i64 hg (List.all_eq_true.1 ha x hx)
end Go.Pb.Sag

/- The fewest groups: whatever groups are accepted, the search finds some that are no more. -/
namespace Go.Pb.Sag
open Go Go.Pb Go.Pb.Ware Go.RowKit
set_option linter.unusedVariables false
/-- What of a group lies below i. -/
def below (i : Nat) (g : List Int) : List Int := g.filter fun z => decide (z < (i : Int))
theorem below_same {i : Nat} {g : List Int} (h : (i : Int) ∉ g) : below (i + 1) g = below i g := by
  unfold below
  refine List.filter_congr fun z hz => ?_
  have : z ≠ (i : Int) := fun e => h (e ▸ hz)
  simp only [decide_eq_decide]
  omega
theorem below_none {i : Nat} : ∀ {g : List Int}, (∀ z ∈ g, (i : Int) ≤ z) → below i g = []
  | [], _ => rfl
  | a :: l, h => by
    have h1 := h a (by simp)
    unfold below
    rw [List.filter_cons_of_neg (by simp; omega)]
    exact below_none fun z hz => h z (by simp [hz])
theorem below_succ {i : Nat} : ∀ {g : List Int}, g.Pairwise (· < ·) → (i : Int) ∈ g → below (i + 1) g = below i g ++ [(i : Int)]
  | [], _, h => by cases h
  | a :: l, hp, h => by
    have hp2 := List.pairwise_cons.1 hp
    by_cases ha : a = (i : Int)
    · have e1 : below i l = [] := below_none fun z hz => by have := hp2.1 z hz; omega
      have e2 : below (i + 1) l = [] := below_none fun z hz => by have := hp2.1 z hz; omega
      unfold below at e1 e2 ⊢
      rw [List.filter_cons_of_pos (by simp; omega), List.filter_cons_of_neg (by simp; omega), e1, e2, ha]; rfl
    · have hl : (i : Int) ∈ l := by
        rcases List.mem_cons.1 h with e | e
        · exact absurd e.symm ha
        · exact e
      have h1 := hp2.1 _ hl
      have ih := below_succ hp2.2 hl
      unfold below at ih ⊢
      rw [List.filter_cons_of_pos (by simp; omega), List.filter_cons_of_pos (by simp; omega), ih]; rfl
theorem below_all {n : Nat} {g : List Int} (h : ∀ z ∈ g, z < (n : Int)) : below n g = g := List.filter_eq_self.2 fun z hz => decide_eq_true (h z hz)
/-- Groups of all items: each rises, their first items rise, each item is in just one. -/
structure Acc (n : Nat) (gs : List (List Int)) : Prop where
  one : ∀ (k : Nat) g, gs[k]? = some g → ∃ x, g[0]? = some x
  inc : ∀ (k : Nat) g, gs[k]? = some g → g.Pairwise (· < ·)
  lo : ∀ (k : Nat) g, gs[k]? = some g → ∀ z ∈ g, 0 ≤ z ∧ z < (n : Int)
  heads : ∀ (j k : Nat) g h x y, j < k → gs[j]? = some g → gs[k]? = some h → g[0]? = some x → h[0]? = some y → x < y
  cover : ∀ i : Nat, i < n → ∃ (k : Nat) (g : List Int), gs[k]? = some g ∧ (i : Int) ∈ g
  once : ∀ (j k : Nat) g h z, gs[j]? = some g → gs[k]? = some h → z ∈ g → z ∈ h → j = k
/-- What the search has put where i items are put as in gs. -/
structure Part (i : Nat) (gs P : List (List Int)) : Prop where
  le : P.length ≤ gs.length
  at' : ∀ (k : Nat) g, k < P.length → gs[k]? = some g → P[k]? = some (below i g)
  head : ∀ (k : Nat) g x, gs[k]? = some g → g[0]? = some x → (k < P.length ↔ x < (i : Int))
theorem head_le {g : List Int} {x z : Int} (hp : g.Pairwise (· < ·)) (hx : g[0]? = some x) (hz : z ∈ g) : x ≤ z := by
  match g, hx with
  | a :: l, hx =>
    simp at hx; subst hx
    rcases List.mem_cons.1 hz with e | e
    · omega
    · have := (List.pairwise_cons.1 hp).1 z e; omega
theorem head_mem {g : List Int} {x : Int} (hx : g[0]? = some x) : x ∈ g := List.mem_of_getElem? hx
theorem part_nil {n : Nat} {gs : List (List Int)} (ha : Acc n gs) : Part 0 gs [] := by
  refine ⟨Nat.zero_le _, fun k g h => (by simp at h), fun k g x hg hx => ?_⟩
  have := (ha.lo k g hg x (head_mem hx)).1
  simp; omega
theorem part_set {n i k : Nat} {gs P : List (List Int)} {g : List Int} {x : Int} (ha : Acc n gs) (hp : Part i gs P) (hg : gs[k]? = some g) (hi : (i : Int) ∈ g) (hx : g[0]? = some x) (hlt : x < (i : Int)) : P.getD k [] ++ [(i : Int)] = below (i + 1) g ∧ Part (i + 1) gs (P.set k (P.getD k [] ++ [(i : Int)])) := by
  have hk : k < P.length := (hp.head k g x hg hx).2 hlt
  have e1 := hp.at' k g hk hg
  have e2 : P.getD k [] = below i g := by rw [List.getD_eq_getElem?_getD, e1]; rfl
  have e3 : P.getD k [] ++ [(i : Int)] = below (i + 1) g := by rw [e2, below_succ (ha.inc k g hg) hi]
  refine ⟨e3, by rw [List.length_set]; exact hp.le, fun j h hj hh => ?_, fun j h y hh hy => ?_⟩
  · rw [List.length_set] at hj
    by_cases e : j = k
    · subst e
      rw [List.getElem?_set_self hk, e3]
      rw [hg] at hh; injection hh with hh; rw [hh]
    · rw [List.getElem?_set_ne (Ne.symm e), hp.at' j h hj hh, below_same fun hm => e (ha.once j k h g _ hh hg hm hi)]
  · rw [List.length_set, hp.head j h y hh hy]
    constructor
    · intro h1; omega
    · intro h1
      by_cases e : y = (i : Int)
      · exfalso
        have hj := ha.once j k h g (i : Int) hh hg (by rw [← e]; exact head_mem hy) hi
        subst hj
        rw [hh] at hg; injection hg with hg; subst hg
        rw [hy] at hx; injection hx with hx
        omega
      · omega
theorem part_snoc {n i k : Nat} {gs P : List (List Int)} {g : List Int} (ha : Acc n gs) (hp : Part i gs P) (hg : gs[k]? = some g) (hx : g[0]? = some (i : Int)) : P.length = k ∧ [(i : Int)] = below (i + 1) g ∧ Part (i + 1) gs (P ++ [[(i : Int)]]) := by
  have hkl := (List.getElem?_eq_some_iff.1 hg).1
  have hi := head_mem hx
  have hk : P.length = k := by
    rcases Nat.lt_trichotomy P.length k with h | h | h
    · exfalso
      have hj : gs[P.length]? = some (gs[P.length]'(by omega)) := List.getElem?_eq_getElem _
      obtain ⟨y, hy⟩ := ha.one _ _ hj
      have h1 := ha.heads _ _ _ _ _ _ h hj hg hy hx
      have h2 := (hp.head _ _ _ hj hy).2 h1
      omega
    · exact h
    · have := (hp.head k g _ hg hx).1 h; omega
  have e1 : below i g = [] := below_none fun z hz => head_le (ha.inc k g hg) hx hz
  have e2 : [(i : Int)] = below (i + 1) g := by rw [below_succ (ha.inc k g hg) hi, e1]; rfl
  refine ⟨hk, e2, by simp; omega, fun j h hj hh => ?_, fun j h y hh hy => ?_⟩
  · simp at hj
    rcases Nat.lt_or_ge j P.length with hl | hl
    · rw [List.getElem?_append_left hl, hp.at' j h hl hh, below_same fun hm => by have := ha.once j k h g _ hh hg hm hi; omega]
    · have e : j = k := by omega
      subst e
      rw [List.getElem?_append_right (by omega), hk, Nat.sub_self]
      rw [hg] at hh; injection hh with hh; subst hh
      rw [← e2]; rfl
  · rw [List.length_append, List.length_singleton]
    have h0 := hp.head j h y hh hy
    constructor
    · intro h1
      rcases Nat.lt_or_ge j P.length with hl | hl
      · have := h0.1 hl; omega
      · have e : j = k := by omega
        subst e
        rw [hg] at hh; injection hh with hh; subst hh
        rw [hx] at hy; injection hy with hy
        omega
    · intro h1
      by_cases e : y = (i : Int)
      · have := ha.once j k h g (i : Int) hh hg (by rw [← e]; exact head_mem hy) hi
        omega
      · have := h0.2 (by omega); omega
theorem chosen_below {fs : List Ft} {i : Nat} {g : List Int} : (chosenL fs (below i g)).Sublist (chosenL fs g) := by
  unfold chosenL below
  exact List.Sublist.map _ List.filter_sublist
/-- Groups that are accepted let the search end, with as many as they are. -/
theorem put_some {s : Bx} {fs : List Ft} {gs : List (List Int)} (hF : ∀ f ∈ fs, FtOk f) (hC : ∀ g ∈ gs, ∀ f ∈ chosenL fs g, FtOk f) (ha : Acc fs.length gs) (hf : ∀ g ∈ gs, fitsB s (chosenL fs g) = true) : ∀ (d i : Nat) (P : List (List Int)), i + d = fs.length → Part i gs P → putF s fs gs.length d i P ≠ none
  | 0, i, P, _, _ => by rw [putF]; exact fun h => by cases h
  | d + 1, i, P, hid, hp => by
    obtain ⟨k, g, hg, hi⟩ := ha.cover i (by omega)
    obtain ⟨x, hx⟩ := ha.one k g hg
    have hxi := head_le (ha.inc k g hg) hx hi
    have hgm : g ∈ gs := List.mem_of_getElem? hg
    rw [putF_succ]
    by_cases hlt : x < (i : Int)
    · obtain ⟨e, hp2⟩ := part_set ha hp hg hi hx hlt
      have hk : k < P.length := (hp.head k g x hg hx).2 hlt
      have ht : tryF s fs gs.length d i P k ≠ none := by
        unfold tryF
        rw [if_pos (by rw [e]; exact fits_sub chosen_below (hC g hgm) (hf g hgm))]
        exact put_some hF hC ha hf d (i + 1) _ (by omega) hp2
      cases hfs : (List.range P.length).findSome? (tryF s fs gs.length d i P) with
      | some r => exact fun h => by cases h
      | none => exact absurd (List.findSome?_eq_none_iff.1 hfs k (List.mem_range.2 hk)) ht
    · obtain rfl : x = (i : Int) := by omega
      obtain ⟨hk, e, hp2⟩ := part_snoc ha hp hg hx
      cases hfs : (List.range P.length).findSome? (tryF s fs gs.length d i P) with
      | some r => exact fun h => by cases h
      | none =>
        have hkl := (List.getElem?_eq_some_iff.1 hg).1
        dsimp only
        rw [if_neg (by omega)]
        exact put_some hF hC ha hf d (i + 1) _ (by omega) hp2
theorem acc_nil : Acc 0 [] := ⟨fun k g h => (by simp at h), fun k g h => (by simp at h), fun k g h => (by simp at h), fun j k g h x y _ h1 => (by simp at h1), fun i h => (by omega), fun j k g h z h1 => (by simp at h1)⟩
theorem acc_snoc {i : Nat} {P : List (List Int)} (h : Acc i P) : Acc (i + 1) (P ++ [[(i : Int)]]) := by
  have key : ∀ (k : Nat) g, (P ++ [[(i : Int)]])[k]? = some g → (k < P.length ∧ P[k]? = some g) ∨ (k = P.length ∧ g = [(i : Int)]) := by
    intro k g hg
    have hl := (List.getElem?_eq_some_iff.1 hg).1
    simp at hl
    rcases Nat.lt_or_ge k P.length with h1 | h1
    · rw [List.getElem?_append_left h1] at hg; exact .inl ⟨h1, hg⟩
    · have e : k = P.length := by omega
      subst e
      rw [List.getElem?_append_right (Nat.le_refl _)] at hg
      simp at hg
      exact .inr ⟨rfl, hg.symm⟩
  have no : ∀ (k : Nat) g, P[k]? = some g → (i : Int) ∉ g := fun k g hg hm => by have := (h.lo k g hg _ hm).2; omega
  refine ⟨fun k g hg => ?_, fun k g hg => ?_, fun k g hg z hz => ?_, fun j k g g' x y hjk hg hg' hx hy => ?_, fun z hz => ?_, fun j k g g' z hg hg' hz hz' => ?_⟩
  · rcases key k g hg with ⟨_, h1⟩ | ⟨_, rfl⟩
    · exact h.one k g h1
    · exact ⟨_, rfl⟩
  · rcases key k g hg with ⟨_, h1⟩ | ⟨_, rfl⟩
    · exact h.inc k g h1
    · simp
  · rcases key k g hg with ⟨_, h1⟩ | ⟨_, rfl⟩
    · have := h.lo k g h1 z hz; omega
    · simp at hz; omega
  · rcases key j g hg with ⟨hj, h1⟩ | ⟨hj, rfl⟩
    · rcases key k g' hg' with ⟨_, h2⟩ | ⟨_, rfl⟩
      · exact h.heads j k g g' x y hjk h1 h2 hx hy
      · simp at hy
        have := (h.lo j g h1 x (head_mem hx)).2
        omega
    · have := (List.getElem?_eq_some_iff.1 hg').1
      simp at this
      omega
  · rcases Nat.lt_or_ge z i with h1 | h1
    · obtain ⟨k, g, hg, hm⟩ := h.cover z h1
      exact ⟨k, g, by rw [List.getElem?_append_left (List.getElem?_eq_some_iff.1 hg).1]; exact hg, hm⟩
    · obtain rfl : z = i := by omega
      exact ⟨P.length, [(z : Int)], by rw [List.getElem?_append_right (Nat.le_refl _)]; simp, by simp⟩
  · rcases key j g hg with ⟨hj, h1⟩ | ⟨hj, rfl⟩
    · rcases key k g' hg' with ⟨_, h2⟩ | ⟨_, rfl⟩
      · exact h.once j k g g' z h1 h2 hz hz'
      · simp at hz'; subst hz'; exact absurd hz (no j g h1)
    · rcases key k g' hg' with ⟨_, h2⟩ | ⟨hk, rfl⟩
      · simp at hz; subst hz; exact absurd hz' (no k g' h2)
      · omega
theorem acc_set {i k : Nat} {P : List (List Int)} {g : List Int} (h : Acc i P) (hg : P[k]? = some g) : Acc (i + 1) (P.set k (g ++ [(i : Int)])) := by
  have hk := (List.getElem?_eq_some_iff.1 hg).1
  have key : ∀ (j : Nat) f, (P.set k (g ++ [(i : Int)]))[j]? = some f → ∃ f0, P[j]? = some f0 ∧ ((j ≠ k ∧ f = f0) ∨ (j = k ∧ f = f0 ++ [(i : Int)])) := by
    intro j f hf
    by_cases e : j = k
    · subst e
      rw [List.getElem?_set_self hk] at hf
      injection hf with hf
      exact ⟨g, hg, .inr ⟨rfl, hf.symm⟩⟩
    · rw [List.getElem?_set_ne (Ne.symm e)] at hf
      exact ⟨f, hf, .inl ⟨e, rfl⟩⟩
  have no : ∀ (k : Nat) g, P[k]? = some g → (i : Int) ∉ g := fun k g hg hm => by have := (h.lo k g hg _ hm).2; omega
  have hd : ∀ (j : Nat) f f0 x, P[j]? = some f0 → ((j ≠ k ∧ f = f0) ∨ (j = k ∧ f = f0 ++ [(i : Int)])) → f[0]? = some x → f0[0]? = some x := by
    intro j f f0 x h1 h2 h3
    rcases h2 with ⟨_, rfl⟩ | ⟨_, rfl⟩
    · exact h3
    · obtain ⟨y, hy⟩ := h.one j f0 h1
      rw [head_snoc hy] at h3
      rw [hy]; exact h3
  have mem : ∀ (j : Nat) f f0 (z : Int), ((j ≠ k ∧ f = f0) ∨ (j = k ∧ f = f0 ++ [(i : Int)])) → z ∈ f → z ∈ f0 ∨ (j = k ∧ z = (i : Int)) := by
    intro j f f0 z h2 hz
    rcases h2 with ⟨_, rfl⟩ | ⟨h3, rfl⟩
    · exact .inl hz
    · rcases List.mem_append.1 hz with h4 | h4
      · exact .inl h4
      · simp at h4; exact .inr ⟨h3, h4⟩
  refine ⟨fun j f hf => ?_, fun j f hf => ?_, fun j f hf z hz => ?_, fun j l f f' x y hjl hf hf' hx hy => ?_, fun z hz => ?_, fun j l f f' z hf hf' hz hz' => ?_⟩
  · obtain ⟨f0, h1, h2⟩ := key j f hf
    obtain ⟨y, hy⟩ := h.one j f0 h1
    rcases h2 with ⟨_, rfl⟩ | ⟨_, rfl⟩
    · exact ⟨y, hy⟩
    · exact ⟨y, head_snoc hy⟩
  · obtain ⟨f0, h1, h2⟩ := key j f hf
    have h3 := h.inc j f0 h1
    rcases h2 with ⟨_, rfl⟩ | ⟨_, rfl⟩
    · exact h3
    · refine List.pairwise_append.2 ⟨h3, by simp, fun a ha b hb => ?_⟩
      simp at hb
      have := (h.lo j f0 h1 a ha).2
      omega
  · obtain ⟨f0, h1, h2⟩ := key j f hf
    rcases mem j f f0 z h2 hz with h3 | ⟨_, h3⟩
    · have := h.lo j f0 h1 z h3; omega
    · omega
  · obtain ⟨f0, h1, h2⟩ := key j f hf
    obtain ⟨f1, h3, h4⟩ := key l f' hf'
    exact h.heads j l f0 f1 x y hjl h1 h3 (hd j f f0 x h1 h2 hx) (hd l f' f1 y h3 h4 hy)
  · rcases Nat.lt_or_ge z i with h1 | h1
    · obtain ⟨j, f, hf, hm⟩ := h.cover z h1
      by_cases e : j = k
      · subst e
        rw [hg] at hf; injection hf with hf; subst hf
        exact ⟨j, g ++ [(i : Int)], by rw [List.getElem?_set_self hk], List.mem_append_left _ hm⟩
      · exact ⟨j, f, by rw [List.getElem?_set_ne (Ne.symm e)]; exact hf, hm⟩
    · obtain rfl : z = i := by omega
      exact ⟨k, g ++ [(z : Int)], by rw [List.getElem?_set_self hk], by simp⟩
  · obtain ⟨f0, h1, h2⟩ := key j f hf
    obtain ⟨f1, h3, h4⟩ := key l f' hf'
    rcases mem j f f0 z h2 hz with h5 | ⟨h5, h6⟩
    · rcases mem l f' f1 z h4 hz' with h7 | ⟨h7, h8⟩
      · exact h.once j l f0 f1 z h1 h3 h5 h7
      · subst h8; exact absurd h5 (no j f0 h1)
    · rcases mem l f' f1 z h4 hz' with h7 | ⟨h7, h8⟩
      · subst h6; exact absurd h7 (no l f1 h3)
      · omega
/-- What the search finds is accepted, and is no more than asked. -/
theorem put_acc {s : Bx} {fs : List Ft} {most : Nat} : ∀ (d i : Nat) (P r : List (List Int)), i + d = fs.length → Acc i P → (∀ g ∈ P, fitsB s (chosenL fs g) = true) → (∀ k, k < fs.length → fitsB s (chosenL fs [(k : Int)]) = true) → P.length ≤ most → putF s fs most d i P = some r → (Acc fs.length r ∧ ∀ g ∈ r, fitsB s (chosenL fs g) = true) ∧ r.length ≤ most
  | 0, i, P, r, hid, ha, hf, _, hm, h => by
    rw [putF] at h
    injection h with h
    subst h
    obtain rfl : i = fs.length := by omega
    exact ⟨⟨ha, hf⟩, hm⟩
  | d + 1, i, P, r, hid, ha, hf, h1, hm, h => by
    rw [putF_succ] at h
    cases hfs : (List.range P.length).findSome? (tryF s fs most d i P) with
    | some r' =>
      rw [hfs] at h
      injection h with h
      subst h
      obtain ⟨k, hk, ht⟩ := List.exists_of_findSome?_eq_some hfs
      rw [List.mem_range] at hk
      unfold tryF at ht
      have hg : P[k]? = some (P.getD k []) := by rw [List.getD_eq_getElem?_getD, List.getElem?_eq_getElem hk]; rfl
      split at ht
      · rename_i hfit
        refine put_acc d (i + 1) _ _ (by omega) (acc_set ha hg) (fun g hgm => ?_) h1 (by rw [List.length_set]; exact hm) ht
        rcases List.mem_or_eq_of_mem_set hgm with h2 | h2
        · exact hf g h2
        · rw [h2]; exact hfit
      · cases ht
    | none =>
      rw [hfs] at h
      dsimp only at h
      split at h
      · cases h
      · rename_i hne
        refine put_acc d (i + 1) _ _ (by omega) (acc_snoc ha) (fun g hgm => ?_) h1 (by simp; omega) h
        rcases List.mem_append.1 hgm with h2 | h2
        · exact hf g h2
        · simp at h2; rw [h2]; exact h1 i (by omega)
theorem acc_many {n : Nat} {gs : List (List Int)} (ha : Acc n gs) : ∀ (k : Nat) g x, gs[k]? = some g → g[0]? = some x → (k : Int) ≤ x
  | 0, g, x, hg, hx => by have := (ha.lo 0 g hg x (head_mem hx)).1; omega
  | k + 1, g, x, hg, hx => by
    have hl := (List.getElem?_eq_some_iff.1 hg).1
    have hj : gs[k]? = some (gs[k]'(by omega)) := List.getElem?_eq_getElem _
    obtain ⟨y, hy⟩ := ha.one k _ hj
    have h1 := acc_many ha k _ y hj hy
    have h2 := ha.heads k (k + 1) _ _ y x (by omega) hj hg hy hx
    omega
theorem acc_len {n : Nat} {gs : List (List Int)} (ha : Acc n gs) : gs.length ≤ n := by
  rcases Nat.eq_zero_or_pos gs.length with h | h
  · omega
  · have hj : gs[gs.length - 1]? = some (gs[gs.length - 1]'(by omega)) := List.getElem?_eq_getElem _
    obtain ⟨y, hy⟩ := ha.one _ _ hj
    have h1 := acc_many ha _ _ y hj hy
    have h2 := (ha.lo _ _ hj y (head_mem hy)).2
    omega
/-- The fewest: what is found is accepted, and nothing that is accepted is fewer. -/
theorem groups_fewest {s : Bx} {fs : List Ft} (hF : ∀ f ∈ fs, FtOk f) (h1 : ∀ k, k < fs.length → fitsB s (chosenL fs [(k : Int)]) = true) (r : List (List Int)) (hr : groupsF s fs = some r) :
    (Acc fs.length r ∧ ∀ g ∈ r, fitsB s (chosenL fs g) = true) ∧ ∀ gs, Acc fs.length gs → (∀ g ∈ gs, fitsB s (chosenL fs g) = true) → r.length ≤ gs.length := by
  unfold groupsF at hr
  obtain ⟨l1, a, l2, he, hp, hno⟩ := List.findSome?_eq_some_iff.1 hr
  have hla : l1.length < fs.length + 1 := by have := congrArg List.length he; simp at this; omega
  have hal : a = l1.length := by
    have h2 : (List.range (fs.length + 1))[l1.length]? = some a := by rw [he, List.getElem?_append_right (Nat.le_refl _)]; simp
    rw [List.getElem?_range hla] at h2
    injection h2 with h2
    exact h2.symm
  have hlow : ∀ x, x < a → putF s fs x fs.length 0 [] = none := by
    intro x hx
    have h2 : (List.range (fs.length + 1))[x]? = some x := List.getElem?_range (by omega)
    rw [he, List.getElem?_append_left (by omega)] at h2
    exact hno x (List.mem_of_getElem? h2)
  obtain ⟨hacc, hlen⟩ := put_acc fs.length 0 [] r (by omega) acc_nil (fun g hg => by cases hg) h1 (Nat.zero_le _) hp
  refine ⟨hacc, fun gs ha hf => ?_⟩
  have hC : ∀ g ∈ gs, ∀ f ∈ chosenL fs g, FtOk f := fun g hg => by
    obtain ⟨k, hk⟩ := List.getElem?_of_mem hg
    exact chosen_ok hF (ha.lo k g hk)
  have hs := put_some hF hC ha hf fs.length 0 [] (by omega) (part_nil ha)
  have hag : a ≤ gs.length := Nat.le_of_not_lt fun hlt => hs (hlow _ hlt)
  omega
/-- Distinct numbers below n are at most n; if they are n, they are all. -/
theorem nodup_len : ∀ {n : Nat} {l : List Int}, l.Nodup → (∀ z ∈ l, 0 ≤ z ∧ z < (n : Int)) → l.length ≤ n ∧ (l.length = n → ∀ i : Nat, i < n → (i : Int) ∈ l)
  | 0, l, _, h => by
    match l, h with
    | [], _ => exact ⟨Nat.le_refl _, fun _ i hi => by omega⟩
    | a :: l, h => have := h a (by simp); omega
  | n + 1, l, hn, h => by
    by_cases hm : (n : Int) ∈ l
    · have h1 : (l.erase (n : Int)).Nodup := hn.erase _
      have h2 : ∀ z ∈ l.erase (n : Int), 0 ≤ z ∧ z < (n : Int) := by
        intro z hz
        have h3 := (List.Nodup.mem_erase_iff hn).1 hz
        have := h z h3.2
        have := h3.1
        omega
      obtain ⟨h4, h5⟩ := nodup_len h1 h2
      have h6 := List.length_erase_of_mem hm
      have h7 := List.length_pos_of_mem hm
      refine ⟨by omega, fun he i hi => ?_⟩
      by_cases hin : i = n
      · subst hin; exact hm
      · exact List.mem_of_mem_erase (h5 (by omega) i (by omega))
    · have h2 : ∀ z ∈ l, 0 ≤ z ∧ z < (n : Int) := by
        intro z hz
        have := h z hz
        have : z ≠ (n : Int) := fun e => hm (e ▸ hz)
        omega
      obtain ⟨h4, _⟩ := nodup_len hn h2
      exact ⟨by omega, fun he => by omega⟩
theorem nodup_all : ∀ {n : Nat} {l : List Int}, l.Nodup → (∀ z ∈ l, 0 ≤ z ∧ z < (n : Int)) → (∀ i : Nat, i < n → (i : Int) ∈ l) → l.length = n
  | 0, l, _, h, _ => by
    match l, h with
    | [], _ => rfl
    | a :: l, h => have := h a (by simp); omega
  | n + 1, l, hn, h, hc => by
    have hm := hc n (by omega)
    have h2 : ∀ z ∈ l.erase (n : Int), 0 ≤ z ∧ z < (n : Int) := by
      intro z hz
      have h3 := (List.Nodup.mem_erase_iff hn).1 hz
      have := h z h3.2
      have := h3.1
      omega
    have h4 := nodup_all (hn.erase _) h2 fun i hi => (List.Nodup.mem_erase_iff hn).2 ⟨by omega, hc i (by omega)⟩
    have h6 := List.length_erase_of_mem hm
    have h7 := List.length_pos_of_mem hm
    omega
end Go.Pb.Sag

/- Which groups are accepted, as the program's loop goes. -/
namespace Go.Pb.Sag
open Go Go.Pb Go.Pb.Ware Go.RowKit
set_option linter.unusedVariables false
def accB (s : Bx) (fs : List Ft) : Int → List Int → List (List Int) → Bool
  | _, seen, [] => decide (seen.length = fs.length)
  | first, seen, g :: gs => match g[0]? with
    | none => false
    | some x => idxB (fs.length : Int) (-1) g && (decide (first < x) && (g.all (fun z => !seen.contains z) && (fitsB s (chosenL fs g) && accB s fs x (seen ++ g) gs)))
theorem idx_iff {n : Int} : ∀ {zs : List Int} {last : Int}, idxB n last zs = true ↔ zs.Pairwise (· < ·) ∧ ∀ z ∈ zs, last < z ∧ z < n
  | [], last => by simp [idxB]
  | z :: zs, last => by
    rw [idxB, Bool.and_eq_true, btw_iff, idx_iff (zs := zs) (last := z), List.pairwise_cons]
    constructor
    · rintro ⟨h1, h2, h3⟩
      refine ⟨⟨fun y hy => (h3 y hy).1, h2⟩, fun y hy => ?_⟩
      rcases List.mem_cons.1 hy with e | e
      · omega
      · have := h3 y e; omega
    · rintro ⟨⟨h1, h2⟩, h3⟩
      have h4 := h3 z (by simp)
      exact ⟨by omega, h2, fun y hy => ⟨h1 y hy, (h3 y (by simp [hy])).2⟩⟩
/-- What is still to be accepted, behind a head and what has been seen. -/
structure Rest (s : Bx) (fs : List Ft) (first : Int) (seen : List Int) (gs : List (List Int)) : Prop where
  each : ∀ (k : Nat) g, gs[k]? = some g → (∃ x, g[0]? = some x ∧ first < x) ∧ g.Pairwise (· < ·) ∧ (∀ z ∈ g, 0 ≤ z ∧ z < (fs.length : Int)) ∧ fitsB s (chosenL fs g) = true ∧ ∀ z ∈ g, z ∉ seen
  heads : ∀ (j k : Nat) g h x y, j < k → gs[j]? = some g → gs[k]? = some h → g[0]? = some x → h[0]? = some y → x < y
  apart : ∀ (j k : Nat) g h z, j < k → gs[j]? = some g → gs[k]? = some h → z ∈ g → z ∉ h
  len : (seen ++ gs.flatten).length = fs.length
theorem rest_nil {s : Bx} {fs : List Ft} {first : Int} {seen : List Int} : Rest s fs first seen [] ↔ seen.length = fs.length := by
  constructor
  · intro h; have := h.len; simpa using this
  · intro h; exact ⟨fun k g h => (by simp at h), fun j k g h x y _ h1 => (by simp at h1), fun j k g h z _ h1 => (by simp at h1), by simpa using h⟩
theorem rest_cons {s : Bx} {fs : List Ft} {first x : Int} {seen g : List Int} {gs : List (List Int)} (hx : g[0]? = some x) :
    Rest s fs first seen (g :: gs) ↔ (g.Pairwise (· < ·) ∧ ∀ z ∈ g, -1 < z ∧ z < (fs.length : Int)) ∧ first < x ∧ (∀ z ∈ g, z ∉ seen) ∧ fitsB s (chosenL fs g) = true ∧ Rest s fs x (seen ++ g) gs := by
  constructor
  · intro h
    obtain ⟨⟨x', hx', h1⟩, h2, h3, h4, h5⟩ := h.each 0 g rfl
    rw [hx] at hx'; injection hx' with hx'; subst hx'
    refine ⟨⟨h2, fun z hz => by have := h3 z hz; omega⟩, h1, h5, h4, fun k f hf => ?_, fun j k f f' y y' hjk hf hf' => h.heads (j + 1) (k + 1) f f' y y' (by omega) (by simpa using hf) (by simpa using hf'), fun j k f f' z hjk hf hf' => h.apart (j + 1) (k + 1) f f' z (by omega) (by simpa using hf) (by simpa using hf'), by have := h.len; simpa [List.append_assoc] using this⟩
    obtain ⟨⟨y, hy, _⟩, k2, k3, k4, k5⟩ := h.each (k + 1) f (by simpa using hf)
    refine ⟨⟨y, hy, h.heads 0 (k + 1) g f x y (by omega) rfl (by simpa using hf) hx hy⟩, k2, k3, k4, fun z hz hm => ?_⟩
    rcases List.mem_append.1 hm with e | e
    · exact k5 z hz e
    · exact h.apart 0 (k + 1) g f z (by omega) rfl (by simpa using hf) e hz
  · rintro ⟨⟨h1, h2⟩, h3, h4, h5, h⟩
    refine ⟨fun k f hf => ?_, fun j k f f' y y' hjk hf hf' hy hy' => ?_, fun j k f f' z hjk hf hf' hz hz' => ?_, by have := h.len; simpa [List.append_assoc] using this⟩
    · match k, hf with
      | 0, hf =>
        simp at hf; subst hf
        exact ⟨⟨x, hx, h3⟩, h1, fun z hz => by have := h2 z hz; omega, h5, h4⟩
      | k + 1, hf =>
        obtain ⟨⟨y, hy, k1⟩, k2, k3, k4, k5⟩ := h.each k f (by simpa using hf)
        exact ⟨⟨y, hy, by omega⟩, k2, k3, k4, fun z hz hm => k5 z hz (List.mem_append_left _ hm)⟩
    · match j, k, hjk, hf, hf' with
      | 0, k + 1, _, hf, hf' =>
        simp at hf; subst hf
        obtain ⟨⟨w, hw, k1⟩, _⟩ := h.each k f' (by simpa using hf')
        rw [hx] at hy; injection hy with hy
        rw [hw] at hy'; injection hy' with hy'
        omega
      | j + 1, k + 1, hjk, hf, hf' => exact h.heads j k f f' y y' (by omega) (by simpa using hf) (by simpa using hf') hy hy'
    · match j, k, hjk, hf, hf' with
      | 0, k + 1, _, hf, hf' =>
        simp at hf; subst hf
        exact (h.each k f' (by simpa using hf')).2.2.2.2 z hz' (List.mem_append_right _ hz)
      | j + 1, k + 1, hjk, hf, hf' => exact h.apart j k f f' z (by omega) (by simpa using hf) (by simpa using hf') hz hz'
theorem accB_iff {s : Bx} {fs : List Ft} : ∀ {gs : List (List Int)} {first : Int} {seen : List Int}, accB s fs first seen gs = true ↔ Rest s fs first seen gs
  | [], first, seen => by rw [accB, decide_eq_true_eq, rest_nil]
  | g :: gs, first, seen => by
    rw [accB]
    cases hx : g[0]? with
    | none =>
      constructor
      · intro h; cases h
      · intro h; obtain ⟨⟨x, hx', _⟩, _⟩ := h.each 0 g rfl; rw [hx] at hx'; cases hx'
    | some x =>
      dsimp only
      rw [rest_cons hx, Bool.and_eq_true, Bool.and_eq_true, Bool.and_eq_true, Bool.and_eq_true, idx_iff, decide_eq_true_eq, accB_iff (gs := gs), List.all_eq_true]
      simp
theorem flat_nodup : ∀ {gs : List (List Int)}, (∀ (k : Nat) g, gs[k]? = some g → g.Pairwise (· < ·)) → (∀ (j k : Nat) g h z, j < k → gs[j]? = some g → gs[k]? = some h → z ∈ g → z ∉ h) → gs.flatten.Nodup
  | [], _, _ => by simp
  | g :: gs, h1, h2 => by
    rw [List.flatten_cons, List.nodup_append]
    refine ⟨(h1 0 g rfl).imp (fun h e => by omega), flat_nodup (fun k f hf => h1 (k + 1) f (by simpa using hf)) (fun j k f f' z hjk hf hf' => h2 (j + 1) (k + 1) f f' z (by omega) (by simpa using hf) (by simpa using hf')), fun a ha b hb e => ?_⟩
    obtain ⟨f, hf, hb2⟩ := List.mem_flatten.1 hb
    obtain ⟨k, hk⟩ := List.getElem?_of_mem hf
    subst e
    exact h2 0 (k + 1) g f a (by omega) rfl (by simpa using hk) ha hb2
/-- The loop accepts just what the groups of all items are. -/
theorem acc_iff {s : Bx} {fs : List Ft} {gs : List (List Int)} : accB s fs (-1) [] gs = true ↔ Acc fs.length gs ∧ ∀ g ∈ gs, fitsB s (chosenL fs g) = true := by
  rw [accB_iff]
  have mem : ∀ {z : Int}, z ∈ gs.flatten ↔ ∃ (k : Nat) (g : List Int), gs[k]? = some g ∧ z ∈ g := by
    intro z
    constructor
    · intro h
      obtain ⟨f, hf, hb⟩ := List.mem_flatten.1 h
      obtain ⟨k, hk⟩ := List.getElem?_of_mem hf
      exact ⟨k, f, hk, hb⟩
    · rintro ⟨k, g, hg, hz⟩
      exact List.mem_flatten.2 ⟨g, List.mem_of_getElem? hg, hz⟩
  constructor
  · intro h
    have hn := flat_nodup (fun k g hg => (h.each k g hg).2.1) h.apart
    have hr : ∀ z ∈ gs.flatten, 0 ≤ z ∧ z < (fs.length : Int) := fun z hz => by
      obtain ⟨k, g, hg, hm⟩ := mem.1 hz
      exact (h.each k g hg).2.2.1 z hm
    refine ⟨⟨fun k g hg => ?_, fun k g hg => (h.each k g hg).2.1, fun k g hg => (h.each k g hg).2.2.1, h.heads, fun i hi => mem.1 ((nodup_len hn hr).2 (by have := h.len; simpa using this) i hi), fun j k g g' z hg hg' hz hz' => ?_⟩, fun g hg => ?_⟩
    · obtain ⟨x, hx, _⟩ := (h.each k g hg).1; exact ⟨x, hx⟩
    · rcases Nat.lt_trichotomy j k with e | e | e
      · exact absurd hz' (h.apart j k g g' z e hg hg' hz)
      · exact e
      · exact absurd hz (h.apart k j g' g z e hg' hg hz')
    · obtain ⟨k, hk⟩ := List.getElem?_of_mem hg
      exact (h.each k g hk).2.2.2.1
  · rintro ⟨h, hf⟩
    have hap : ∀ (j k : Nat) g g' z, j < k → gs[j]? = some g → gs[k]? = some g' → z ∈ g → z ∉ g' := fun j k g g' z e hg hg' hz hz' => by have := h.once j k g g' z hg hg' hz hz'; omega
    have hn := flat_nodup h.inc hap
    refine ⟨fun k g hg => ?_, h.heads, hap, ?_⟩
    · obtain ⟨x, hx⟩ := h.one k g hg
      have hx0 := (h.lo k g hg x (head_mem hx)).1
      exact ⟨⟨x, hx, by omega⟩, h.inc k g hg, h.lo k g hg, hf g (List.mem_of_getElem? hg), fun z _ hm => by cases hm⟩
    · rw [List.nil_append]
      exact nodup_all hn (fun z hz => by obtain ⟨k, g, hg, hm⟩ := mem.1 hz; exact h.lo k g hg z hm) (fun i hi => mem.2 (h.cover i hi))
end Go.Pb.Sag

/- The builtin copy where elements have more cells than one. -/
namespace Go.Pb
set_option linter.unusedVariables false
open Go Go.RowKit
theorem run_copy_rowK {P : Program} (w : World) (dT sT ty elem : TypeId) (g o dLen dCap : Nat) (a : Addr) (sLen sCap : Nat) (cur : Array Value) (t : TypeId) (cs : List Value) (k n : Nat)
    (hu : P.underlying dT = some (.slice elem)) (hs : (P.info? elem).map (·.size) = some k)
    (hg : w.heap[g]? = some (.cells cur t (0, 0))) (hn : n = Nat.min sLen dLen) (hcl : cs.length = n * k)
    (hsrc : ∀ j v, cs[j]? = some v → w.cell? (a.add j) = some v) (hfit : o + cs.length ≤ cur.size) (h1 : ∀ v ∈ cs, v.oneCell' = true) :
    (Builtin.copy_ #[dT, sT] ty #[.slice (some ⟨g, o, none⟩) dLen dCap, .slice (some a) sLen sCap]).run P w =
      .ok (goInt n) (w.setRow g (cur.toList.take o ++ cs ++ cur.toList.drop (o + cs.length)).toArray) := by
  have hl := run_loadCells_list (P := P) w a cs hsrc
  have hst := run_storeCells_at P g o t cs 0 cur w hg (by simpa using hfit) h1
  cases hq : P.info? elem with
  | none => simp [hq] at hs
  | some i =>
    have hi : i.size = k := by simpa [hq] using hs
    have hm : Nat.min sLen dLen = n := hn.symm
    rw [hcl] at hl
    simp [Builtin.copy_, run_underlying hu, Builtin.lenOf, Builtin.firstCells, sizeOf, typeInfo, hq, hi, hm, hl, hst]
theorem wpList_copy_K {P : Program} {w : World} {ops : Array Oper} {rest : List Oper} {o : Oper} {a : Act} {Q : Exit → Act → World → Prop} (hgd : o.guard = none) (d s : Operand) (dT sT : TypeId)
    (ho : o.op = .call { callee := .builtin .copy, args := #[d, s], argTypes := #[dT, sT] }) (elem : TypeId) (hu : P.underlying dT = some (.slice elem)) (k n : Nat) (hsz : (P.info? elem).map (·.size) = some k)
    (g off dLen dCap : Nat) (ad : Addr) (sLen sCap : Nat) (hd : a.eval d = .slice (some ⟨g, off, none⟩) dLen dCap) (hs : a.eval s = .slice (some ad) sLen sCap)
    (cur : Array Value) (t : TypeId) (hg : w.heap[g]? = some (.cells cur t (0, 0))) (cs : List Value) (hn : n = Nat.min sLen dLen) (hcl : cs.length = n * k)
    (hsrc : ∀ j v, cs[j]? = some v → w.cell? (ad.add j) = some v) (hfit : off + cs.length ≤ cur.size) (h1 : ∀ v ∈ cs, v.oneCell' = true)
    (h : wpList P ops Q rest (a.put o.dst (goInt n)) (w.setRow g (cur.toList.take off ++ cs ++ cur.toList.drop (off + cs.length)).toArray)) : wpList P ops Q (o :: rest) a w := by
  refine wpList_plain hgd fun K hK => ?_
  have hrun := run_copy_rowK (P := P) w dT sT o.type elem g off dLen dCap ad sLen sCap cur t cs k n hu hsz hg hn hcl hsrc hfit h1
  unfold Oper.wp
  simp only [execOp, ho, resolve, invoke, builtin, Sem.run_bind, Sem.run_pure, Result.andThen_ok, List.map_toArray, List.map_cons, List.map_nil, hd, hs, hrun]
  exact hK _ _ h
theorem wp_copy_K {P : Program} {o : Oper} {a : Act} {w : World} {K : Act → World → Prop} {Q : Exit → Act → World → Prop} (d s : Operand) (dT sT : TypeId)
    (ho : o.op = .call { callee := .builtin .copy, args := #[d, s], argTypes := #[dT, sT] }) (elem : TypeId) (hu : P.underlying dT = some (.slice elem)) (k n : Nat) (hsz : (P.info? elem).map (·.size) = some k)
    (g off dLen dCap : Nat) (ad : Addr) (sLen sCap : Nat) (hd : a.eval d = .slice (some ⟨g, off, none⟩) dLen dCap) (hs : a.eval s = .slice (some ad) sLen sCap)
    (cur : Array Value) (t : TypeId) (hg : w.heap[g]? = some (.cells cur t (0, 0))) (cs : List Value) (hn : n = Nat.min sLen dLen) (hcl : cs.length = n * k)
    (hsrc : ∀ j v, cs[j]? = some v → w.cell? (ad.add j) = some v) (hfit : off + cs.length ≤ cur.size) (h1 : ∀ v ∈ cs, v.oneCell' = true)
    (h : K (a.put o.dst (goInt n)) (w.setRow g (cur.toList.take off ++ cs ++ cur.toList.drop (off + cs.length)).toArray)) :
    Oper.wp P o a w K Q := by
  have hrun := run_copy_rowK (P := P) w dT sT o.type elem g off dLen dCap ad sLen sCap cur t cs k n hu hsz hg hn hcl hsrc hfit h1
  unfold Oper.wp
  simp only [execOp, ho, resolve, invoke, builtin, Sem.run_bind, Sem.run_pure, Result.andThen_ok, List.map_toArray, List.map_cons, List.map_nil, hd, hs, hrun]
  exact h
end Go.Pb

/- How many items like one fit. -/
namespace Go.Pb.Sag
open Go Go.Pb Go.Pb.Ware Go.RowKit
set_option linter.unusedVariables false
/-- As the program's loop goes: d rounds are left, k feet have been found to fit. -/
def mostR (s : Bx) (f : Ft) : Nat → Nat → Nat
  | 0, k => k
  | d + 1, k => if fitsB s (List.replicate (k + 1) f) = true then mostR s f d (k + 1) else k
def mostF (s : Bx) (f : Ft) : Nat := mostR s f 5 0
theorem mostR_spec {s : Bx} {f : Ft} : ∀ (d k : Nat), k ≤ mostR s f d k ∧ mostR s f d k ≤ k + d ∧ (∀ j, k ≤ j → j < mostR s f d k → fitsB s (List.replicate (j + 1) f) = true) ∧ (mostR s f d k < k + d → fitsB s (List.replicate (mostR s f d k + 1) f) = false)
  | 0, k => ⟨Nat.le_refl _, Nat.le_refl _, fun j h1 h2 => by simp only [mostR] at h2; omega, fun h => by simp only [mostR] at h; omega⟩
  | d + 1, k => by
    rw [mostR]
    split
    · rename_i h
      obtain ⟨h1, h2, h3, h4⟩ := mostR_spec (s := s) (f := f) d (k + 1)
      refine ⟨by omega, by omega, fun j hj hl => ?_, fun hl => h4 (by omega)⟩
      by_cases e : j = k
      · rw [e]; exact h
      · exact h3 j (by omega) hl
    · rename_i h
      exact ⟨Nat.le_refl _, by omega, fun j h1 h2 => by omega, fun _ => by simpa using h⟩
theorem most_le {s : Bx} {f : Ft} : mostF s f ≤ 5 := by have := (mostR_spec (s := s) (f := f) 5 0).2.1; unfold mostF; omega
theorem most_iff {s : Bx} {f : Ft} (hf : FtOk f) {k : Nat} (hk : k < 5) : fitsB s (List.replicate (k + 1) f) = decide (k < mostF s f) := by
  obtain ⟨h1, h2, h3, h4⟩ := mostR_spec (s := s) (f := f) 5 0
  by_cases h : k < mostF s f
  · rw [decide_eq_true h]; exact h3 k (Nat.zero_le _) h
  · rw [decide_eq_false h]
    unfold mostF at h
    have h5 := h4 (by omega)
    cases h6 : fitsB s (List.replicate (k + 1) f) with
    | false => rfl
    | true =>
      have h7 := fits_sub (gs := List.replicate (mostR s f 5 0 + 1) f) (List.replicate_sublist_replicate f |>.2 (by omega)) (fun g hg => by rw [List.eq_of_mem_replicate hg]; exact hf) h6
      rw [h5] at h7; cases h7
theorem most_zero {s : Bx} {f : Ft} : mostF s f = 0 ↔ fitsB s [f] = false := by
  obtain ⟨h1, h2, h3, h4⟩ := mostR_spec (s := s) (f := f) 5 0
  unfold mostF
  constructor
  · intro h
    have := h4 (by omega)
    rwa [h] at this
  · intro h
    rcases Nat.eq_zero_or_pos (mostR s f 5 0) with h5 | h5
    · exact h5
    · have := h3 0 (Nat.le_refl _) h5
      rw [show List.replicate (0 + 1) f = [f] from rfl, h] at this; cases this
/-- Items like one in a list. -/
theorem ckL_reps {ss bs : List (List Int)} {s : Bx} {y : It} {k : Nat} (h : ckG ss bs s = 0) (hy : itemB ss y = true) (hk : k ≤ 5) : ckL ss bs s (List.replicate k y) = 0 :=
  ckL_good h (by rw [List.length_replicate]; omega) (List.all_eq_true.2 fun x hx => by rw [List.eq_of_mem_replicate hx]; exact hy)
theorem feet_reps {ss bs : List (List Int)} {s : Bx} {y : It} {k : Nat} (h : ckG ss bs s = 0) (hy : itemB ss y = true) (hk : k ≤ 5) : feetV ss bs s (List.replicate k y) = List.replicate k (footR ss s.cell y) := by
  rw [feetV_0 (ckL_reps h hy hk), List.map_replicate]
theorem ckG_of {ss bs : List (List Int)} {s : Bx} {xs : List It} (h : ckL ss bs s xs = 0) : ckG ss bs s = 0 := by
  obtain ⟨h1, h2, _⟩ := ckL_0 h
  unfold ckG ckX; rw [if_pos h1, if_pos h2]
theorem foot_ok1 {ss bs : List (List Int)} {s : Bx} {xs : List It} (h : ckL ss bs s xs = 0) {y : It} (hy : y ∈ xs) : FtOk (footR ss s.cell y) := by
  have h1 := feet_ok (ss := ss) (bs := bs) (s := s) (xs := xs)
  rw [feetV_0 h] at h1
  exact h1 _ (List.mem_map.2 ⟨y, hy, rfl⟩)
end Go.Pb.Sag
