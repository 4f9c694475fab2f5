/- What putting items into groups holds in memory. -/
import Derived.Test.YtodmidchpbcnpaaKSdX
import Derived.Laws.CopyOwn
import Derived.Test.YtodmidchpbcnpaaKLibX
import Derived.Shelf.Small.Bits
import Derived.Shelf.SlSortCmp.SmallK
import Derived.Ground.SlsfProg
import Derived.Test.YtodmidchpbcnpaaProg
import Derived.Maps.AppendAt
namespace Go.Pb.Sag
open Go Go.Pb Go.Pb.Ware Go.RowKit
set_option linter.unusedVariables false
def RowsIn (lo T : Nat) (W : World) (vs : List Value) (gs : List (List Int)) : Prop := ∀ (k : Nat) (v : Value) (g : List Int), vs[k]? = some v → gs[k]? = some g → W.ownsRow lo T 1 v g.length (g.map (Value.int .i64))
/-- The groups so far, in the field 8 of block G; all other memory of theirs lies behind G. -/
def PutAt (G TO TI : Nat) (gs : List (List Int)) (W : World) : Prop := ∃ (gv : Value) (vs : List Value), (W.cell? ⟨G, 8, none⟩ = some gv ∧ W.frozen? ⟨G, 8, none⟩ = false) ∧ W.ownsRow (G + 1) TO 1 gv gs.length vs ∧ RowsIn (G + 1) TI W vs gs
theorem PutAt.next {G TO TI : Nat} {gs : List (List Int)} {W W' : World} (h : PutAt G TO TI gs W) (hb : Below W.heap.size W W') : PutAt G TO TI gs W' := by
  obtain ⟨gv, vs, ⟨c1, c2⟩, ho, hr⟩ := h
  exact ⟨gv, vs, ⟨bkeep hb c1, bfree hb c1 c2⟩, owns_below ho hb, fun k v g h1 h2 => owns_below (hr k v g h1 h2) hb⟩
theorem own_ge {W : World} {lo T s n : Nat} {v : Value} {xs : List Value} (h : W.ownsRow lo T s v n xs) : ∀ b, v.ownBlock = some b → lo ≤ b := fun b e => (World.ownsRow.lt h b e).1
theorem set_own {W : World} {lo T s n B o : Nat} {v u : Value} {xs : List Value} (h : W.ownsRow lo T s v n xs) (hne : v.ownBlock = none ∨ v.ownBlock ≠ some B) : (W.setCell ⟨B, o, none⟩ u).ownsRow lo T s v n xs := h.kept (grown_setc W ⟨B, o, none⟩ u) hne
/-- What is there behind an append to the group k, ahead of its store. -/
theorem PutAt.push {G TO TI i k : Nat} (hT : TO ≠ TI) {gs : List (List Int)} {g : List Int} {W w2 w3 : World} {v v' : Value} {vs : List Value} {gb cap : Nat} (hG : Good i gs) (hg : gs[k]? = some g) (hv : vs[k]? = some v)
    (c8 : W.cell? ⟨G, 8, none⟩ = some (.slice (some ⟨gb, 0, none⟩) gs.length cap) ∧ W.frozen? ⟨G, 8, none⟩ = false) (ho : W.ownsRow (G + 1) TO 1 (.slice (some ⟨gb, 0, none⟩) gs.length cap) gs.length vs) (hr : RowsIn (G + 1) TI W vs gs)
    (hb : Below W.heap.size W w2) (hg3 : w2.grownBy w3 v.ownBlock) (ho3 : w3.ownsRow (G + 1) TI 1 v' (g.length + 1) (g.map (Value.int .i64) ++ [.int .i64 (i : Int)])) :
    (w3.cell? ⟨gb, k, none⟩ = some v ∧ w3.frozen? ⟨gb, k, none⟩ = false) ∧ PutAt G TO TI (gs.set k (g ++ [(i : Int)])) (w3.setCell ⟨gb, k, none⟩ v') ∧ Below (G + 1) W (w3.setCell ⟨gb, k, none⟩ v') := by
  have hk : k < gs.length := (List.getElem?_eq_some_iff.1 hg).1
  have hGW : G < W.heap.size := World.block_lt_of_cell? W _ c8.1
  have hrow := hr k v g hv hg
  have ho2 := owns_below ho hb
  have hrow2 := owns_below hrow hb
  have hgb : G + 1 ≤ gb := own_ge ho gb rfl
  have a1 : (Value.slice (some ⟨gb, 0, none⟩) gs.length cap).ownBlock = none ∨ (Value.slice (some ⟨gb, 0, none⟩) gs.length cap).ownBlock ≠ v.ownBlock := apart_types ho2 hrow2 hT
  have ho4 : w3.ownsRow (G + 1) TO 1 (.slice (some ⟨gb, 0, none⟩) gs.length cap) gs.length vs := ho2.kept hg3 a1
  have hlo : ∀ r, v.ownBlock = some r → G + 1 ≤ r := own_ge hrow
  have hbw : Below (G + 1) W w3 := (hb.mono (by omega)).grown hg3 (by have := hb.size; omega) hlo
  have a2 : some gb ≠ v.ownBlock := by rcases a1 with h | h; cases h; exact h
  have hcell : w3.cell? ⟨gb, k, none⟩ = some v := by
    have h1 := ho4.cells (g := gb) rfl k v hv
    rw [Go.WideShapes.add_plain, Nat.zero_add] at h1
    exact h1
  refine ⟨⟨hcell, owns_frozen ho4 rfl k⟩, ⟨.slice (some ⟨gb, 0, none⟩) gs.length cap, vs.set k v', ⟨?_, ?_⟩, ?_, ?_⟩, hbw.setCell (p := ⟨gb, k, none⟩) hgb v'⟩
  · exact setc_block ((hbw.cell (p := ⟨G, 8, none⟩) (by simp)).trans c8.1) (by omega)
  · exact set_free ((hbw.cell (p := ⟨G, 8, none⟩) (by simp)).trans c8.1) ((hbw.frozen (p := ⟨G, 8, none⟩) (by simp)).trans c8.2)
  · rw [List.length_set]; exact row_set ho4 hk
  · intro j u g' hu hg'
    have hts : ∀ {u : Value} {n : Nat} {xs : List Value}, w3.ownsRow (G + 1) TI 1 u n xs → u.ownBlock = none ∨ u.ownBlock ≠ some gb := fun h => apart_types h ho4 (Ne.symm hT)
    by_cases e : j = k
    · subst e
      have hvl : j < vs.length := (List.getElem?_eq_some_iff.1 hv).1
      rw [List.getElem?_set_self hvl] at hu
      rw [List.getElem?_set_self hk] at hg'
      obtain rfl : v' = u := by simpa using hu
      obtain rfl : g ++ [(i : Int)] = g' := by simpa using hg'
      have h1 := set_own (o := j) (u := v') ho3 (hts ho3)
      simpa using h1
    · rw [List.getElem?_set_ne (Ne.symm e)] at hu hg'
      have hj := hr j u g' hu hg'
      obtain ⟨x, hx⟩ := hG.one j g' hg'
      obtain ⟨y, hy⟩ := hG.one k g hg
      have hxy := hG.apart j k g' g x y e hg' hg hx hy
      have h1 : (g'.map (Value.int .i64))[0]? = some (.int .i64 x) := by rw [List.getElem?_map, hx]; rfl
      have h2 : (g.map (Value.int .i64))[0]? = some (.int .i64 y) := by rw [List.getElem?_map, hy]; rfl
      have h3 := (owns_below hj hb).kept hg3 (apart_heads (owns_below hj hb) hrow2 h1 h2 (fun h => hxy (by injection h)))
      exact set_own h3 (hts h3)
/-- The group k is cut back to g. -/
theorem PutAt.pop {G TO TI i k : Nat} (hT : TO ≠ TI) {gs : List (List Int)} {g : List Int} {W : World} {gb gcap b cap n : Nat} {vs : List Value} (hgs : gs[k]? = some g) (hn : gs.length = n)
    (c8 : W.cell? ⟨G, 8, none⟩ = some (.slice (some ⟨gb, 0, none⟩) n gcap) ∧ W.frozen? ⟨G, 8, none⟩ = false) (ho : W.ownsRow (G + 1) TO 1 (.slice (some ⟨gb, 0, none⟩) n gcap) n vs) (hr : RowsIn (G + 1) TI W vs (gs.set k (g ++ [(i : Int)])))
    (hv : vs[k]? = some (.slice (some ⟨b, 0, none⟩) (g.length + 1) cap)) :
    PutAt G TO TI gs (W.setCell ⟨gb, k, none⟩ (.slice (some ⟨b, 0, none⟩) g.length cap)) ∧ Below (G + 1) W (W.setCell ⟨gb, k, none⟩ (.slice (some ⟨b, 0, none⟩) g.length cap)) := by
  subst hn
  have hk : k < gs.length := (List.getElem?_eq_some_iff.1 hgs).1
  have hgb : G + 1 ≤ gb := own_ge ho gb rfl
  have hts : ∀ {u : Value} {n : Nat} {xs : List Value}, W.ownsRow (G + 1) TI 1 u n xs → u.ownBlock = none ∨ u.ownBlock ≠ some gb := fun h => apart_types h ho (Ne.symm hT)
  refine ⟨⟨.slice (some ⟨gb, 0, none⟩) gs.length gcap, vs.set k (.slice (some ⟨b, 0, none⟩) g.length cap), ⟨setc_block c8.1 (by omega), set_free c8.1 c8.2⟩, row_set ho hk, ?_⟩, (Below.refl _ _).setCell (p := ⟨gb, k, none⟩) hgb _⟩
  intro j u g' hu hg'
  by_cases e : j = k
  · subst e
    have hvl : j < vs.length := (List.getElem?_eq_some_iff.1 hv).1
    rw [List.getElem?_set_self hvl] at hu
    rw [hgs] at hg'
    obtain rfl : Value.slice (some ⟨b, 0, none⟩) g.length cap = u := by simpa using hu
    obtain rfl : g = g' := by simpa using hg'
    have h1 := hr j _ _ hv (List.getElem?_set_self hk)
    rw [List.length_append, List.length_singleton] at h1
    have h2 := row_take (m := g.length) h1 (by omega)
    rw [List.map_append, List.take_append_of_le_length (by simp), List.take_of_length_le (by simp)] at h2
    exact set_own h2 (hts h2)
  · rw [List.getElem?_set_ne (Ne.symm e)] at hu
    have h1 := hr j u g' hu (by rw [List.getElem?_set_ne (Ne.symm e)]; exact hg')
    exact set_own h1 (hts h1)
/-- A new group. -/
theorem PutAt.grow {G TO TI i n : Nat} (hT : TO ≠ TI) {gs : List (List Int)} {W w3 : World} {gv gv' : Value} {vs : List Value} (hG : Good i gs) (hn : gs.length = n)
    (c8 : W.cell? ⟨G, 8, none⟩ = some gv ∧ W.frozen? ⟨G, 8, none⟩ = false) (ho : W.ownsRow (G + 1) TO 1 gv n vs) (hr : RowsIn (G + 1) TI W vs gs)
    (hg3 : ((W.alloc (.cells #[.int .i64 (i : Int)] TI)).alloc (.cells #[.slice (some ⟨W.heap.size, 0, none⟩) 1 1] TO)).grownBy w3 gv.ownBlock) (ho3 : w3.ownsRow (G + 1) TO 1 gv' (n + 1) (vs ++ [.slice (some ⟨W.heap.size, 0, none⟩) 1 1])) :
    (w3.cell? ⟨G, 8, none⟩ = some gv ∧ w3.frozen? ⟨G, 8, none⟩ = false) ∧ PutAt G TO TI (gs ++ [[(i : Int)]]) (w3.setCell ⟨G, 8, none⟩ gv') ∧ Below (G + 1) W w3 := by
  subst hn
  have hGW : G < W.heap.size := World.block_lt_of_cell? W _ c8.1
  have hb : Below W.heap.size W ((W.alloc (.cells #[.int .i64 (i : Int)] TI)).alloc (.cells #[.slice (some ⟨W.heap.size, 0, none⟩) 1 1] TO)) := ((Below.refl _ W).alloc (Nat.le_refl _) _).alloc (by simp) _
  have hbw : Below (G + 1) W w3 := (hb.mono (by omega)).grown hg3 (by simp; omega) (own_ge ho)
  have hG8 : w3.cell? ⟨G, 8, none⟩ = some gv ∧ w3.frozen? ⟨G, 8, none⟩ = false := ⟨(hbw.cell (p := ⟨G, 8, none⟩) (by simp)).trans c8.1, (hbw.frozen (p := ⟨G, 8, none⟩) (by simp)).trans c8.2⟩
  have far : ∀ {T n : Nat} {v : Value} {xs : List Value}, w3.ownsRow (G + 1) T 1 v n xs → v.ownBlock = none ∨ v.ownBlock ≠ some G := fun h => .inr fun e => by have := own_ge h G e; omega
  have hvl : vs.length = gs.length := by have := ho.1; omega
  refine ⟨hG8, ⟨gv', vs ++ [.slice (some ⟨W.heap.size, 0, none⟩) 1 1], ⟨setc_same hG8.1, set_free hG8.1 hG8.2⟩, ?_, ?_⟩, hbw⟩
  · rw [List.length_append, List.length_singleton]; exact set_own ho3 (far ho3)
  · intro k v g hv hg
    rcases Nat.lt_or_ge k gs.length with h1 | h1
    · rw [List.getElem?_append_left (by omega)] at hv
      rw [List.getElem?_append_left h1] at hg
      have h2 := owns_below (hr k v g hv hg) hb
      have h3 := h2.kept hg3 (apart_types h2 (owns_below ho hb) (Ne.symm hT))
      exact set_own h3 (far h3)
    · rw [List.getElem?_append_right (by omega), hvl] at hv
      rw [List.getElem?_append_right h1] at hg
      have h4 := (List.getElem?_eq_some_iff.1 hg).1
      simp at h4
      have e : k = gs.length := by omega
      subst e
      simp at hv hg
      subst hv; subst hg
      have h2 : ((W.alloc (.cells #[.int .i64 (i : Int)] TI)).alloc (.cells #[.slice (some ⟨W.heap.size, 0, none⟩) 1 1] TO)).ownsRow (G + 1) TI 1 (.slice (some ⟨W.heap.size, 0, none⟩) 1 1) 1 [.int .i64 (i : Int)] := by
        refine ⟨rfl, .inr ⟨W.heap.size, 1, #[.int .i64 (i : Int)], rfl, by omega, ?_, Nat.le_refl _, by unfold maxLen; omega, rfl, rfl⟩⟩
        rw [Below.heap_alloc _ _ _ (by simp)]
        exact World.alloc_heap_new W _
      have h3 := h2.kept hg3 (apart_types h2 (owns_below ho hb) (Ne.symm hT))
      exact set_own h3 (far h3)
/-- The last group is taken away. -/
theorem PutAt.shrink {G TO TI n gb cap : Nat} {gs : List (List Int)} {g : List Int} {W : World} {vs : List Value} (hn : gs.length = n)
    (c8 : W.cell? ⟨G, 8, none⟩ = some (.slice (some ⟨gb, 0, none⟩) (n + 1) cap) ∧ W.frozen? ⟨G, 8, none⟩ = false) (ho : W.ownsRow (G + 1) TO 1 (.slice (some ⟨gb, 0, none⟩) (n + 1) cap) (n + 1) vs) (hr : RowsIn (G + 1) TI W vs (gs ++ [g])) :
    PutAt G TO TI gs (W.setCell ⟨G, 8, none⟩ (.slice (some ⟨gb, 0, none⟩) n cap)) := by
  subst hn
  have far : ∀ {T n : Nat} {v : Value} {xs : List Value}, W.ownsRow (G + 1) T 1 v n xs → v.ownBlock = none ∨ v.ownBlock ≠ some G := fun h => .inr fun e => by have := own_ge h G e; omega
  have h1 := row_take (m := gs.length) ho (by omega)
  refine ⟨.slice (some ⟨gb, 0, none⟩) gs.length cap, vs.take gs.length, ⟨setc_same c8.1, set_free c8.1 c8.2⟩, set_own h1 (far h1), ?_⟩
  intro k v g' hv hg
  have hk : k < gs.length := (List.getElem?_eq_some_iff.1 hg).1
  rw [List.getElem?_take, if_pos hk] at hv
  have h2 := hr k v g' hv (by rw [List.getElem?_append_left hk]; exact hg)
  exact set_own h2 (far h2)
/-- The other fields of block G. -/
def GAt (G : Nat) (gc : List Value) (W : World) : Prop := ∀ o u, gc[o]? = some u → W.cell? ⟨G, o, none⟩ = some u ∧ W.frozen? ⟨G, o, none⟩ = false
theorem GAt.below {G : Nat} {gc : List Value} {W W' : World} (h : GAt G gc W) (hb : Below (G + 1) W W') : GAt G gc W' := fun o u hu => ⟨(hb.cell (p := ⟨G, o, none⟩) (by simp)).trans (h o u hu).1, (hb.frozen (p := ⟨G, o, none⟩) (by simp)).trans (h o u hu).2⟩
theorem GAt.set {G : Nat} {gc : List Value} {W : World} {v : Value} (h : GAt G gc W) (hl : gc.length ≤ 8) : GAt G gc (W.setCell ⟨G, 8, none⟩ v) := fun o u hu => ⟨setc_other (h o u hu).1 (by have := (List.getElem?_eq_some_iff.1 hu).1; omega), set_free (h o u hu).1 (h o u hu).2⟩
theorem own_some {W : World} {lo T s n : Nat} {v : Value} {xs : List Value} (h : W.ownsRow lo T s v n xs) (hn : 0 < n) : ∃ g cap, v = .slice (some ⟨g, 0, none⟩) n cap ∧ n ≤ cap ∧ cap ≤ 9223372036854775807 := by
  rcases h.2 with ⟨_, h0⟩ | ⟨g, cap, _, rfl, _, _, h4, h5, _⟩
  · omega
  · exact ⟨g, cap, rfl, h4, by unfold maxLen at h5; omega⟩
end Go.Pb.Sag

/- Groups: copies of them, and how many are enough. -/
namespace Go.Pb.Sag
open Go Go.Pb Go.Pb.Ware Go.RowKit
set_option linter.unusedVariables false
theorem copy_owns {w : World} {lo T B m : Nat} {cur : Array Value} {cs : List Value} (hg : w.heap[B]? = some (.cells cur T (0, 0))) (hlo : lo ≤ B) (hs : cur.size = m) (hm : m ≤ maxLen) (hc : cs.length = m) :
    (w.setRow B (cur.toList.take 0 ++ (cs ++ cur.toList.drop (0 + cs.length))).toArray).ownsRow lo T 1 (.slice (some ⟨B, 0, none⟩) m m) m cs := by
  have e : cur.toList.take 0 ++ (cs ++ cur.toList.drop (0 + cs.length)) = cs := by
    rw [List.take_zero, List.nil_append, Nat.zero_add, List.drop_of_length_le (by rw [Array.length_toList]; omega), List.append_nil]
  rw [e]
  refine ⟨by omega, .inr ⟨B, m, cs.toArray, rfl, hlo, setRow_heap w B cur _ T (0, 0) hg, Nat.le_refl _, hm, by simp; omega, ?_⟩⟩
  rw [Nat.mul_one, List.take_of_length_le (by simp; omega)]
/-- The fewest groups. -/
def groupsF (s : Bx) (fs : List Ft) : Option (List (List Int)) := (List.range (fs.length + 1)).findSome? fun m => putF s fs m fs.length 0 []
def groupsA (ss bs : List (List Int)) (s : Bx) (xs : List It) : List (List Int) × Int :=
  if ckL ss bs s xs = 0 then (if (feetV ss bs s xs).all (fun f => fitsB s [f]) = true then ((groupsF s (feetV ss bs s xs)).getD [], 0) else ([], 24)) else ([], ckL ss bs s xs)
theorem find_some {α : Type} {f : Nat → Option α} {n : Nat} {r : α} (h : (List.range n).findSome? f = some r) : ∃ k, k < n ∧ f k = some r := by
  obtain ⟨k, hk, h2⟩ := List.exists_of_findSome?_eq_some h
  exact ⟨k, List.mem_range.1 hk, h2⟩
end Go.Pb.Sag

/- The fewest parts that all do: the search for them, and what it holds in memory. -/
namespace Go.Pb.Sag
open Go Go.Pb Go.Pb.Ware Go.RowKit
set_option linter.unusedVariables false
/-- The first way to put the things from i on (d of them) into at most so many parts; none if there is none. -/
def putG (does : List Int → Bool) (most : Nat) : Nat → Nat → List (List Int) → Option (List (List Int))
  | 0, _, gs => some gs
  | d + 1, i, gs =>
    match (List.range gs.length).findSome? (fun k => if does (gs.getD k [] ++ [(i : Int)]) = true then putG does most d (i + 1) (gs.set k (gs.getD k [] ++ [(i : Int)])) else none) with
    | some r => some r
    | none => if gs.length = most then none else (if does [(i : Int)] = true then putG does most d (i + 1) (gs ++ [[(i : Int)]]) else none)
def tryG (does : List Int → Bool) (most d i : Nat) (gs : List (List Int)) (k : Nat) : Option (List (List Int)) := if does (gs.getD k [] ++ [(i : Int)]) = true then putG does most d (i + 1) (gs.set k (gs.getD k [] ++ [(i : Int)])) else none
theorem tryG_last (does : List Int → Bool) (most d i : Nat) (gs : List (List Int)) : tryG does most d i (gs ++ [[]]) gs.length = if does [(i : Int)] = true then putG does most d (i + 1) (gs ++ [[(i : Int)]]) else none := by
  unfold tryG
  rw [List.getD_eq_getElem?_getD, List.getElem?_append_right (Nat.le_refl _), Nat.sub_self, List.set_append_right _ _ (Nat.le_refl _), Nat.sub_self]
  rfl
theorem putG_succ (does : List Int → Bool) (most d i : Nat) (gs : List (List Int)) : putG does most (d + 1) i gs = match (List.range gs.length).findSome? (tryG does most d i gs) with
    | some r => some r
    | none => if gs.length = most then none else tryG does most d i (gs ++ [[]]) gs.length := by rw [tryG_last, putG]; rfl
/-- Where each thing does by itself, the search is that for items. -/
theorem putG_F {s : Bx} {fs : List Ft} {most : Nat} : ∀ (d i : Nat) (gs : List (List Int)), (∀ j, i ≤ j → j < i + d → fitsB s (chosenL fs [(j : Int)]) = true) → putG (fun g => fitsB s (chosenL fs g)) most d i gs = putF s fs most d i gs
  | 0, i, gs, _ => by rw [putG, putF]
  | d + 1, i, gs, h => by
    have ih : ∀ gs, putG (fun g => fitsB s (chosenL fs g)) most d (i + 1) gs = putF s fs most d (i + 1) gs := fun gs => putG_F d (i + 1) gs fun j h1 h2 => h j (by omega) (by omega)
    rw [putG, putF]
    simp only [ih, h i (Nat.le_refl _) (by omega), if_true]
    try (generalize (List.range gs.length).findSome? _ = r; cases r <;> rfl)
theorem putG_some {does : List Int → Bool} {most : Nat} : ∀ (d i : Nat) (gs : List (List Int)), (∀ j, i ≤ j → j < i + d → does [(j : Int)] = true) → i + d ≤ most → gs.length ≤ i → ∃ r, putG does most d i gs = some r
  | 0, i, gs, _, _, _ => ⟨gs, rfl⟩
  | d + 1, i, gs, h, h1, h2 => by
    rw [putG_succ]
    cases hf : (List.range gs.length).findSome? (tryG does most d i gs) with
    | some r => exact ⟨r, rfl⟩
    | none =>
      dsimp only
      rw [if_neg (by omega), tryG_last, if_pos (h i (Nat.le_refl _) (by omega))]
      exact putG_some d (i + 1) _ (fun j h3 h4 => h j (by omega) (by omega)) (by omega) (by rw [List.length_append, List.length_singleton]; omega)
/-- Parts of things below i: as groups are, and each rises. -/
def GoodR (i : Nat) (gs : List (List Int)) : Prop := Good i gs ∧ ∀ g ∈ gs, g.Pairwise (· < ·)
theorem GoodR.nil : GoodR 0 [] := ⟨Good.nil, fun g h => by cases h⟩
theorem rise_snoc {i : Nat} {g : List Int} (h : g.Pairwise (· < ·)) (hl : ∀ z ∈ g, 0 ≤ z ∧ z < (i : Int)) : (g ++ [(i : Int)]).Pairwise (· < ·) := by
  rw [List.pairwise_append]
  exact ⟨h, List.pairwise_singleton _ _, fun a ha b hb => by rw [List.mem_singleton.1 hb]; exact (hl a ha).2⟩
theorem GoodR.push {i k : Nat} {gs : List (List Int)} {g : List Int} (h : GoodR i gs) (hg : gs[k]? = some g) : GoodR (i + 1) (gs.set k (g ++ [(i : Int)])) := by
  refine ⟨h.1.push hg, fun g' hm => ?_⟩
  have hgm := List.mem_of_getElem? hg
  rcases List.mem_or_eq_of_mem_set hm with h1 | rfl
  · exact h.2 g' h1
  · exact rise_snoc (h.2 g hgm) (h.1.lt g hgm)
theorem GoodR.snoc {i : Nat} {gs : List (List Int)} (h : GoodR i gs) : GoodR (i + 1) (gs ++ [[(i : Int)]]) := by
  refine ⟨h.1.snoc, fun g hm => ?_⟩
  rcases List.mem_append.1 hm with h1 | h1
  · exact h.2 g h1
  · simp at h1; subst h1; exact List.pairwise_singleton _ _
theorem set_last (gs : List (List Int)) (g : List Int) : (gs ++ [[]]).set gs.length g = gs ++ [g] := by
  rw [List.set_append_right _ _ (Nat.le_refl _), Nat.sub_self]; rfl
theorem putG_good {does : List Int → Bool} {most : Nat} : ∀ (d i : Nat) (gs rs : List (List Int)), GoodR i gs → gs.length ≤ most → putG does most d i gs = some rs → GoodR (i + d) rs ∧ rs.length ≤ most
  | 0, i, gs, rs, hG, hm, h => by
    rw [putG] at h; injection h with h; subst h; exact ⟨hG, hm⟩
  | d + 1, i, gs, rs, hG, hm, h => by
    rw [putG_succ] at h
    cases hf : (List.range gs.length).findSome? (tryG does most d i gs) with
    | some r =>
      rw [hf] at h
      injection h with h
      subst h
      obtain ⟨k, hk, h2⟩ := find_some hf
      unfold tryG at h2
      split at h2
      · have hg : gs[k]? = some gs[k] := List.getElem?_eq_getElem hk
        rw [List.getD_eq_getElem?_getD, hg, Option.getD_some] at h2
        have := putG_good d (i + 1) _ _ (hG.push hg) (by rw [List.length_set]; exact hm) h2
        rw [show i + 1 + d = i + (d + 1) by omega] at this
        exact this
      · cases h2
    | none =>
      rw [hf] at h
      dsimp only at h
      split at h
      · cases h
      · rw [tryG_last] at h
        split at h
        · have := putG_good d (i + 1) _ _ hG.snoc (by rw [List.length_append, List.length_singleton]; omega) h
          rw [show i + 1 + d = i + (d + 1) by omega] at this
          exact this
        · cases h
/-- The fewest parts: what Fewest answers. -/
def fewG (does : List Int → Bool) (n : Nat) : Option (List (List Int)) :=
  if (List.range n).all (fun j => does [(j : Int)]) = true then (List.range (n + 1)).findSome? (fun m => putG does m n 0 []) else none

/-- From block B on all is as it was. -/
structure Above (B : Nat) (W W' : World) : Prop where
  size : W.heap.size ≤ W'.heap.size
  block : ∀ b, B ≤ b → b < W.heap.size → W'.heap[b]? = W.heap[b]?
theorem Above.of_below {B : Nat} {W W' : World} (h : Below W.heap.size W W') : Above B W W' := ⟨h.size, fun b _ h1 => h.block b h1⟩
theorem Above.cell {B b o : Nat} {W W' : World} {v : Value} (h : Above B W W') (hb : B ≤ b) (hc : W.cell? ⟨b, o, none⟩ = some v) : W'.cell? ⟨b, o, none⟩ = some v :=
  (World.cell?_of_block (a := ⟨b, o, none⟩) (h.block b hb (World.block_lt_of_cell? W _ hc))).trans hc
theorem Above.free {B b o : Nat} {W W' : World} {v : Value} (h : Above B W W') (hb : B ≤ b) (hc : W.cell? ⟨b, o, none⟩ = some v) (hf : W.frozen? ⟨b, o, none⟩ = false) : W'.frozen? ⟨b, o, none⟩ = false :=
  (World.frozen?_of_block (a := ⟨b, o, none⟩) (h.block b hb (World.block_lt_of_cell? W _ hc))).trans hf
theorem owns_above {B lo e s n : Nat} {W W' : World} {v : Value} {xs : List Value} (h : W.ownsRow lo e s v n xs) (hB : B ≤ lo) (ha : Above B W W') : W'.ownsRow lo e s v n xs := by
  refine ⟨h.1, ?_⟩
  rcases h.2 with hn | ⟨g, cap, cur, h1, h2, h3, h4⟩
  · exact .inl hn
  · exact .inr ⟨g, cap, cur, h1, h2, (ha.block g (by omega) (Array.getElem?_eq_some_iff.1 h3).1).trans h3, h4⟩
/-- No two slices share a block. -/
def Apart (vs : List Value) : Prop := ∀ (j k : Nat) (u v : Value), j ≠ k → vs[j]? = some u → vs[k]? = some v → u.ownBlock = none ∨ u.ownBlock ≠ v.ownBlock
/-- The parts so far, in the box B + 3; their memory lies behind the six boxes. -/
def PartsAt (B TO TI : Nat) (gs : List (List Int)) (W : World) : Prop := ∃ (gv : Value) (vs : List Value), (W.cell? ⟨B + 3, 0, none⟩ = some gv ∧ W.frozen? ⟨B + 3, 0, none⟩ = false) ∧ W.ownsRow (B + 6) TO 1 gv gs.length vs ∧ RowsIn (B + 6) TI W vs gs ∧ Apart vs ∧ B + 6 ≤ W.heap.size
theorem PartsAt.keep {B TO TI : Nat} {gs : List (List Int)} {W W' : World} (h : PartsAt B TO TI gs W) (ha : Above B W W') : PartsAt B TO TI gs W' := by
  obtain ⟨gv, vs, ⟨c1, c2⟩, ho, hr, hA, hs⟩ := h
  exact ⟨gv, vs, ⟨ha.cell (by omega) c1, ha.free (by omega) c1 c2⟩, owns_above ho (by omega) ha, fun k v g h1 h2 => owns_above (hr k v g h1 h2) (by omega) ha, hA, by have := ha.size; omega⟩
/-- The five other boxes. -/
def BoxesAt (B : Nat) (a0 a1 a2 a4 a5 : Value) (W : World) : Prop := W.cell? ⟨B, 0, none⟩ = some a0 ∧ W.cell? ⟨B + 1, 0, none⟩ = some a1 ∧ W.cell? ⟨B + 2, 0, none⟩ = some a2 ∧ W.cell? ⟨B + 4, 0, none⟩ = some a4 ∧ W.cell? ⟨B + 5, 0, none⟩ = some a5
theorem BoxesAt.keep {B : Nat} {a0 a1 a2 a4 a5 : Value} {W W' : World} (h : BoxesAt B a0 a1 a2 a4 a5 W) (hb : ∀ b, B ≤ b → b < B + 6 → b ≠ B + 3 → W'.heap[b]? = W.heap[b]?) : BoxesAt B a0 a1 a2 a4 a5 W' := by
  obtain ⟨h0, h1, h2, h4, h5⟩ := h
  have key : ∀ {b : Nat} {v : Value}, B ≤ b → b < B + 6 → b ≠ B + 3 → W.cell? ⟨b, 0, none⟩ = some v → W'.cell? ⟨b, 0, none⟩ = some v := fun h1 h2 h3 h4 => (World.cell?_of_block (a := ⟨_, 0, none⟩) (hb _ h1 h2 h3)).trans h4
  exact ⟨key (by omega) (by omega) (by omega) h0, key (by omega) (by omega) (by omega) h1, key (by omega) (by omega) (by omega) h2, key (by omega) (by omega) (by omega) h4, key (by omega) (by omega) (by omega) h5⟩
theorem BoxesAt.above {B : Nat} {a0 a1 a2 a4 a5 : Value} {W W' : World} (h : BoxesAt B a0 a1 a2 a4 a5 W) (hs : B + 6 ≤ W.heap.size) (ha : Above B W W') : BoxesAt B a0 a1 a2 a4 a5 W' := h.keep fun b h1 h2 _ => ha.block b h1 (by omega)
theorem BoxesAt.below {B : Nat} {a0 a1 a2 a4 a5 : Value} {W W' : World} (h : BoxesAt B a0 a1 a2 a4 a5 W) (hb : Below (B + 6) W W') : BoxesAt B a0 a1 a2 a4 a5 W' := h.keep fun b h1 h2 _ => hb.block b h2
theorem BoxesAt.set {B : Nat} {a0 a1 a2 a4 a5 v : Value} {W : World} (h : BoxesAt B a0 a1 a2 a4 a5 W) : BoxesAt B a0 a1 a2 a4 a5 (W.setCell ⟨B + 3, 0, none⟩ v) := h.keep fun b h1 h2 h3 => Below.heap_setCell _ _ _ _ h3
/-- What is there behind an append to the part k, ahead of its store. -/
theorem PartsAt.push {B TO TI i k : Nat} (hT : TO ≠ TI) {gs : List (List Int)} {g : List Int} {W w2 w3 : World} {v v' : Value} {vs : List Value} {gb cap : Nat} (hG : Good (i + 1) (gs.set k (g ++ [(i : Int)]))) (hg : gs[k]? = some g) (hv : vs[k]? = some v)
    (c8 : W.cell? ⟨B + 3, 0, none⟩ = some (.slice (some ⟨gb, 0, none⟩) gs.length cap) ∧ W.frozen? ⟨B + 3, 0, none⟩ = false) (ho : W.ownsRow (B + 6) TO 1 (.slice (some ⟨gb, 0, none⟩) gs.length cap) gs.length vs) (hr : RowsIn (B + 6) TI W vs gs) (hA : Apart vs) (hsz : B + 6 ≤ W.heap.size)
    (hb : Below W.heap.size W w2) (hg3 : w2.grownBy w3 v.ownBlock) (ho3 : w3.ownsRow (B + 6) TI 1 v' (g.length + 1) (g.map (Value.int .i64) ++ [.int .i64 (i : Int)])) :
    (w3.cell? ⟨gb, k, none⟩ = some v ∧ w3.frozen? ⟨gb, k, none⟩ = false) ∧ PartsAt B TO TI (gs.set k (g ++ [(i : Int)])) (w3.setCell ⟨gb, k, none⟩ v') ∧ Below (B + 6) W (w3.setCell ⟨gb, k, none⟩ v') := by
  have hk : k < gs.length := (List.getElem?_eq_some_iff.1 hg).1
  have hrow := hr k v g hv hg
  have ho2 := owns_below ho hb
  have hrow2 := owns_below hrow hb
  have hgb : B + 6 ≤ gb := own_ge ho gb rfl
  have a1 : (Value.slice (some ⟨gb, 0, none⟩) gs.length cap).ownBlock = none ∨ (Value.slice (some ⟨gb, 0, none⟩) gs.length cap).ownBlock ≠ v.ownBlock := apart_types ho2 hrow2 hT
  have ho4 : w3.ownsRow (B + 6) TO 1 (.slice (some ⟨gb, 0, none⟩) gs.length cap) gs.length vs := ho2.kept hg3 a1
  have hbw : Below (B + 6) W w3 := (hb.mono hsz).grown hg3 (by have := hb.size; omega) (own_ge hrow)
  have a2 : some gb ≠ v.ownBlock := by rcases a1 with h | h; cases h; exact h
  have hcell : w3.cell? ⟨gb, k, none⟩ = some v := by
    have h1 := ho4.cells (g := gb) rfl k v hv
    rw [Go.WideShapes.add_plain, Nat.zero_add] at h1
    exact h1
  have hvl : k < vs.length := (List.getElem?_eq_some_iff.1 hv).1
  have hts : ∀ {u : Value} {n : Nat} {xs : List Value}, w3.ownsRow (B + 6) TI 1 u n xs → u.ownBlock = none ∨ u.ownBlock ≠ some gb := fun h => apart_types h ho4 (Ne.symm hT)
  have hrj : ∀ (j : Nat) (u : Value) (g' : List Int), j ≠ k → vs[j]? = some u → gs[j]? = some g' → w3.ownsRow (B + 6) TI 1 u g'.length (g'.map (Value.int .i64)) := fun j u g' e hu hg' =>
    (owns_below (hr j u g' hu hg') hb).kept hg3 (hA j k u v e hu hv)
  have hkey : ∀ (j : Nat) (u : Value), j ≠ k → vs[j]? = some u → (v'.ownBlock = none ∨ v'.ownBlock ≠ u.ownBlock) ∧ (u.ownBlock = none ∨ u.ownBlock ≠ v'.ownBlock) := fun j u e hu => by
    have hjl : j < gs.length := by have h1 := ho.1; have h2 := (List.getElem?_eq_some_iff.1 hu).1; omega
    have hg' : gs[j]? = some gs[j] := List.getElem?_eq_getElem hjl
    have hj := hrj j u _ e hu hg'
    obtain ⟨x, hx⟩ := hG.one j gs[j] (by rw [List.getElem?_set_ne (Ne.symm e)]; exact hg')
    obtain ⟨y, hy⟩ := hG.one k (g ++ [(i : Int)]) (List.getElem?_set_self hk)
    have hxy := hG.apart j k gs[j] (g ++ [(i : Int)]) x y e (by rw [List.getElem?_set_ne (Ne.symm e)]; exact hg') (List.getElem?_set_self hk) hx hy
    have h1 : (gs[j].map (Value.int .i64))[0]? = some (.int .i64 x) := by rw [List.getElem?_map, hx]; rfl
    have h2 : (g.map (Value.int .i64) ++ [.int .i64 (i : Int)])[0]? = some (.int .i64 y) := by
      have h3 : ((g ++ [(i : Int)]).map (Value.int .i64))[0]? = some (.int .i64 y) := by rw [List.getElem?_map, hy]; rfl
      simpa using h3
    exact ⟨apart_heads ho3 hj h2 h1 (fun h => hxy (by injection h with _ h; exact h.symm)), apart_heads hj ho3 h1 h2 (fun h => hxy (by injection h))⟩
  refine ⟨⟨hcell, owns_frozen ho4 rfl k⟩, ⟨.slice (some ⟨gb, 0, none⟩) gs.length cap, vs.set k v', ⟨?_, ?_⟩, ?_, ?_, ?_, ?_⟩, hbw.setCell (p := ⟨gb, k, none⟩) hgb v'⟩
  · exact setc_block ((hbw.cell (p := ⟨B + 3, 0, none⟩) (by simp)).trans c8.1) (by omega)
  · exact set_free ((hbw.cell (p := ⟨B + 3, 0, none⟩) (by simp)).trans c8.1) ((hbw.frozen (p := ⟨B + 3, 0, none⟩) (by simp)).trans c8.2)
  · rw [List.length_set]; exact row_set ho4 hk
  · intro j u g' hu hg'
    by_cases e : j = k
    · subst e
      rw [List.getElem?_set_self hvl] at hu
      rw [List.getElem?_set_self hk] at hg'
      obtain rfl : v' = u := by simpa using hu
      obtain rfl : g ++ [(i : Int)] = g' := by simpa using hg'
      have h1 := set_own (o := j) (u := v') ho3 (hts ho3)
      simpa using h1
    · rw [List.getElem?_set_ne (Ne.symm e)] at hu hg'
      have h3 := hrj j u g' e hu hg'
      exact set_own h3 (hts h3)
  · intro j l u x hne hu hx
    by_cases e : j = k
    · subst e
      rw [List.getElem?_set_self hvl] at hu
      rw [List.getElem?_set_ne hne] at hx
      obtain rfl : v' = u := by simpa using hu
      exact (hkey l x (Ne.symm hne) hx).1
    · rw [List.getElem?_set_ne (Ne.symm e)] at hu
      by_cases e2 : l = k
      · subst e2
        rw [List.getElem?_set_self hvl] at hx
        obtain rfl : v' = x := by simpa using hx
        exact (hkey j u e hu).2
      · rw [List.getElem?_set_ne (Ne.symm e2)] at hx
        exact hA j l u x hne hu hx
  · have := hbw.size; show B + 6 ≤ (w3.setCell _ _).heap.size; simp; omega
/-- The part k is cut back to g. -/
theorem PartsAt.pop {B TO TI i k : Nat} (hT : TO ≠ TI) {gs : List (List Int)} {g : List Int} {W : World} {gb gcap b cap n : Nat} {vs : List Value} (hgs : gs[k]? = some g) (hn : gs.length = n)
    (c8 : W.cell? ⟨B + 3, 0, none⟩ = some (.slice (some ⟨gb, 0, none⟩) n gcap) ∧ W.frozen? ⟨B + 3, 0, none⟩ = false) (ho : W.ownsRow (B + 6) TO 1 (.slice (some ⟨gb, 0, none⟩) n gcap) n vs) (hr : RowsIn (B + 6) TI W vs (gs.set k (g ++ [(i : Int)]))) (hA : Apart vs) (hsz : B + 6 ≤ W.heap.size)
    (hv : vs[k]? = some (.slice (some ⟨b, 0, none⟩) (g.length + 1) cap)) :
    PartsAt B TO TI gs (W.setCell ⟨gb, k, none⟩ (.slice (some ⟨b, 0, none⟩) g.length cap)) ∧ Below (B + 6) W (W.setCell ⟨gb, k, none⟩ (.slice (some ⟨b, 0, none⟩) g.length cap)) := by
  subst hn
  have hk : k < gs.length := (List.getElem?_eq_some_iff.1 hgs).1
  have hvl : k < vs.length := (List.getElem?_eq_some_iff.1 hv).1
  have hgb : B + 6 ≤ gb := own_ge ho gb rfl
  have hts : ∀ {u : Value} {n : Nat} {xs : List Value}, W.ownsRow (B + 6) TI 1 u n xs → u.ownBlock = none ∨ u.ownBlock ≠ some gb := fun h => apart_types h ho (Ne.symm hT)
  refine ⟨⟨.slice (some ⟨gb, 0, none⟩) gs.length gcap, vs.set k (.slice (some ⟨b, 0, none⟩) g.length cap), ⟨setc_block c8.1 (by omega), set_free c8.1 c8.2⟩, row_set ho hk, ?_, ?_, by simpa using hsz⟩, (Below.refl _ _).setCell (p := ⟨gb, k, none⟩) hgb _⟩
  · intro j u g' hu hg'
    by_cases e : j = k
    · subst e
      rw [List.getElem?_set_self hvl] at hu
      rw [hgs] at hg'
      obtain rfl : Value.slice (some ⟨b, 0, none⟩) g.length cap = u := by simpa using hu
      obtain rfl : g = g' := by simpa using hg'
      have h1 := hr j _ _ hv (List.getElem?_set_self hk)
      rw [List.length_append, List.length_singleton] at h1
      have h2 := row_take (m := g.length) h1 (by omega)
      rw [List.map_append, List.take_append_of_le_length (by simp), List.take_of_length_le (by simp)] at h2
      exact set_own h2 (hts h2)
    · rw [List.getElem?_set_ne (Ne.symm e)] at hu
      have h1 := hr j u g' hu (by rw [List.getElem?_set_ne (Ne.symm e)]; exact hg')
      exact set_own h1 (hts h1)
  · have blk : ∀ (j : Nat) (u : Value), (vs.set k (.slice (some ⟨b, 0, none⟩) g.length cap))[j]? = some u → ∃ u0, vs[j]? = some u0 ∧ u0.ownBlock = u.ownBlock := fun j u hu => by
      by_cases e : j = k
      · subst e
        rw [List.getElem?_set_self hvl] at hu
        injection hu with hu
        subst hu
        exact ⟨_, hv, rfl⟩
      · rw [List.getElem?_set_ne (Ne.symm e)] at hu
        exact ⟨u, hu, rfl⟩
    intro j l u x hne hu hx
    obtain ⟨u0, h1, h2⟩ := blk j u hu
    obtain ⟨x0, h3, h4⟩ := blk l x hx
    rw [← h2, ← h4]
    exact hA j l u0 x0 hne h1 h3
/-- A new empty part. -/
theorem PartsAt.grow {B TO TI n : Nat} {gs : List (List Int)} {W w2 w3 : World} {gv gv' : Value} {vs : List Value} (hT : TO ≠ TI) (hn : gs.length = n)
    (c8 : W.cell? ⟨B + 3, 0, none⟩ = some gv ∧ W.frozen? ⟨B + 3, 0, none⟩ = false) (ho : W.ownsRow (B + 6) TO 1 gv n vs) (hr : RowsIn (B + 6) TI W vs gs) (hA : Apart vs) (hsz : B + 6 ≤ W.heap.size)
    (hb : Below W.heap.size W w2) (hg3 : w2.grownBy w3 gv.ownBlock) (ho3 : w3.ownsRow (B + 6) TO 1 gv' (n + 1) (vs ++ [.slice none 0 0])) :
    (w3.cell? ⟨B + 3, 0, none⟩ = some gv ∧ w3.frozen? ⟨B + 3, 0, none⟩ = false) ∧ PartsAt B TO TI (gs ++ [[]]) (w3.setCell ⟨B + 3, 0, none⟩ gv') ∧ Below (B + 6) W w3 := by
  subst hn
  have hbw : Below (B + 6) W w3 := (hb.mono hsz).grown hg3 (by have := hb.size; omega) (own_ge ho)
  have hG8 : w3.cell? ⟨B + 3, 0, none⟩ = some gv ∧ w3.frozen? ⟨B + 3, 0, none⟩ = false := ⟨(hbw.cell (p := ⟨B + 3, 0, none⟩) (by simp)).trans c8.1, (hbw.frozen (p := ⟨B + 3, 0, none⟩) (by simp)).trans c8.2⟩
  have far : ∀ {T n : Nat} {v : Value} {xs : List Value}, w3.ownsRow (B + 6) T 1 v n xs → v.ownBlock = none ∨ v.ownBlock ≠ some (B + 3) := fun h => .inr fun e => by have := own_ge h _ e; omega
  have hvl : vs.length = gs.length := by have := ho.1; omega
  refine ⟨hG8, ⟨gv', vs ++ [.slice none 0 0], ⟨setc_same hG8.1, set_free hG8.1 hG8.2⟩, ?_, ?_, ?_, ?_⟩, hbw⟩
  · rw [List.length_append, List.length_singleton]; exact set_own ho3 (far ho3)
  · intro k v g hv hg
    rcases Nat.lt_or_ge k gs.length with h1 | h1
    · rw [List.getElem?_append_left (by omega)] at hv
      rw [List.getElem?_append_left h1] at hg
      have h2 := owns_below (hr k v g hv hg) hb
      have h3 := h2.kept hg3 (apart_types h2 (owns_below ho hb) (Ne.symm hT))
      exact set_own h3 (far h3)
    · rw [List.getElem?_append_right (by omega), hvl] at hv
      rw [List.getElem?_append_right h1] at hg
      have h4 := (List.getElem?_eq_some_iff.1 hg).1
      simp at h4
      have e : k = gs.length := by omega
      subst e
      simp at hv hg
      subst hv; subst hg
      exact World.ownsRow_nil _ _ _ _
  · intro j k u v hne hu hv
    rcases Nat.lt_or_ge j vs.length with h1 | h1
    · rw [List.getElem?_append_left h1] at hu
      rcases Nat.lt_or_ge k vs.length with h2 | h2
      · rw [List.getElem?_append_left h2] at hv
        exact hA j k u v hne hu hv
      · rw [List.getElem?_append_right h2] at hv
        have h4 := (List.getElem?_eq_some_iff.1 hv).1
        simp at h4
        rw [show k - vs.length = 0 by omega] at hv
        simp at hv
        subst hv
        cases hob : u.ownBlock with
        | none => exact .inl rfl
        | some b => exact .inr (by simp [Value.ownBlock])
    · rw [List.getElem?_append_right h1] at hu
      have h4 := (List.getElem?_eq_some_iff.1 hu).1
      simp at h4
      rw [show j - vs.length = 0 by omega] at hu
      simp at hu
      subst hu
      exact .inl rfl
  · have := hbw.size; show B + 6 ≤ (w3.setCell _ _).heap.size; simp; omega
/-- The last part is taken away. -/
theorem PartsAt.shrink {B TO TI n gb cap : Nat} {gs : List (List Int)} {g : List Int} {W : World} {vs : List Value} (hn : gs.length = n)
    (c8 : W.cell? ⟨B + 3, 0, none⟩ = some (.slice (some ⟨gb, 0, none⟩) (n + 1) cap) ∧ W.frozen? ⟨B + 3, 0, none⟩ = false) (ho : W.ownsRow (B + 6) TO 1 (.slice (some ⟨gb, 0, none⟩) (n + 1) cap) (n + 1) vs) (hr : RowsIn (B + 6) TI W vs (gs ++ [g])) (hA : Apart vs) (hsz : B + 6 ≤ W.heap.size) :
    PartsAt B TO TI gs (W.setCell ⟨B + 3, 0, none⟩ (.slice (some ⟨gb, 0, none⟩) n cap)) := by
  subst hn
  have far : ∀ {T n : Nat} {v : Value} {xs : List Value}, W.ownsRow (B + 6) T 1 v n xs → v.ownBlock = none ∨ v.ownBlock ≠ some (B + 3) := fun h => .inr fun e => by have := own_ge h _ e; omega
  have h1 := row_take (m := gs.length) ho (by omega)
  refine ⟨.slice (some ⟨gb, 0, none⟩) gs.length cap, vs.take gs.length, ⟨setc_same c8.1, set_free c8.1 c8.2⟩, set_own h1 (far h1), ?_, ?_, by simpa using hsz⟩
  · intro k v g' hv hg
    have hk : k < gs.length := (List.getElem?_eq_some_iff.1 hg).1
    rw [List.getElem?_take, if_pos hk] at hv
    have h2 := hr k v g' hv (by rw [List.getElem?_append_left hk]; exact hg)
    exact set_own h2 (far h2)
  · intro j k u v hne hu hv
    rw [List.getElem?_take] at hu hv
    split at hu
    · split at hv
      · exact hA j k u v hne hu hv
      · cases hv
    · cases hu
/-- What put answers: the parts, or that there are none, and the parts are as they were. -/
def PutsRes (B TO TI : Nat) (a0 a1 a2 a4 a5 : Value) (Q : World → Prop) (gs : List (List Int)) (r : Option (List (List Int))) (e : Ending) (w' : World) : Prop :=
  Q w' ∧ BoxesAt B a0 a1 a2 a4 a5 w' ∧ ((∃ rs, r = some rs ∧ e = .returned (.bool true) ∧ PartsAt B TO TI rs w') ∨ (r = none ∧ e = .returned (.bool false) ∧ PartsAt B TO TI gs w'))
theorem PutsRes.yes {B TO TI : Nat} {a0 a1 a2 a4 a5 : Value} {Q : World → Prop} {gs rs : List (List Int)} {r : Option (List (List Int))} {e : Ending} {w' : World} (hq : Q w') (hB : BoxesAt B a0 a1 a2 a4 a5 w') (hr : r = some rs) (he : e = .returned (.bool true)) (hP : PartsAt B TO TI rs w') : PutsRes B TO TI a0 a1 a2 a4 a5 Q gs r e w' := ⟨hq, hB, .inl ⟨rs, hr, he, hP⟩⟩
theorem PutsRes.no {B TO TI : Nat} {a0 a1 a2 a4 a5 : Value} {Q : World → Prop} {gs : List (List Int)} {r : Option (List (List Int))} {e : Ending} {w' : World} (hq : Q w') (hB : BoxesAt B a0 a1 a2 a4 a5 w') (hr : r = none) (he : e = .returned (.bool false)) (hP : PartsAt B TO TI gs w') : PutsRes B TO TI a0 a1 a2 a4 a5 Q gs r e w' := ⟨hq, hB, .inr ⟨hr, he, hP⟩⟩
theorem Above.trans {B : Nat} {a b c : World} (h : Above B a b) (k : Above B b c) : Above B a c :=
  ⟨Nat.le_trans h.size k.size, fun i h1 h2 => (k.block i h1 (Nat.lt_of_lt_of_le h2 h.size)).trans (h.block i h1 h2)⟩
theorem Above.mono {B B' : Nat} {a b : World} (h : Above B a b) (hB : B ≤ B') : Above B' a b := ⟨h.size, fun i h1 h2 => h.block i (by omega) h2⟩
/-- The rest of a region: a group of it, walked once. -/
theorem wpAny_Rs {P : Program} {Q : Exit → Act → World → Prop} {a : Act} {w0 w : World} {l : List Oper} {L : Array Bool} {n : Nat} (ps : List (Nat × (Value → World → Prop))) (hs : List Nat) (g : Nat) (hn : hs.length + g = n) (hkeep : ∀ x ∈ ps, Keeps x.2)
    (hB : (groupB .any l.toArray L hs && pairsB .any l.toArray ((ps.map (·.1)).contains ·) hs && plainsB l.toArray ((ps.map (·.1)).contains ·) hs) = true) (hw : Below w0.heap.size w0 w)
    (h : wpS P .any l.toArray w0 ((ps.map (·.1)).contains ·) (pOf ps) (fun Γ' a' => ∀ w', All w0 (pOf ps) Γ' w' → wpAny P .any l.toArray Q g (mark hs L) a' w') (numbered l.toArray hs) (fun _ => none) a) :
    wpAny P .any l.toArray Q n L a w := by
  subst hn
  refine wpAny_R (ps.map (·.1)) hs g (pOf_keeps hkeep) hB hw (wpR_of_wpS (fun k hk => ?_) h)
  simp only [groupB, Bool.and_eq_true] at hB
  obtain ⟨_, hmem, _⟩ := orderB_spec hB.1.1.2
  exact (hmem k hk).2.2
end Go.Pb.Sag

/- A region that draws: loads of what stays as it is, whatever the other operations do, are run first; then a group; then the rest. -/
namespace Go.Pb
set_option linter.unusedVariables false
open Go Go.RowKit
section
variable {P : Program} {md : Region.Mode} {ops : Array Oper} {Q : Exit → Act → World → Prop} {C : World → Prop}
/-- As wpAny; C holds wherever an operation is about to be run. -/
def wpAnyC (P : Program) (md : Region.Mode) (ops : Array Oper) (Q : Exit → Act → World → Prop) (C : World → Prop) : Nat → Array Bool → Act → World → Prop
  | 0, L, a, w => C w ∧ Region.ready md ops L = [] ∧ Q .normal a w
  | n + 1, L, a, w => C w ∧ (Region.ready md ops L = [] → Q .normal a w) ∧ ∀ i ∈ Region.ready md ops L, wpOp P ops Q i (wpAnyC P md ops Q C n (L.setIfInBounds i true)) a w
theorem wpAnyC_any : ∀ {n : Nat} {L : Array Bool} {a : Act} {w : World}, wpAnyC P md ops Q C n L a w → wpAny P md ops Q n L a w
  | 0, _, _, _, h => h.2
  | n + 1, _, _, _, h => ⟨h.2.1, fun i hi => wpOp_mono (fun _ _ h => wpAnyC_any h) (h.2.2 i hi)⟩
theorem wpAnyC_ready {n r : Nat} {L : Array Bool} {a : Act} {w : World} (hC : C w) (hr : Region.ready md ops L = [r]) (h : wpOp P ops Q r (wpAnyC P md ops Q C n (L.setIfInBounds r true)) a w) : wpAnyC P md ops Q C (n + 1) L a w :=
  ⟨hC, fun h0 => (by rw [hr] at h0; cases h0), fun i hi => by rw [hr, List.mem_singleton] at hi; subst hi; exact h⟩
theorem wpAnyC_op {n r : Nat} {o : Oper} {L : Array Bool} {a : Act} {w : World} (hC : C w) (hr : Region.ready md ops L = [r]) (ho : ops[r]? = some o) (hw : Region.wanted o (yielded ops a.tmps) = true)
    (h : ∀ K : Act → World → Prop, (∀ a' w', wpAnyC P md ops Q C n (L.setIfInBounds r true) a' w' → K a' w') → o.wp P a w K Q) : wpAnyC P md ops Q C (n + 1) L a w := by
  refine wpAnyC_ready hC hr ?_
  unfold wpOp
  simp only [ho, hw, if_true]
  exact .inl (h _ fun _ _ h => h)
theorem wpAnyC_end {L : Array Bool} {a : Act} {w : World} (hC : C w) (hr : Region.ready md ops L = []) (h : Q .normal a w) : wpAnyC P md ops Q C 0 L a w := ⟨hC, hr, h⟩
theorem wpAnyC_at {n : Nat} {L : Array Bool} {a : Act} {w : World} (h : wpAnyC P md ops Q C n L a w) : C w := by cases n <;> exact h.1
/-- Where C holds, the operation yields v and leaves the world as it is. -/
def LoadsC (P : Program) (ops : Array Oper) (C : World → Prop) (o : Oper) (v : Value) (a : Act) : Prop := Region.wanted o (yielded ops a.tmps) = true ∧ ∀ w, C w → (execOp a.eval o).run P w = .ok (.value v) w
theorem wpOp_keep {R : Act → Prop} {j : Nat} {oj : Oper} (hj : ops[j]? = some oj) {K : Act → World → Prop} {a : Act} {w : World} (hk : ∀ u, R (a.put oj.dst u)) (hkD : ∀ d u, R (({ a with defers := d :: a.defers } : Act).put oj.dst u))
    (h : wpOp P ops Q j K a w) : wpOp P ops Q j (fun a' w' => R a' ∧ K a' w') a w := by
  unfold wpOp at *
  simp only [hj] at *
  split
  · rename_i hw
    simp only [hw, if_true] at h
    rcases h with h | h
    · left
      unfold Oper.wp at *
      generalize (execOp a.eval oj).run P w = r at *
      cases r with
      | ok n w' =>
        cases n <;> simp only [Oper.upon] at h ⊢
        case value u => exact ⟨hk u, h⟩
        case skip => exact ⟨hk _, h⟩
        case defer d => exact ⟨hkD d _, h⟩
        case enter f args =>
          refine Calls.mono h fun e w'' he => ?_
          cases e with
          | returned u => exact ⟨hk u, he⟩
          | panicked c => exact he
          | outgrown => exact he
        case row row args => exact Rows.mono h fun u w'' he => ⟨hk u, he⟩
      | halt x w' => cases x <;> exact h
    · exact .inr h
  · rename_i hw
    simp only [hw] at h
    exact ⟨hk _, h⟩
theorem wpOp_putC {j : Nat} {oi oj : Oper} {v : Value} (hj : ops[j]? = some oj) (hap : oi.apart ops oj = true) (hsi : ∀ cs b, oi.op ≠ .select cs b) (hsj : ∀ cs b, oj.op ≠ .select cs b) {K : Act → World → Prop} {a : Act} {w : World}
    (hy : LoadsC P ops C oi v a) (h : wpOp P ops (Only Q) j K (a.put oi.dst v) w) : wpOp P ops (Only Q) j (fun a' w' => LoadsC P ops C oi v a' ∧ K (a'.put oi.dst v) w') a w := by
  obtain ⟨h1, h2, h3⟩ := Oper.apart_spec hap
  refine wpOp_keep hj (fun u => ?_) (fun d u => ?_) ?_
  · exact ⟨by rw [wanted_put oi a oj.dst u h3]; exact hy.1, fun w hC => by rw [execOp_put oi hsi a oj.dst u h3]; exact hy.2 w hC⟩
  · exact ⟨by rw [wanted_put oi _ oj.dst u h3]; exact hy.1, fun w hC => by rw [execOp_put oi hsi _ oj.dst u h3]; exact hy.2 w hC⟩
  · unfold wpOp at *
    simp only [hj] at *
    rw [wanted_put oj a oi.dst v h1] at h
    split
    · rename_i hw
      simp only [hw, if_true] at h
      rcases h with h | ⟨_, hl⟩
      · left
        unfold Oper.wp at *
        rw [execOp_put oj hsj a oi.dst v h1] at h
        generalize (execOp a.eval oj).run P w = r at *
        cases r with
        | ok n w' =>
          cases n <;> simp only [Oper.upon] at h ⊢
          case value u => rw [← Act.put_comm a v u h2]; exact h
          case skip => rw [← Act.put_comm a v undef h2]; exact h
          case defer d => rw [← Act.put_comm _ v undef h2, ← Act.put_defers]; exact h
          case enter f args =>
            refine Calls.mono h fun e w'' he => ?_
            cases e with
            | returned u => show K _ _; rw [← Act.put_comm a v u h2]; exact he
            | panicked c => exact absurd he.1 (by simp)
            | outgrown => exact absurd he only_lets
          case row row args => exact Rows.mono h fun u w'' he => by rw [← Act.put_comm a v u h2]; exact he
        | halt x w' =>
          cases x <;> simp only [Oper.upon] at h ⊢
          case panic u => exact absurd h.1 (by simp)
      · exact absurd hl only_lets
    · rename_i hw
      simp only [hw] at h
      rw [← Act.put_comm a v undef h2]; exact h
theorem LoadsC.op {i : Nat} {o : Oper} {v : Value} {a : Act} (hi : ops[i]? = some o) (hy : LoadsC P ops C o v a) {K : Act → World → Prop} {w : World} (hC : C w) (h : K (a.put o.dst v) w) : wpOp P ops Q i K a w := by
  unfold wpOp
  simp only [hi, hy.1, if_true]
  left
  unfold Oper.wp
  rw [hy.2 w hC]
  exact h
/-- Such a load may be run first. -/
theorem wpAnyC_first {i : Nat} {oi : Oper} {v : Value} (hi : ops[i]? = some oi) (hsel : ∀ (j : Nat) (o : Oper) cs b, ops[j]? = some o → o.op ≠ .select cs b) :
    ∀ (n : Nat) (L : Array Bool) (a : Act) (w : World),
      (∀ j oj, ops[j]? = some oj → j ≠ i → L.getD j true = false → (∀ e ∈ oj.after, Region.binds md e = true → e.on ≠ i) → oi.apart ops oj = true) →
      i ∈ Region.ready md ops L → LoadsC P ops C oi v a → C w →
      wpAnyC P md ops (Only Q) C n (L.setIfInBounds i true) (a.put oi.dst v) w → wpAnyC P md ops (Only Q) C (n + 1) L a w := by
  intro n
  induction n with
  | zero =>
    intro L a w _ hr hy hC H
    refine ⟨hC, fun h => (by rw [h] at hr; cases hr), fun j hj => ?_⟩
    by_cases hji : j = i
    · subst hji; exact hy.op hi hC H
    · have := ready_mono hj hji
      rw [H.2.1] at this
      cases this
  | succ n ih =>
    intro L a w hfree hr hy hC H
    refine ⟨hC, fun h => (by rw [h] at hr; cases hr), fun j hj => ?_⟩
    by_cases hji : j = i
    · subst hji; exact hy.op hi hC H
    · have h1 := H.2.2 j (ready_mono hj hji)
      obtain ⟨hjun, oj, hoj, hall⟩ := mem_ready.1 hj
      have hnot : ∀ e ∈ oj.after, Region.binds md e = true → e.on ≠ i := fun e he hb heq => by
        have h2 := hall e he hb
        have h0 := (mem_ready.1 hr).1
        rw [heq] at h2
        rcases Nat.lt_or_ge i L.size with h' | h'
        · simp [h'] at h0 h2; rw [h0] at h2; cases h2
        · simp [Array.getElem?_eq_none h'] at h2
      have h2 := wpOp_putC hoj (hfree j oj hoj hji hjun hnot) (fun cs b => hsel i oi cs b hi) (fun cs b => hsel j oj cs b hoj) hy h1
      have hfree' : ∀ k ok, ops[k]? = some ok → k ≠ i → (L.setIfInBounds j true).getD k true = false → (∀ e ∈ ok.after, Region.binds md e = true → e.on ≠ i) → oi.apart ops ok = true := fun k ok hk hki hun hno => by
        refine hfree k ok hk hki ?_ hno
        by_cases hjk : j = k
        · subst hjk; exact hjun
        · rw [getD_set_ne true hjk] at hun; exact hun
      have key : ∀ a' w', LoadsC P ops C oi v a' → wpAnyC P md ops (Only Q) C n ((L.setIfInBounds i true).setIfInBounds j true) (a'.put oi.dst v) w' → wpAnyC P md ops (Only Q) C (n + 1) (L.setIfInBounds j true) a' w' := by
        intro a' w' hy' H'
        rw [Array.setIfInBounds_comm _ _ (Ne.symm hji)] at H'
        have hr' := ready_mono hr (Ne.symm hji)
        exact ih (L.setIfInBounds j true) a' w' hfree' hr' hy' (wpAnyC_at H') H'
      exact wpOp_mono (fun a' w' h3 => key a' w' h3.1 h3.2) h2
end
section
variable {P : Program} {md : Region.Mode} {ops : Array Oper} {w0 : World} {fr : Nat → Bool} {p : Nat → Value → World → Prop} {C : World → Prop}
theorem wpAnyC_of_wpR {Q : Exit → Act → World → Prop} (hC : ∀ w, Below w0.heap.size w0 w → C w) {g : Nat} {hs : List Nat} {L : Array Bool} (hsel : Region.noSelect ops = true) (hplain : ∀ h o, h ∈ hs → fr h = false → ops[h]? = some o → plainOp o.op = true)
    (hkeep : ∀ i v w1 w2, p i v w1 → Below w1.heap.size w1 w2 → p i v w2) (hL : L.size = ops.size) :
    ∀ (f : Nat) (M : Array Bool) (l : List Nat) (Γ : Known) (a : Act) (w : World), l.length = f → l.Nodup → l.Pairwise (Pair md ops fr) → (∀ j ∈ l, M.getD j true = false) →
      (∀ j ∈ hs, j ∈ l ∨ M.getD j true = true) → (∀ h ∈ l, Γ h = none) → Hered md ops hs f M → All w0 p Γ w → mark l M = mark hs L →
      wpR P md ops w0 fr p (fun Γ' a' => ∀ w', All w0 p Γ' w' → wpAnyC P md ops Q C g (mark hs L) a' w') l Γ a → wpAnyC P md ops Q C (f + g) M a w := by
  intro f
  induction f with
  | zero =>
    intro M l Γ a w hlen _ _ _ _ _ _ hall hmk H
    obtain rfl := List.length_eq_zero_iff.1 hlen
    rw [Nat.zero_add, show M = mark hs L from hmk]
    exact H w hall
  | succ f ih =>
    intro M l Γ a w hlen hnd hpw hun hcov hΓ hh hall hmk H
    rw [show f + 1 + g = (f + g) + 1 by omega]
    refine ⟨hC _ hall.1, fun h0 => absurd h0 hh.1, fun i hi => ?_⟩
    obtain ⟨hiu, oi, hoi, hdeps⟩ := mem_ready.1 hi
    have hil : i ∈ l := by
      rcases hcov i (hh.2.1 i hi) with h1 | h1
      · exact h1
      · rw [h1] at hiu; cases hiu
    have hiM : i < M.size := by
      rcases Nat.lt_or_ge i M.size with h' | h'
      · exact h'
      · simp [Array.getElem?_eq_none h'] at hiu
    have H1 := wpR_pull hsel hkeep hoi l Γ a hil hnd hpw (fun j hj => waits_dep hdeps (hun j hj)) hΓ ⟨w, hall⟩ H
    have hle : (l.erase i).length = f := by rw [List.length_erase_of_mem hil]; omega
    have next : ∀ Γ' a' w', (∀ h ∈ l.erase i, Γ' h = none) → All w0 p Γ' w' → wpR P md ops w0 fr p (fun Γ' a' => ∀ w', All w0 p Γ' w' → wpAnyC P md ops Q C g (mark hs L) a' w') (l.erase i) Γ' a' →
        wpAnyC P md ops Q C (f + g) (M.setIfInBounds i true) a' w' := fun Γ' a' w' hΓ' hall' H' =>
      ih (M.setIfInBounds i true) (l.erase i) Γ' a' w' hle (hnd.erase i) (hpw.sublist List.erase_sublist) (fun j hj => by
          have hne : j ≠ i := by rintro rfl; exact (List.Nodup.not_mem_erase hnd) hj
          rw [getD_set_ne true (Ne.symm hne)]; exact hun j (List.mem_of_mem_erase hj))
        (fun j hj => by
          by_cases hji : j = i
          · subst hji; right; simp
          · rcases hcov j hj with h1 | h1
            · left; exact (List.mem_erase_of_ne hji).2 h1
            · right; rw [getD_set_ne true (Ne.symm hji)]; exact h1)
        hΓ' (hh.2.2.2 i hi) hall' (by
          rw [← hmk]
          have key : ∀ (l : List Nat) (M : Array Bool), i ∈ l → mark l M = mark (l.erase i) (M.setIfInBounds i true) := by
            intro l
            induction l with
            | nil => intro M h; cases h
            | cons x l ihl =>
              intro M h
              by_cases hx : x = i
              · subst hx; simp [mark]
              · rw [List.erase_cons_tail (by simpa using hx)]
                simp only [mark, List.foldl_cons]
                have h2 := ihl (M.setIfInBounds x true) (by simpa [Ne.symm hx] using h)
                simp only [mark] at h2
                rw [h2, Array.setIfInBounds_comm _ _ hx]
          exact (key l M hil).symm) H'
    have hΓe : ∀ h ∈ l.erase i, Γ h = none := fun h hh' => hΓ h (List.mem_of_mem_erase hh')
    unfold wpR oneR at H1
    simp only [hoi] at H1
    unfold wpOp
    simp only [hoi]
    split
    · rename_i hwant
      rw [if_pos hwant] at H1
      left
      split at H1
      · rename_i hf
        obtain ⟨h1, h2⟩ := H1
        have h3 := h1 w (hall.cl oi)
        have go : ∀ u w'', Below w.heap.size w w'' → p i u w'' → wpAnyC P md ops Q C (f + g) (M.setIfInBounds i true) (a.put oi.dst u) w'' := by
          intro u w'' hb hq
          have hall' : All w0 p (upd Γ i u) w'' := ⟨hall.1.trans (hb.mono hall.1.size), fun k v hk => by
            unfold upd at hk
            by_cases hki : k = i
            · subst hki; rw [if_pos rfl] at hk; cases hk; exact hq
            · rw [if_neg hki] at hk; exact hkeep _ _ _ _ (hall.2 k v hk) hb⟩
          refine next _ _ _ (fun k hk => ?_) hall' (h2 u ⟨w'', hall'⟩)
          unfold upd
          rw [if_neg (by rintro rfl; exact (List.Nodup.not_mem_erase hnd) hk)]
          exact hΓe k hk
        unfold freshAt at h3
        unfold Oper.wp
        generalize (execOp a.eval oi).run P w = r at h3 ⊢
        cases r with
        | halt x w' => exact h3.elim
        | ok n w' =>
          cases n <;> simp only at h3
          case value u => exact go u w' h3.1 h3.2
          case enter fn args =>
            obtain ⟨rfl, hc⟩ := h3
            exact hc.mono fun e w'' ⟨u, he, hb, hq⟩ => by subst he; exact go u w'' hb hq
      · rename_i hf
        obtain ⟨v, h1, h2⟩ := H1 ⟨w, hall.cl oi⟩
        have h3 := h1 w (hall.cl oi)
        unfold Oper.quietAt at h3
        unfold Oper.wp
        generalize hr : (execOp a.eval oi).run P w = r at h3 ⊢
        cases r with
        | halt x w' => simp only [Oper.quietUpon] at h3
        | ok n w' =>
          cases n <;> simp only [Oper.quietUpon] at h3
          case value u =>
            obtain ⟨rfl, rfl⟩ := h3
            exact next _ _ _ hΓe hall h2
          case skip =>
            obtain ⟨rfl, rfl⟩ := h3
            exact next _ _ _ hΓe hall h2
          case enter fn args => exact absurd hr (plain_ne (hplain i oi (hh.2.1 i hi) (by simpa using hf) hoi) _)
    · rename_i hwant
      rw [if_neg hwant] at H1
      exact next _ _ _ hΓe hall H1

theorem wpAnyC_R {Q : Exit → Act → World → Prop} (hC : ∀ w, Below w0.heap.size w0 w → C w) {L : Array Bool} {a : Act} {w : World} (fs : List Nat) (hs : List Nat) (g : Nat)
    (hkeep : ∀ i v w1 w2, p i v w1 → Below w1.heap.size w1 w2 → p i v w2)
    (hB : (groupB md ops L hs && pairsB md ops (fs.contains ·) hs && plainsB ops (fs.contains ·) hs) = true) (hw : Below w0.heap.size w0 w)
    (h : wpR P md ops w0 (fs.contains ·) p (fun Γ' a' => ∀ w', All w0 p Γ' w' → wpAnyC P md ops Q C g (mark hs L) a' w') hs (fun _ => none) a) : wpAnyC P md ops Q C (hs.length + g) L a w := by
  simp only [Bool.and_eq_true] at hB
  obtain ⟨⟨hG, hP⟩, hPl⟩ := hB
  have hG' := hG
  simp only [groupB, Bool.and_eq_true, decide_eq_true_eq] at hG'
  obtain ⟨⟨⟨⟨hsz, hsel⟩, hcl⟩, hout⟩, hord⟩ := hG'
  obtain ⟨hnd, hmem, hpre⟩ := orderB_spec hord
  have hleft : left hs L = hs.length := by
    unfold left
    rw [List.filter_eq_self.2 (fun j hj => by rw [(hmem j hj).2.1]; rfl)]
  have hsh : Shut md ops L := by
    intro j o ho hj e he hb
    have hjo : j < ops.size := by
      rcases Nat.lt_or_ge j ops.size with h' | h'
      · exact h'
      · simp [Array.getElem?_eq_none h'] at ho
    have h1 := List.all_eq_true.1 hcl j (List.mem_range.2 hjo)
    simp only [hj, ho, Bool.not_true, Bool.false_or] at h1
    simpa [hb] using Array.all_eq_true'.1 h1 e he
  have hh := hered_of hG hs.length L hleft hsh hsz (fun j hj => .inl hj) (fun j hj => hj)
  refine wpAnyC_of_wpR hC (hs := hs) (L := L) hsel (fun k o hk hf ho => ?_) hkeep hsz hs.length L hs (fun _ => none) a w rfl hnd (pairs_of hP) (fun j hj => (hmem j hj).2.1)
    (fun j hj => .inl hj) (fun _ _ => rfl) hh ⟨hw, fun _ _ hg => by cases hg⟩ rfl h
  have := List.all_eq_true.1 hPl k hk
  simp only [show (fs.contains k) = false from hf, ho, Bool.false_or] at this
  exact this

end

section
variable {P : Program} {md : Region.Mode} {ops : Array Oper} {C : World → Prop}
/-- These loads, one behind the other. -/
def wpFirstC (P : Program) (ops : Array Oper) (C : World → Prop) : List Nat → (Act → Prop) → Act → Prop
  | [], H, a => H a
  | i :: is, H, a => ∃ o v, ops[i]? = some o ∧ LoadsC P ops C o v a ∧ wpFirstC P ops C is H (a.put o.dst v)
theorem wpFirstC_any {Q : Exit → Act → World → Prop} (hsel : Region.noSelect ops = true) {w : World} (hC : C w) {n : Nat} {H : Act → Prop} : ∀ (fs : List Nat) (L : Array Bool) (a : Act), firstB md ops fs L = true →
    (∀ a, H a → wpAnyC P md ops (Only Q) C n (mark fs L) a w) → wpFirstC P ops C fs H a → wpAnyC P md ops (Only Q) C (fs.length + n) L a w
  | [], L, a, _, hH, h => by simpa using hH a h
  | i :: is, L, a, hb, hH, h => by
    obtain ⟨o, v, ho, hy, h⟩ := h
    simp only [firstB, Bool.and_eq_true, ho] at hb
    obtain ⟨⟨hr, hf⟩, hb⟩ := hb
    have hr2 : i ∈ Region.ready md ops L := by simpa using hr
    have ih := wpFirstC_any hsel hC is (L.setIfInBounds i true) _ hb hH h
    rw [List.length_cons, show is.length + 1 + n = is.length + n + 1 by omega]
    exact wpAnyC_first ho (Region.noSelect_spec hsel) _ L a w (fun j oj hj hne hun hno => freeB_spec ho hf hr2 j oj hj hne hun hno) hr2 hy hC ih
end
theorem wpAny_G {P : Program} {Q : Exit → Act → World → Prop} {a : Act} {w : World} {l : List Oper} (C : World → Prop) (hC : ∀ w', Below w.heap.size w w' → C w') (fs : List Nat)
    (hF : (Region.noSelect l.toArray && firstB .any l.toArray fs (Array.replicate l.length false)) = true)
    (ps : List (Nat × (Value → World → Prop))) (hs : List Nat) (g : Nat)
    (hn : fs.length + (hs.length + g) = l.length) (hkeep : ∀ x ∈ ps, Keeps x.2)
    (hB : (groupB .any l.toArray (mark fs (Array.replicate l.length false)) hs && pairsB .any l.toArray ((ps.map (·.1)).contains ·) hs && plainsB l.toArray ((ps.map (·.1)).contains ·) hs) = true)
    (h : wpFirstC P l.toArray C fs (fun a => wpS P .any l.toArray w ((ps.map (·.1)).contains ·) (pOf ps) (fun Γ' a' => ∀ w', All w (pOf ps) Γ' w' → wpAnyC P .any l.toArray (Only Q) C g (mark hs (mark fs (Array.replicate l.length false))) a' w') (numbered l.toArray hs) (fun _ => none) a) a) :
    wpAny P .any l.toArray (Only Q) l.toArray.size (Array.replicate l.toArray.size false) a w.drew := by
  simp only [Bool.and_eq_true] at hF
  have h1 := wpFirstC_any (P := P) (Q := Q) (md := .any) (C := C) hF.1 (w := w.drew) (hC _ (Below.refl _ w).drew) (n := hs.length + g) fs (Array.replicate l.length false) a hF.2 (fun a h => ?_) h
  · rw [hn] at h1
    simpa using wpAnyC_any h1
  · have h2 := wpR_of_wpS (fun k hk => by
      simp only [groupB, Bool.and_eq_true] at hB
      obtain ⟨_, hmem, _⟩ := orderB_spec hB.1.1.2
      exact (hmem k hk).2.2) h
    exact wpAnyC_R (P := P) (Q := Only Q) (w0 := w) (w := w.drew) (a := a) hC (ps.map (·.1)) hs g (pOf_keeps hkeep) hB (Below.refl _ w).drew h2
theorem wp_region_G {P : Program} {id : Nat} {Q : Exit → Act → World → Prop} {a : Act} {w : World} {l : List Oper} (C : World → Prop) (hC : ∀ w', Below w.heap.size w w' → C w') (fs : List Nat)
    (hF : (Region.noSelect l.toArray && firstB .any l.toArray fs (Array.replicate l.length false)) = true)
    (ps : List (Nat × (Value → World → Prop))) (hs : List Nat) (g : Nat) (hm : P.follows .mixedOrders = true)
    (hn : fs.length + (hs.length + g) = l.length) (hkeep : ∀ x ∈ ps, Keeps x.2)
    (hB : (groupB .any l.toArray (mark fs (Array.replicate l.length false)) hs && pairsB .any l.toArray ((ps.map (·.1)).contains ·) hs && plainsB l.toArray ((ps.map (·.1)).contains ·) hs) = true)
    (h : wpFirstC P l.toArray C fs (fun a => wpS P .any l.toArray w ((ps.map (·.1)).contains ·) (pOf ps) (fun Γ' a' => ∀ w', All w (pOf ps) Γ' w' → wpAnyC P .any l.toArray (Only Q) C g (mark hs (mark fs (Array.replicate l.length false))) a' w') (numbered l.toArray hs) (fun _ => none) a) a) :
    (Code.region id l.toArray true).wp P Q a w := wp_region_any hm (wpAny_only (wpAny_G C hC fs hF ps hs g hn hkeep hB h))
/-- The same in the body of a range over a function. -/
theorem wpIn_region_G {P : Program} {id : Nat} {Q : Exit → Act → World → Prop} {a : Act} {w : World} {l : List Oper} {lv n : Nat} (hd : noDefer l = true) (C : World → Prop) (hC : ∀ w', Below w.heap.size w w' → C w') (fs : List Nat)
    (hF : (Region.noSelect l.toArray && firstB .any l.toArray fs (Array.replicate l.length false)) = true)
    (ps : List (Nat × (Value → World → Prop))) (hs : List Nat) (g : Nat) (hm : P.follows .mixedOrders = true)
    (hn : fs.length + (hs.length + g) = l.length) (hkeep : ∀ x ∈ ps, Keeps x.2)
    (hB : (groupB .any l.toArray (mark fs (Array.replicate l.length false)) hs && pairsB .any l.toArray ((ps.map (·.1)).contains ·) hs && plainsB l.toArray ((ps.map (·.1)).contains ·) hs) = true)
    (h : wpFirstC P l.toArray C fs (fun a => wpS P .any l.toArray w ((ps.map (·.1)).contains ·) (pOf ps) (fun Γ' a' => ∀ w', All w (pOf ps) Γ' w' → wpAnyC P .any l.toArray (Only Q) C g (mark hs (mark fs (Array.replicate l.length false))) a' w') (numbered l.toArray hs) (fun _ => none) a) a) :
    (Code.region id l.toArray true).wpIn (Fence.wide.inRound lv) n P Q a w :=
  Go.wpIn_mono (Q := Only Q) (wpIn_region_any hm (wpAny_inRound (fun i o ho => noDefer_ne hd ho) (fun h => only_lets h) _ _ _ _ (wpAny_G C hC fs hF ps hs g hn hkeep hB h))) (fun e a w h => by obtain ⟨rfl, h⟩ := h; exact h)
end Go.Pb

/- Appending to an empty slice of the call's own; slices of the call's own, by predicates. -/
namespace Go.Pb
set_option linter.unusedVariables false
open Go Go.RowKit
/-- A slice of the call's own that was written out. -/
def NewList (B0 n : Nat) (cs : List Value) (v : Value) (W : World) : Prop :=
  ∃ B, B0 ≤ B ∧ v = .slice (some ⟨B, 0, none⟩) n n ∧ ∀ o c, cs[o]? = some c → W.cell? ⟨B, o, none⟩ = some c ∧ W.frozen? ⟨B, o, none⟩ = false
theorem keeps_list {B0 n : Nat} {cs : List Value} : Keeps (NewList B0 n cs) := fun _ _ _ ⟨B, h1, h2, h3⟩ hb =>
  ⟨B, h1, h2, fun o c hc => ⟨bkeep hb (h3 o c hc).1, bfree hb (h3 o c hc).1 (h3 o c hc).2⟩⟩
theorem list_of {w w' : World} {n : Nat} {cs : List Value} {t : TypeId} (hb : Below w.heap.size w w') :
    Below w'.heap.size w' (w'.alloc (.cells cs.toArray t)) ∧ NewList w.heap.size n cs (.slice (some ⟨w'.heap.size, 0, none⟩) n n) (w'.alloc (.cells cs.toArray t)) :=
  ⟨(Below.refl _ _).alloc (Nat.le_refl _) _, w'.heap.size, hb.size, rfl, fun o c hc => by
    refine ⟨?_, World.frozen?_alloc_new w' cs.toArray t o⟩
    rw [World.cell?_alloc_new]; simpa using hc⟩
theorem keeps_owns {base size n : Nat} {e : TypeId} {xs : List Value} : Keeps (fun v w => w.ownsRow base e size v n xs) := fun _ _ _ h hb => owns_below h hb
end Go.Pb
namespace Go.Pb.Ware
open Go Go.Pb Go.RowKit
end Go.Pb.Ware
namespace Go.Pb
end Go.Pb
namespace Go.Pb.Ware
open Go Go.Pb Go.RowKit
end Go.Pb.Ware

/- The library's contracts of slices.SortFunc at slices of feet, at this translation's numbers. -/
namespace Go.Proofs
open Go.Shelf
def Try.lays125_ren : Go.Shelf.Ren := ⟨fun | 125 => 81 | 128 => 92 | 129 => 93 | n => n, fun | 46 => 159 | 3 => 3 | 51 => 170 | 53 => 98 | 4 => 4 | 5 => 5 | 9 => 9 | n => n, fun | n => n⟩
theorem Try.lays125 : Go.Proofs.Lays.n125 Try.prog Try.lays125_ren := {
  mixed := by kernel_rfl
  f125 := Try.func81.trans (congrArg some (by kernel_rfl))
  f128 := Try.func92.trans (congrArg some (by kernel_rfl))
  f129 := Try.func93.trans (congrArg some (by kernel_rfl))
  t3 := Try.underlying3
  a3 := Try.isAgg3
  z3 := Try.sizeOf3
  v3 := Try.zeroValue3
  t4 := Try.underlying4
  a4 := Try.isAgg4
  z4 := Try.sizeOf4
  v4 := Try.zeroValue4
  t5 := Try.underlying5
  a5 := Try.isAgg5
  z5 := Try.sizeOf5
  v5 := Try.zeroValue5
  t9 := Try.underlying9
  a9 := Try.isAgg9
  z9 := Try.sizeOf9
  v9 := Try.zeroValue9
  t46 := Try.underlying159
  a46 := Try.isAgg159
  z46 := Try.sizeOf159
  v46 := Try.zeroValue159
  t51 := Try.underlying170
  a51 := Try.isAgg170
  z51 := Try.sizeOf170
  v51 := Try.zeroValue170
  t53 := Try.underlying98
  a53 := Try.isAgg98
  z53 := Try.sizeOf98
  v53 := Try.zeroValue98 }
theorem Try.bits_Len (x : Int) (w : World) (h0 : 0 ≤ x) (h1 : x ≤ 18446744073709551615) :
    Calls Try.prog 81 #[.int .u64 x] w fun e w' => e = .returned (.int .i64 (Lib.bitLen x.toNat)) ∧ w' = w := Any.bits_Len Try.lays125 x w h0 h1
def Try.sortFeet_ren : Go.Shelf.Ren := ⟨fun | 6 => 73 | 15 => 81 | 14 => 80 | 28 => 92 | 29 => 93 | 20 => 84 | 21 => 85 | 22 => 86 | 23 => 87 | 24 => 88 | 25 => 89 | 26 => 90 | 27 => 91 | 46 => 94 | 47 => 95 | 48 => 96 | 49 => 97 | 50 => 98 | 57 => 99 | n => n, fun | 22 => 68 | 24 => 54 | 25 => 151 | 3 => 3 | 39 => 159 | 0 => 0 | 53 => 170 | 55 => 98 | 4 => 4 | 46 => 163 | 45 => 162 | 50 => 167 | 5 => 5 | 9 => 9 | 66 => 172 | 70 => 176 | 76 => 178 | 77 => 144 | n => n, fun | n => n⟩
theorem Try.sortFeet : Go.Proofs.SlLaysF0.n6 Try.prog Try.sortFeet_ren := {
  mixed := by kernel_rfl
  f6 := ⟨Try.f73.name, by decide, Try.func73.trans (congrArg some (by kernel_rfl))⟩
  f14 := ⟨Try.f80.name, by decide, Try.func80.trans (congrArg some (by kernel_rfl))⟩
  f15 := Try.func81.trans (congrArg some (by kernel_rfl))
  f20 := ⟨Try.f84.name, by decide, Try.func84.trans (congrArg some (by kernel_rfl))⟩
  f21 := ⟨Try.f85.name, by decide, Try.func85.trans (congrArg some (by kernel_rfl))⟩
  f22 := ⟨Try.f86.name, by decide, Try.func86.trans (congrArg some (by kernel_rfl))⟩
  f23 := ⟨Try.f87.name, by decide, Try.func87.trans (congrArg some (by kernel_rfl))⟩
  f24 := ⟨Try.f88.name, by decide, Try.func88.trans (congrArg some (by kernel_rfl))⟩
  f25 := ⟨Try.f89.name, by decide, Try.func89.trans (congrArg some (by kernel_rfl))⟩
  f26 := ⟨Try.f90.name, by decide, Try.func90.trans (congrArg some (by kernel_rfl))⟩
  f27 := ⟨Try.f91.name, by decide, Try.func91.trans (congrArg some (by kernel_rfl))⟩
  f28 := Try.func92.trans (congrArg some (by kernel_rfl))
  f29 := Try.func93.trans (congrArg some (by kernel_rfl))
  f46 := ⟨Try.f94.name, by decide, Try.func94.trans (congrArg some (by kernel_rfl))⟩
  f47 := Try.func95.trans (congrArg some (by kernel_rfl))
  f48 := Try.func96.trans (congrArg some (by kernel_rfl))
  f49 := ⟨Try.f97.name, by decide, Try.func97.trans (congrArg some (by kernel_rfl))⟩
  f50 := ⟨Try.f98.name, by decide, Try.func98.trans (congrArg some (by kernel_rfl))⟩
  f57 := ⟨Try.f99.name, by decide, Try.func99.trans (congrArg some (by kernel_rfl))⟩
  t0 := Try.underlying0
  a0 := Try.isAgg0
  z0 := Try.sizeOf0
  v0 := Try.zeroValue0
  t3 := Try.underlying3
  a3 := Try.isAgg3
  z3 := Try.sizeOf3
  v3 := Try.zeroValue3
  t4 := Try.underlying4
  a4 := Try.isAgg4
  z4 := Try.sizeOf4
  v4 := Try.zeroValue4
  t5 := Try.underlying5
  a5 := Try.isAgg5
  z5 := Try.sizeOf5
  v5 := Try.zeroValue5
  t9 := Try.underlying9
  a9 := Try.isAgg9
  z9 := Try.sizeOf9
  v9 := Try.zeroValue9
  t22 := Try.underlying68
  a22 := Try.isAgg68
  z22 := Try.sizeOf68
  v22 := Try.zeroValue68
  t25 := Try.underlying151
  a25 := Try.isAgg151
  z25 := Try.sizeOf151
  v25 := Try.zeroValue151
  t39 := Try.underlying159
  a39 := Try.isAgg159
  z39 := Try.sizeOf159
  v39 := Try.zeroValue159
  t45 := Try.underlying162
  a45 := Try.isAgg162
  z45 := Try.sizeOf162
  v45 := Try.zeroValue162
  t46 := Try.underlying163
  a46 := Try.isAgg163
  z46 := Try.sizeOf163
  v46 := Try.zeroValue163
  t50 := Try.underlying167
  a50 := Try.isAgg167
  z50 := Try.sizeOf167
  v50 := Try.zeroValue167
  t53 := Try.underlying170
  a53 := Try.isAgg170
  z53 := Try.sizeOf170
  v53 := Try.zeroValue170
  t55 := Try.underlying98
  a55 := Try.isAgg98
  z55 := Try.sizeOf98
  v55 := Try.zeroValue98
  t66 := Try.underlying172
  a66 := Try.isAgg172
  z66 := Try.sizeOf172
  v66 := Try.zeroValue172
  t70 := Try.underlying176
  a70 := Try.isAgg176
  z70 := Try.sizeOf176
  v70 := Try.zeroValue176
  t76 := Try.underlying178
  a76 := Try.isAgg178
  z76 := Try.sizeOf178
  v76 := Try.zeroValue178
  t77 := Try.underlying144
  a77 := Try.isAgg144
  z77 := Try.sizeOf144
  v77 := Try.zeroValue144 }
end Go.Proofs

/- The plain mathematics of layer 2 (saggar): the packings that are shown are just those that are accepted, in order; what is packed has room. -/
namespace Go.Pb.Sag
open Go Go.Pb Go.Pb.Ware Go.RowKit
set_option linter.unusedVariables false
theorem maskQ_toSq (f : Ft) (p : St) : maskQ f (toSq p) = maskOf f p := rfl
theorem packs_place {s : Bx} : ∀ {fs : List Ft} {used : Nat} {q : List St}, q ∈ packsF (fs.map (spotsL s)) used → q.length = fs.length ∧ placeB s fs (q.map toSq) used = true
  | [], used, q, h => by
    rw [List.map_nil, packsF, List.mem_singleton] at h
    subst h; exact ⟨rfl, rfl⟩
  | f :: fs, used, q, h => by
    rw [List.map_cons, packsF, List.mem_flatMap] at h
    obtain ⟨a, ha, h2⟩ := h
    split at h2
    · cases h2
    · rename_i hm
      obtain ⟨r, hr, rfl⟩ := List.mem_map.1 h2
      obtain ⟨p, hp, rfl⟩ := List.mem_map.1 ha
      obtain ⟨h3, h4⟩ := packs_place hr
      refine ⟨by simp [h3], ?_⟩
      rw [List.map_cons, placeB, maskQ_toSq]
      have h5 : anySt (toSq p).y (toSq p).x (toSq p).turned (standsL s f) = true := List.any_eq_true.2 ⟨p, hp, by simp [sameSt, toSq]⟩
      rw [h5, h4]
      dsimp only at hm
      simpa using hm
/-- What is shown is accepted. -/
theorem shown_pack {s : Bx} {fs : List Ft} {q : List St} (h : q ∈ shownL s fs) : packB s fs (q.map toSq) = true := by
  unfold shownL at h
  split at h
  · cases h
  · rename_i hp
    obtain ⟨h1, h2⟩ := packs_place h
    have hp2 : plainB s fs = false := by simpa using hp
    unfold plainB at hp2
    rw [Bool.or_eq_false_iff, Bool.or_eq_false_iff, Bool.or_eq_false_iff] at hp2
    unfold packB
    rw [hp2.1, hp2.2.2.1, h2, List.length_map, h1]; simp
end Go.Pb.Sag

/- The chapter's example, by the plain mathematics. -/
namespace Go.Pb.Sag
open Go Go.Pb Go.Pb.Ware Go.RowKit
def exRows : List (List Int) := [[1, 100, 102, 100, 102, 50, 51, 10, 200, 210, 1000], [2, 190, 200, 90, 100, 30, 30, 0, 500, 500, 0]]
def exL : List It := [⟨2, 1, 5⟩, ⟨2, 1, 5⟩, ⟨1, 2, 4⟩]
end Go.Pb.Sag

/- What the laws' inputs are: shapes that are well made, items of one piece of them. -/
namespace Go.Pb.Sag
open Go Go.Pb Go.Pb.Ware Go.RowKit
set_option linter.unusedVariables false
/-- Shapes with the numbers 1, 2, .. -/
def GoodS (ss : List (List Int)) : Prop := ss.length ≤ 40 ∧ ∀ (k : Nat) r, ss[k]? = some r → r.length = 11 ∧ r.getD 0 0 = (k : Int) + 1 ∧ okS r = true
theorem kept_up : ∀ {rs : List (List Int)} {b : Nat}, (∀ (k : Nat) r, rs[k]? = some r → r.getD 0 0 = ((b + k : Nat) : Int) + 1 ∧ okS r = true) → kept okS (b : Int) rs = true
  | [], _, _ => rfl
  | r :: rs, b, h => by
    have h0 := h 0 r rfl
    rw [kept_next h0.2 (by rw [h0.1]; omega), h0.1]
    have e : ((b + 0 : Nat) : Int) + 1 = ((b + 1 : Nat) : Int) := by omega
    rw [e]
    refine kept_up fun k r2 hk => ?_
    have h1 := h (k + 1) r2 (by simpa using hk)
    rw [show b + 1 + k = b + (k + 1) by omega]
    exact h1
theorem goodS_ck {ss : List (List Int)} (h : GoodS ss) : ckW ss [] = 0 := by
  refine ckW_1 ?_ rfl
  rw [keptB_short (by have := h.1; omega)]
  exact kept_up (b := 0) fun k r hk => by rw [Nat.zero_add]; exact (h.2 k r hk).2
theorem goodS_snoc {ss : List (List Int)} {r : List Int} (h : GoodS ss) (hl : ss.length < 40) (h1 : r.length = 11) (h2 : r.getD 0 0 = (ss.length : Int) + 1) (h3 : okS r = true) : GoodS (ss ++ [r]) := by
  refine ⟨by rw [List.length_append, List.length_singleton]; omega, fun k x hx => ?_⟩
  rcases Nat.lt_or_ge k ss.length with hk | hk
  · rw [List.getElem?_append_left hk] at hx; exact h.2 k x hx
  · rw [List.getElem?_append_right hk] at hx
    have hk2 := (List.getElem?_eq_some_iff.1 hx).1
    simp at hk2
    have e : k = ss.length := by omega
    subst e
    simp at hx
    subst hx
    exact ⟨h1, h2, h3⟩
theorem goodS_nil : GoodS [] := ⟨by simp, fun k r h => by simp at h⟩
theorem findR_at : ∀ {rs : List (List Int)} {b k : Nat} {r : List Int}, (∀ (k : Nat) r, rs[k]? = some r → r.getD 0 0 = ((b + k : Nat) : Int) + 1) → rs[k]? = some r → findR (((b + k : Nat) : Int) + 1) rs = some r
  | [], _, k, r, _, hk => by simp at hk
  | x :: rs, b, 0, r, h, hk => by
    have h0 := h 0 x rfl
    simp at hk
    subst hk
    rw [findR, if_pos h0]
  | x :: rs, b, k + 1, r, h, hk => by
    have h0 := h 0 x rfl
    rw [findR, if_neg (by rw [h0]; omega)]
    have h2 : ∀ (j : Nat) y, rs[j]? = some y → y.getD 0 0 = ((b + 1 + j : Nat) : Int) + 1 := fun j y hj => by
      have := h (j + 1) y (by simpa using hj)
      rw [show b + 1 + j = b + (j + 1) by omega]; exact this
    have := findR_at (rs := rs) (b := b + 1) (k := k) h2 (by simpa using hk)
    rwa [show b + 1 + k = b + (k + 1) by omega] at this
/-- One piece stands. -/
theorem goodS_item {ss : List (List Int)} {sh cl : Int} (h : GoodS ss) (h1 : 1 ≤ sh) (h2 : sh ≤ (ss.length : Int)) (h3 : 0 ≤ cl) (h4 : cl ≤ 50) : itemB ss ⟨sh, 1, cl⟩ = true := by
  obtain ⟨k, rfl⟩ : ∃ k : Nat, sh = (k : Int) + 1 := ⟨(sh - 1).toNat, by omega⟩
  have hk : k < ss.length := by omega
  have hr : ss[k]? = some ss[k] := List.getElem?_eq_getElem hk
  have hg := h.2 k _ hr
  have hf : findR ((k : Int) + 1) ss = some ss[k] := by
    have := findR_at (rs := ss) (b := 0) (k := k) (r := ss[k]) (fun j y hj => by rw [Nat.zero_add]; exact (h.2 j y hj).2.1) hr
    rwa [Nat.zero_add] at this
  unfold itemB
  dsimp only
  rw [hf]
  dsimp only
  have hs : (Ware.stands (shR ss[k]) 1).1 = true := by
    have ho : shOk (shR ss[k]) = true := hg.2.2
    have hb : 0 ≤ (shR ss[k]).bears := by
      simp only [shOk, Bool.and_eq_true, btw_iff] at ho; omega
    unfold Ware.stands
    have hp : ckP (shR ss[k]) 1 = 0 := by unfold ckP; rw [ho]; rfl
    rw [if_pos hp]
    exact decide_eq_true (by omega)
  rw [hs, btw_iff.2 ⟨h3, h4⟩]; rfl
theorem goodS_ex : GoodS exRows := by
  refine ⟨by decide, fun k r hk => ?_⟩
  match k, hk with
  | 0, hk => simp [exRows] at hk; subst hk; exact ⟨rfl, rfl, by decide⟩
  | 1, hk => simp [exRows] at hk; subst hk; exact ⟨rfl, rfl, by decide⟩
  | k + 2, hk => simp [exRows] at hk
theorem good_ck {ss : List (List Int)} {s : Bx} {xs : List It} (h : GoodS ss) (hX : boxOk s = true) (hn : xs.length ≤ 5) (hi : xs.all (itemB ss) = true) : ckL ss [] s xs = 0 := by
  refine ckL_good ?_ (by omega) hi
  unfold ckG; rw [if_pos (goodS_ck h)]
  unfold ckX; rw [if_pos hX]
end Go.Pb.Sag

/- What making a floor holds in memory. -/
namespace Go.Pb.Sag
open Go Go.Pb Go.Pb.Ware Go.RowKit
set_option linter.unusedVariables false
theorem cells_store {W : World} {B o : Nat} {u : Value} {vs : List Value} (h : CellsAt W B vs) : CellsAt (W.setCell ⟨B, o, none⟩ u) B (vs.set o u) := by
  intro j v hv
  by_cases hj : j = o
  · subst hj
    have hl : j < vs.length := by have := (List.getElem?_eq_some_iff.1 hv).1; simpa using this
    rw [List.getElem?_set_self hl] at hv
    injection hv with hv
    subst hv
    have h1 := h j _ (List.getElem?_eq_getElem hl)
    exact ⟨setc_same h1.1, set_free h1.1 h1.2⟩
  · rw [List.getElem?_set_ne (Ne.symm hj)] at hv
    have h1 := h j v hv
    exact ⟨setc_other h1.1 hj, set_free h1.1 h1.2⟩
theorem cells_grown {W W' : World} {B : Nat} {vs : List Value} {row : Option Nat} (h : CellsAt W B vs) (hg : W.grownBy W' row) (hne : some B ≠ row) : CellsAt W' B vs :=
  fun o v hv => ⟨grown_kept hg (h o v hv).1 hne, grown_free hg (h o v hv).1 (h o v hv).2 hne⟩
def Z9 : List Value := [.slice none 0 0, .slice none 0 0, .int .i64 0, .int .i64 0, .int .i64 0, .int .i64 0, .int .i64 0, .int .i64 0, .slice none 0 0]
/-- The argument's block, the answer's, the floor's (with shapes and items that are the call's own). -/
structure MadeAt (TS TI B : Nat) (w : World) (args : List Value) (c : List Int) (sv iv : Value) (ss : List (List Int)) (xs : List It) (W : World) : Prop where
  below : Below B w W
  size : B + 1 + 1 + 1 ≤ W.heap.size
  arg : CellsAt W B args
  res : CellsAt W (B + 1) Z9
  floor : CellsAt W (B + 1 + 1) (sv :: .slice none 0 0 :: (c.map (Value.int .i64) ++ [iv]))
  clen : c.length = 6
  shapes : W.ownsRow (B + 1 + 1 + 1) TS 11 sv ss.length (ss.flatten.map (Value.int .i64))
  items : W.ownsRow (B + 1 + 1 + 1) TI 3 iv xs.length ((xs.map rowX).flatten.map (Value.int .i64))
theorem MadeAt.next {TS TI B : Nat} {w W W' : World} {args : List Value} {c : List Int} {sv iv : Value} {ss : List (List Int)} {xs : List It} (h : MadeAt TS TI B w args c sv iv ss xs W) (hb : Below W.heap.size W W') : MadeAt TS TI B w args c sv iv ss xs W' :=
  ⟨h.below.trans (hb.mono (by have := h.size; omega)), by have := hb.size; have := h.size; omega, h.arg.below hb, h.res.below hb, h.floor.below hb, h.clen, owns_below h.shapes hb, owns_below h.items hb⟩
theorem own_ne {W : World} {lo T s n b : Nat} {v : Value} {xs : List Value} (h : W.ownsRow lo T s v n xs) (hb : b < lo) : some b ≠ v.ownBlock := fun e => by
  have := own_ge h b e.symm; omega
theorem own_ne' {W : World} {lo T s n b : Nat} {v : Value} {xs : List Value} (h : W.ownsRow lo T s v n xs) (hb : b < lo) : v.ownBlock = none ∨ v.ownBlock ≠ some b := .inr fun e => own_ne h hb e.symm
/-- One shape more, and its store. -/
theorem MadeAt.push {TS TI B : Nat} {w W W' : World} {args : List Value} {c : List Int} {sv sv' iv : Value} {ss : List (List Int)} {xs : List It} {r : List Int} (h : MadeAt TS TI B w args c sv iv ss xs W) (hT : TI ≠ TS) (hg : W.grownBy W' sv.ownBlock)
    (ho : W'.ownsRow (B + 1 + 1 + 1) TS 11 sv' (ss.length + 1) (ss.flatten.map (Value.int .i64) ++ r.map (Value.int .i64))) : MadeAt TS TI B w args c sv' iv (ss ++ [r]) xs (W'.setCell ⟨B + 1 + 1, 0, none⟩ sv') := by
  have h0 := h.size
  have e1 : (ss ++ [r]).length = ss.length + 1 := by simp
  have e2 : (ss ++ [r]).flatten.map (Value.int .i64) = ss.flatten.map (Value.int .i64) ++ r.map (Value.int .i64) := by simp
  refine ⟨(below_grown h.below hg h.shapes (by omega) (by omega)).setCell (p := ⟨B + 1 + 1, 0, none⟩) (by show B ≤ B + 1 + 1; omega) _, by have := hg.size; simp; omega, (cells_grown h.arg hg (own_ne h.shapes (by omega))).other (by omega) _, (cells_grown h.res hg (own_ne h.shapes (by omega))).other (by omega) _, ?_, h.clen, ?_, ?_⟩
  · exact cells_store (cells_grown h.floor hg (own_ne h.shapes (by omega)))
  · rw [e1, e2]; exact set_own ho (own_ne' ho (by omega))
  · exact set_own (h.items.kept hg (apart_types h.items h.shapes hT)) (own_ne' h.items (by omega))
/-- One item more, and its store. -/
theorem MadeAt.add {TS TI B : Nat} {w W W' : World} {args : List Value} {c : List Int} {sv iv iv' : Value} {ss : List (List Int)} {xs : List It} {x : It} (h : MadeAt TS TI B w args c sv iv ss xs W) (hT : TS ≠ TI) (hg : W.grownBy W' iv.ownBlock)
    (ho : W'.ownsRow (B + 1 + 1 + 1) TI 3 iv' (xs.length + 1) ((xs.map rowX).flatten.map (Value.int .i64) ++ (rowX x).map (Value.int .i64))) : MadeAt TS TI B w args c sv iv' ss (xs ++ [x]) (W'.setCell ⟨B + 1 + 1, 8, none⟩ iv') := by
  have h0 := h.size
  have e1 : (xs ++ [x]).length = xs.length + 1 := by simp
  have e2 : ((xs ++ [x]).map rowX).flatten.map (Value.int .i64) = (xs.map rowX).flatten.map (Value.int .i64) ++ (rowX x).map (Value.int .i64) := by simp
  refine ⟨(below_grown h.below hg h.items (by omega) (by omega)).setCell (p := ⟨B + 1 + 1, 8, none⟩) (by show B ≤ B + 1 + 1; omega) _, by have := hg.size; simp; omega, (cells_grown h.arg hg (own_ne h.items (by omega))).other (by omega) _, (cells_grown h.res hg (own_ne h.items (by omega))).other (by omega) _, ?_, h.clen, ?_, ?_⟩
  · have h1 := cells_store (o := 8) (u := iv') (cells_grown h.floor hg (own_ne h.items (by omega)))
    match c, h.clen, h1 with
    | [c1, c2, c3, c4, c5, c6], _, h1 => exact h1
  · exact set_own (h.shapes.kept hg (apart_types h.shapes h.items hT)) (own_ne' h.shapes (by omega))
  · rw [e1, e2]; exact set_own ho (own_ne' ho (by omega))
theorem own_set {W : World} {lo T n s cap g k : Nat} {xs : List Value} {v : Value} (h : W.ownsRow lo T s (.slice (some ⟨g, 0, none⟩) n cap) n xs) : (W.setCell ⟨g, k, none⟩ v).ownsRow lo T s (.slice (some ⟨g, 0, none⟩) n cap) n (xs.set k v) := by
  refine ⟨by rw [List.length_set]; exact h.1, ?_⟩
  rcases h.2 with ⟨h1, _⟩ | ⟨g', cap', cur, h1, h2, h3, h4, h5, h6, h7⟩
  · cases h1
  · injection h1 with e1 _ e2
    injection e1 with e1
    injection e1 with e1
    subst e1; subst e2
    refine .inr ⟨g, cap, cur.setIfInBounds k v, rfl, h2, ?_, h4, h5, by rw [Array.size_setIfInBounds]; exact h6, ?_⟩
    · rw [Go.Sort.setCell_eq]
      unfold Go.Sort.mapBlock
      rw [Array.getElem?_modify, if_pos rfl, h3]; rfl
    · rw [Array.toList_setIfInBounds, List.take_set, h7]
theorem flat_set : ∀ {xs : List It} {i : Nat} {x : It}, i < xs.length → (((((xs.map rowX).flatten.map (Value.int .i64)).set (i * 3) (.int .i64 x.shape)).set (i * 3 + 1) (.int .i64 x.many)).set (i * 3 + 2) (.int .i64 x.clear)) = ((xs.set i x).map rowX).flatten.map (Value.int .i64)
  | [], i, x, h => by simp at h
  | y :: ys, 0, x, h => rfl
  | y :: ys, i + 1, x, h => by
    have ih := flat_set (xs := ys) (i := i) (x := x) (by simpa using h)
    have e : ∀ (l : List Value) (j : Nat) (v : Value), (Value.int .i64 y.shape :: .int .i64 y.many :: .int .i64 y.clear :: l).set (j + 3) v = .int .i64 y.shape :: .int .i64 y.many :: .int .i64 y.clear :: l.set j v := fun l j v => rfl
    have e0 : (((y :: ys).map rowX).flatten.map (Value.int .i64)) = .int .i64 y.shape :: .int .i64 y.many :: .int .i64 y.clear :: ((ys.map rowX).flatten.map (Value.int .i64)) := rfl
    rw [e0, show (i + 1) * 3 = i * 3 + 3 by omega, show i * 3 + 3 + 1 = i * 3 + 1 + 3 by omega, show i * 3 + 3 + 2 = i * 3 + 2 + 3 by omega, e, e, e, ih]
    rfl
/-- One item overwritten. -/
theorem MadeAt.over {TS TI B g cap i : Nat} {w W : World} {args : List Value} {c : List Int} {sv : Value} {ss : List (List Int)} {xs : List It} {x : It} (h : MadeAt TS TI B w args c sv (.slice (some ⟨g, 0, none⟩) xs.length cap) ss xs W) (hT : TS ≠ TI) (hi : i < xs.length) :
    MadeAt TS TI B w args c sv (.slice (some ⟨g, 0, none⟩) xs.length cap) ss (xs.set i x) (((W.setCell ⟨g, i * 3, none⟩ (.int .i64 x.shape)).setCell ⟨g, i * 3 + 1, none⟩ (.int .i64 x.many)).setCell ⟨g, i * 3 + 2, none⟩ (.int .i64 x.clear)) := by
  have h0 := h.size
  have hgb := own_ge h.items g rfl
  have n1 : ∀ o u, sv.ownBlock = none ∨ sv.ownBlock ≠ some (⟨g, o, u⟩ : Addr).block := fun o u => apart_types h.shapes h.items hT
  refine ⟨((h.below.setCell (p := ⟨g, i * 3, none⟩) (by show B ≤ g; omega) _).setCell (p := ⟨g, i * 3 + 1, none⟩) (by show B ≤ g; omega) _).setCell (p := ⟨g, i * 3 + 2, none⟩) (by show B ≤ g; omega) _, by simp; omega, ((h.arg.other (by omega) _).other (by omega) _).other (by omega) _, ((h.res.other (by omega) _).other (by omega) _).other (by omega) _, ((h.floor.other (by omega) _).other (by omega) _).other (by omega) _, h.clen, ?_, ?_⟩
  · exact set_own (set_own (set_own h.shapes (n1 0 none)) (n1 0 none)) (n1 0 none)
  · rw [List.length_set, ← flat_set hi]
    exact own_set (own_set (own_set h.items))
/-- Another slice of shapes. -/
theorem MadeAt.wares {TS TI B : Nat} {w W : World} {args : List Value} {c : List Int} {sv sv' iv : Value} {ss ss' : List (List Int)} {xs : List It} (h : MadeAt TS TI B w args c sv iv ss xs W) (ho : W.ownsRow (B + 1 + 1 + 1) TS 11 sv' ss'.length (ss'.flatten.map (Value.int .i64))) :
    MadeAt TS TI B w args c sv' iv ss' xs ((W.setCell ⟨B + 1 + 1, 0, none⟩ sv').setCell ⟨B + 1 + 1, 1, none⟩ (.slice none 0 0)) := by
  have h0 := h.size
  refine ⟨(h.below.setCell (p := ⟨B + 1 + 1, 0, none⟩) (by show B ≤ B + 1 + 1; omega) _).setCell (p := ⟨B + 1 + 1, 1, none⟩) (by show B ≤ B + 1 + 1; omega) _, by simp; omega, (h.arg.other (by omega) _).other (by omega) _, (h.res.other (by omega) _).other (by omega) _, ?_, h.clen, set_own (set_own ho (own_ne' ho (by omega))) (own_ne' ho (by omega)), set_own (set_own h.items (own_ne' h.items (by omega))) (own_ne' h.items (by omega))⟩
  exact cells_store (o := 1) (cells_store (o := 0) h.floor)
/-- Another box. -/
theorem MadeAt.box {TS TI B : Nat} {w W : World} {args : List Value} {c : List Int} {sv iv : Value} {ss : List (List Int)} {xs : List It} {c1 c2 c3 c4 c5 c6 : Int} (h : MadeAt TS TI B w args c sv iv ss xs W) :
    MadeAt TS TI B w args [c1, c2, c3, c4, c5, c6] sv iv ss xs ((((((W.setCell ⟨B + 1 + 1, 2, none⟩ (.int .i64 c1)).setCell ⟨B + 1 + 1, 3, none⟩ (.int .i64 c2)).setCell ⟨B + 1 + 1, 4, none⟩ (.int .i64 c3)).setCell ⟨B + 1 + 1, 5, none⟩ (.int .i64 c4)).setCell ⟨B + 1 + 1, 6, none⟩ (.int .i64 c5)).setCell ⟨B + 1 + 1, 7, none⟩ (.int .i64 c6)) := by
  have h0 := h.size
  have hb : ∀ {V : World} (o : Nat) (u : Value), Below B w V → Below B w (V.setCell ⟨B + 1 + 1, o, none⟩ u) := fun o u h => h.setCell (p := ⟨B + 1 + 1, o, none⟩) (by show B ≤ B + 1 + 1; omega) u
  have hs := own_ne' h.shapes (b := B + 1 + 1) (by omega)
  have hi := own_ne' h.items (b := B + 1 + 1) (by omega)
  refine ⟨hb _ _ (hb _ _ (hb _ _ (hb _ _ (hb _ _ (hb _ _ h.below))))), by simp; omega, (((((h.arg.other (by omega) _).other (by omega) _).other (by omega) _).other (by omega) _).other (by omega) _).other (by omega) _, (((((h.res.other (by omega) _).other (by omega) _).other (by omega) _).other (by omega) _).other (by omega) _).other (by omega) _, ?_, rfl, set_own (set_own (set_own (set_own (set_own (set_own h.shapes hs) hs) hs) hs) hs) hs, set_own (set_own (set_own (set_own (set_own (set_own h.items hi) hi) hi) hi) hi) hi⟩
  have h1 := cells_store (o := 7) (u := .int .i64 c6) (cells_store (o := 6) (u := .int .i64 c5) (cells_store (o := 5) (u := .int .i64 c4) (cells_store (o := 4) (u := .int .i64 c3) (cells_store (o := 3) (u := .int .i64 c2) (cells_store (o := 2) (u := .int .i64 c1) h.floor)))))
  match c, h.clen, h1 with
  | [a1, a2, a3, a4, a5, a6], _, h1 => exact h1
/-- A block of the call's own beside. -/
theorem MadeAt.side {TS TI B b o : Nat} {w W : World} {args : List Value} {c : List Int} {sv iv u : Value} {ss : List (List Int)} {xs : List It} (h : MadeAt TS TI B w args c sv iv ss xs W) (hb : B + 1 + 1 + 1 ≤ b) (hs : ∀ a, sv.ownBlock = some a → a < b) (hi : ∀ a, iv.ownBlock = some a → a < b) :
    MadeAt TS TI B w args c sv iv ss xs (W.setCell ⟨b, o, none⟩ u) := by
  have h0 := h.size
  exact ⟨h.below.setCell (p := ⟨b, o, none⟩) (by show B ≤ b; omega) _, by simp; omega, h.arg.other (by omega) _, h.res.other (by omega) _, h.floor.other (by omega) _, h.clen, set_own h.shapes (.inr fun e => by have := hs b e; omega), set_own h.items (.inr fun e => by have := hi b e; omega)⟩
theorem MadeAt.lt {TS TI B : Nat} {w W : World} {args : List Value} {c : List Int} {sv iv : Value} {ss : List (List Int)} {xs : List It} (h : MadeAt TS TI B w args c sv iv ss xs W) : (∀ a, sv.ownBlock = some a → a < W.heap.size) ∧ ∀ a, iv.ownBlock = some a → a < W.heap.size :=
  ⟨fun a e => (World.ownsRow.lt h.shapes a e).2, fun a e => (World.ownsRow.lt h.items a e).2⟩
theorem goodS_i64 {ss : List (List Int)} (h : GoodS ss) : ∀ r ∈ ss, r.length = 11 ∧ ∀ z ∈ r, I64 z := by
  intro r hr
  obtain ⟨k, hk⟩ := List.getElem?_of_mem hr
  obtain ⟨h1, _, h3⟩ := h.2 k r hk
  refine ⟨h1, ?_⟩
  obtain ⟨a0, a1, a2, a3, a4, a5, a6, a7, a8, a9, a10, rfl⟩ := len11 h1
  have h4 := shOk_iff.1 h3
  simp only [shR, List.getD_cons_zero, List.getD_cons_succ] at h4
  intro z hz
  simp only [List.mem_cons, List.not_mem_nil, or_false] at hz
  rcases hz with rfl | rfl | rfl | rfl | rfl | rfl | rfl | rfl | rfl | rfl | rfl <;> exact I64.mk (by omega) (by omega)
theorem item_i64 {ss : List (List Int)} {x : It} (h : GoodS ss) (hx : itemB ss x = true) : ∀ z ∈ rowX x, I64 z := by
  unfold itemB at hx
  split at hx
  · rename_i r hf
    obtain ⟨hm, hid⟩ := findR_mem hf
    obtain ⟨k, hk⟩ := List.getElem?_of_mem hm
    have h3 := shOk_iff.1 (h.2 k r hk).2.2
    rw [Bool.and_eq_true, btw_iff] at hx
    have hs : ckP (shR r) x.many = 0 := by
      have h4 := hx.1
      unfold Ware.stands at h4
      split at h4
      · assumption
      · cases h4
    have hmn : 1 ≤ x.many ∧ x.many ≤ 40 := by
      unfold ckP at hs
      split at hs
      · split at hs
        · rename_i hb; exact btw_iff.1 hb
        · cases hs
      · cases hs
    have hsh : (shR r).id = x.shape := hid
    intro z hz
    simp only [rowX, List.mem_cons, List.not_mem_nil, or_false] at hz
    rcases hz with rfl | rfl | rfl
    · exact I64.mk (by omega) (by omega)
    · exact I64.mk (by omega) (by omega)
    · exact I64.mk (by omega) (by omega)
  · cases hx
theorem MadeAt.rows {TS TI B : Nat} {w W : World} {args : List Value} {c : List Int} {sv iv : Value} {ss : List (List Int)} {xs : List It} (h : MadeAt TS TI B w args c sv iv ss xs W) (hg : GoodS ss) : RowsAt 11 W sv ss :=
  rowsAt_of_owns (rows := ss) (fun r hr => (goodS_i64 hg r hr).1) h.shapes (fun r hr => (goodS_i64 hg r hr).2)
end Go.Pb.Sag

/- The plain mathematics of true ware: piles in the middle of their cells. -/
namespace Go.Pb.Sag
open Go Go.Pb Go.Pb.Ware Go.RowKit
set_option linter.unusedVariables false
theorem row_bit {y x a : Nat} (h1 : x ≤ a) : ∀ {k : Nat}, a < x + k → (rowM y x k).testBit (y * 6 + a) = true
  | 0, h2 => by omega
  | k + 1, h2 => by
    rw [rowM, Nat.testBit_or]
    rcases Nat.lt_or_ge a (x + k) with h | h
    · rw [row_bit h1 h]; rfl
    · obtain rfl : a = x + k := by omega
      unfold bitAt
      rw [Nat.testBit_two_pow_self, Bool.or_true]
theorem box_bit {y x w b a : Nat} (h1 : x ≤ a) (h2 : a < x + w) (h3 : y ≤ b) : ∀ {k : Nat}, b < y + k → (boxM y x w k).testBit (b * 6 + a) = true
  | 0, h4 => by omega
  | k + 1, h4 => by
    rw [boxM, Nat.testBit_or]
    rcases Nat.lt_or_ge b (y + k) with h | h
    · rw [box_bit h1 h2 h3 h]; rfl
    · obtain rfl : b = y + k := by omega
      rw [row_bit h1 h2, Bool.or_true]
theorem and_bit {a b i : Nat} (h : a &&& b = 0) (h1 : a.testBit i = true) (h2 : b.testBit i = true) : False := by
  have : (a &&& b).testBit i = true := by rw [Nat.testBit_and, h1, h2]; rfl
  rw [h, Nat.zero_testBit] at this
  cases this
theorem or_and_0 {a b c : Nat} (h : (a ||| b) &&& c = 0) : a &&& c = 0 ∧ b &&& c = 0 := by
  constructor
  · apply Nat.eq_of_testBit_eq; intro i
    rw [Nat.testBit_and, Nat.zero_testBit]
    cases ha : a.testBit i with
    | false => rfl
    | true =>
      cases hc : c.testBit i with
      | false => rfl
      | true => exact (and_bit (i := i) h (by rw [Nat.testBit_or, ha]; rfl) hc).elim
  · apply Nat.eq_of_testBit_eq; intro i
    rw [Nat.testBit_and, Nat.zero_testBit]
    cases ha : b.testBit i with
    | false => rfl
    | true =>
      cases hc : c.testBit i with
      | false => rfl
      | true => exact (and_bit (i := i) h (by rw [Nat.testBit_or, ha, Bool.or_true]) hc).elim
/-- Each is a stand, none meets what is taken, and no two meet. -/
theorem place_parts {s : Bx} : ∀ {fs : List Ft} {t : Nat} {qs : List Sq}, placeB s fs qs t = true →
    (∀ (i : Nat) f q, fs[i]? = some f → qs[i]? = some q → anySt q.y q.x q.turned (standsL s f) = true ∧ t &&& maskQ f q = 0) ∧
    ∀ (i j : Nat) f q g r, i < j → fs[i]? = some f → qs[i]? = some q → fs[j]? = some g → qs[j]? = some r → maskQ f q &&& maskQ g r = 0
  | [], t, [], _ => ⟨fun i f q h => by simp at h, fun i j f q g r _ h => by simp at h⟩
  | [], t, _ :: _, h => by cases h
  | _ :: _, t, [], h => by cases h
  | f0 :: fs, t, q0 :: qs, h => by
    rw [placeB, Bool.and_eq_true, Bool.and_eq_true] at h
    obtain ⟨h1, h2, h3⟩ := h
    have h4 : t &&& maskQ f0 q0 = 0 := by simpa using h2
    obtain ⟨k1, k2⟩ := place_parts h3
    constructor
    · intro i f q hf hq
      match i, hf, hq with
      | 0, hf, hq =>
        simp at hf hq; subst hf; subst hq; exact ⟨h1, h4⟩
      | i + 1, hf, hq =>
        have := k1 i f q (by simpa using hf) (by simpa using hq)
        exact ⟨this.1, (or_and_0 this.2).1⟩
    · intro i j f q g r hij hf hq hg hr
      match i, j, hij, hf, hq, hg, hr with
      | 0, j + 1, _, hf, hq, hg, hr =>
        simp at hf hq; subst hf; subst hq
        exact (or_and_0 (k1 j g r (by simpa using hg) (by simpa using hr)).2).2
      | i + 1, j + 1, hij, hf, hq, hg, hr =>
        exact k2 i j f q g r (by omega) (by simpa using hf) (by simpa using hq) (by simpa using hg) (by simpa using hr)
/-- Where a stand of a packing is. -/
def Placed (s : Bx) (f : Ft) (q : Sq) : Prop := (0 ≤ q.x ∧ q.x + (sideV f q.turned).1 ≤ s.wide) ∧ (0 ≤ q.y ∧ q.y + (sideV f q.turned).2 ≤ s.deep) ∧ 1 ≤ (sideV f q.turned).1 ∧ 1 ≤ (sideV f q.turned).2
def Off (f g : Ft) (q r : Sq) : Prop := (q.x + (sideV f q.turned).1 ≤ r.x ∨ r.x + (sideV g r.turned).1 ≤ q.x) ∨ (q.y + (sideV f q.turned).2 ≤ r.y ∨ r.y + (sideV g r.turned).2 ≤ q.y)
theorem any_placed {s : Bx} {f : Ft} {q : Sq} (hF : FtOk f) (h : anySt q.y q.x q.turned (standsL s f) = true) : Placed s f q := by
  obtain ⟨p, hp, h2⟩ := List.any_eq_true.1 h
  unfold sameSt at h2
  rw [Bool.and_eq_true, Bool.and_eq_true, decide_eq_true_eq, decide_eq_true_eq, beq_iff_eq] at h2
  obtain ⟨h3, h4, h5⟩ := h2
  have h6 := standsN_ok hp
  unfold okAt at h6
  rw [Bool.and_eq_true, decide_eq_true_eq, decide_eq_true_eq, ← h5] at h6
  unfold FtOk at hF
  have h7 : (1 ≤ (sideV f q.turned).1) ∧ 1 ≤ (sideV f q.turned).2 := by unfold sideV; split <;> dsimp only <;> omega
  unfold Placed
  omega
theorem mask_off {s : Bx} {f g : Ft} {q r : Sq} (h1 : Placed s f q) (h2 : Placed s g r) (h : maskQ f q &&& maskQ g r = 0) : Off f g q r := by
  unfold Placed at h1 h2
  unfold Off
  rcases Int.lt_or_le r.x (q.x + (sideV f q.turned).1) with c1 | c1
  · rcases Int.lt_or_le q.x (r.x + (sideV g r.turned).1) with c2 | c2
    · rcases Int.lt_or_le r.y (q.y + (sideV f q.turned).2) with c3 | c3
      · rcases Int.lt_or_le q.y (r.y + (sideV g r.turned).2) with c4 | c4
        · exfalso
          unfold maskQ maskOf at h
          refine and_bit (i := (max q.y.toNat r.y.toNat) * 6 + max q.x.toNat r.x.toNat) h (box_bit ?_ ?_ ?_ ?_) (box_bit ?_ ?_ ?_ ?_) <;> dsimp only <;> omega
        · right; right; exact c4
      · right; left; exact c3
    · left; right; exact c2
  · left; left; exact c1
theorem pack_parts {s : Bx} {fs : List Ft} {qs : List Sq} (hF : ∀ f ∈ fs, FtOk f) (h : packB s fs qs = true) :
    (qs.length = fs.length ∧ (∀ f ∈ fs, f.high ≤ s.high) ∧ weightL fs ≤ s.bears) ∧ (∀ (i : Nat) f q, fs[i]? = some f → qs[i]? = some q → Placed s f q) ∧
    ∀ (i j : Nat) f q g r, i < j → fs[i]? = some f → qs[i]? = some q → fs[j]? = some g → qs[j]? = some r → Off f g q r := by
  unfold packB at h
  rw [Bool.and_eq_true, Bool.and_eq_true, Bool.and_eq_true, decide_eq_true_eq] at h
  obtain ⟨h1, h2, h3, h4⟩ := h
  obtain ⟨k1, k2⟩ := place_parts h4
  have k3 : ∀ (i : Nat) f q, fs[i]? = some f → qs[i]? = some q → Placed s f q := fun i f q hf hq => any_placed (hF f (List.mem_of_getElem? hf)) (k1 i f q hf hq).1
  refine ⟨⟨h1, ?_, ?_⟩, k3, fun i j f q g r hij hf hq hg hr => mask_off (k3 i f q hf hq) (k3 j g r hg hr) (k2 i j f q g r hij hf hq hg hr)⟩
  · intro f hf
    unfold troubleB at h2
    rw [if_pos rfl, Bool.not_eq_true'] at h2
    have := List.any_eq_false.1 h2 f hf
    unfold highB at this
    rw [decide_eq_true_eq] at this
    omega
  · unfold troubleB at h3
    rw [if_neg (by decide), if_neg (by decide), if_pos rfl, Bool.not_eq_true', decide_eq_false_iff_not] at h3
    omega
theorem up_cell (n d : Int) (hd : 0 < d) : n ≤ max 1 (up n d) * d := by
  have h1 : n ≤ up n d * d := by
    unfold up
    have h3 := Int.mul_ediv_add_emod (-n) d
    have h5 := Int.emod_nonneg (-n) (show d ≠ 0 by omega)
    rw [Int.neg_mul, Int.mul_comm]
    omega
  have h2 : up n d * d ≤ max 1 (up n d) * d := Int.mul_le_mul_of_nonneg_right (by omega) (by omega)
  omega
/-- A pile in the middle of its cells: twice its middle, and how long it is. -/
structure PileAt (s : Bx) (cl : Int) (f : Ft) (q : Sq) (m h : Int × Int) : Prop where
  m1 : m.1 = (2 * q.x + (sideV f q.turned).1) * s.cell
  m2 : m.2 = (2 * q.y + (sideV f q.turned).2) * s.cell
  h1 : 0 ≤ h.1 ∧ h.1 + 2 * cl ≤ (sideV f q.turned).1 * s.cell
  h2 : 0 ≤ h.2 ∧ h.2 + 2 * cl ≤ (sideV f q.turned).2 * s.cell
theorem cell_line {c x w W : Int} (hc : 1 ≤ c ∧ c ≤ 500) (hx : 0 ≤ x ∧ x + w ≤ W) (hw : 1 ≤ w) (hW : W ≤ 6) :
    (2 * x + w) * c = 2 * (x * c) + w * c ∧ 0 ≤ x * c ∧ 0 ≤ w * c ∧ x * c + w * c ≤ W * c ∧ W * c ≤ 3000 := by
  refine ⟨by rw [Int.add_mul, Int.mul_assoc], Int.mul_nonneg hx.1 (by omega), Int.mul_nonneg (by omega) (by omega), ?_, ?_⟩
  · rw [← Int.add_mul]; exact Int.mul_le_mul_of_nonneg_right hx.2 (by omega)
  · have := (mul_bd W c 6 500 (by omega) hW (by omega) hc.2).2; omega
/-- Walls are kept off. -/
theorem PileAt.walls {s : Bx} {cl : Int} {f : Ft} {q : Sq} {m h : Int × Int} (hX : boxOk s = true) (hP : Placed s f q) (p : PileAt s cl f q m h) :
    (2 * cl ≤ m.1 - h.1 ∧ 2 * cl ≤ m.2 - h.2) ∧ (2 * cl ≤ 2 * s.wide * s.cell - m.1 - h.1 ∧ 2 * cl ≤ 2 * s.deep * s.cell - m.2 - h.2) := by
  obtain ⟨m1, m2, h1, h2⟩ := p
  have hb := boxOk_iff.1 hX
  unfold Placed at hP
  have e1 := cell_line (c := s.cell) (by omega) hP.1 hP.2.2.1 (by omega)
  have e2 := cell_line (c := s.cell) (by omega) hP.2.1 hP.2.2.2 (by omega)
  rw [e1.1] at m1
  rw [e2.1] at m2
  rw [Int.mul_assoc, Int.mul_assoc]
  omega
/-- Piles that are off each other keep both their rooms. -/
theorem PileAt.apart {s : Bx} {cl dl : Int} {f g : Ft} {q r : Sq} {m h n k : Int × Int} (hX : boxOk s = true) (hq : Placed s f q) (hr : Placed s g r) (p : PileAt s cl f q m h) (u : PileAt s dl g r n k) (ho : Off f g q r) :
    ((m.1 + h.1 + 2 * (cl + dl) ≤ n.1 - k.1) ∨ (n.1 + k.1 + 2 * (cl + dl) ≤ m.1 - h.1)) ∨ ((m.2 + h.2 + 2 * (cl + dl) ≤ n.2 - k.2) ∨ (n.2 + k.2 + 2 * (cl + dl) ≤ m.2 - h.2)) := by
  obtain ⟨m1, m2, h1, h2⟩ := p
  obtain ⟨n1, n2, k1, k2⟩ := u
  have hb := boxOk_iff.1 hX
  unfold Placed at hq hr
  unfold Off at ho
  have e1 := cell_line (c := s.cell) (by omega) hq.1 hq.2.2.1 (by omega)
  have e2 := cell_line (c := s.cell) (by omega) hq.2.1 hq.2.2.2 (by omega)
  have e3 := cell_line (c := s.cell) (by omega) hr.1 hr.2.2.1 (by omega)
  have e4 := cell_line (c := s.cell) (by omega) hr.2.1 hr.2.2.2 (by omega)
  rw [e1.1] at m1
  rw [e2.1] at m2
  rw [e3.1] at n1
  rw [e4.1] at n2
  have mono : ∀ {a b : Int}, a ≤ b → a * s.cell ≤ b * s.cell := fun h => Int.mul_le_mul_of_nonneg_right h (by omega)
  rcases ho with (h0 | h0) | (h0 | h0)
  · have := mono h0; rw [Int.add_mul] at this; left; left; omega
  · have := mono h0; rw [Int.add_mul] at this; left; right; omega
  · have := mono h0; rw [Int.add_mul] at this; right; left; omega
  · have := mono h0; rw [Int.add_mul] at this; right; right; omega
/-- How great such numbers are. -/
theorem PileAt.bound {s : Bx} {cl : Int} {f : Ft} {q : Sq} {m h : Int × Int} (hX : boxOk s = true) (hc : 0 ≤ cl) (hP : Placed s f q) (p : PileAt s cl f q m h) : (0 ≤ m.1 ∧ m.1 ≤ 6000) ∧ (0 ≤ m.2 ∧ m.2 ≤ 6000) ∧ (0 ≤ h.1 ∧ h.1 ≤ 3000) ∧ (0 ≤ h.2 ∧ h.2 ≤ 3000) := by
  obtain ⟨m1, m2, h1, h2⟩ := p
  have hb := boxOk_iff.1 hX
  unfold Placed at hP
  have e1 := cell_line (c := s.cell) (by omega) hP.1 hP.2.2.1 (by omega)
  have e2 := cell_line (c := s.cell) (by omega) hP.2.1 hP.2.2.2 (by omega)
  rw [e1.1] at m1
  rw [e2.1] at m2
  omega
/-- Which shape an item is of. -/
theorem good_item {ss : List (List Int)} {s : Bx} {x : It} (hg : GoodS ss) (hX : boxOk s = true) (h : itemB ss x = true) : ∃ (k : Nat) (hk : k < ss.length), x.shape = (k : Int) + 1 ∧ footR ss s.cell x = footOf (shR ss[k]) s.cell x.many x.clear ∧ shOk (shR ss[k]) = true ∧ (1 ≤ x.many ∧ x.many ≤ 40) ∧ (0 ≤ x.clear ∧ x.clear ≤ 50) := by
  obtain ⟨r, h1, h2, h3, h4, _, h6⟩ := item_open (goodS_ck hg) h
  obtain ⟨k, hk⟩ := List.getElem?_of_mem h2
  have hl := (List.getElem?_eq_some_iff.1 hk).1
  have he := (List.getElem?_eq_some_iff.1 hk).2
  have h7 := (findR_mem h1).2
  have h8 := (hg.2 k r hk).2.1
  refine ⟨k, hl, by rw [← h7, h8], ?_, by rw [he]; exact h3, h4, h6⟩
  unfold footR
  rw [h1, he]
/-- True sizes make a pile in the middle of its cells. -/
theorem pile_at {s : Bx} {sh : Sh} {mn cl a b : Int} {q : Sq} (hX : boxOk s = true) (ha : 0 ≤ a ∧ a ≤ sh.wide.hi) (hb : 0 ≤ b ∧ b ≤ sh.deep.hi) :
    PileAt s cl (footOf sh s.cell mn cl) q ((2 * q.x + (sideV (footOf sh s.cell mn cl) q.turned).1) * s.cell, (2 * q.y + (sideV (footOf sh s.cell mn cl) q.turned).2) * s.cell) (if q.turned = true then (b, a) else (a, b)) := by
  have hc := boxOk_iff.1 hX
  have u1 := up_cell (sh.wide.hi + 2 * cl) s.cell (by omega)
  have u2 := up_cell (sh.deep.hi + 2 * cl) s.cell (by omega)
  refine ⟨rfl, rfl, ?_, ?_⟩
  · unfold sideV footOf
    cases q.turned <;> simp <;> omega
  · unfold sideV footOf
    cases q.turned <;> simp <;> omega
end Go.Pb.Sag

/- Regions of a law whose orders are checked apart from its walk. -/
namespace Go.Pb
open Go
/-- The operations of a region of a function, by its number. -/
def opsOf (n : Nat) : Code → Option (List Oper)
  | .region i ops _ => if i == n then some ops.toList else none
  | .seq a b => match opsOf n a with
    | some l => some l
    | none => opsOf n b
  | .cond _ a b => match opsOf n a with
    | some l => some l
    | none => opsOf n b
  | .block _ b => opsOf n b
  | .loop b => opsOf n b
  | .rangeFunc _ _ a b => match opsOf n a with
    | some l => some l
    | none => opsOf n b
  | .scope b => opsOf n b
  | _ => none
def regionOf (f : Func) (n : Nat) : List Oper := match f.body with
  | some c => (opsOf n c).getD []
  | none => []
theorem lexAs {l l' : List Oper} (h : l = l') (h2 : Region.lexB .any l'.toArray = true) : Region.lexB .any l.toArray = true := h ▸ h2
/-- What is asked of a group of operations, some of which make memory. -/
def grpB (l : List Oper) (fr hs : List Nat) : Bool := groupB .any l.toArray (Array.replicate l.length false) hs && pairsB .any l.toArray (fr.contains ·) hs && plainsB l.toArray (fr.contains ·) hs
theorem grpAs {l l' : List Oper} {fr hs : List Nat} (h : l = l') (h2 : grpB l' fr hs = true) : grpB l fr hs = true := h ▸ h2
theorem wp_region_Rc {P : Program} {id : Nat} {Q : Exit → Act → World → Prop} {a : Act} {w : World} {l : List Oper} (ps : List (Nat × (Value → World → Prop))) (fr hs : List Nat) (g : Nat) (hm : P.follows .mixedOrders = true)
    (hn : hs.length + g = l.length) (hkeep : ∀ x ∈ ps, Keeps x.2) (hfr : ps.map (·.1) = fr) (hB : grpB l fr hs = true)
    (h : wpS P .any l.toArray w ((ps.map (·.1)).contains ·) (pOf ps) (fun Γ' a' => ∀ w', All w (pOf ps) Γ' w' → wpAny P .any l.toArray Q g (mark hs (Array.replicate l.length false)) a' w') (numbered l.toArray hs) (fun _ => none) a) :
    (Code.region id l.toArray true).wp P Q a w := wp_region_Rs ps hs g hm hn hkeep (by rw [hfr]; exact hB) h
end Go.Pb
namespace Go.Proofs.Ytodmidchpbcnpaa
open Go Go.Pb
set_option maxRecDepth 100000
theorem lex39 : Region.lexB .any (regionOf Try.f3 39).toArray = true := by kernel_rfl
theorem grp7 : grpB (regionOf Try.f3 7) [8, 9] [0, 1, 2, 3, 4, 5, 6, 7, 8, 9, 10, 11, 12, 13, 14] = true := by kernel_rfl
theorem grp37 : grpB (regionOf Try.f3 37) [26] [0, 1, 2, 3, 4, 5, 6, 7, 8, 9, 10, 11, 12, 13, 14, 15, 16, 17, 18, 19, 20, 21, 22, 23, 24, 25, 26] = true := by kernel_rfl
theorem lex48 : Region.lexB .any (regionOf Try.f3 48).toArray = true := by kernel_rfl
theorem lex49 : Region.lexB .any (regionOf Try.f3 49).toArray = true := by kernel_rfl
end Go.Proofs.Ytodmidchpbcnpaa

/- Two own slices of pairs beside each other. -/
namespace Go.Pb.Sag
open Go Go.Pb Go.Pb.Ware Go.RowKit
set_option linter.unusedVariables false
def pairM (m : Int × Int) : List Int := [m.1, m.2]
def cellsM (m : Int × Int) : List Value := [.int .i64 m.1, .int .i64 m.2]
theorem flat_M (l : List (Int × Int)) : (l.map pairM).flatten.map (Value.int .i64) = l.flatMap cellsM := by
  induction l with
  | nil => rfl
  | cons x xs ih => rw [List.map_cons, List.flatten_cons, List.map_append, ih, List.flatMap_cons]; rfl
theorem one_cellsM {m : Int × Int} : ∀ u ∈ cellsM m, u.oneCell' = true := by
  intro u hu
  simp only [cellsM, List.mem_cons, List.not_mem_nil, or_false] at hu
  rcases hu with rfl | rfl <;> rfl
theorem new_cellsM (w : World) (m : Int × Int) (ty : TypeId) : ∀ j u, (cellsM m)[j]? = some u → (w.alloc (.cells (cellsM m).toArray ty)).cell? ((⟨w.heap.size, 0, none⟩ : Addr).add j) = some u := by
  intro j u h
  match j, h with
  | 0, h => simp [cellsM] at h; subst h; simp [Addr.add, cellsM, go_sem]
  | 1, h => simp [cellsM] at h; subst h; simp [Addr.add, cellsM, go_sem]
theorem snocM (l : List (Int × Int)) (m : Int × Int) : l.flatMap cellsM ++ cellsM m = (l ++ [m]).flatMap cellsM := by simp
/-- Two own slices in different blocks. -/
structure TwoAt (T lo : Nat) (W : World) (mv hv : Value) (ms hs : List (Int × Int)) : Prop where
  own1 : W.ownsRow lo T 2 mv ms.length (ms.flatMap cellsM)
  own2 : W.ownsRow lo T 2 hv hs.length (hs.flatMap cellsM)
  apart : ∀ b, mv.ownBlock = some b → hv.ownBlock ≠ some b
theorem TwoAt.nil (T lo : Nat) (W : World) : TwoAt T lo W (.slice none 0 0) (.slice none 0 0) [] [] := ⟨World.ownsRow_nil _ _ _ _, World.ownsRow_nil _ _ _ _, fun b h => by cases h⟩
theorem TwoAt.next {T lo : Nat} {W W' : World} {mv hv : Value} {ms hs : List (Int × Int)} (h : TwoAt T lo W mv hv ms hs) (hb : Below W.heap.size W W') : TwoAt T lo W' mv hv ms hs := ⟨owns_below h.own1 hb, owns_below h.own2 hb, h.apart⟩
theorem TwoAt.push1 {T lo : Nat} {W W' : World} {mv mv' hv : Value} {ms hs : List (Int × Int)} {m : Int × Int} (h : TwoAt T lo W mv hv ms hs) (hg : W.grownBy W' mv.ownBlock) (ho : W'.ownsRow lo T 2 mv' (ms.length + 1) (ms.flatMap cellsM ++ cellsM m)) (hv' : mv'.ownBlock = mv.ownBlock ∨ mv'.ownBlock = some W.heap.size) : TwoAt T lo W' mv' hv (ms ++ [m]) hs := by
  refine ⟨by rw [List.length_append, ← snocM]; exact ho, h.own2.kept hg ?_, ?_⟩
  · cases hm : hv.ownBlock with
    | none => exact .inl rfl
    | some b => refine .inr fun e => h.apart b ?_ hm; rw [← e]
  · intro b hb hh
    rcases hv' with e | e
    · exact h.apart b (by rw [← e]; exact hb) hh
    · rw [e] at hb
      have h1 := (World.ownsRow.lt h.own2 b hh).2
      injection hb with hb
      omega
theorem TwoAt.push2 {T lo : Nat} {W W' : World} {mv hv hv' : Value} {ms hs : List (Int × Int)} {m : Int × Int} (h : TwoAt T lo W mv hv ms hs) (hg : W.grownBy W' hv.ownBlock) (ho : W'.ownsRow lo T 2 hv' (hs.length + 1) (hs.flatMap cellsM ++ cellsM m)) (hv2 : hv'.ownBlock = hv.ownBlock ∨ hv'.ownBlock = some W.heap.size) : TwoAt T lo W' mv hv' ms (hs ++ [m]) := by
  refine ⟨h.own1.kept hg ?_, by rw [List.length_append, ← snocM]; exact ho, ?_⟩
  · cases hm : mv.ownBlock with
    | none => exact .inl rfl
    | some b => refine .inr fun e => h.apart b hm ?_; rw [← e]
  · intro b hb hh
    rcases hv2 with e | e
    · exact h.apart b hb (by rw [← e]; exact hh)
    · rw [e] at hh
      have h1 := (World.ownsRow.lt h.own1 b hb).2
      injection hh with hh
      omega
theorem TwoAt.rows1 {T lo : Nat} {W : World} {mv hv : Value} {ms hs : List (Int × Int)} (h : TwoAt T lo W mv hv ms hs) (hi : ∀ m ∈ ms, I64 m.1 ∧ I64 m.2) : RowsAt 2 W mv (ms.map pairM) := by
  refine rowsAt_of_owns (rows := ms.map pairM) (e := T) (base := lo) (fun r hr => ?_) (by rw [List.length_map, flat_M]; exact h.own1) (fun r hr => ?_)
  · obtain ⟨m, _, rfl⟩ := List.mem_map.1 hr; rfl
  · obtain ⟨m, hm, rfl⟩ := List.mem_map.1 hr
    intro z hz
    simp only [pairM, List.mem_cons, List.not_mem_nil, or_false] at hz
    rcases hz with rfl | rfl
    · exact (hi m hm).1
    · exact (hi m hm).2
theorem TwoAt.rows2 {T lo : Nat} {W : World} {mv hv : Value} {ms hs : List (Int × Int)} (h : TwoAt T lo W mv hv ms hs) (hi : ∀ m ∈ hs, I64 m.1 ∧ I64 m.2) : RowsAt 2 W hv (hs.map pairM) := by
  refine rowsAt_of_owns (rows := hs.map pairM) (e := T) (base := lo) (fun r hr => ?_) (by rw [List.length_map, flat_M]; exact h.own2) (fun r hr => ?_)
  · obtain ⟨m, _, rfl⟩ := List.mem_map.1 hr; rfl
  · obtain ⟨m, hm, rfl⟩ := List.mem_map.1 hr
    intro z hz
    simp only [pairM, List.mem_cons, List.not_mem_nil, or_false] at hz
    rcases hz with rfl | rfl
    · exact (hi m hm).1
    · exact (hi m hm).2
/-- An append to an own slice: where the new one lies. -/
theorem wp_append_at {P : Program} {w : World} {o : Oper} {a : Act} {K : Act → World → Prop} {Q : Exit → Act → World → Prop} (s x : Operand) (t : TypeId) (ho : o.op = .call { callee := .builtin .append, args := #[s, x], argTypes := #[t, t] })
    (base : Nat) (e : TypeId) (i : TypeInfo) (z : Value) (size bytes : Nat) (ht : P.underlying t = some (.slice e)) (hi : P.info? e = some i) (hz : i.zero = some z) (hsize : i.size = size) (hby : i.bytes = bytes) (hzs : z.cells.size = size) (hsz : 0 < size)
    (v : Value) (n : Nat) (xs : List Value) (hs : a.eval s = v) (hown : w.ownsRow base e size v n xs) (ad : Addr) (m c : Nat) (news : List Value) (hx : a.eval x = .slice (some ad) m c) (hl : news.length = m * size) (hnews : ∀ j u, news[j]? = some u → w.cell? (ad.add j) = some u) (h1 : ∀ u ∈ news, u.oneCell' = true)
    (h63 : n + m ≤ maxLen) (hbytes : (n + m) * bytes ≤ 140737488355328) (hbase : base ≤ w.heap.size)
    (h : ∀ v' w', w'.ownsRow base e size v' (n + m) (xs ++ news) → w.grownBy w' v.ownBlock → (v'.ownBlock = v.ownBlock ∨ v'.ownBlock = some w.heap.size) → K (a.put o.dst v') w') : o.wp P a w K Q := by
  obtain ⟨v', w', hr, h2, h3, _, h5⟩ := run_append_own_at (P := P) w base t o.type e i z size bytes ht hi hz hsize hby hzs hsz v n xs hown ad m c news hl hnews h1 h63 hbytes hbase
  unfold Oper.wp execOp
  simp only [ho, resolve, invoke, builtin, Sem.run_bind, Sem.run_pure, Result.andThen_ok, List.map_toArray, List.map_cons, List.map_nil, hs, hx, hr]
  exact h v' w' h2 h3 h5
/-- The piles that stand, one behind the other, in the middle of their cells. -/
def PilesAt (s : Bx) (fs : List Ft) (qs : List Sq) (xs : List It) (k : Nat) (ms hs : List (Int × Int)) : Prop :=
  (ms.length = k ∧ hs.length = k) ∧ ∀ (j : Nat) m h f q x, ms[j]? = some m → hs[j]? = some h → fs[j]? = some f → qs[j]? = some q → xs[j]? = some x → PileAt s x.clear f q m h
theorem piles_nil {s : Bx} {fs : List Ft} {qs : List Sq} {xs : List It} : PilesAt s fs qs xs 0 [] [] := ⟨⟨rfl, rfl⟩, fun j m h f q x hm => by simp at hm⟩
theorem piles_snoc {s : Bx} {fs : List Ft} {qs : List Sq} {xs : List It} {k : Nat} {ms hs : List (Int × Int)} {m h : Int × Int} {f : Ft} {q : Sq} {x : It} (hp : PilesAt s fs qs xs k ms hs) (hf : fs[k]? = some f) (hq : qs[k]? = some q) (hx : xs[k]? = some x) (p : PileAt s x.clear f q m h) : PilesAt s fs qs xs (k + 1) (ms ++ [m]) (hs ++ [h]) := by
  obtain ⟨⟨h1, h2⟩, h3⟩ := hp
  refine ⟨⟨by simp [h1], by simp [h2]⟩, ?_⟩
  intro j m' h' f' q' x' hm hh hf' hq' hx'
  rcases Nat.lt_trichotomy j k with hj | hj | hj
  · rw [List.getElem?_append_left (by omega)] at hm hh
    exact h3 j m' h' f' q' x' hm hh hf' hq' hx'
  · subst hj
    rw [List.getElem?_append_right (by omega)] at hm hh
    rw [h1] at hm
    rw [h2] at hh
    simp at hm hh
    subst hm; subst hh
    rw [hf] at hf'; injection hf' with hf'; subst hf'
    rw [hq] at hq'; injection hq' with hq'; subst hq'
    rw [hx] at hx'; injection hx' with hx'; subst hx'
    exact p
  · have := (List.getElem?_eq_some_iff.1 hm).1
    simp at this
    omega
/-- All numbers of piles are small. -/
theorem piles_small {s : Bx} {fs : List Ft} {qs : List Sq} {xs : List It} {k : Nat} {ms hs : List (Int × Int)} (hX : boxOk s = true) (hl1 : fs.length = xs.length) (hl2 : qs.length = xs.length) (hk : k ≤ xs.length) (hc : ∀ x ∈ xs, 0 ≤ x.clear) (hP : ∀ (i : Nat) f q, fs[i]? = some f → qs[i]? = some q → Placed s f q) (hp : PilesAt s fs qs xs k ms hs) :
    (∀ m ∈ ms, (0 ≤ m.1 ∧ m.1 ≤ 6000) ∧ 0 ≤ m.2 ∧ m.2 ≤ 6000) ∧ ∀ m ∈ hs, (0 ≤ m.1 ∧ m.1 ≤ 3000) ∧ 0 ≤ m.2 ∧ m.2 ≤ 3000 := by
  obtain ⟨⟨h1, h2⟩, h3⟩ := hp
  have key : ∀ (j : Nat) m h, ms[j]? = some m → hs[j]? = some h → ((0 ≤ m.1 ∧ m.1 ≤ 6000) ∧ 0 ≤ m.2 ∧ m.2 ≤ 6000) ∧ (0 ≤ h.1 ∧ h.1 ≤ 3000) ∧ 0 ≤ h.2 ∧ h.2 ≤ 3000 := by
    intro j m h hm hh
    have hj := (List.getElem?_eq_some_iff.1 hm).1
    have e1 : fs[j]? = some (fs[j]'(by omega)) := List.getElem?_eq_getElem _
    have e2 : qs[j]? = some (qs[j]'(by omega)) := List.getElem?_eq_getElem _
    have e3 : xs[j]? = some (xs[j]'(by omega)) := List.getElem?_eq_getElem _
    have := (h3 j m h _ _ _ hm hh e1 e2 e3).bound hX (hc _ (List.getElem_mem _)) (hP j _ _ e1 e2)
    omega
  constructor
  · intro m hm
    obtain ⟨j, hj⟩ := List.getElem?_of_mem hm
    have hl := (List.getElem?_eq_some_iff.1 hj).1
    exact (key j m _ hj (List.getElem?_eq_getElem (by omega))).1
  · intro m hm
    obtain ⟨j, hj⟩ := List.getElem?_of_mem hm
    have hl := (List.getElem?_eq_some_iff.1 hj).1
    exact (key j _ m (List.getElem?_eq_getElem (by omega)) hj).2
end Go.Pb.Sag

/- Arguments opened: numbers that make a floor (two slices of rows, and an array between them); a slice of stands; a reason. -/
namespace Go.Pb
open Go.RowKit Go.ChangeShapes Go.WideShapes Go.ChangeAt Go.Deep
section
variable {H : Type} {enc : TypeId × Value → H} {P : Program} {w : World} {base : Nat} {spare : Nat → Bool} {held : Bool}
/-- A struct of a slice of rows, an array of four int64s, and a slice of rows. -/
theorem open_raw {r : Reach} {b0 m n1 n3 : Nat} {t t1 t2 t3 e1 e3 : TypeId} {f1 f2 f3 : Field} {v : Value} {d : DataW H} {p : List MemPlace} (hu : P.underlying t = some (.struct #[f1, f2, f3])) (hC : P.cellsOf t = 6)
    (ho1 : f1.offset = 0) (ho2 : f2.offset = 1) (ho3 : f3.offset = 5) (ht1 : f1.type = t1) (ht2 : f2.type = t2) (ht3 : f3.type = t3) (c1 : P.cellsOf t1 = 1) (c2 : P.cellsOf t2 = 4) (c3 : P.cellsOf t3 = 1)
    (u1 : P.underlying t1 = some (.slice e1)) (u3 : P.underlying t3 = some (.slice e3)) (hf1 : flatI P m e1 = true) (hf2 : flatI P m t2 = true) (hf3 : flatI P m e3 = true) (hn1 : P.cellsOf e1 = n1) (hn3 : P.cellsOf e3 = n3)
    (hv : Value.okWide P w r b0 t v) (h : DataW.Trod enc P w base spare held t v d p) :
    ∃ v1 v3 rows1 rows3 b0 b1 b2 b3, v = .agg #[v1, .int .i64 b0, .int .i64 b1, .int .i64 b2, .int .i64 b3, v3] ∧ RowsAt n1 w v1 rows1 ∧ RowsAt n3 w v3 rows3 ∧ (I64 b0 ∧ I64 b1) ∧ I64 b2 ∧ I64 b3 := by
  obtain ⟨cs, rfl, hsz⟩ := okWide_struct hu hv
  obtain ⟨fuel, hf⟩ := h
  obtain ⟨xs, k, _, _, hlen, hxl, hg⟩ := DataW.trod_struct hu hf
  obtain ⟨l⟩ := cs
  match l, hsz.trans hC with
  | [a1, a2, a3, a4, a5, a6], _ =>
    have g1 := hg 0 f1 rfl
    have g2 := hg 1 f2 rfl
    have g3 := hg 2 f3 rfl
    rw [ho1, ht1, c1] at g1
    rw [ho2, ht2, c2] at g2
    rw [ho3, ht3, c3] at g3
    have x1 : xs[0]? = some (xs[0]'(by simp at hxl; omega)) := List.getElem?_eq_getElem _
    have x2 : xs[1]? = some (xs[1]'(by simp at hxl; omega)) := List.getElem?_eq_getElem _
    have x3 : xs[2]? = some (xs[2]'(by simp at hxl; omega)) := List.getElem?_eq_getElem _
    rw [x1] at g1
    rw [x2] at g2
    rw [x3] at g3
    obtain ⟨v1, r1, e1', h1⟩ := open_rows u1 hf1 hn1 g1
    obtain ⟨v3, r3, e3', h3⟩ := open_rows u3 hf3 hn3 g3
    obtain ⟨_, hi⟩ := flat_cells m hf2 g2
    obtain ⟨y0, hy0, hw0⟩ := hi 0 a2 rfl
    obtain ⟨y1, hy1, hw1⟩ := hi 1 a3 rfl
    obtain ⟨y2, hy2, hw2⟩ := hi 2 a4 rfl
    obtain ⟨y3, hy3, hw3⟩ := hi 3 a5 rfl
    simp [Value.cells] at e1' e3'
    subst e1'; subst e3'; subst hy0; subst hy1; subst hy2; subst hy3
    exact ⟨_, _, r1, r3, y0, y1, y2, y3, rfl, h1, h3, ⟨hw0, hw1⟩, hw2, hw3⟩
end
end Go.Pb
