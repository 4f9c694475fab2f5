/- Part of a claim. -/
import Derived.Test.YtodmidchpbcnpaaGreatKSkY
import Derived.Laws.CopyOwn
import Derived.Laws.OwnMore
import Derived.Test.YtodmidchpbcnpaaGreatKScY
import Derived.Shelf.Small.Bits
import Derived.Shelf.SlSortCmp.SmallK
import Derived.Ground.SlsfProg
import Derived.Test.YtodmidchpbcnpaaGreatProg
set_option linter.unusedVariables false
set_option linter.unusedSimpArgs false
namespace Go.Pb.Sag
open Go Go.Pb Go.Pb.Ware Go.RowKit

theorem copy_owns {w : World} {lo T B m : Nat} {cur : Array Value} {cs : List Value} (hg : w.heap[B]? = some (.cells cur T (0,0))) (hlo : lo ≤ B) (hs : cur.size = m) (hm : m ≤ maxLen) (hc : cs.length = m) :
  (w.setRow B (cur.toList.take 0 ++ (cs ++ cur.toList.drop (0 + cs.length))).toArray).ownsRow lo T 1 (.slice (some ⟨B,0,none⟩) m m) m cs := by
 have e : cur.toList.take 0 ++ (cs ++ cur.toList.drop (0 + cs.length)) = cs := by
  rw [List.take_zero,List.nil_append,Nat.zero_add,List.drop_of_length_le (by rw [Array.length_toList];omega),List.append_nil]
 rw [e]
 refine ⟨by omega, .inr ⟨B,m,cs.toArray,rfl,hlo,setRow_heap w B cur _ T (0,0) hg,Nat.le_refl _,hm,by simp;omega, ?_⟩⟩
 rw [Nat.mul_one,List.take_of_length_le (by simp;omega)]
def groupsF (s : Bx) (fs : List Ft) : Option (List (List Int)) := (List.range (fs.length + 1)).findSome? fun m => putF s fs m fs.length 0 []
def groupsA (ss bs : List (List Int)) (s : Bx) (xs : List It) : List (List Int) × Int :=
 if ckL ss bs s xs = 0 then (if (feetV ss bs s xs).all (fun f => fitsB s [f]) = true then ((groupsF s (feetV ss bs s xs)).getD [],0) else ([],24)) else ([],ckL ss bs s xs)
theorem find_some {α : Type} {f : Nat → Option α} {n : Nat} {r : α} (h : (List.range n).findSome? f = some r) : ∃ k,k < n ∧ f k = some r := by
 obtain ⟨k,hk,h2⟩ := List.exists_of_findSome?_eq_some h
 exact ⟨k,List.mem_range.1 hk,h2⟩
end Go.Pb.Sag
namespace Go.Pb.Sag
open Go Go.Pb Go.Pb.Ware Go.RowKit

def below (i : Nat) (g : List Int) : List Int := g.filter fun z => decide (z < (i : Int))
end Go.Pb.Sag
namespace Go.Pb.Sag
open Go Go.Pb Go.Pb.Ware Go.RowKit

def whereL (g : Nat) : Nat → List Nat → List Int
 | _, [] => []
 | i,a :: l => if a = g then (i : Int) :: whereL g (i + 1) l else whereL g (i + 1) l
def groupedL (of : List Nat) (many : Nat) : List (List Int) := (List.range many).map fun g => whereL g 0 of
theorem grouped_len {of : List Nat} {many : Nat} : (groupedL of many).length = many := by unfold groupedL;simp
theorem grouped_at {of : List Nat} {many k : Nat} (h : k < many) : (groupedL of many)[k]? = some (whereL k 0 of) := by unfold groupedL;simp [h]
end Go.Pb.Sag
namespace Go.Pb.Sag
open Go Go.Pb Go.Pb.Ware Go.RowKit

def putG (does : List Int → Bool) (most : Nat) : Nat → Nat → List (List Int) → Option (List (List Int))
 | 0,_,gs => some gs
 | d + 1,i,gs =>
  match (List.range gs.length).findSome? (fun k => if does (gs.getD k [] ++ [(i : Int)]) = true then putG does most d (i + 1) (gs.set k (gs.getD k [] ++ [(i : Int)])) else none) with
  | some r => some r
  | none => if gs.length = most then none else (if does [(i : Int)] = true then putG does most d (i + 1) (gs ++ [[(i : Int)]]) else none)
def tryG (does : List Int → Bool) (most d i : Nat) (gs : List (List Int)) (k : Nat) : Option (List (List Int)) := if does (gs.getD k [] ++ [(i : Int)]) = true then putG does most d (i + 1) (gs.set k (gs.getD k [] ++ [(i : Int)])) else none
theorem tryG_last (does : List Int → Bool) (most d i : Nat) (gs : List (List Int)) : tryG does most d i (gs ++ [[]]) gs.length = if does [(i : Int)] = true then putG does most d (i + 1) (gs ++ [[(i : Int)]]) else none := by
 unfold tryG
 rw [List.getD_eq_getElem?_getD,List.getElem?_append_right (Nat.le_refl _),Nat.sub_self,List.set_append_right _ _ (Nat.le_refl _),Nat.sub_self]
 rfl
theorem putG_succ (does : List Int → Bool) (most d i : Nat) (gs : List (List Int)) : putG does most (d + 1) i gs = match (List.range gs.length).findSome? (tryG does most d i gs) with
  | some r => some r
  | none => if gs.length = most then none else tryG does most d i (gs ++ [[]]) gs.length := by rw [tryG_last,putG];rfl
theorem putG_F {s : Bx} {fs : List Ft} {most : Nat} : ∀ (d i : Nat) (gs : List (List Int)),(∀ j,i ≤ j → j < i + d → fitsB s (chosenL fs [(j : Int)]) = true) → putG (fun g => fitsB s (chosenL fs g)) most d i gs = putF s fs most d i gs
 | 0,i,gs,_ => by rw [putG,putF]
 | d + 1,i,gs,h => by
  have ih : ∀ gs,putG (fun g => fitsB s (chosenL fs g)) most d (i + 1) gs = putF s fs most d (i + 1) gs := fun gs => putG_F d (i + 1) gs fun j h1 h2 => h j (by omega) (by omega)
  rw [putG,putF]
  simp only [ih,h i (Nat.le_refl _) (by omega),if_true]
  try (generalize (List.range gs.length).findSome? _ = r;cases r <;> rfl)
theorem putG_some {does : List Int → Bool} {most : Nat} : ∀ (d i : Nat) (gs : List (List Int)),(∀ j,i ≤ j → j < i + d → does [(j : Int)] = true) → i + d ≤ most → gs.length ≤ i → ∃ r,putG does most d i gs = some r
 | 0,i,gs,_,_,_ => ⟨gs,rfl⟩
 | d + 1,i,gs,h,h1,h2 => by
  rw [putG_succ]
  cases hf : (List.range gs.length).findSome? (tryG does most d i gs) with
  | some r => exact ⟨r,rfl⟩
  | none =>
   dsimp only
   rw [if_neg (by omega),tryG_last,if_pos (h i (Nat.le_refl _) (by omega))]
   exact putG_some d (i + 1) _ (fun j h3 h4 => h j (by omega) (by omega)) (by omega) (by rw [List.length_append,List.length_singleton];omega)
def GoodR (i : Nat) (gs : List (List Int)) : Prop := Good i gs ∧ ∀ g ∈ gs,g.Pairwise (· < ·)
theorem GoodR.nil : GoodR 0 [] := ⟨Good.nil,fun g h => by cases h⟩
theorem rise_snoc {i : Nat} {g : List Int} (h : g.Pairwise (· < ·)) (hl : ∀ z ∈ g,0 ≤ z ∧ z < (i : Int)) : (g ++ [(i : Int)]).Pairwise (· < ·) := by
 rw [List.pairwise_append]
 exact ⟨h,List.pairwise_singleton _ _,fun a ha b hb => by rw [List.mem_singleton.1 hb];exact (hl a ha).2⟩
theorem GoodR.push {i k : Nat} {gs : List (List Int)} {g : List Int} (h : GoodR i gs) (hg : gs[k]? = some g) : GoodR (i + 1) (gs.set k (g ++ [(i : Int)])) := by
 refine ⟨h.1.push hg,fun g' hm => ?_⟩
 have hgm := List.mem_of_getElem? hg
 rcases List.mem_or_eq_of_mem_set hm with h1 | rfl
 ·exact h.2 g' h1
 ·exact rise_snoc (h.2 g hgm) (h.1.lt g hgm)
theorem GoodR.snoc {i : Nat} {gs : List (List Int)} (h : GoodR i gs) : GoodR (i + 1) (gs ++ [[(i : Int)]]) := by
 refine ⟨h.1.snoc,fun g hm => ?_⟩
 rcases List.mem_append.1 hm with h1 | h1
 ·exact h.2 g h1
 ·simp at h1;subst h1;exact List.pairwise_singleton _ _
theorem set_last (gs : List (List Int)) (g : List Int) : (gs ++ [[]]).set gs.length g = gs ++ [g] := by
 rw [List.set_append_right _ _ (Nat.le_refl _),Nat.sub_self];rfl
theorem putG_good {does : List Int → Bool} {most : Nat} : ∀ (d i : Nat) (gs rs : List (List Int)),GoodR i gs → gs.length ≤ most → putG does most d i gs = some rs → GoodR (i + d) rs ∧ rs.length ≤ most
 | 0,i,gs,rs,hG,hm,h => by
  rw [putG] at h;injection h with h;subst h;exact ⟨hG,hm⟩
 | d + 1,i,gs,rs,hG,hm,h => by
  rw [putG_succ] at h
  cases hf : (List.range gs.length).findSome? (tryG does most d i gs) with
  | some r =>
   rw [hf] at h
   injection h with h
   subst h
   obtain ⟨k,hk,h2⟩ := find_some hf
   unfold tryG at h2
   split at h2
   ·have hg : gs[k]? = some gs[k] := List.getElem?_eq_getElem hk
    rw [List.getD_eq_getElem?_getD,hg,Option.getD_some] at h2
    have := putG_good d (i + 1) _ _ (hG.push hg) (by rw [List.length_set];exact hm) h2
    rw [show i + 1 + d = i + (d + 1) by omega] at this
    exact this
   ·cases h2
  | none =>
   rw [hf] at h
   dsimp only at h
   split at h
   ·cases h
   ·rw [tryG_last] at h
    split at h
    ·have := putG_good d (i + 1) _ _ hG.snoc (by rw [List.length_append,List.length_singleton];omega) h
     rw [show i + 1 + d = i + (d + 1) by omega] at this
     exact this
    ·cases h
def fewG (does : List Int → Bool) (n : Nat) : Option (List (List Int)) :=
 if (List.range n).all (fun j => does [(j : Int)]) = true then (List.range (n + 1)).findSome? (fun m => putG does m n 0 []) else none
structure Above (B : Nat) (W W' : World) : Prop where
 size : W.heap.size ≤ W'.heap.size
 block : ∀ b,B ≤ b → b < W.heap.size → W'.heap[b]? = W.heap[b]?
theorem Above.of_below {B : Nat} {W W' : World} (h : Below W.heap.size W W') : Above B W W' := ⟨h.size,fun b _ h1 => h.block b h1⟩
theorem Above.cell {B b o : Nat} {W W' : World} {v : Value} (h : Above B W W') (hb : B ≤ b) (hc : W.cell? ⟨b,o,none⟩ = some v) : W'.cell? ⟨b,o,none⟩ = some v :=
 (World.cell?_of_block (a := ⟨b,o,none⟩) (h.block b hb (World.block_lt_of_cell? W _ hc))).trans hc
theorem Above.free {B b o : Nat} {W W' : World} {v : Value} (h : Above B W W') (hb : B ≤ b) (hc : W.cell? ⟨b,o,none⟩ = some v) (hf : W.frozen? ⟨b,o,none⟩ = false) : W'.frozen? ⟨b,o,none⟩ = false :=
 (World.frozen?_of_block (a := ⟨b,o,none⟩) (h.block b hb (World.block_lt_of_cell? W _ hc))).trans hf
theorem owns_above {B lo e s n : Nat} {W W' : World} {v : Value} {xs : List Value} (h : W.ownsRow lo e s v n xs) (hB : B ≤ lo) (ha : Above B W W') : W'.ownsRow lo e s v n xs := by
 refine ⟨h.1, ?_⟩
 rcases h.2 with hn | ⟨g,cap,cur,h1,h2,h3,h4⟩
 ·exact .inl hn
 ·exact .inr ⟨g,cap,cur,h1,h2,(ha.block g (by omega) (Array.getElem?_eq_some_iff.1 h3).1).trans h3,h4⟩
def Apart (vs : List Value) : Prop := ∀ (j k : Nat) (u v : Value),j ≠ k → vs[j]? = some u → vs[k]? = some v → u.ownBlock = none ∨ u.ownBlock ≠ v.ownBlock
def PartsAt (B TO TI : Nat) (gs : List (List Int)) (W : World) : Prop := ∃ (gv : Value) (vs : List Value),(W.cell? ⟨B + 3,0,none⟩ = some gv ∧ W.frozen? ⟨B + 3,0,none⟩ = false) ∧ W.ownsRow (B + 6) TO 1 gv gs.length vs ∧ RowsIn (B + 6) TI W vs gs ∧ Apart vs ∧ B + 6 ≤ W.heap.size
theorem PartsAt.keep {B TO TI : Nat} {gs : List (List Int)} {W W' : World} (h : PartsAt B TO TI gs W) (ha : Above B W W') : PartsAt B TO TI gs W' := by
 obtain ⟨gv,vs,⟨c1,c2⟩,ho,hr,hA,hs⟩ := h
 exact ⟨gv,vs,⟨ha.cell (by omega) c1,ha.free (by omega) c1 c2⟩,owns_above ho (by omega) ha,fun k v g h1 h2 => owns_above (hr k v g h1 h2) (by omega) ha,hA,by have := ha.size;omega⟩
def BoxesAt (B : Nat) (a0 a1 a2 a4 a5 : Value) (W : World) : Prop := W.cell? ⟨B,0,none⟩ = some a0 ∧ W.cell? ⟨B + 1,0,none⟩ = some a1 ∧ W.cell? ⟨B + 2,0,none⟩ = some a2 ∧ W.cell? ⟨B + 4,0,none⟩ = some a4 ∧ W.cell? ⟨B + 5,0,none⟩ = some a5
theorem BoxesAt.keep {B : Nat} {a0 a1 a2 a4 a5 : Value} {W W' : World} (h : BoxesAt B a0 a1 a2 a4 a5 W) (hb : ∀ b,B ≤ b → b < B + 6 → b ≠ B + 3 → W'.heap[b]? = W.heap[b]?) : BoxesAt B a0 a1 a2 a4 a5 W' := by
 obtain ⟨h0,h1,h2,h4,h5⟩ := h
 have key : ∀ {b : Nat} {v : Value},B ≤ b → b < B + 6 → b ≠ B + 3 → W.cell? ⟨b,0,none⟩ = some v → W'.cell? ⟨b,0,none⟩ = some v := fun h1 h2 h3 h4 => (World.cell?_of_block (a := ⟨_,0,none⟩) (hb _ h1 h2 h3)).trans h4
 exact ⟨key (by omega) (by omega) (by omega) h0,key (by omega) (by omega) (by omega) h1,key (by omega) (by omega) (by omega) h2,key (by omega) (by omega) (by omega) h4,key (by omega) (by omega) (by omega) h5⟩
theorem BoxesAt.above {B : Nat} {a0 a1 a2 a4 a5 : Value} {W W' : World} (h : BoxesAt B a0 a1 a2 a4 a5 W) (hs : B + 6 ≤ W.heap.size) (ha : Above B W W') : BoxesAt B a0 a1 a2 a4 a5 W' := h.keep fun b h1 h2 _ => ha.block b h1 (by omega)
theorem BoxesAt.below {B : Nat} {a0 a1 a2 a4 a5 : Value} {W W' : World} (h : BoxesAt B a0 a1 a2 a4 a5 W) (hb : Below (B + 6) W W') : BoxesAt B a0 a1 a2 a4 a5 W' := h.keep fun b h1 h2 _ => hb.block b h2
theorem BoxesAt.set {B : Nat} {a0 a1 a2 a4 a5 v : Value} {W : World} (h : BoxesAt B a0 a1 a2 a4 a5 W) : BoxesAt B a0 a1 a2 a4 a5 (W.setCell ⟨B + 3,0,none⟩ v) := h.keep fun b h1 h2 h3 => Below.heap_setCell _ _ _ _ h3
theorem PartsAt.push {B TO TI i k : Nat} (hT : TO ≠ TI) {gs : List (List Int)} {g : List Int} {W w2 w3 : World} {v v' : Value} {vs : List Value} {gb cap : Nat} (hG : Good (i + 1) (gs.set k (g ++ [(i : Int)]))) (hg : gs[k]? = some g) (hv : vs[k]? = some v)
  (c8 : W.cell? ⟨B + 3,0,none⟩ = some (.slice (some ⟨gb,0,none⟩) gs.length cap) ∧ W.frozen? ⟨B + 3,0,none⟩ = false) (ho : W.ownsRow (B + 6) TO 1 (.slice (some ⟨gb,0,none⟩) gs.length cap) gs.length vs) (hr : RowsIn (B + 6) TI W vs gs) (hA : Apart vs) (hsz : B + 6 ≤ W.heap.size)
  (hb : Below W.heap.size W w2) (hg3 : w2.grownBy w3 v.ownBlock) (ho3 : w3.ownsRow (B + 6) TI 1 v' (g.length + 1) (g.map (Value.int .i64) ++ [.int .i64 (i : Int)])) :
  (w3.cell? ⟨gb,k,none⟩ = some v ∧ w3.frozen? ⟨gb,k,none⟩ = false) ∧ PartsAt B TO TI (gs.set k (g ++ [(i : Int)])) (w3.setCell ⟨gb,k,none⟩ v') ∧ Below (B + 6) W (w3.setCell ⟨gb,k,none⟩ v') := by
 have hk : k < gs.length := (List.getElem?_eq_some_iff.1 hg).1
 have hrow := hr k v g hv hg
 have ho2 := owns_below ho hb
 have hrow2 := owns_below hrow hb
 have hgb : B + 6 ≤ gb := own_ge ho gb rfl
 have a1 : (Value.slice (some ⟨gb,0,none⟩) gs.length cap).ownBlock = none ∨ (Value.slice (some ⟨gb,0,none⟩) gs.length cap).ownBlock ≠ v.ownBlock := apart_types ho2 hrow2 hT
 have ho4 : w3.ownsRow (B + 6) TO 1 (.slice (some ⟨gb,0,none⟩) gs.length cap) gs.length vs := ho2.kept hg3 a1
 have hbw : Below (B + 6) W w3 := (hb.mono hsz).grown hg3 (by have := hb.size;omega) (own_ge hrow)
 have a2 : some gb ≠ v.ownBlock := by rcases a1 with h | h;cases h;exact h
 have hcell : w3.cell? ⟨gb,k,none⟩ = some v := by
  have h1 := ho4.cells (g := gb) rfl k v hv
  rw [Go.WideShapes.add_plain,Nat.zero_add] at h1
  exact h1
 have hvl : k < vs.length := (List.getElem?_eq_some_iff.1 hv).1
 have hts : ∀ {u : Value} {n : Nat} {xs : List Value},w3.ownsRow (B + 6) TI 1 u n xs → u.ownBlock = none ∨ u.ownBlock ≠ some gb := fun h => apart_types h ho4 (Ne.symm hT)
 have hrj : ∀ (j : Nat) (u : Value) (g' : List Int),j ≠ k → vs[j]? = some u → gs[j]? = some g' → w3.ownsRow (B + 6) TI 1 u g'.length (g'.map (Value.int .i64)) := fun j u g' e hu hg' =>
  (owns_below (hr j u g' hu hg') hb).kept hg3 (hA j k u v e hu hv)
 have hkey : ∀ (j : Nat) (u : Value),j ≠ k → vs[j]? = some u → (v'.ownBlock = none ∨ v'.ownBlock ≠ u.ownBlock) ∧ (u.ownBlock = none ∨ u.ownBlock ≠ v'.ownBlock) := fun j u e hu => by
  have hjl : j < gs.length := by have h1 := ho.1;have h2 := (List.getElem?_eq_some_iff.1 hu).1;omega
  have hg' : gs[j]? = some gs[j] := List.getElem?_eq_getElem hjl
  have hj := hrj j u _ e hu hg'
  obtain ⟨x,hx⟩ := hG.one j gs[j] (by rw [List.getElem?_set_ne (Ne.symm e)];exact hg')
  obtain ⟨y,hy⟩ := hG.one k (g ++ [(i : Int)]) (List.getElem?_set_self hk)
  have hxy := hG.apart j k gs[j] (g ++ [(i : Int)]) x y e (by rw [List.getElem?_set_ne (Ne.symm e)];exact hg') (List.getElem?_set_self hk) hx hy
  have h1 : (gs[j].map (Value.int .i64))[0]? = some (.int .i64 x) := by rw [List.getElem?_map,hx];rfl
  have h2 : (g.map (Value.int .i64) ++ [.int .i64 (i : Int)])[0]? = some (.int .i64 y) := by
   have h3 : ((g ++ [(i : Int)]).map (Value.int .i64))[0]? = some (.int .i64 y) := by rw [List.getElem?_map,hy];rfl
   simpa using h3
  exact ⟨apart_heads ho3 hj h2 h1 (fun h => hxy (by injection h with _ h;exact h.symm)),apart_heads hj ho3 h1 h2 (fun h => hxy (by injection h))⟩
 refine ⟨⟨hcell,owns_frozen ho4 rfl k⟩,⟨.slice (some ⟨gb,0,none⟩) gs.length cap,vs.set k v',⟨?_, ?_⟩, ?_, ?_, ?_, ?_⟩,hbw.setCell (p := ⟨gb,k,none⟩) hgb v'⟩
 ·exact setc_block ((hbw.cell (p := ⟨B + 3,0,none⟩) (by simp)).trans c8.1) (by omega)
 ·exact set_free ((hbw.cell (p := ⟨B + 3,0,none⟩) (by simp)).trans c8.1) ((hbw.frozen (p := ⟨B + 3,0,none⟩) (by simp)).trans c8.2)
 ·rw [List.length_set];exact row_set ho4 hk
 ·intro j u g' hu hg'
  by_cases e : j = k
  ·subst e
   rw [List.getElem?_set_self hvl] at hu
   rw [List.getElem?_set_self hk] at hg'
   obtain rfl : v' = u := by simpa using hu
   obtain rfl : g ++ [(i : Int)] = g' := by simpa using hg'
   have h1 := set_own (o := j) (u := v') ho3 (hts ho3)
   simpa using h1
  ·rw [List.getElem?_set_ne (Ne.symm e)] at hu hg'
   have h3 := hrj j u g' e hu hg'
   exact set_own h3 (hts h3)
 ·intro j l u x hne hu hx
  by_cases e : j = k
  ·subst e
   rw [List.getElem?_set_self hvl] at hu
   rw [List.getElem?_set_ne hne] at hx
   obtain rfl : v' = u := by simpa using hu
   exact (hkey l x (Ne.symm hne) hx).1
  ·rw [List.getElem?_set_ne (Ne.symm e)] at hu
   by_cases e2 : l = k
   ·subst e2
    rw [List.getElem?_set_self hvl] at hx
    obtain rfl : v' = x := by simpa using hx
    exact (hkey j u e hu).2
   ·rw [List.getElem?_set_ne (Ne.symm e2)] at hx
    exact hA j l u x hne hu hx
 ·have := hbw.size;show B + 6 ≤ (w3.setCell _ _).heap.size;simp;omega
theorem PartsAt.pop {B TO TI i k : Nat} (hT : TO ≠ TI) {gs : List (List Int)} {g : List Int} {W : World} {gb gcap b cap n : Nat} {vs : List Value} (hgs : gs[k]? = some g) (hn : gs.length = n)
  (c8 : W.cell? ⟨B + 3,0,none⟩ = some (.slice (some ⟨gb,0,none⟩) n gcap) ∧ W.frozen? ⟨B + 3,0,none⟩ = false) (ho : W.ownsRow (B + 6) TO 1 (.slice (some ⟨gb,0,none⟩) n gcap) n vs) (hr : RowsIn (B + 6) TI W vs (gs.set k (g ++ [(i : Int)]))) (hA : Apart vs) (hsz : B + 6 ≤ W.heap.size)
  (hv : vs[k]? = some (.slice (some ⟨b,0,none⟩) (g.length + 1) cap)) :
  PartsAt B TO TI gs (W.setCell ⟨gb,k,none⟩ (.slice (some ⟨b,0,none⟩) g.length cap)) ∧ Below (B + 6) W (W.setCell ⟨gb,k,none⟩ (.slice (some ⟨b,0,none⟩) g.length cap)) := by
 subst hn
 have hk : k < gs.length := (List.getElem?_eq_some_iff.1 hgs).1
 have hvl : k < vs.length := (List.getElem?_eq_some_iff.1 hv).1
 have hgb : B + 6 ≤ gb := own_ge ho gb rfl
 have hts : ∀ {u : Value} {n : Nat} {xs : List Value},W.ownsRow (B + 6) TI 1 u n xs → u.ownBlock = none ∨ u.ownBlock ≠ some gb := fun h => apart_types h ho (Ne.symm hT)
 refine ⟨⟨.slice (some ⟨gb,0,none⟩) gs.length gcap,vs.set k (.slice (some ⟨b,0,none⟩) g.length cap),⟨setc_block c8.1 (by omega),set_free c8.1 c8.2⟩,row_set ho hk, ?_, ?_,by simpa using hsz⟩,(Below.refl _ _).setCell (p := ⟨gb,k,none⟩) hgb _⟩
 ·intro j u g' hu hg'
  by_cases e : j = k
  ·subst e
   rw [List.getElem?_set_self hvl] at hu
   rw [hgs] at hg'
   obtain rfl : Value.slice (some ⟨b,0,none⟩) g.length cap = u := by simpa using hu
   obtain rfl : g = g' := by simpa using hg'
   have h1 := hr j _ _ hv (List.getElem?_set_self hk)
   rw [List.length_append,List.length_singleton] at h1
   have h2 := row_take (m := g.length) h1 (by omega)
   rw [List.map_append,List.take_append_of_le_length (by simp),List.take_of_length_le (by simp)] at h2
   exact set_own h2 (hts h2)
  ·rw [List.getElem?_set_ne (Ne.symm e)] at hu
   have h1 := hr j u g' hu (by rw [List.getElem?_set_ne (Ne.symm e)];exact hg')
   exact set_own h1 (hts h1)
 ·have blk : ∀ (j : Nat) (u : Value),(vs.set k (.slice (some ⟨b,0,none⟩) g.length cap))[j]? = some u → ∃ u0,vs[j]? = some u0 ∧ u0.ownBlock = u.ownBlock := fun j u hu => by
   by_cases e : j = k
   ·subst e
    rw [List.getElem?_set_self hvl] at hu
    injection hu with hu
    subst hu
    exact ⟨_,hv,rfl⟩
   ·rw [List.getElem?_set_ne (Ne.symm e)] at hu
    exact ⟨u,hu,rfl⟩
  intro j l u x hne hu hx
  obtain ⟨u0,h1,h2⟩ := blk j u hu
  obtain ⟨x0,h3,h4⟩ := blk l x hx
  rw [← h2, ← h4]
  exact hA j l u0 x0 hne h1 h3
theorem PartsAt.grow {B TO TI n : Nat} {gs : List (List Int)} {W w2 w3 : World} {gv gv' : Value} {vs : List Value} (hT : TO ≠ TI) (hn : gs.length = n)
  (c8 : W.cell? ⟨B + 3,0,none⟩ = some gv ∧ W.frozen? ⟨B + 3,0,none⟩ = false) (ho : W.ownsRow (B + 6) TO 1 gv n vs) (hr : RowsIn (B + 6) TI W vs gs) (hA : Apart vs) (hsz : B + 6 ≤ W.heap.size)
  (hb : Below W.heap.size W w2) (hg3 : w2.grownBy w3 gv.ownBlock) (ho3 : w3.ownsRow (B + 6) TO 1 gv' (n + 1) (vs ++ [.slice none 0 0])) :
  (w3.cell? ⟨B + 3,0,none⟩ = some gv ∧ w3.frozen? ⟨B + 3,0,none⟩ = false) ∧ PartsAt B TO TI (gs ++ [[]]) (w3.setCell ⟨B + 3,0,none⟩ gv') ∧ Below (B + 6) W w3 := by
 subst hn
 have hbw : Below (B + 6) W w3 := (hb.mono hsz).grown hg3 (by have := hb.size;omega) (own_ge ho)
 have hG8 : w3.cell? ⟨B + 3,0,none⟩ = some gv ∧ w3.frozen? ⟨B + 3,0,none⟩ = false := ⟨(hbw.cell (p := ⟨B + 3,0,none⟩) (by simp)).trans c8.1,(hbw.frozen (p := ⟨B + 3,0,none⟩) (by simp)).trans c8.2⟩
 have far : ∀ {T n : Nat} {v : Value} {xs : List Value},w3.ownsRow (B + 6) T 1 v n xs → v.ownBlock = none ∨ v.ownBlock ≠ some (B + 3) := fun h => .inr fun e => by have := own_ge h _ e;omega
 have hvl : vs.length = gs.length := by have := ho.1;omega
 refine ⟨hG8,⟨gv',vs ++ [.slice none 0 0],⟨setc_same hG8.1,set_free hG8.1 hG8.2⟩, ?_, ?_, ?_, ?_⟩,hbw⟩
 ·rw [List.length_append,List.length_singleton];exact set_own ho3 (far ho3)
 ·intro k v g hv hg
  rcases Nat.lt_or_ge k gs.length with h1 | h1
  ·rw [List.getElem?_append_left (by omega)] at hv
   rw [List.getElem?_append_left h1] at hg
   have h2 := owns_below (hr k v g hv hg) hb
   have h3 := h2.kept hg3 (apart_types h2 (owns_below ho hb) (Ne.symm hT))
   exact set_own h3 (far h3)
  ·rw [List.getElem?_append_right (by omega),hvl] at hv
   rw [List.getElem?_append_right h1] at hg
   have h4 := (List.getElem?_eq_some_iff.1 hg).1
   simp at h4
   have e : k = gs.length := by omega
   subst e
   simp at hv hg
   subst hv;subst hg
   exact World.ownsRow_nil _ _ _ _
 ·intro j k u v hne hu hv
  rcases Nat.lt_or_ge j vs.length with h1 | h1
  ·rw [List.getElem?_append_left h1] at hu
   rcases Nat.lt_or_ge k vs.length with h2 | h2
   ·rw [List.getElem?_append_left h2] at hv
    exact hA j k u v hne hu hv
   ·rw [List.getElem?_append_right h2] at hv
    have h4 := (List.getElem?_eq_some_iff.1 hv).1
    simp at h4
    rw [show k - vs.length = 0 by omega] at hv
    simp at hv
    subst hv
    cases hob : u.ownBlock with
    | none => exact .inl rfl
    | some b => exact .inr (by simp [Value.ownBlock])
  ·rw [List.getElem?_append_right h1] at hu
   have h4 := (List.getElem?_eq_some_iff.1 hu).1
   simp at h4
   rw [show j - vs.length = 0 by omega] at hu
   simp at hu
   subst hu
   exact .inl rfl
 ·have := hbw.size;show B + 6 ≤ (w3.setCell _ _).heap.size;simp;omega
theorem PartsAt.shrink {B TO TI n gb cap : Nat} {gs : List (List Int)} {g : List Int} {W : World} {vs : List Value} (hn : gs.length = n)
  (c8 : W.cell? ⟨B + 3,0,none⟩ = some (.slice (some ⟨gb,0,none⟩) (n + 1) cap) ∧ W.frozen? ⟨B + 3,0,none⟩ = false) (ho : W.ownsRow (B + 6) TO 1 (.slice (some ⟨gb,0,none⟩) (n + 1) cap) (n + 1) vs) (hr : RowsIn (B + 6) TI W vs (gs ++ [g])) (hA : Apart vs) (hsz : B + 6 ≤ W.heap.size) :
  PartsAt B TO TI gs (W.setCell ⟨B + 3,0,none⟩ (.slice (some ⟨gb,0,none⟩) n cap)) := by
 subst hn
 have far : ∀ {T n : Nat} {v : Value} {xs : List Value},W.ownsRow (B + 6) T 1 v n xs → v.ownBlock = none ∨ v.ownBlock ≠ some (B + 3) := fun h => .inr fun e => by have := own_ge h _ e;omega
 have h1 := row_take (m := gs.length) ho (by omega)
 refine ⟨.slice (some ⟨gb,0,none⟩) gs.length cap,vs.take gs.length,⟨setc_same c8.1,set_free c8.1 c8.2⟩,set_own h1 (far h1), ?_, ?_,by simpa using hsz⟩
 ·intro k v g' hv hg
  have hk : k < gs.length := (List.getElem?_eq_some_iff.1 hg).1
  rw [List.getElem?_take,if_pos hk] at hv
  have h2 := hr k v g' hv (by rw [List.getElem?_append_left hk];exact hg)
  exact set_own h2 (far h2)
 ·intro j k u v hne hu hv
  rw [List.getElem?_take] at hu hv
  split at hu
  ·split at hv
   ·exact hA j k u v hne hu hv
   ·cases hv
  ·cases hu
def PutsRes (B TO TI : Nat) (a0 a1 a2 a4 a5 : Value) (Q : World → Prop) (gs : List (List Int)) (r : Option (List (List Int))) (e : Ending) (w' : World) : Prop :=
 Q w' ∧ BoxesAt B a0 a1 a2 a4 a5 w' ∧ ((∃ rs,r = some rs ∧ e = .returned (.bool true) ∧ PartsAt B TO TI rs w') ∨ (r = none ∧ e = .returned (.bool false) ∧ PartsAt B TO TI gs w'))
theorem PutsRes.yes {B TO TI : Nat} {a0 a1 a2 a4 a5 : Value} {Q : World → Prop} {gs rs : List (List Int)} {r : Option (List (List Int))} {e : Ending} {w' : World} (hq : Q w') (hB : BoxesAt B a0 a1 a2 a4 a5 w') (hr : r = some rs) (he : e = .returned (.bool true)) (hP : PartsAt B TO TI rs w') : PutsRes B TO TI a0 a1 a2 a4 a5 Q gs r e w' := ⟨hq,hB, .inl ⟨rs,hr,he,hP⟩⟩
theorem PutsRes.no {B TO TI : Nat} {a0 a1 a2 a4 a5 : Value} {Q : World → Prop} {gs : List (List Int)} {r : Option (List (List Int))} {e : Ending} {w' : World} (hq : Q w') (hB : BoxesAt B a0 a1 a2 a4 a5 w') (hr : r = none) (he : e = .returned (.bool false)) (hP : PartsAt B TO TI gs w') : PutsRes B TO TI a0 a1 a2 a4 a5 Q gs r e w' := ⟨hq,hB, .inr ⟨hr,he,hP⟩⟩
theorem Above.trans {B : Nat} {a b c : World} (h : Above B a b) (k : Above B b c) : Above B a c :=
 ⟨Nat.le_trans h.size k.size,fun i h1 h2 => (k.block i h1 (Nat.lt_of_lt_of_le h2 h.size)).trans (h.block i h1 h2)⟩
theorem Above.mono {B B' : Nat} {a b : World} (h : Above B a b) (hB : B ≤ B') : Above B' a b := ⟨h.size,fun i h1 h2 => h.block i (by omega) h2⟩
theorem wpAny_Rs {P : Program} {Q : Exit → Act → World → Prop} {a : Act} {w0 w : World} {l : List Oper} {L : Array Bool} {n : Nat} (ps : List (Nat × (Value → World → Prop))) (hs : List Nat) (g : Nat) (hn : hs.length + g = n) (hkeep : ∀ x ∈ ps,Keeps x.2)
  (hB : (groupB .any l.toArray L hs && pairsB .any l.toArray ((ps.map (·.1)).contains ·) hs && plainsB l.toArray ((ps.map (·.1)).contains ·) hs) = true) (hw : Below w0.heap.size w0 w)
  (h : wpS P .any l.toArray w0 ((ps.map (·.1)).contains ·) (pOf ps) (fun Γ' a' => ∀ w',All w0 (pOf ps) Γ' w' → wpAny P .any l.toArray Q g (mark hs L) a' w') (numbered l.toArray hs) (fun _ => none) a) :
  wpAny P .any l.toArray Q n L a w := by
 subst hn
 refine wpAny_R (ps.map (·.1)) hs g (pOf_keeps hkeep) hB hw (wpR_of_wpS (fun k hk => ?_) h)
 simp only [groupB,Bool.and_eq_true] at hB
 obtain ⟨_,hmem,_⟩ := orderB_spec hB.1.1.2
 exact (hmem k hk).2.2
end Go.Pb.Sag
namespace Go.Pb.Sag
open Go Go.Pb Go.Pb.Ware Go.RowKit

def GrpAt (lo TO TI : Nat) (gv : Value) (gs : List (List Int)) (W : World) : Prop := ∃ vs : List Value,W.ownsRow lo TO 1 gv gs.length vs ∧ RowsIn lo TI W vs gs ∧ Apart vs ∧ ∀ (k : Nat) (u : Value),vs[k]? = some u → gs[k]? = some [] → u.ownBlock = none
theorem GrpAt.push {lo TO TI i k n : Nat} (hT : TO ≠ TI) {gs : List (List Int)} {g : List Int} {W w2 w3 : World} {v v' : Value} {vs : List Value} {gb cap : Nat} (hn : gs.length = n) (hg : gs[k]? = some g) (hv : vs[k]? = some v)
  (hheads : ∀ (j : Nat) (g' : List Int) (x y : Int),j ≠ k → gs[j]? = some g' → g'[0]? = some x → (g ++ [(i : Int)])[0]? = some y → x ≠ y)
  (ho : W.ownsRow lo TO 1 (.slice (some ⟨gb,0,none⟩) n cap) n vs) (hr : RowsIn lo TI W vs gs) (hA : Apart vs) (hE : ∀ (k : Nat) (u : Value),vs[k]? = some u → gs[k]? = some [] → u.ownBlock = none) (hsz : lo ≤ W.heap.size)
  (hb : Below W.heap.size W w2) (hg3 : w2.grownBy w3 v.ownBlock) (ho3 : w3.ownsRow lo TI 1 v' (g.length + 1) (g.map (Value.int .i64) ++ [.int .i64 (i : Int)])) :
  (w3.cell? ⟨gb,k,none⟩ = some v ∧ w3.frozen? ⟨gb,k,none⟩ = false) ∧ GrpAt lo TO TI (.slice (some ⟨gb,0,none⟩) n cap) (gs.set k (g ++ [(i : Int)])) (w3.setCell ⟨gb,k,none⟩ v') ∧ Below lo W (w3.setCell ⟨gb,k,none⟩ v') := by
 subst hn
 have hk : k < gs.length := (List.getElem?_eq_some_iff.1 hg).1
 have hrow := hr k v g hv hg
 have ho2 := owns_below ho hb
 have hrow2 := owns_below hrow hb
 have hgb : lo ≤ gb := own_ge ho gb rfl
 have a1 : (Value.slice (some ⟨gb,0,none⟩) gs.length cap).ownBlock = none ∨ (Value.slice (some ⟨gb,0,none⟩) gs.length cap).ownBlock ≠ v.ownBlock := apart_types ho2 hrow2 hT
 have ho4 : w3.ownsRow lo TO 1 (.slice (some ⟨gb,0,none⟩) gs.length cap) gs.length vs := ho2.kept hg3 a1
 have hbw : Below lo W w3 := (hb.mono hsz).grown hg3 (by have := hb.size;omega) (own_ge hrow)
 have hcell : w3.cell? ⟨gb,k,none⟩ = some v := by
  have h1 := ho4.cells (g := gb) rfl k v hv
  rw [Go.WideShapes.add_plain,Nat.zero_add] at h1
  exact h1
 have hvl : k < vs.length := (List.getElem?_eq_some_iff.1 hv).1
 have hts : ∀ {u : Value} {n : Nat} {xs : List Value},w3.ownsRow lo TI 1 u n xs → u.ownBlock = none ∨ u.ownBlock ≠ some gb := fun h => apart_types h ho4 (Ne.symm hT)
 have hrj : ∀ (j : Nat) (u : Value) (g' : List Int),j ≠ k → vs[j]? = some u → gs[j]? = some g' → w3.ownsRow lo TI 1 u g'.length (g'.map (Value.int .i64)) := fun j u g' e hu hg' =>
  (owns_below (hr j u g' hu hg') hb).kept hg3 (hA j k u v e hu hv)
 have hvb : v'.ownBlock ≠ none := by
  obtain ⟨b,c,rfl,_⟩ := own_some ho3 (by omega)
  simp [Value.ownBlock]
 have hkey : ∀ (j : Nat) (u : Value),j ≠ k → vs[j]? = some u → (v'.ownBlock = none ∨ v'.ownBlock ≠ u.ownBlock) ∧ (u.ownBlock = none ∨ u.ownBlock ≠ v'.ownBlock) := fun j u e hu => by
  have hjl : j < gs.length := by have h1 := ho.1;have h2 := (List.getElem?_eq_some_iff.1 hu).1;omega
  have hg' : gs[j]? = some gs[j] := List.getElem?_eq_getElem hjl
  have hj := hrj j u _ e hu hg'
  cases hq : gs[j] with
  | nil =>
   have h0 := hE j u hu (by rw [hg',hq])
   exact ⟨.inr (by rw [h0];exact hvb), .inl h0⟩
  | cons a l =>
   obtain ⟨y,hy⟩ : ∃ y,(g ++ [(i : Int)])[0]? = some y := ⟨_,List.getElem?_eq_getElem (by simp)⟩
   have hx : (gs[j])[0]? = some a := by rw [hq];rfl
   have hxy := hheads j gs[j] a y e hg' hx hy
   have h1 : (gs[j].map (Value.int .i64))[0]? = some (.int .i64 a) := by rw [List.getElem?_map,hx];rfl
   have h2 : (g.map (Value.int .i64) ++ [.int .i64 (i : Int)])[0]? = some (.int .i64 y) := by
    have h3 : ((g ++ [(i : Int)]).map (Value.int .i64))[0]? = some (.int .i64 y) := by rw [List.getElem?_map,hy];rfl
    simpa using h3
   exact ⟨apart_heads ho3 hj h2 h1 (fun h => hxy (by injection h with _ h;exact h.symm)),apart_heads hj ho3 h1 h2 (fun h => hxy (by injection h))⟩
 refine ⟨⟨hcell,owns_frozen ho4 rfl k⟩,⟨vs.set k v', ?_, ?_, ?_, ?_⟩,hbw.setCell (p := ⟨gb,k,none⟩) hgb v'⟩
 ·rw [List.length_set];exact row_set ho4 hk
 ·intro j u g' hu hg'
  by_cases e : j = k
  ·subst e
   rw [List.getElem?_set_self hvl] at hu
   rw [List.getElem?_set_self hk] at hg'
   obtain rfl : v' = u := by simpa using hu
   obtain rfl : g ++ [(i : Int)] = g' := by simpa using hg'
   have h1 := set_own (o := j) (u := v') ho3 (hts ho3)
   simpa using h1
  ·rw [List.getElem?_set_ne (Ne.symm e)] at hu hg'
   have h3 := hrj j u g' e hu hg'
   exact set_own h3 (hts h3)
 ·intro j l u x hne hu hx
  by_cases e : j = k
  ·subst e
   rw [List.getElem?_set_self hvl] at hu
   rw [List.getElem?_set_ne hne] at hx
   obtain rfl : v' = u := by simpa using hu
   exact (hkey l x (Ne.symm hne) hx).1
  ·rw [List.getElem?_set_ne (Ne.symm e)] at hu
   by_cases e2 : l = k
   ·subst e2
    rw [List.getElem?_set_self hvl] at hx
    obtain rfl : v' = x := by simpa using hx
    exact (hkey j u e hu).2
   ·rw [List.getElem?_set_ne (Ne.symm e2)] at hx
    exact hA j l u x hne hu hx
 ·intro j u hu hg'
  by_cases e : j = k
  ·subst e
   rw [List.getElem?_set_self hk] at hg'
   injection hg' with hg'
   simp at hg'
  ·rw [List.getElem?_set_ne (Ne.symm e)] at hu hg'
   exact hE j u hu hg'
theorem GrpAt.new {lo TO TI n B : Nat} {W : World} (h : W.ownsRow lo TO 1 (.slice (some ⟨B,0,none⟩) n n) n (madeCells (Value.slice none 0 0).cells (n * 1)).toList) : GrpAt lo TO TI (.slice (some ⟨B,0,none⟩) n n) (groupedL [] n) W := by
 have hnil : ∀ (k : Nat) (u : Value),(madeCells (Value.slice none 0 0).cells (n * 1)).toList[k]? = some u → u = .slice none 0 0 := by
  intro k u hu
  have hk : k < n := by have := (List.getElem?_eq_some_iff.1 hu).1;simpa [madeCells] using this
  rw [Array.getElem?_toList] at hu
  unfold madeCells at hu
  rw [Array.getElem?_map,Array.getElem?_range,if_pos (by omega)] at hu
  have h2 : (#[Value.slice none 0 0] : Array Value)[k % 1]! = u := by injection hu
  rw [Nat.mod_one] at h2
  exact h2.symm
 have hg : ∀ (k : Nat) (g : List Int),(groupedL [] n)[k]? = some g → g = [] := by
  intro k g h
  have hk : k < n := by have := (List.getElem?_eq_some_iff.1 h).1;rwa [grouped_len] at this
  rw [grouped_at hk] at h
  injection h with h
  exact h.symm
 refine ⟨_,by rw [grouped_len];exact h, ?_, ?_, ?_⟩
 ·intro k u g hu hg'
  rw [hnil k u hu,hg k g hg']
  exact World.ownsRow_nil _ _ _ _
 ·intro j k u v _ hu _
  rw [hnil j u hu]
  exact .inl rfl
 ·intro k u hu _
  rw [hnil k u hu]
  rfl
end Go.Pb.Sag
namespace Go.Pb

open Go Go.RowKit
theorem fresh_append_lat {P : Program} {o : Oper} {a : Act} {w : World} (s x : Operand) (t : TypeId) (ho : o.op = .call { callee := .builtin .append,args := #[s,x],argTypes := #[t,t] })
  (base : Nat) (e : TypeId) (i : TypeInfo) (z : Value) (size bytes : Nat) (ht : P.underlying t = some (.slice e)) (hi : P.info? e = some i) (hz : i.zero = some z)
  (hsize : i.size = size) (hby : i.bytes = bytes) (hzs : z.cells.size = size) (hsz : 0 < size) (v : Value) (hs : a.eval s = v) (hv : NewEmpty base e v w)
  (xv : Value) (m : Nat) (cs : List Value) (hx : a.eval x = xv) (hn : LAt size w xv m cs) (h63 : m ≤ maxLen) (hbytes : m * bytes ≤ 140737488355328) (hbase : base ≤ w.heap.size) :
  freshAt P o a (fun v w => w.ownsRow base e size v m cs) w := by
 rcases hn.at' with ⟨rfl,rfl⟩ | ⟨ad,c,rfl,h2,h3,h4⟩
 ·have hcs : cs = [] := List.length_eq_zero_iff.1 (by rw [hn.len];simp)
  subst hcs
  obtain ⟨B,hB,rfl,hg⟩ := hv
  have hown : w.ownsRow base e size (.slice (some ⟨B,0,none⟩) 0 0) 0 [] := ⟨by simp, .inr ⟨B,0,#[],rfl,hB,hg,Nat.le_refl _,by simp [maxLen],by simp,by simp⟩⟩
  have hr := run_append_owned_none (P := P) (w := w) base t o.type e i size ht hi _ 0 [] hown
  unfold freshAt execOp
  simp only [ho,resolve,invoke,builtin,Sem.run_bind,Sem.run_pure,Result.andThen_ok,List.map_toArray,List.map_cons,List.map_nil,hs,hx,hr]
  exact ⟨Below.refl _ _,hown⟩
 ·exact fresh_append s x t ho base e i z size bytes ht hi hz hsize hby hzs hsz v hs hv ad m c cs hx hn.len h4 hn.one h63 hbytes hbase
theorem wp_append_lat {P : Program} {o : Oper} {a : Act} {K : Act → World → Prop} {Q : Exit → Act → World → Prop} (w : World) (s x : Operand) (t : TypeId) (ho : o.op = .call { callee := .builtin .append,args := #[s,x],argTypes := #[t,t] })
  (base : Nat) (e : TypeId) (i : TypeInfo) (z : Value) (size bytes : Nat) (ht : P.underlying t = some (.slice e)) (hi : P.info? e = some i) (hz : i.zero = some z)
  (hsize : i.size = size) (hby : i.bytes = bytes) (hzs : z.cells.size = size) (hsz : 0 < size) (v : Value) (n : Nat) (xs : List Value) (hs : a.eval s = v) (hown : w.ownsRow base e size v n xs)
  (xv : Value) (m : Nat) (cs : List Value) (hx : a.eval x = xv) (hn : LAt size w xv m cs) (h63 : n + m ≤ maxLen) (hbytes : (n + m) * bytes ≤ 140737488355328) (hbase : base ≤ w.heap.size)
  (h : ∀ v' w',w'.ownsRow base e size v' (n + m) (xs ++ cs) → w.grownBy w' v.ownBlock → K (a.put o.dst v') w') : o.wp P a w K Q := by
 rcases hn.at' with ⟨rfl,rfl⟩ | ⟨ad,c,rfl,h2,h3,h4⟩
 ·have hcs : cs = [] := List.length_eq_zero_iff.1 (by rw [hn.len];simp)
  subst hcs
  have hr := run_append_owned_none (P := P) (w := w) base t o.type e i size ht hi v n xs hown
  have h5 := h v w (by simpa using hown) ⟨rfl,rfl,rfl,Nat.le_refl _,fun k _ _ => rfl⟩
  unfold Oper.wp execOp
  simp only [ho,resolve,invoke,builtin,Sem.run_bind,Sem.run_pure,Result.andThen_ok,List.map_toArray,List.map_cons,List.map_nil,hs,hx,hr]
  exact h5
 ·exact wp_append_own w s x t ho base e i z size bytes ht hi hz hsize hby hzs hsz v n xs hs hown ad m c cs hx hn.len h4 hn.one h63 hbytes hbase fun v' w' h5 h6 _ => h v' w' h5 h6
theorem wpList_append_lat {P : Program} {w : World} {ops : Array Oper} {rest : List Oper} {o : Oper} {a : Act} {Q : Exit → Act → World → Prop} (hgd : o.guard = none) (s x : Operand) (t : TypeId)
  (ho : o.op = .call { callee := .builtin .append,args := #[s,x],argTypes := #[t,t] })
  (base : Nat) (e : TypeId) (i : TypeInfo) (z : Value) (size bytes : Nat) (ht : P.underlying t = some (.slice e)) (hi : P.info? e = some i) (hz : i.zero = some z)
  (hsize : i.size = size) (hby : i.bytes = bytes) (hzs : z.cells.size = size) (hsz : 0 < size) (v : Value) (n : Nat) (xs : List Value) (hs : a.eval s = v) (hown : w.ownsRow base e size v n xs)
  (xv : Value) (m : Nat) (cs : List Value) (hx : a.eval x = xv) (hn : LAt size w xv m cs) (h63 : n + m ≤ maxLen) (hbytes : (n + m) * bytes ≤ 140737488355328) (hbase : base ≤ w.heap.size)
  (h : ∀ v' w',w'.ownsRow base e size v' (n + m) (xs ++ cs) → w.grownBy w' v.ownBlock → wpList P ops Q rest (a.put o.dst v') w') : wpList P ops Q (o :: rest) a w :=
 wpList_plain hgd fun _ hK => wp_append_lat w s x t ho base e i z size bytes ht hi hz hsize hby hzs hsz v n xs hs hown xv m cs hx hn h63 hbytes hbase fun v' w' h2 h3 => hK _ _ (h v' w' h2 h3)
end Go.Pb
namespace Go.Pb.Sag
open Go Go.Pb Go.Pb.Ware Go.RowKit

def RowsQ (lo TQ TS : Nat) (v : Value) (rows : List (List St)) (W : World) : Prop := ∃ us : List Value,W.ownsRow lo TQ 1 v rows.length us ∧ ∀ (k : Nat) (u : Value) (q : List St),us[k]? = some u → rows[k]? = some q → W.ownsRow lo TS 3 u q.length (q.flatMap cellsP)
theorem RowsQ.below {lo TQ TS : Nat} {v : Value} {rows : List (List St)} {W W' : World} (h : RowsQ lo TQ TS v rows W) (hb : Below W.heap.size W W') : RowsQ lo TQ TS v rows W' := by
 obtain ⟨us,h1,h2⟩ := h
 exact ⟨us,owns_below h1 hb,fun k u q h3 h4 => owns_below (h2 k u q h3 h4) hb⟩
theorem RowsQ.nil {lo TQ TS : Nat} {W : World} : RowsQ lo TQ TS (.slice none 0 0) [] W := ⟨[],World.ownsRow_nil _ _ _ _,fun k u q h => by simp at h⟩
theorem RowsQ.shape {lo TQ TS : Nat} {v : Value} {rows : List (List St)} {W : World} (h : RowsQ lo TQ TS v rows W) : ∃ (a : Option Addr) (cap : Nat),v = .slice a rows.length cap ∧ rows.length ≤ 9223372036854775807 := by
 obtain ⟨us,h1,_⟩ := h
 exact owns_shape h1
theorem RowsQ.append {lo TQ TS : Nat} (hT : TQ ≠ TS) {v v' : Value} {rows more : List (List St)} {us ms : List Value} {W w3 : World}
  (ho : W.ownsRow lo TQ 1 v rows.length us) (hr : ∀ (k : Nat) (u : Value) (q : List St),us[k]? = some u → rows[k]? = some q → W.ownsRow lo TS 3 u q.length (q.flatMap cellsP))
  (hm : ∀ (k : Nat) (u : Value) (q : List St),ms[k]? = some u → more[k]? = some q → W.ownsRow lo TS 3 u q.length (q.flatMap cellsP)) (hml : ms.length = more.length)
  (hg : W.grownBy w3 v.ownBlock) (ho3 : w3.ownsRow lo TQ 1 v' (rows.length + more.length) (us ++ ms)) : RowsQ lo TQ TS v' (rows ++ more) w3 := by
 have hul : us.length = rows.length := by have := ho.1;omega
 have kept : ∀ {u : Value} {q : List St},W.ownsRow lo TS 3 u q.length (q.flatMap cellsP) → w3.ownsRow lo TS 3 u q.length (q.flatMap cellsP) := fun h => h.kept hg (apart_types h ho (Ne.symm hT))
 refine ⟨us ++ ms,by rw [List.length_append];exact ho3,fun k u q hu hq => ?_⟩
 rcases Nat.lt_or_ge k rows.length with h | h
 ·rw [List.getElem?_append_left (by omega)] at hu
  rw [List.getElem?_append_left h] at hq
  exact kept (hr k u q hu hq)
 ·rw [List.getElem?_append_right (by omega),hul] at hu
  rw [List.getElem?_append_right h] at hq
  exact kept (hm (k - rows.length) u q hu hq)
theorem RowsQ.one {lo TQ TS B : Nat} {u : Value} {q : List St} {W : World} (hB : W.heap.size = B) (hlo : lo ≤ B) (h : W.ownsRow lo TS 3 u q.length (q.flatMap cellsP)) : RowsQ lo TQ TS (.slice (some ⟨B,0,none⟩) 1 1) [q] (W.alloc (.cells #[u] TQ)) := by
 subst hB
 refine ⟨[u],⟨rfl, .inr ⟨W.heap.size,1,#[u],rfl,hlo,World.alloc_heap_new W _,Nat.le_refl _,by unfold maxLen;omega,rfl,rfl⟩⟩,fun k x y hx hy => ?_⟩
 match k with
 | 0 =>
  injection hx with hx;injection hy with hy
  subst hx;subst hy
  exact h.alloc _
 | k + 1 => simp at hx
end Go.Pb.Sag
namespace Go.Pb

open Go Go.RowKit
section
variable {P : Program} {md : Region.Mode} {ops : Array Oper} {Q : Exit → Act → World → Prop} {C : World → Prop}
def wpAnyC (P : Program) (md : Region.Mode) (ops : Array Oper) (Q : Exit → Act → World → Prop) (C : World → Prop) : Nat → Array Bool → Act → World → Prop
 | 0,L,a,w => C w ∧ Region.ready md ops L = [] ∧ Q .normal a w
 | n + 1,L,a,w => C w ∧ (Region.ready md ops L = [] → Q .normal a w) ∧ ∀ i ∈ Region.ready md ops L,wpOp P ops Q i (wpAnyC P md ops Q C n (L.setIfInBounds i true)) a w
theorem wpAnyC_any : ∀ {n : Nat} {L : Array Bool} {a : Act} {w : World},wpAnyC P md ops Q C n L a w → wpAny P md ops Q n L a w
 | 0,_,_,_,h => h.2
 | n + 1,_,_,_,h => ⟨h.2.1,fun i hi => wpOp_mono (fun _ _ h => wpAnyC_any h) (h.2.2 i hi)⟩
theorem wpAnyC_ready {n r : Nat} {L : Array Bool} {a : Act} {w : World} (hC : C w) (hr : Region.ready md ops L = [r]) (h : wpOp P ops Q r (wpAnyC P md ops Q C n (L.setIfInBounds r true)) a w) : wpAnyC P md ops Q C (n + 1) L a w :=
 ⟨hC,fun h0 => (by rw [hr] at h0;cases h0),fun i hi => by rw [hr,List.mem_singleton] at hi;subst hi;exact h⟩
theorem wpAnyC_op {n r : Nat} {o : Oper} {L : Array Bool} {a : Act} {w : World} (hC : C w) (hr : Region.ready md ops L = [r]) (ho : ops[r]? = some o) (hw : Region.wanted o (yielded ops a.tmps) = true)
  (h : ∀ K : Act → World → Prop,(∀ a' w',wpAnyC P md ops Q C n (L.setIfInBounds r true) a' w' → K a' w') → o.wp P a w K Q) : wpAnyC P md ops Q C (n + 1) L a w := by
 refine wpAnyC_ready hC hr ?_
 unfold wpOp
 simp only [ho,hw,if_true]
 exact .inl (h _ fun _ _ h => h)
theorem wpAnyC_end {L : Array Bool} {a : Act} {w : World} (hC : C w) (hr : Region.ready md ops L = []) (h : Q .normal a w) : wpAnyC P md ops Q C 0 L a w := ⟨hC,hr,h⟩
theorem wpAnyC_at {n : Nat} {L : Array Bool} {a : Act} {w : World} (h : wpAnyC P md ops Q C n L a w) : C w := by cases n <;> exact h.1
def LoadsC (P : Program) (ops : Array Oper) (C : World → Prop) (o : Oper) (v : Value) (a : Act) : Prop := Region.wanted o (yielded ops a.tmps) = true ∧ ∀ w,C w → (execOp a.eval o).run P w = .ok (.value v) w
theorem wpOp_keep {R : Act → Prop} {j : Nat} {oj : Oper} (hj : ops[j]? = some oj) {K : Act → World → Prop} {a : Act} {w : World} (hk : ∀ u,R (a.put oj.dst u)) (hkD : ∀ d u,R (({ a with defers := d :: a.defers } : Act).put oj.dst u))
  (h : wpOp P ops Q j K a w) : wpOp P ops Q j (fun a' w' => R a' ∧ K a' w') a w := by
 unfold wpOp at *
 simp only [hj] at *
 split
 ·rename_i hw
  simp only [hw,if_true] at h
  rcases h with h | h
  ·left
   unfold Oper.wp at *
   generalize (execOp a.eval oj).run P w = r at *
   cases r with
   | ok n w' =>
    cases n <;> simp only [Oper.upon] at h ⊢
    case value u => exact ⟨hk u,h⟩
    case skip => exact ⟨hk _,h⟩
    case defer d => exact ⟨hkD d _,h⟩
    case enter f args =>
     refine Calls.mono h fun e w'' he => ?_
     cases e with
     | returned u => exact ⟨hk u,he⟩
     | panicked c => exact he
     | outgrown => exact he
    case row row args => exact Rows.mono h fun u w'' he => ⟨hk u,he⟩
   | halt x w' => cases x <;> exact h
  ·exact .inr h
 ·rename_i hw
  simp only [hw] at h
  exact ⟨hk _,h⟩
theorem wpOp_putC {j : Nat} {oi oj : Oper} {v : Value} (hj : ops[j]? = some oj) (hap : oi.apart ops oj = true) (hsi : ∀ cs b,oi.op ≠ .select cs b) (hsj : ∀ cs b,oj.op ≠ .select cs b) {K : Act → World → Prop} {a : Act} {w : World}
  (hy : LoadsC P ops C oi v a) (h : wpOp P ops (Only Q) j K (a.put oi.dst v) w) : wpOp P ops (Only Q) j (fun a' w' => LoadsC P ops C oi v a' ∧ K (a'.put oi.dst v) w') a w := by
 obtain ⟨h1,h2,h3⟩ := Oper.apart_spec hap
 refine wpOp_keep hj (fun u => ?_) (fun d u => ?_) ?_
 ·exact ⟨by rw [wanted_put oi a oj.dst u h3];exact hy.1,fun w hC => by rw [execOp_put oi hsi a oj.dst u h3];exact hy.2 w hC⟩
 ·exact ⟨by rw [wanted_put oi _ oj.dst u h3];exact hy.1,fun w hC => by rw [execOp_put oi hsi _ oj.dst u h3];exact hy.2 w hC⟩
 ·unfold wpOp at *
  simp only [hj] at *
  rw [wanted_put oj a oi.dst v h1] at h
  split
  ·rename_i hw
   simp only [hw,if_true] at h
   rcases h with h | ⟨_,hl⟩
   ·left
    unfold Oper.wp at *
    rw [execOp_put oj hsj a oi.dst v h1] at h
    generalize (execOp a.eval oj).run P w = r at *
    cases r with
    | ok n w' =>
     cases n <;> simp only [Oper.upon] at h ⊢
     case value u => rw [← Act.put_comm a v u h2];exact h
     case skip => rw [← Act.put_comm a v undef h2];exact h
     case defer d => rw [← Act.put_comm _ v undef h2, ← Act.put_defers];exact h
     case enter f args =>
      refine Calls.mono h fun e w'' he => ?_
      cases e with
      | returned u => show K _ _;rw [← Act.put_comm a v u h2];exact he
      | panicked c => exact absurd he.1 (by simp)
      | outgrown => exact absurd he only_lets
     case row row args => exact Rows.mono h fun u w'' he => by rw [← Act.put_comm a v u h2];exact he
    | halt x w' =>
     cases x <;> simp only [Oper.upon] at h ⊢
     case panic u => exact absurd h.1 (by simp)
   ·exact absurd hl only_lets
  ·rename_i hw
   simp only [hw] at h
   rw [← Act.put_comm a v undef h2];exact h
theorem LoadsC.op {i : Nat} {o : Oper} {v : Value} {a : Act} (hi : ops[i]? = some o) (hy : LoadsC P ops C o v a) {K : Act → World → Prop} {w : World} (hC : C w) (h : K (a.put o.dst v) w) : wpOp P ops Q i K a w := by
 unfold wpOp
 simp only [hi,hy.1,if_true]
 left
 unfold Oper.wp
 rw [hy.2 w hC]
 exact h
theorem wpAnyC_first {i : Nat} {oi : Oper} {v : Value} (hi : ops[i]? = some oi) (hsel : ∀ (j : Nat) (o : Oper) cs b,ops[j]? = some o → o.op ≠ .select cs b) :
  ∀ (n : Nat) (L : Array Bool) (a : Act) (w : World),
   (∀ j oj,ops[j]? = some oj → j ≠ i → L.getD j true = false → (∀ e ∈ oj.after,Region.binds md e = true → e.on ≠ i) → oi.apart ops oj = true) →
   i ∈ Region.ready md ops L → LoadsC P ops C oi v a → C w →
   wpAnyC P md ops (Only Q) C n (L.setIfInBounds i true) (a.put oi.dst v) w → wpAnyC P md ops (Only Q) C (n + 1) L a w := by
 intro n
 induction n with
 | zero =>
  intro L a w _ hr hy hC H
  refine ⟨hC,fun h => (by rw [h] at hr;cases hr),fun j hj => ?_⟩
  by_cases hji : j = i
  ·subst hji;exact hy.op hi hC H
  ·have := ready_mono hj hji
   rw [H.2.1] at this
   cases this
 | succ n ih =>
  intro L a w hfree hr hy hC H
  refine ⟨hC,fun h => (by rw [h] at hr;cases hr),fun j hj => ?_⟩
  by_cases hji : j = i
  ·subst hji;exact hy.op hi hC H
  ·have h1 := H.2.2 j (ready_mono hj hji)
   obtain ⟨hjun,oj,hoj,hall⟩ := mem_ready.1 hj
   have hnot : ∀ e ∈ oj.after,Region.binds md e = true → e.on ≠ i := fun e he hb heq => by
    have h2 := hall e he hb
    have h0 := (mem_ready.1 hr).1
    rw [heq] at h2
    rcases Nat.lt_or_ge i L.size with h' | h'
    ·simp [h'] at h0 h2;rw [h0] at h2;cases h2
    ·simp [Array.getElem?_eq_none h'] at h2
   have h2 := wpOp_putC hoj (hfree j oj hoj hji hjun hnot) (fun cs b => hsel i oi cs b hi) (fun cs b => hsel j oj cs b hoj) hy h1
   have hfree' : ∀ k ok,ops[k]? = some ok → k ≠ i → (L.setIfInBounds j true).getD k true = false → (∀ e ∈ ok.after,Region.binds md e = true → e.on ≠ i) → oi.apart ops ok = true := fun k ok hk hki hun hno => by
    refine hfree k ok hk hki ?_ hno
    by_cases hjk : j = k
    ·subst hjk;exact hjun
    ·rw [getD_set_ne true hjk] at hun;exact hun
   have key : ∀ a' w',LoadsC P ops C oi v a' → wpAnyC P md ops (Only Q) C n ((L.setIfInBounds i true).setIfInBounds j true) (a'.put oi.dst v) w' → wpAnyC P md ops (Only Q) C (n + 1) (L.setIfInBounds j true) a' w' := by
    intro a' w' hy' H'
    rw [Array.setIfInBounds_comm _ _ (Ne.symm hji)] at H'
    have hr' := ready_mono hr (Ne.symm hji)
    exact ih (L.setIfInBounds j true) a' w' hfree' hr' hy' (wpAnyC_at H') H'
   exact wpOp_mono (fun a' w' h3 => key a' w' h3.1 h3.2) h2
end
section
variable {P : Program} {md : Region.Mode} {ops : Array Oper} {w0 : World} {fr : Nat → Bool} {p : Nat → Value → World → Prop} {C : World → Prop}
theorem wpAnyC_of_wpR {Q : Exit → Act → World → Prop} (hC : ∀ w,Below w0.heap.size w0 w → C w) {g : Nat} {hs : List Nat} {L : Array Bool} (hsel : Region.noSelect ops = true) (hplain : ∀ h o,h ∈ hs → fr h = false → ops[h]? = some o → plainOp o.op = true)
  (hkeep : ∀ i v w1 w2,p i v w1 → Below w1.heap.size w1 w2 → p i v w2) (hL : L.size = ops.size) :
  ∀ (f : Nat) (M : Array Bool) (l : List Nat) (Γ : Known) (a : Act) (w : World),l.length = f → l.Nodup → l.Pairwise (Pair md ops fr) → (∀ j ∈ l,M.getD j true = false) →
   (∀ j ∈ hs,j ∈ l ∨ M.getD j true = true) → (∀ h ∈ l, Γ h = none) → Hered md ops hs f M → All w0 p Γ w → mark l M = mark hs L →
   wpR P md ops w0 fr p (fun Γ' a' => ∀ w',All w0 p Γ' w' → wpAnyC P md ops Q C g (mark hs L) a' w') l Γ a → wpAnyC P md ops Q C (f + g) M a w := by
 intro f
 induction f with
 | zero =>
  intro M l Γ a w hlen _ _ _ _ _ _ hall hmk H
  obtain rfl := List.length_eq_zero_iff.1 hlen
  rw [Nat.zero_add,show M = mark hs L from hmk]
  exact H w hall
 | succ f ih =>
  intro M l Γ a w hlen hnd hpw hun hcov hΓ hh hall hmk H
  rw [show f + 1 + g = (f + g) + 1 by omega]
  refine ⟨hC _ hall.1,fun h0 => absurd h0 hh.1,fun i hi => ?_⟩
  obtain ⟨hiu,oi,hoi,hdeps⟩ := mem_ready.1 hi
  have hil : i ∈ l := by
   rcases hcov i (hh.2.1 i hi) with h1 | h1
   ·exact h1
   ·rw [h1] at hiu;cases hiu
  have hiM : i < M.size := by
   rcases Nat.lt_or_ge i M.size with h' | h'
   ·exact h'
   ·simp [Array.getElem?_eq_none h'] at hiu
  have H1 := wpR_pull hsel hkeep hoi l Γ a hil hnd hpw (fun j hj => waits_dep hdeps (hun j hj)) hΓ ⟨w,hall⟩ H
  have hle : (l.erase i).length = f := by rw [List.length_erase_of_mem hil];omega
  have next : ∀ Γ' a' w',(∀ h ∈ l.erase i, Γ' h = none) → All w0 p Γ' w' → wpR P md ops w0 fr p (fun Γ' a' => ∀ w',All w0 p Γ' w' → wpAnyC P md ops Q C g (mark hs L) a' w') (l.erase i) Γ' a' →
    wpAnyC P md ops Q C (f + g) (M.setIfInBounds i true) a' w' := fun Γ' a' w' hΓ' hall' H' =>
   ih (M.setIfInBounds i true) (l.erase i) Γ' a' w' hle (hnd.erase i) (hpw.sublist List.erase_sublist) (fun j hj => by
     have hne : j ≠ i := by rintro rfl;exact (List.Nodup.not_mem_erase hnd) hj
     rw [getD_set_ne true (Ne.symm hne)];exact hun j (List.mem_of_mem_erase hj))
    (fun j hj => by
     by_cases hji : j = i
     ·subst hji;right;simp
     ·rcases hcov j hj with h1 | h1
      ·left;exact (List.mem_erase_of_ne hji).2 h1
      ·right;rw [getD_set_ne true (Ne.symm hji)];exact h1)
    hΓ' (hh.2.2.2 i hi) hall' (by
     rw [← hmk]
     have key : ∀ (l : List Nat) (M : Array Bool),i ∈ l → mark l M = mark (l.erase i) (M.setIfInBounds i true) := by
      intro l
      induction l with
      | nil => intro M h;cases h
      | cons x l ihl =>
       intro M h
       by_cases hx : x = i
       ·subst hx;simp [mark]
       ·rw [List.erase_cons_tail (by simpa using hx)]
        simp only [mark,List.foldl_cons]
        have h2 := ihl (M.setIfInBounds x true) (by simpa [Ne.symm hx] using h)
        simp only [mark] at h2
        rw [h2,Array.setIfInBounds_comm _ _ hx]
     exact (key l M hil).symm) H'
  have hΓe : ∀ h ∈ l.erase i, Γ h = none := fun h hh' => hΓ h (List.mem_of_mem_erase hh')
  unfold wpR oneR at H1
  simp only [hoi] at H1
  unfold wpOp
  simp only [hoi]
  split
  ·rename_i hwant
   rw [if_pos hwant] at H1
   left
   split at H1
   ·rename_i hf
    obtain ⟨h1,h2⟩ := H1
    have h3 := h1 w (hall.cl oi)
    have go : ∀ u w'',Below w.heap.size w w'' → p i u w'' → wpAnyC P md ops Q C (f + g) (M.setIfInBounds i true) (a.put oi.dst u) w'' := by
     intro u w'' hb hq
     have hall' : All w0 p (upd Γ i u) w'' := ⟨hall.1.trans (hb.mono hall.1.size),fun k v hk => by
      unfold upd at hk
      by_cases hki : k = i
      ·subst hki;rw [if_pos rfl] at hk;cases hk;exact hq
      ·rw [if_neg hki] at hk;exact hkeep _ _ _ _ (hall.2 k v hk) hb⟩
     refine next _ _ _ (fun k hk => ?_) hall' (h2 u ⟨w'',hall'⟩)
     unfold upd
     rw [if_neg (by rintro rfl;exact (List.Nodup.not_mem_erase hnd) hk)]
     exact hΓe k hk
    unfold freshAt at h3
    unfold Oper.wp
    generalize (execOp a.eval oi).run P w = r at h3 ⊢
    cases r with
    | halt x w' => exact h3.elim
    | ok n w' =>
     cases n <;> simp only at h3
     case value u => exact go u w' h3.1 h3.2
     case enter fn args =>
      obtain ⟨rfl,hc⟩ := h3
      exact hc.mono fun e w'' ⟨u,he,hb,hq⟩ => by subst he;exact go u w'' hb hq
   ·rename_i hf
    obtain ⟨v,h1,h2⟩ := H1 ⟨w,hall.cl oi⟩
    have h3 := h1 w (hall.cl oi)
    unfold Oper.quietAt at h3
    unfold Oper.wp
    generalize hr : (execOp a.eval oi).run P w = r at h3 ⊢
    cases r with
    | halt x w' => simp only [Oper.quietUpon] at h3
    | ok n w' =>
     cases n <;> simp only [Oper.quietUpon] at h3
     case value u =>
      obtain ⟨rfl,rfl⟩ := h3
      exact next _ _ _ hΓe hall h2
     case skip =>
      obtain ⟨rfl,rfl⟩ := h3
      exact next _ _ _ hΓe hall h2
     case enter fn args => exact absurd hr (plain_ne (hplain i oi (hh.2.1 i hi) (by simpa using hf) hoi) _)
  ·rename_i hwant
   rw [if_neg hwant] at H1
   exact next _ _ _ hΓe hall H1
theorem wpAnyC_R {Q : Exit → Act → World → Prop} (hC : ∀ w,Below w0.heap.size w0 w → C w) {L : Array Bool} {a : Act} {w : World} (fs : List Nat) (hs : List Nat) (g : Nat)
  (hkeep : ∀ i v w1 w2,p i v w1 → Below w1.heap.size w1 w2 → p i v w2)
  (hB : (groupB md ops L hs && pairsB md ops (fs.contains ·) hs && plainsB ops (fs.contains ·) hs) = true) (hw : Below w0.heap.size w0 w)
  (h : wpR P md ops w0 (fs.contains ·) p (fun Γ' a' => ∀ w',All w0 p Γ' w' → wpAnyC P md ops Q C g (mark hs L) a' w') hs (fun _ => none) a) : wpAnyC P md ops Q C (hs.length + g) L a w := by
 simp only [Bool.and_eq_true] at hB
 obtain ⟨⟨hG,hP⟩,hPl⟩ := hB
 have hG' := hG
 simp only [groupB,Bool.and_eq_true,decide_eq_true_eq] at hG'
 obtain ⟨⟨⟨⟨hsz,hsel⟩,hcl⟩,hout⟩,hord⟩ := hG'
 obtain ⟨hnd,hmem,hpre⟩ := orderB_spec hord
 have hleft : left hs L = hs.length := by
  unfold left
  rw [List.filter_eq_self.2 (fun j hj => by rw [(hmem j hj).2.1];rfl)]
 have hsh : Shut md ops L := by
  intro j o ho hj e he hb
  have hjo : j < ops.size := by
   rcases Nat.lt_or_ge j ops.size with h' | h'
   ·exact h'
   ·simp [Array.getElem?_eq_none h'] at ho
  have h1 := List.all_eq_true.1 hcl j (List.mem_range.2 hjo)
  simp only [hj,ho,Bool.not_true,Bool.false_or] at h1
  simpa [hb] using Array.all_eq_true'.1 h1 e he
 have hh := hered_of hG hs.length L hleft hsh hsz (fun j hj => .inl hj) (fun j hj => hj)
 refine wpAnyC_of_wpR hC (hs := hs) (L := L) hsel (fun k o hk hf ho => ?_) hkeep hsz hs.length L hs (fun _ => none) a w rfl hnd (pairs_of hP) (fun j hj => (hmem j hj).2.1)
  (fun j hj => .inl hj) (fun _ _ => rfl) hh ⟨hw,fun _ _ hg => by cases hg⟩ rfl h
 have := List.all_eq_true.1 hPl k hk
 simp only [show (fs.contains k) = false from hf,ho,Bool.false_or] at this
 exact this
end
section
variable {P : Program} {md : Region.Mode} {ops : Array Oper} {C : World → Prop}
def wpFirstC (P : Program) (ops : Array Oper) (C : World → Prop) : List Nat → (Act → Prop) → Act → Prop
 | [],H,a => H a
 | i :: is,H,a => ∃ o v,ops[i]? = some o ∧ LoadsC P ops C o v a ∧ wpFirstC P ops C is H (a.put o.dst v)
theorem wpFirstC_any {Q : Exit → Act → World → Prop} (hsel : Region.noSelect ops = true) {w : World} (hC : C w) {n : Nat} {H : Act → Prop} : ∀ (fs : List Nat) (L : Array Bool) (a : Act),firstB md ops fs L = true →
  (∀ a,H a → wpAnyC P md ops (Only Q) C n (mark fs L) a w) → wpFirstC P ops C fs H a → wpAnyC P md ops (Only Q) C (fs.length + n) L a w
 | [],L,a,_,hH,h => by simpa using hH a h
 | i :: is,L,a,hb,hH,h => by
  obtain ⟨o,v,ho,hy,h⟩ := h
  simp only [firstB,Bool.and_eq_true,ho] at hb
  obtain ⟨⟨hr,hf⟩,hb⟩ := hb
  have hr2 : i ∈ Region.ready md ops L := by simpa using hr
  have ih := wpFirstC_any hsel hC is (L.setIfInBounds i true) _ hb hH h
  rw [List.length_cons,show is.length + 1 + n = is.length + n + 1 by omega]
  exact wpAnyC_first ho (Region.noSelect_spec hsel) _ L a w (fun j oj hj hne hun hno => freeB_spec ho hf hr2 j oj hj hne hun hno) hr2 hy hC ih
end
theorem wpAny_G {P : Program} {Q : Exit → Act → World → Prop} {a : Act} {w : World} {l : List Oper} (C : World → Prop) (hC : ∀ w',Below w.heap.size w w' → C w') (fs : List Nat)
  (hF : (Region.noSelect l.toArray && firstB .any l.toArray fs (Array.replicate l.length false)) = true)
  (ps : List (Nat × (Value → World → Prop))) (hs : List Nat) (g : Nat)
  (hn : fs.length + (hs.length + g) = l.length) (hkeep : ∀ x ∈ ps,Keeps x.2)
  (hB : (groupB .any l.toArray (mark fs (Array.replicate l.length false)) hs && pairsB .any l.toArray ((ps.map (·.1)).contains ·) hs && plainsB l.toArray ((ps.map (·.1)).contains ·) hs) = true)
  (h : wpFirstC P l.toArray C fs (fun a => wpS P .any l.toArray w ((ps.map (·.1)).contains ·) (pOf ps) (fun Γ' a' => ∀ w',All w (pOf ps) Γ' w' → wpAnyC P .any l.toArray (Only Q) C g (mark hs (mark fs (Array.replicate l.length false))) a' w') (numbered l.toArray hs) (fun _ => none) a) a) :
  wpAny P .any l.toArray (Only Q) l.toArray.size (Array.replicate l.toArray.size false) a w.drew := by
 simp only [Bool.and_eq_true] at hF
 have h1 := wpFirstC_any (P := P) (Q := Q) (md := .any) (C := C) hF.1 (w := w.drew) (hC _ (Below.refl _ w).drew) (n := hs.length + g) fs (Array.replicate l.length false) a hF.2 (fun a h => ?_) h
 ·rw [hn] at h1
  simpa using wpAnyC_any h1
 ·have h2 := wpR_of_wpS (fun k hk => by
   simp only [groupB,Bool.and_eq_true] at hB
   obtain ⟨_,hmem,_⟩ := orderB_spec hB.1.1.2
   exact (hmem k hk).2.2) h
  exact wpAnyC_R (P := P) (Q := Only Q) (w0 := w) (w := w.drew) (a := a) hC (ps.map (·.1)) hs g (pOf_keeps hkeep) hB (Below.refl _ w).drew h2
theorem wp_region_G {P : Program} {id : Nat} {Q : Exit → Act → World → Prop} {a : Act} {w : World} {l : List Oper} (C : World → Prop) (hC : ∀ w',Below w.heap.size w w' → C w') (fs : List Nat)
  (hF : (Region.noSelect l.toArray && firstB .any l.toArray fs (Array.replicate l.length false)) = true)
  (ps : List (Nat × (Value → World → Prop))) (hs : List Nat) (g : Nat) (hm : P.follows .mixedOrders = true)
  (hn : fs.length + (hs.length + g) = l.length) (hkeep : ∀ x ∈ ps,Keeps x.2)
  (hB : (groupB .any l.toArray (mark fs (Array.replicate l.length false)) hs && pairsB .any l.toArray ((ps.map (·.1)).contains ·) hs && plainsB l.toArray ((ps.map (·.1)).contains ·) hs) = true)
  (h : wpFirstC P l.toArray C fs (fun a => wpS P .any l.toArray w ((ps.map (·.1)).contains ·) (pOf ps) (fun Γ' a' => ∀ w',All w (pOf ps) Γ' w' → wpAnyC P .any l.toArray (Only Q) C g (mark hs (mark fs (Array.replicate l.length false))) a' w') (numbered l.toArray hs) (fun _ => none) a) a) :
  (Code.region id l.toArray true).wp P Q a w := wp_region_any hm (wpAny_only (wpAny_G C hC fs hF ps hs g hn hkeep hB h))
theorem wpIn_region_G {P : Program} {id : Nat} {Q : Exit → Act → World → Prop} {a : Act} {w : World} {l : List Oper} {lv n : Nat} (hd : noDefer l = true) (C : World → Prop) (hC : ∀ w',Below w.heap.size w w' → C w') (fs : List Nat)
  (hF : (Region.noSelect l.toArray && firstB .any l.toArray fs (Array.replicate l.length false)) = true)
  (ps : List (Nat × (Value → World → Prop))) (hs : List Nat) (g : Nat) (hm : P.follows .mixedOrders = true)
  (hn : fs.length + (hs.length + g) = l.length) (hkeep : ∀ x ∈ ps,Keeps x.2)
  (hB : (groupB .any l.toArray (mark fs (Array.replicate l.length false)) hs && pairsB .any l.toArray ((ps.map (·.1)).contains ·) hs && plainsB l.toArray ((ps.map (·.1)).contains ·) hs) = true)
  (h : wpFirstC P l.toArray C fs (fun a => wpS P .any l.toArray w ((ps.map (·.1)).contains ·) (pOf ps) (fun Γ' a' => ∀ w',All w (pOf ps) Γ' w' → wpAnyC P .any l.toArray (Only Q) C g (mark hs (mark fs (Array.replicate l.length false))) a' w') (numbered l.toArray hs) (fun _ => none) a) a) :
  (Code.region id l.toArray true).wpIn (Fence.wide.inRound lv) n P Q a w :=
 Go.wpIn_mono (Q := Only Q) (wpIn_region_any hm (wpAny_inRound (fun i o ho => noDefer_ne hd ho) (fun h => only_lets h) _ _ _ _ (wpAny_G C hC fs hF ps hs g hn hkeep hB h))) (fun e a w h => by obtain ⟨rfl,h⟩ := h;exact h)
end Go.Pb
namespace Go.Proofs
open Go.Shelf
def Tryz.lays125_ren : Go.Shelf.Ren := ⟨fun | 125 => 162 | 128 => 178 | 129 => 179 | n => n,fun | 46 => 193 | 3 => 3 | 51 => 205 | 53 => 175 | 4 => 4 | 5 => 5 | 9 => 9 | n => n,fun | n => n⟩
theorem Tryz.lays125 : Go.Proofs.Lays.n125 Tryz.prog Tryz.lays125_ren := {
 mixed := by kernel_rfl
 f125 := Tryz.func162.trans (congrArg some (by kernel_rfl))
 f128 := Tryz.func178.trans (congrArg some (by kernel_rfl))
 f129 := Tryz.func179.trans (congrArg some (by kernel_rfl))
 t3 := Tryz.underlying3
 a3 := Tryz.isAgg3
 z3 := Tryz.sizeOf3
 v3 := Tryz.zeroValue3
 t4 := Tryz.underlying4
 a4 := Tryz.isAgg4
 z4 := Tryz.sizeOf4
 v4 := Tryz.zeroValue4
 t5 := Tryz.underlying5
 a5 := Tryz.isAgg5
 z5 := Tryz.sizeOf5
 v5 := Tryz.zeroValue5
 t9 := Tryz.underlying9
 a9 := Tryz.isAgg9
 z9 := Tryz.sizeOf9
 v9 := Tryz.zeroValue9
 t46 := Tryz.underlying193
 a46 := Tryz.isAgg193
 z46 := Tryz.sizeOf193
 v46 := Tryz.zeroValue193
 t51 := Tryz.underlying205
 a51 := Tryz.isAgg205
 z51 := Tryz.sizeOf205
 v51 := Tryz.zeroValue205
 t53 := Tryz.underlying175
 a53 := Tryz.isAgg175
 z53 := Tryz.sizeOf175
 v53 := Tryz.zeroValue175 }
theorem Tryz.bits_Len (x : Int) (w : World) (h0 : 0 ≤ x) (h1 : x ≤ 18446744073709551615) :
  Calls Tryz.prog 162 #[.int .u64 x] w fun e w' => e = .returned (.int .i64 (Lib.bitLen x.toNat)) ∧ w' = w := Any.bits_Len Tryz.lays125 x w h0 h1
def Tryz.sortFeet_ren : Go.Shelf.Ren := ⟨fun | 6 => 145 | 15 => 162 | 14 => 161 | 28 => 178 | 29 => 179 | 20 => 170 | 21 => 171 | 22 => 172 | 23 => 173 | 24 => 174 | 25 => 175 | 26 => 176 | 27 => 177 | 46 => 181 | 47 => 182 | 48 => 183 | 49 => 184 | 50 => 185 | 57 => 186 | n => n,fun | 22 => 38 | 24 => 34 | 25 => 192 | 3 => 3 | 39 => 193 | 0 => 0 | 53 => 205 | 55 => 175 | 4 => 4 | 46 => 216 | 45 => 215 | 50 => 184 | 5 => 5 | 9 => 9 | 66 => 223 | 70 => 227 | 76 => 229 | 77 => 154 | n => n,fun | n => n⟩
theorem Tryz.sortFeet : Go.Proofs.SlLaysF0.n6 Tryz.prog Tryz.sortFeet_ren := {
 mixed := by kernel_rfl
 f6 := ⟨Tryz.f145.name,by decide,Tryz.func145.trans (congrArg some (by kernel_rfl))⟩
 f14 := ⟨Tryz.f161.name,by decide,Tryz.func161.trans (congrArg some (by kernel_rfl))⟩
 f15 := Tryz.func162.trans (congrArg some (by kernel_rfl))
 f20 := ⟨Tryz.f170.name,by decide,Tryz.func170.trans (congrArg some (by kernel_rfl))⟩
 f21 := ⟨Tryz.f171.name,by decide,Tryz.func171.trans (congrArg some (by kernel_rfl))⟩
 f22 := ⟨Tryz.f172.name,by decide,Tryz.func172.trans (congrArg some (by kernel_rfl))⟩
 f23 := ⟨Tryz.f173.name,by decide,Tryz.func173.trans (congrArg some (by kernel_rfl))⟩
 f24 := ⟨Tryz.f174.name,by decide,Tryz.func174.trans (congrArg some (by kernel_rfl))⟩
 f25 := ⟨Tryz.f175.name,by decide,Tryz.func175.trans (congrArg some (by kernel_rfl))⟩
 f26 := ⟨Tryz.f176.name,by decide,Tryz.func176.trans (congrArg some (by kernel_rfl))⟩
 f27 := ⟨Tryz.f177.name,by decide,Tryz.func177.trans (congrArg some (by kernel_rfl))⟩
 f28 := Tryz.func178.trans (congrArg some (by kernel_rfl))
 f29 := Tryz.func179.trans (congrArg some (by kernel_rfl))
 f46 := ⟨Tryz.f181.name,by decide,Tryz.func181.trans (congrArg some (by kernel_rfl))⟩
 f47 := Tryz.func182.trans (congrArg some (by kernel_rfl))
 f48 := Tryz.func183.trans (congrArg some (by kernel_rfl))
 f49 := ⟨Tryz.f184.name,by decide,Tryz.func184.trans (congrArg some (by kernel_rfl))⟩
 f50 := ⟨Tryz.f185.name,by decide,Tryz.func185.trans (congrArg some (by kernel_rfl))⟩
 f57 := ⟨Tryz.f186.name,by decide,Tryz.func186.trans (congrArg some (by kernel_rfl))⟩
 t0 := Tryz.underlying0
 a0 := Tryz.isAgg0
 z0 := Tryz.sizeOf0
 v0 := Tryz.zeroValue0
 t3 := Tryz.underlying3
 a3 := Tryz.isAgg3
 z3 := Tryz.sizeOf3
 v3 := Tryz.zeroValue3
 t4 := Tryz.underlying4
 a4 := Tryz.isAgg4
 z4 := Tryz.sizeOf4
 v4 := Tryz.zeroValue4
 t5 := Tryz.underlying5
 a5 := Tryz.isAgg5
 z5 := Tryz.sizeOf5
 v5 := Tryz.zeroValue5
 t9 := Tryz.underlying9
 a9 := Tryz.isAgg9
 z9 := Tryz.sizeOf9
 v9 := Tryz.zeroValue9
 t22 := Tryz.underlying38
 a22 := Tryz.isAgg38
 z22 := Tryz.sizeOf38
 v22 := Tryz.zeroValue38
 t25 := Tryz.underlying192
 a25 := Tryz.isAgg192
 z25 := Tryz.sizeOf192
 v25 := Tryz.zeroValue192
 t39 := Tryz.underlying193
 a39 := Tryz.isAgg193
 z39 := Tryz.sizeOf193
 v39 := Tryz.zeroValue193
 t45 := Tryz.underlying215
 a45 := Tryz.isAgg215
 z45 := Tryz.sizeOf215
 v45 := Tryz.zeroValue215
 t46 := Tryz.underlying216
 a46 := Tryz.isAgg216
 z46 := Tryz.sizeOf216
 v46 := Tryz.zeroValue216
 t50 := Tryz.underlying184
 a50 := Tryz.isAgg184
 z50 := Tryz.sizeOf184
 v50 := Tryz.zeroValue184
 t53 := Tryz.underlying205
 a53 := Tryz.isAgg205
 z53 := Tryz.sizeOf205
 v53 := Tryz.zeroValue205
 t55 := Tryz.underlying175
 a55 := Tryz.isAgg175
 z55 := Tryz.sizeOf175
 v55 := Tryz.zeroValue175
 t66 := Tryz.underlying223
 a66 := Tryz.isAgg223
 z66 := Tryz.sizeOf223
 v66 := Tryz.zeroValue223
 t70 := Tryz.underlying227
 a70 := Tryz.isAgg227
 z70 := Tryz.sizeOf227
 v70 := Tryz.zeroValue227
 t76 := Tryz.underlying229
 a76 := Tryz.isAgg229
 z76 := Tryz.sizeOf229
 v76 := Tryz.zeroValue229
 t77 := Tryz.underlying154
 a77 := Tryz.isAgg154
 z77 := Tryz.sizeOf154
 v77 := Tryz.zeroValue154 }
end Go.Proofs
namespace Go.Pb.Sag
open Go Go.Pb Go.Pb.Ware Go.RowKit

theorem cells_store {W : World} {B o : Nat} {u : Value} {vs : List Value} (h : CellsAt W B vs) : CellsAt (W.setCell ⟨B,o,none⟩ u) B (vs.set o u) := by
 intro j v hv
 by_cases hj : j = o
 ·subst hj
  have hl : j < vs.length := by have := (List.getElem?_eq_some_iff.1 hv).1;simpa using this
  rw [List.getElem?_set_self hl] at hv
  injection hv with hv
  subst hv
  have h1 := h j _ (List.getElem?_eq_getElem hl)
  exact ⟨setc_same h1.1,set_free h1.1 h1.2⟩
 ·rw [List.getElem?_set_ne (Ne.symm hj)] at hv
  have h1 := h j v hv
  exact ⟨setc_other h1.1 hj,set_free h1.1 h1.2⟩
theorem cells_grown {W W' : World} {B : Nat} {vs : List Value} {row : Option Nat} (h : CellsAt W B vs) (hg : W.grownBy W' row) (hne : some B ≠ row) : CellsAt W' B vs :=
 fun o v hv => ⟨grown_kept hg (h o v hv).1 hne,grown_free hg (h o v hv).1 (h o v hv).2 hne⟩
def Z9 : List Value := [.slice none 0 0, .slice none 0 0, .int .i64 0, .int .i64 0, .int .i64 0, .int .i64 0, .int .i64 0, .int .i64 0, .slice none 0 0]
structure MadeAt (TS TI B : Nat) (w : World) (args : List Value) (c : List Int) (sv iv : Value) (ss : List (List Int)) (xs : List It) (W : World) : Prop where
 below : Below B w W
 size : B + 1 + 1 + 1 ≤ W.heap.size
 arg : CellsAt W B args
 res : CellsAt W (B + 1) Z9
 floor : CellsAt W (B + 1 + 1) (sv :: .slice none 0 0 :: (c.map (Value.int .i64) ++ [iv]))
 clen : c.length = 6
 shapes : W.ownsRow (B + 1 + 1 + 1) TS 11 sv ss.length (ss.flatten.map (Value.int .i64))
 items : W.ownsRow (B + 1 + 1 + 1) TI 3 iv xs.length ((xs.map rowX).flatten.map (Value.int .i64))
theorem MadeAt.next {TS TI B : Nat} {w W W' : World} {args : List Value} {c : List Int} {sv iv : Value} {ss : List (List Int)} {xs : List It} (h : MadeAt TS TI B w args c sv iv ss xs W) (hb : Below W.heap.size W W') : MadeAt TS TI B w args c sv iv ss xs W' :=
 ⟨h.below.trans (hb.mono (by have := h.size;omega)),by have := hb.size;have := h.size;omega,h.arg.below hb,h.res.below hb,h.floor.below hb,h.clen,owns_below h.shapes hb,owns_below h.items hb⟩
theorem own_ne {W : World} {lo T s n b : Nat} {v : Value} {xs : List Value} (h : W.ownsRow lo T s v n xs) (hb : b < lo) : some b ≠ v.ownBlock := fun e => by
 have := own_ge h b e.symm;omega
theorem own_ne' {W : World} {lo T s n b : Nat} {v : Value} {xs : List Value} (h : W.ownsRow lo T s v n xs) (hb : b < lo) : v.ownBlock = none ∨ v.ownBlock ≠ some b := .inr fun e => own_ne h hb e.symm
theorem MadeAt.push {TS TI B : Nat} {w W W' : World} {args : List Value} {c : List Int} {sv sv' iv : Value} {ss : List (List Int)} {xs : List It} {r : List Int} (h : MadeAt TS TI B w args c sv iv ss xs W) (hT : TI ≠ TS) (hg : W.grownBy W' sv.ownBlock)
  (ho : W'.ownsRow (B + 1 + 1 + 1) TS 11 sv' (ss.length + 1) (ss.flatten.map (Value.int .i64) ++ r.map (Value.int .i64))) : MadeAt TS TI B w args c sv' iv (ss ++ [r]) xs (W'.setCell ⟨B + 1 + 1,0,none⟩ sv') := by
 have h0 := h.size
 have e1 : (ss ++ [r]).length = ss.length + 1 := by simp
 have e2 : (ss ++ [r]).flatten.map (Value.int .i64) = ss.flatten.map (Value.int .i64) ++ r.map (Value.int .i64) := by simp
 refine ⟨(below_grown h.below hg h.shapes (by omega) (by omega)).setCell (p := ⟨B + 1 + 1,0,none⟩) (by show B ≤ B + 1 + 1;omega) _,by have := hg.size;simp;omega,(cells_grown h.arg hg (own_ne h.shapes (by omega))).other (by omega) _,(cells_grown h.res hg (own_ne h.shapes (by omega))).other (by omega) _, ?_,h.clen, ?_, ?_⟩
 ·exact cells_store (cells_grown h.floor hg (own_ne h.shapes (by omega)))
 ·rw [e1,e2];exact set_own ho (own_ne' ho (by omega))
 ·exact set_own (h.items.kept hg (apart_types h.items h.shapes hT)) (own_ne' h.items (by omega))
theorem MadeAt.add {TS TI B : Nat} {w W W' : World} {args : List Value} {c : List Int} {sv iv iv' : Value} {ss : List (List Int)} {xs : List It} {x : It} (h : MadeAt TS TI B w args c sv iv ss xs W) (hT : TS ≠ TI) (hg : W.grownBy W' iv.ownBlock)
  (ho : W'.ownsRow (B + 1 + 1 + 1) TI 3 iv' (xs.length + 1) ((xs.map rowX).flatten.map (Value.int .i64) ++ (rowX x).map (Value.int .i64))) : MadeAt TS TI B w args c sv iv' ss (xs ++ [x]) (W'.setCell ⟨B + 1 + 1,8,none⟩ iv') := by
 have h0 := h.size
 have e1 : (xs ++ [x]).length = xs.length + 1 := by simp
 have e2 : ((xs ++ [x]).map rowX).flatten.map (Value.int .i64) = (xs.map rowX).flatten.map (Value.int .i64) ++ (rowX x).map (Value.int .i64) := by simp
 refine ⟨(below_grown h.below hg h.items (by omega) (by omega)).setCell (p := ⟨B + 1 + 1,8,none⟩) (by show B ≤ B + 1 + 1;omega) _,by have := hg.size;simp;omega,(cells_grown h.arg hg (own_ne h.items (by omega))).other (by omega) _,(cells_grown h.res hg (own_ne h.items (by omega))).other (by omega) _, ?_,h.clen, ?_, ?_⟩
 ·have h1 := cells_store (o := 8) (u := iv') (cells_grown h.floor hg (own_ne h.items (by omega)))
  match c,h.clen,h1 with
  | [c1,c2,c3,c4,c5,c6],_,h1 => exact h1
 ·exact set_own (h.shapes.kept hg (apart_types h.shapes h.items hT)) (own_ne' h.shapes (by omega))
 ·rw [e1,e2];exact set_own ho (own_ne' ho (by omega))
theorem own_set {W : World} {lo T n s cap g k : Nat} {xs : List Value} {v : Value} (h : W.ownsRow lo T s (.slice (some ⟨g,0,none⟩) n cap) n xs) : (W.setCell ⟨g,k,none⟩ v).ownsRow lo T s (.slice (some ⟨g,0,none⟩) n cap) n (xs.set k v) := by
 refine ⟨by rw [List.length_set];exact h.1, ?_⟩
 rcases h.2 with ⟨h1,_⟩ | ⟨g',cap',cur,h1,h2,h3,h4,h5,h6,h7⟩
 ·cases h1
 ·injection h1 with e1 _ e2
  injection e1 with e1
  injection e1 with e1
  subst e1;subst e2
  refine .inr ⟨g,cap,cur.setIfInBounds k v,rfl,h2, ?_,h4,h5,by rw [Array.size_setIfInBounds];exact h6, ?_⟩
  ·rw [Go.Sort.setCell_eq]
   unfold Go.Sort.mapBlock
   rw [Array.getElem?_modify,if_pos rfl,h3];rfl
  ·rw [Array.toList_setIfInBounds,List.take_set,h7]
theorem MadeAt.lt {TS TI B : Nat} {w W : World} {args : List Value} {c : List Int} {sv iv : Value} {ss : List (List Int)} {xs : List It} (h : MadeAt TS TI B w args c sv iv ss xs W) : (∀ a,sv.ownBlock = some a → a < W.heap.size) ∧ ∀ a,iv.ownBlock = some a → a < W.heap.size :=
 ⟨fun a e => (World.ownsRow.lt h.shapes a e).2,fun a e => (World.ownsRow.lt h.items a e).2⟩
end Go.Pb.Sag
namespace Go.Pb.Sag
open Go Go.Pb Go.Pb.Ware Go.RowKit


theorem shr_bit {m k : Nat} {b : Bool} (hand : ∀ a : Nat,a < 2 ^ 62 → bits .and .i64 (a : Int) ((1 : Nat) : Int) = ((a &&& 1 : Nat) : Int)) (hm : m < 2 ^ 62) (hb : m.testBit k = b) : bits .and .i64 ((m : Int) / 2 ^ k) 1 = if b = true then 1 else 0 := by
 have h1 : ((m : Int) / 2 ^ k) = ((m / 2 ^ k : Nat) : Int) := by rw [Int.natCast_ediv];simp
 have h2 := hand (m / 2 ^ k) (Nat.lt_of_le_of_lt (Nat.div_le_self _ _) hm)
 rw [h1]
 refine h2.trans ?_
 rw [Nat.testBit_eq_decide_div_mod_eq] at hb
 rw [Nat.and_one_is_mod, ← hb]
 by_cases h : m / 2 ^ k % 2 = 1
 ·rw [h];simp
 ·have h3 : m / 2 ^ k % 2 = 0 := by omega
  rw [h3];simp
def rowMix (fs : List Ft) (qs : List Sq) (W y i x0 : Nat) : List Int := (List.range W).map fun x => gridC fs qs y x (if x < x0 then i + 1 else i)
theorem rowMix_zero {fs : List Ft} {qs : List Sq} {W y i : Nat} : rowMix fs qs W y i 0 = gridRow fs qs W i y := by
 unfold rowMix gridRow;simp
theorem rowMix_all {fs : List Ft} {qs : List Sq} {W y i : Nat} : rowMix fs qs W y i W = gridRow fs qs W (i + 1) y := by
 unfold rowMix gridRow
 refine List.map_congr_left fun x hx => ?_
 rw [if_pos (List.mem_range.1 hx)]
theorem rowMix_len {fs : List Ft} {qs : List Sq} {W y i x0 : Nat} : (rowMix fs qs W y i x0).length = W := by unfold rowMix;simp
theorem rowMix_at {fs : List Ft} {qs : List Sq} {W y i x0 x : Nat} (h : x < W) : (rowMix fs qs W y i x0)[x]? = some (gridC fs qs y x (if x < x0 then i + 1 else i)) := by
 unfold rowMix;rw [List.getElem?_map,List.getElem?_range h];rfl
theorem rowMix_no {fs : List Ft} {qs : List Sq} {W y i x0 : Nat} (h : covK fs qs i y x0 = false) : rowMix fs qs W y i (x0 + 1) = rowMix fs qs W y i x0 := by
 unfold rowMix
 refine List.map_congr_left fun x hx => ?_
 by_cases e : x = x0
 ·subst e
  rw [if_pos (by omega),if_neg (by omega),gridC,h,if_neg (by simp)]
 ·by_cases e2 : x < x0
  ·rw [if_pos (by omega),if_pos e2]
  ·rw [if_neg (by omega),if_neg e2]
theorem rowMix_yes {fs : List Ft} {qs : List Sq} {W y i x0 : Nat} (h : covK fs qs i y x0 = true) : (rowMix fs qs W y i x0).set x0 ((i : Int) + 1) = rowMix fs qs W y i (x0 + 1) := by
 refine List.ext_getElem? fun x => ?_
 by_cases hx : x < W
 ·rw [List.getElem?_set,rowMix_at hx,rowMix_at hx]
  by_cases e : x0 = x
  ·subst e
   rw [if_pos rfl,if_pos (by rw [rowMix_len];exact hx),if_pos (by omega),gridC,h,if_pos rfl]
  ·rw [if_neg e]
   by_cases e2 : x < x0
   ·rw [if_pos e2,if_pos (by omega)]
   ·rw [if_neg e2,if_neg (by omega)]
 ·rw [List.getElem?_eq_none (by rw [List.length_set,rowMix_len];omega),List.getElem?_eq_none (by rw [rowMix_len];omega)]
theorem made_row {fs : List Ft} {qs : List Sq} {n y : Nat} : (madeCells (Value.int .i64 0).cells (n * 1)).toList = (gridRow fs qs n 0 y).map (Value.int .i64) := by
 unfold madeCells gridRow gridC
 rw [Nat.mul_one]
 refine List.ext_getElem? fun k => ?_
 rw [List.map_map,List.getElem?_map,Array.getElem?_toList,Array.getElem?_map]
 by_cases hk : k < n
 ·rw [List.getElem?_range hk,Array.getElem?_range,if_pos hk]
  show some (#[Value.int .i64 0] : Array Value)[k % 1]! = _
  rw [Nat.mod_one];rfl
 ·rw [List.getElem?_eq_none (by simpa using hk),Array.getElem?_range,if_neg hk];rfl
def RowsG (lo hi TQ TI : Nat) (v : Value) (rows : List (List Int)) (W : World) : Prop := ∃ us : List Value,W.ownsRow lo TQ 1 v rows.length us ∧ ∀ (k : Nat) (u : Value) (g : List Int),us[k]? = some u → rows[k]? = some g → W.ownsRow lo TI 1 u g.length (g.map (Value.int .i64)) ∧ ∀ b,u.ownBlock = some b → b < hi
theorem RowsG.below {lo hi TQ TI : Nat} {v : Value} {rows : List (List Int)} {W W' : World} (h : RowsG lo hi TQ TI v rows W) (hb : Below W.heap.size W W') : RowsG lo hi TQ TI v rows W' := by
 obtain ⟨us,h1,h2⟩ := h
 exact ⟨us,owns_below h1 hb,fun k u q h3 h4 => ⟨owns_below (h2 k u q h3 h4).1 hb,(h2 k u q h3 h4).2⟩⟩
theorem RowsG.nil {lo hi TQ TI : Nat} {W : World} : RowsG lo hi TQ TI (.slice none 0 0) [] W := ⟨[],World.ownsRow_nil _ _ _ _,fun k u q h => by simp at h⟩
theorem RowsG.set {lo hi TQ TI b x n cap : Nat} (hT : TQ ≠ TI) {v u : Value} {rows : List (List Int)} {xs : List Value} {W : World} (h : RowsG lo hi TQ TI v rows W) (hb : hi ≤ b) (ho : W.ownsRow lo TI 1 (.slice (some ⟨b,0,none⟩) n cap) n xs) : RowsG lo hi TQ TI v rows (W.setCell ⟨b,x,none⟩ u) := by
 obtain ⟨us,h1,h2⟩ := h
 have hg := grown_set (Below.refl W.heap.size W) b x u
 refine ⟨us,h1.kept hg (apart_types h1 ho hT),fun k u q h3 h4 => ⟨(h2 k u q h3 h4).1.kept hg ?_,(h2 k u q h3 h4).2⟩⟩
 by_cases e : u.ownBlock = some b
 ·exact absurd ((h2 k u q h3 h4).2 b e) (by omega)
 ·exact .inr e
theorem RowsG.push {lo hi hi2 TQ TI : Nat} (hT : TQ ≠ TI) {v v' u : Value} {rows : List (List Int)} {g : List Int} {us : List Value} {W w3 : World} (ho : W.ownsRow lo TQ 1 v rows.length us)
  (hr : ∀ (k : Nat) (u : Value) (g : List Int),us[k]? = some u → rows[k]? = some g → W.ownsRow lo TI 1 u g.length (g.map (Value.int .i64)) ∧ ∀ b,u.ownBlock = some b → b < hi) (hh : hi ≤ hi2)
  (hu : W.ownsRow lo TI 1 u g.length (g.map (Value.int .i64))) (hub : ∀ b,u.ownBlock = some b → b < hi2) (hg : W.grownBy w3 v.ownBlock) (ho3 : w3.ownsRow lo TQ 1 v' (rows.length + 1) (us ++ [u])) : RowsG lo hi2 TQ TI v' (rows ++ [g]) w3 := by
 have hul : us.length = rows.length := by have := ho.1;omega
 refine ⟨us ++ [u],by rw [List.length_append];exact ho3,fun k x q hx hq => ?_⟩
 rcases Nat.lt_or_ge k rows.length with h | h
 ·rw [List.getElem?_append_left (by omega)] at hx
  rw [List.getElem?_append_left h] at hq
  exact ⟨(hr k x q hx hq).1.kept hg (apart_types (hr k x q hx hq).1 ho (Ne.symm hT)),fun b e => Nat.lt_of_lt_of_le ((hr k x q hx hq).2 b e) hh⟩
 ·rw [List.getElem?_append_right (by omega),hul] at hx
  rw [List.getElem?_append_right h] at hq
  have hk : k - rows.length = 0 := by
   have := (List.getElem?_eq_some_iff.1 hq).1
   simp at this;omega
  rw [hk] at hx hq
  injection hx with hx
  injection hq with hq
  subst hx;subst hq
  exact ⟨hu.kept hg (apart_types hu ho (Ne.symm hT)),hub⟩
end Go.Pb.Sag
namespace Go.Pb

open Go Go.RowKit
def chainL (cs ds : List Nat) (L0 : Array Bool) (x y : Nat) : Array Bool := mark (ds.take y) (mark (cs.take x) L0)
def chainsB (md : Region.Mode) (ops : Array Oper) (cs ds : List Nat) (L0 : Array Bool) : Bool :=
 (List.range (cs.length + 1)).all fun x => (List.range (ds.length + 1)).all fun y =>
  (x == cs.length && y == ds.length) ||
   (!(Region.ready md ops (chainL cs ds L0 x y)).isEmpty && (Region.ready md ops (chainL cs ds L0 x y)).all fun i =>
    (cs[x]? == some i && (chainL cs ds L0 x y).setIfInBounds i true == chainL cs ds L0 (x + 1) y) || (ds[y]? == some i && (chainL cs ds L0 x y).setIfInBounds i true == chainL cs ds L0 x (y + 1)))
theorem chains_spec {md : Region.Mode} {ops : Array Oper} {cs ds : List Nat} {L0 : Array Bool} (h : chainsB md ops cs ds L0 = true) {x y : Nat} (hx : x ≤ cs.length) (hy : y ≤ ds.length) (hn : ¬ (x = cs.length ∧ y = ds.length)) :
  Region.ready md ops (chainL cs ds L0 x y) ≠ [] ∧ ∀ i ∈ Region.ready md ops (chainL cs ds L0 x y),(cs[x]? = some i ∧ (chainL cs ds L0 x y).setIfInBounds i true = chainL cs ds L0 (x + 1) y) ∨ (ds[y]? = some i ∧ (chainL cs ds L0 x y).setIfInBounds i true = chainL cs ds L0 x (y + 1)) := by
 have h1 := List.all_eq_true.1 (List.all_eq_true.1 h x (List.mem_range.2 (by omega))) y (List.mem_range.2 (by omega))
 rw [Bool.or_eq_true,Bool.and_eq_true,Bool.and_eq_true,beq_iff_eq,beq_iff_eq] at h1
 rcases h1 with h1 | ⟨h1,h2⟩
 ·exact absurd h1 hn
 ·refine ⟨fun e => by rw [e] at h1;simp at h1,fun i hi => ?_⟩
  have h3 := List.all_eq_true.1 h2 i hi
  rw [Bool.or_eq_true,Bool.and_eq_true,Bool.and_eq_true,beq_iff_eq,beq_iff_eq,beq_iff_eq,beq_iff_eq] at h3
  exact h3
theorem wpAny_chains {P : Program} {md : Region.Mode} {ops : Array Oper} {Q : Exit → Act → World → Prop} {cs ds : List Nat} {L0 : Array Bool} {n : Nat} {S : Nat → Nat → Act → World → Prop} (hB : chainsB md ops cs ds L0 = true)
  (h1 : ∀ x i,cs[x]? = some i → ∀ y a w,S x y a w → wpOp P ops Q i (S (x + 1) y) a w) (h2 : ∀ y i,ds[y]? = some i → ∀ x a w,S x y a w → wpOp P ops Q i (S x (y + 1)) a w)
  (hend : ∀ a w,S cs.length ds.length a w → wpAny P md ops Q n (chainL cs ds L0 cs.length ds.length) a w) :
  ∀ (m x y : Nat) (a : Act) (w : World),x ≤ cs.length → y ≤ ds.length → (cs.length - x) + (ds.length - y) = m → S x y a w → wpAny P md ops Q (m + n) (chainL cs ds L0 x y) a w := by
 intro m
 induction m with
 | zero =>
  intro x y a w hx hy hm hS
  obtain rfl : x = cs.length := by omega
  obtain rfl : y = ds.length := by omega
  rw [Nat.zero_add]
  exact hend a w hS
 | succ m ih =>
  intro x y a w hx hy hm hS
  obtain ⟨hne,hall⟩ := chains_spec hB hx hy (by omega)
  rw [show m + 1 + n = m + n + 1 by omega]
  refine ⟨fun e => absurd e hne,fun i hi => ?_⟩
  rcases hall i hi with ⟨hi2,he⟩ | ⟨hi2,he⟩
  ·have hlt := (List.getElem?_eq_some_iff.1 hi2).1
   rw [he]
   exact wpOp_mono (fun a' w' hS' => ih (x + 1) y a' w' hlt hy (by omega) hS') (h1 x i hi2 y a w hS)
  ·have hlt := (List.getElem?_eq_some_iff.1 hi2).1
   rw [he]
   exact wpOp_mono (fun a' w' hS' => ih x (y + 1) a' w' hx hlt (by omega) hS') (h2 y i hi2 x a w hS)
theorem chainL_zero {cs ds : List Nat} {L0 : Array Bool} : chainL cs ds L0 0 0 = L0 := rfl
theorem wp_region_chains {P : Program} {id : Nat} {Q : Exit → Act → World → Prop} {a : Act} {w : World} {l : List Oper} (fs cs ds : List Nat) (n : Nat) (S : Nat → Nat → Act → World → Prop)
  (hF : (Region.noSelect l.toArray && firstB .any l.toArray fs (Array.replicate l.length false)) = true) (hm : P.follows .mixedOrders = true)
  (hn : fs.length + (cs.length + ds.length + n) = l.length) (hB : chainsB .any l.toArray cs ds (mark fs (Array.replicate l.length false)) = true)
  (h : wpFirst P l.toArray fs (fun a => S 0 0 a w.drew) a)
  (h1 : ∀ x i,cs[x]? = some i → ∀ y a w,S x y a w → wpOp P l.toArray (Only Q) i (S (x + 1) y) a w) (h2 : ∀ y i,ds[y]? = some i → ∀ x a w,S x y a w → wpOp P l.toArray (Only Q) i (S x (y + 1)) a w)
  (hend : ∀ a w,S cs.length ds.length a w → wpAny P .any l.toArray (Only Q) n (chainL cs ds (mark fs (Array.replicate l.length false)) cs.length ds.length) a w) :
  (Code.region id l.toArray true).wp P Q a w := by
 simp only [Bool.and_eq_true] at hF
 refine wp_region_any hm (wpAny_only ?_)
 have h3 := wpFirst_any (P := P) (Q := Q) (md := .any) hF.1 (w := w.drew) (n := cs.length + ds.length + n) fs (Array.replicate l.length false) a hF.2 (fun a h => ?_) h
 ·rw [hn] at h3
  simpa using h3
 ·have h4 := wpAny_chains (Q := Only Q) hB h1 h2 hend (cs.length + ds.length) 0 0 a w.drew (Nat.zero_le _) (Nat.zero_le _) (by omega) h
  rwa [chainL_zero] at h4
end Go.Pb