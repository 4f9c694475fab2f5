/- Part of a claim. -/
import Derived.Test.YtodmidchpbcnpaaGreatKSdX
import Derived.Laws.CopyOwn
import Derived.Test.YtodmidchpbcnpaaGreatKLibX
import Derived.Shelf.Small.Bits
import Derived.Shelf.SlSortCmp.SmallK
import Derived.Ground.SlsfProg
import Derived.Test.YtodmidchpbcnpaaGreatProg
set_option linter.unusedVariables false
set_option linter.unusedSimpArgs false
namespace Go.Pb.Sag
open Go Go.Pb Go.Pb.Ware Go.RowKit

def RowsIn (lo T : Nat) (W : World) (vs : List Value) (gs : List (List Int)) : Prop := ∀ (k : Nat) (v : Value) (g : List Int),vs[k]? = some v → gs[k]? = some g → W.ownsRow lo T 1 v g.length (g.map (Value.int .i64))
def PutAt (G TO TI : Nat) (gs : List (List Int)) (W : World) : Prop := ∃ (gv : Value) (vs : List Value),(W.cell? ⟨G,8,none⟩ = some gv ∧ W.frozen? ⟨G,8,none⟩ = false) ∧ W.ownsRow (G + 1) TO 1 gv gs.length vs ∧ RowsIn (G + 1) TI W vs gs
theorem PutAt.next {G TO TI : Nat} {gs : List (List Int)} {W W' : World} (h : PutAt G TO TI gs W) (hb : Below W.heap.size W W') : PutAt G TO TI gs W' := by
 obtain ⟨gv,vs,⟨c1,c2⟩,ho,hr⟩ := h
 exact ⟨gv,vs,⟨bkeep hb c1,bfree hb c1 c2⟩,owns_below ho hb,fun k v g h1 h2 => owns_below (hr k v g h1 h2) hb⟩
theorem own_ge {W : World} {lo T s n : Nat} {v : Value} {xs : List Value} (h : W.ownsRow lo T s v n xs) : ∀ b,v.ownBlock = some b → lo ≤ b := fun b e => (World.ownsRow.lt h b e).1
theorem set_own {W : World} {lo T s n B o : Nat} {v u : Value} {xs : List Value} (h : W.ownsRow lo T s v n xs) (hne : v.ownBlock = none ∨ v.ownBlock ≠ some B) : (W.setCell ⟨B,o,none⟩ u).ownsRow lo T s v n xs := h.kept (grown_setc W ⟨B,o,none⟩ u) hne
theorem PutAt.push {G TO TI i k : Nat} (hT : TO ≠ TI) {gs : List (List Int)} {g : List Int} {W w2 w3 : World} {v v' : Value} {vs : List Value} {gb cap : Nat} (hG : Good i gs) (hg : gs[k]? = some g) (hv : vs[k]? = some v)
  (c8 : W.cell? ⟨G,8,none⟩ = some (.slice (some ⟨gb,0,none⟩) gs.length cap) ∧ W.frozen? ⟨G,8,none⟩ = false) (ho : W.ownsRow (G + 1) TO 1 (.slice (some ⟨gb,0,none⟩) gs.length cap) gs.length vs) (hr : RowsIn (G + 1) TI W vs gs)
  (hb : Below W.heap.size W w2) (hg3 : w2.grownBy w3 v.ownBlock) (ho3 : w3.ownsRow (G + 1) TI 1 v' (g.length + 1) (g.map (Value.int .i64) ++ [.int .i64 (i : Int)])) :
  (w3.cell? ⟨gb,k,none⟩ = some v ∧ w3.frozen? ⟨gb,k,none⟩ = false) ∧ PutAt G TO TI (gs.set k (g ++ [(i : Int)])) (w3.setCell ⟨gb,k,none⟩ v') ∧ Below (G + 1) W (w3.setCell ⟨gb,k,none⟩ v') := by
 have hk : k < gs.length := (List.getElem?_eq_some_iff.1 hg).1
 have hGW : G < W.heap.size := World.block_lt_of_cell? W _ c8.1
 have hrow := hr k v g hv hg
 have ho2 := owns_below ho hb
 have hrow2 := owns_below hrow hb
 have hgb : G + 1 ≤ gb := own_ge ho gb rfl
 have a1 : (Value.slice (some ⟨gb,0,none⟩) gs.length cap).ownBlock = none ∨ (Value.slice (some ⟨gb,0,none⟩) gs.length cap).ownBlock ≠ v.ownBlock := apart_types ho2 hrow2 hT
 have ho4 : w3.ownsRow (G + 1) TO 1 (.slice (some ⟨gb,0,none⟩) gs.length cap) gs.length vs := ho2.kept hg3 a1
 have hlo : ∀ r,v.ownBlock = some r → G + 1 ≤ r := own_ge hrow
 have hbw : Below (G + 1) W w3 := (hb.mono (by omega)).grown hg3 (by have := hb.size;omega) hlo
 have a2 : some gb ≠ v.ownBlock := by rcases a1 with h | h;cases h;exact h
 have hcell : w3.cell? ⟨gb,k,none⟩ = some v := by
  have h1 := ho4.cells (g := gb) rfl k v hv
  rw [Go.WideShapes.add_plain,Nat.zero_add] at h1
  exact h1
 refine ⟨⟨hcell,owns_frozen ho4 rfl k⟩,⟨.slice (some ⟨gb,0,none⟩) gs.length cap,vs.set k v',⟨?_, ?_⟩, ?_, ?_⟩,hbw.setCell (p := ⟨gb,k,none⟩) hgb v'⟩
 ·exact setc_block ((hbw.cell (p := ⟨G,8,none⟩) (by simp)).trans c8.1) (by omega)
 ·exact set_free ((hbw.cell (p := ⟨G,8,none⟩) (by simp)).trans c8.1) ((hbw.frozen (p := ⟨G,8,none⟩) (by simp)).trans c8.2)
 ·rw [List.length_set];exact row_set ho4 hk
 ·intro j u g' hu hg'
  have hts : ∀ {u : Value} {n : Nat} {xs : List Value},w3.ownsRow (G + 1) TI 1 u n xs → u.ownBlock = none ∨ u.ownBlock ≠ some gb := fun h => apart_types h ho4 (Ne.symm hT)
  by_cases e : j = k
  ·subst e
   have hvl : j < vs.length := (List.getElem?_eq_some_iff.1 hv).1
   rw [List.getElem?_set_self hvl] at hu
   rw [List.getElem?_set_self hk] at hg'
   obtain rfl : v' = u := by simpa using hu
   obtain rfl : g ++ [(i : Int)] = g' := by simpa using hg'
   have h1 := set_own (o := j) (u := v') ho3 (hts ho3)
   simpa using h1
  ·rw [List.getElem?_set_ne (Ne.symm e)] at hu hg'
   have hj := hr j u g' hu hg'
   obtain ⟨x,hx⟩ := hG.one j g' hg'
   obtain ⟨y,hy⟩ := hG.one k g hg
   have hxy := hG.apart j k g' g x y e hg' hg hx hy
   have h1 : (g'.map (Value.int .i64))[0]? = some (.int .i64 x) := by rw [List.getElem?_map,hx];rfl
   have h2 : (g.map (Value.int .i64))[0]? = some (.int .i64 y) := by rw [List.getElem?_map,hy];rfl
   have h3 := (owns_below hj hb).kept hg3 (apart_heads (owns_below hj hb) hrow2 h1 h2 (fun h => hxy (by injection h)))
   exact set_own h3 (hts h3)
theorem PutAt.pop {G TO TI i k : Nat} (hT : TO ≠ TI) {gs : List (List Int)} {g : List Int} {W : World} {gb gcap b cap n : Nat} {vs : List Value} (hgs : gs[k]? = some g) (hn : gs.length = n)
  (c8 : W.cell? ⟨G,8,none⟩ = some (.slice (some ⟨gb,0,none⟩) n gcap) ∧ W.frozen? ⟨G,8,none⟩ = false) (ho : W.ownsRow (G + 1) TO 1 (.slice (some ⟨gb,0,none⟩) n gcap) n vs) (hr : RowsIn (G + 1) TI W vs (gs.set k (g ++ [(i : Int)])))
  (hv : vs[k]? = some (.slice (some ⟨b,0,none⟩) (g.length + 1) cap)) :
  PutAt G TO TI gs (W.setCell ⟨gb,k,none⟩ (.slice (some ⟨b,0,none⟩) g.length cap)) ∧ Below (G + 1) W (W.setCell ⟨gb,k,none⟩ (.slice (some ⟨b,0,none⟩) g.length cap)) := by
 subst hn
 have hk : k < gs.length := (List.getElem?_eq_some_iff.1 hgs).1
 have hgb : G + 1 ≤ gb := own_ge ho gb rfl
 have hts : ∀ {u : Value} {n : Nat} {xs : List Value},W.ownsRow (G + 1) TI 1 u n xs → u.ownBlock = none ∨ u.ownBlock ≠ some gb := fun h => apart_types h ho (Ne.symm hT)
 refine ⟨⟨.slice (some ⟨gb,0,none⟩) gs.length gcap,vs.set k (.slice (some ⟨b,0,none⟩) g.length cap),⟨setc_block c8.1 (by omega),set_free c8.1 c8.2⟩,row_set ho hk, ?_⟩,(Below.refl _ _).setCell (p := ⟨gb,k,none⟩) hgb _⟩
 intro j u g' hu hg'
 by_cases e : j = k
 ·subst e
  have hvl : j < vs.length := (List.getElem?_eq_some_iff.1 hv).1
  rw [List.getElem?_set_self hvl] at hu
  rw [hgs] at hg'
  obtain rfl : Value.slice (some ⟨b,0,none⟩) g.length cap = u := by simpa using hu
  obtain rfl : g = g' := by simpa using hg'
  have h1 := hr j _ _ hv (List.getElem?_set_self hk)
  rw [List.length_append,List.length_singleton] at h1
  have h2 := row_take (m := g.length) h1 (by omega)
  rw [List.map_append,List.take_append_of_le_length (by simp),List.take_of_length_le (by simp)] at h2
  exact set_own h2 (hts h2)
 ·rw [List.getElem?_set_ne (Ne.symm e)] at hu
  have h1 := hr j u g' hu (by rw [List.getElem?_set_ne (Ne.symm e)];exact hg')
  exact set_own h1 (hts h1)
theorem PutAt.grow {G TO TI i n : Nat} (hT : TO ≠ TI) {gs : List (List Int)} {W w3 : World} {gv gv' : Value} {vs : List Value} (hG : Good i gs) (hn : gs.length = n)
  (c8 : W.cell? ⟨G,8,none⟩ = some gv ∧ W.frozen? ⟨G,8,none⟩ = false) (ho : W.ownsRow (G + 1) TO 1 gv n vs) (hr : RowsIn (G + 1) TI W vs gs)
  (hg3 : ((W.alloc (.cells #[.int .i64 (i : Int)] TI)).alloc (.cells #[.slice (some ⟨W.heap.size,0,none⟩) 1 1] TO)).grownBy w3 gv.ownBlock) (ho3 : w3.ownsRow (G + 1) TO 1 gv' (n + 1) (vs ++ [.slice (some ⟨W.heap.size,0,none⟩) 1 1])) :
  (w3.cell? ⟨G,8,none⟩ = some gv ∧ w3.frozen? ⟨G,8,none⟩ = false) ∧ PutAt G TO TI (gs ++ [[(i : Int)]]) (w3.setCell ⟨G,8,none⟩ gv') ∧ Below (G + 1) W w3 := by
 subst hn
 have hGW : G < W.heap.size := World.block_lt_of_cell? W _ c8.1
 have hb : Below W.heap.size W ((W.alloc (.cells #[.int .i64 (i : Int)] TI)).alloc (.cells #[.slice (some ⟨W.heap.size,0,none⟩) 1 1] TO)) := ((Below.refl _ W).alloc (Nat.le_refl _) _).alloc (by simp) _
 have hbw : Below (G + 1) W w3 := (hb.mono (by omega)).grown hg3 (by simp;omega) (own_ge ho)
 have hG8 : w3.cell? ⟨G,8,none⟩ = some gv ∧ w3.frozen? ⟨G,8,none⟩ = false := ⟨(hbw.cell (p := ⟨G,8,none⟩) (by simp)).trans c8.1,(hbw.frozen (p := ⟨G,8,none⟩) (by simp)).trans c8.2⟩
 have far : ∀ {T n : Nat} {v : Value} {xs : List Value},w3.ownsRow (G + 1) T 1 v n xs → v.ownBlock = none ∨ v.ownBlock ≠ some G := fun h => .inr fun e => by have := own_ge h G e;omega
 have hvl : vs.length = gs.length := by have := ho.1;omega
 refine ⟨hG8,⟨gv',vs ++ [.slice (some ⟨W.heap.size,0,none⟩) 1 1],⟨setc_same hG8.1,set_free hG8.1 hG8.2⟩, ?_, ?_⟩,hbw⟩
 ·rw [List.length_append,List.length_singleton];exact set_own ho3 (far ho3)
 ·intro k v g hv hg
  rcases Nat.lt_or_ge k gs.length with h1 | h1
  ·rw [List.getElem?_append_left (by omega)] at hv
   rw [List.getElem?_append_left h1] at hg
   have h2 := owns_below (hr k v g hv hg) hb
   have h3 := h2.kept hg3 (apart_types h2 (owns_below ho hb) (Ne.symm hT))
   exact set_own h3 (far h3)
  ·rw [List.getElem?_append_right (by omega),hvl] at hv
   rw [List.getElem?_append_right h1] at hg
   have h4 := (List.getElem?_eq_some_iff.1 hg).1
   simp at h4
   have e : k = gs.length := by omega
   subst e
   simp at hv hg
   subst hv;subst hg
   have h2 : ((W.alloc (.cells #[.int .i64 (i : Int)] TI)).alloc (.cells #[.slice (some ⟨W.heap.size,0,none⟩) 1 1] TO)).ownsRow (G + 1) TI 1 (.slice (some ⟨W.heap.size,0,none⟩) 1 1) 1 [.int .i64 (i : Int)] := by
    refine ⟨rfl, .inr ⟨W.heap.size,1,#[.int .i64 (i : Int)],rfl,by omega, ?_,Nat.le_refl _,by unfold maxLen;omega,rfl,rfl⟩⟩
    rw [Below.heap_alloc _ _ _ (by simp)]
    exact World.alloc_heap_new W _
   have h3 := h2.kept hg3 (apart_types h2 (owns_below ho hb) (Ne.symm hT))
   exact set_own h3 (far h3)
theorem PutAt.shrink {G TO TI n gb cap : Nat} {gs : List (List Int)} {g : List Int} {W : World} {vs : List Value} (hn : gs.length = n)
  (c8 : W.cell? ⟨G,8,none⟩ = some (.slice (some ⟨gb,0,none⟩) (n + 1) cap) ∧ W.frozen? ⟨G,8,none⟩ = false) (ho : W.ownsRow (G + 1) TO 1 (.slice (some ⟨gb,0,none⟩) (n + 1) cap) (n + 1) vs) (hr : RowsIn (G + 1) TI W vs (gs ++ [g])) :
  PutAt G TO TI gs (W.setCell ⟨G,8,none⟩ (.slice (some ⟨gb,0,none⟩) n cap)) := by
 subst hn
 have far : ∀ {T n : Nat} {v : Value} {xs : List Value},W.ownsRow (G + 1) T 1 v n xs → v.ownBlock = none ∨ v.ownBlock ≠ some G := fun h => .inr fun e => by have := own_ge h G e;omega
 have h1 := row_take (m := gs.length) ho (by omega)
 refine ⟨.slice (some ⟨gb,0,none⟩) gs.length cap,vs.take gs.length,⟨setc_same c8.1,set_free c8.1 c8.2⟩,set_own h1 (far h1), ?_⟩
 intro k v g' hv hg
 have hk : k < gs.length := (List.getElem?_eq_some_iff.1 hg).1
 rw [List.getElem?_take,if_pos hk] at hv
 have h2 := hr k v g' hv (by rw [List.getElem?_append_left hk];exact hg)
 exact set_own h2 (far h2)
def GAt (G : Nat) (gc : List Value) (W : World) : Prop := ∀ o u,gc[o]? = some u → W.cell? ⟨G,o,none⟩ = some u ∧ W.frozen? ⟨G,o,none⟩ = false
theorem GAt.below {G : Nat} {gc : List Value} {W W' : World} (h : GAt G gc W) (hb : Below (G + 1) W W') : GAt G gc W' := fun o u hu => ⟨(hb.cell (p := ⟨G,o,none⟩) (by simp)).trans (h o u hu).1,(hb.frozen (p := ⟨G,o,none⟩) (by simp)).trans (h o u hu).2⟩
theorem GAt.set {G : Nat} {gc : List Value} {W : World} {v : Value} (h : GAt G gc W) (hl : gc.length ≤ 8) : GAt G gc (W.setCell ⟨G,8,none⟩ v) := fun o u hu => ⟨setc_other (h o u hu).1 (by have := (List.getElem?_eq_some_iff.1 hu).1;omega),set_free (h o u hu).1 (h o u hu).2⟩
theorem own_some {W : World} {lo T s n : Nat} {v : Value} {xs : List Value} (h : W.ownsRow lo T s v n xs) (hn : 0 < n) : ∃ g cap,v = .slice (some ⟨g,0,none⟩) n cap ∧ n ≤ cap ∧ cap ≤ 9223372036854775807 := by
 rcases h.2 with ⟨_,h0⟩ | ⟨g,cap,_,rfl,_,_,h4,h5,_⟩
 ·omega
 ·exact ⟨g,cap,rfl,h4,by unfold maxLen at h5;omega⟩
end Go.Pb.Sag
namespace Go.Pb.Sag
open Go Go.Pb Go.Pb.Ware Go.RowKit

theorem copy_owns {w : World} {lo T B m : Nat} {cur : Array Value} {cs : List Value} (hg : w.heap[B]? = some (.cells cur T (0,0))) (hlo : lo ≤ B) (hs : cur.size = m) (hm : m ≤ maxLen) (hc : cs.length = m) :
  (w.setRow B (cur.toList.take 0 ++ (cs ++ cur.toList.drop (0 + cs.length))).toArray).ownsRow lo T 1 (.slice (some ⟨B,0,none⟩) m m) m cs := by
 have e : cur.toList.take 0 ++ (cs ++ cur.toList.drop (0 + cs.length)) = cs := by
  rw [List.take_zero,List.nil_append,Nat.zero_add,List.drop_of_length_le (by rw [Array.length_toList];omega),List.append_nil]
 rw [e]
 refine ⟨by omega, .inr ⟨B,m,cs.toArray,rfl,hlo,setRow_heap w B cur _ T (0,0) hg,Nat.le_refl _,hm,by simp;omega, ?_⟩⟩
 rw [Nat.mul_one,List.take_of_length_le (by simp;omega)]
def groupsF (s : Bx) (fs : List Ft) : Option (List (List Int)) := (List.range (fs.length + 1)).findSome? fun m => putF s fs m fs.length 0 []
def groupsA (ss bs : List (List Int)) (s : Bx) (xs : List It) : List (List Int) × Int :=
 if ckL ss bs s xs = 0 then (if (feetV ss bs s xs).all (fun f => fitsB s [f]) = true then ((groupsF s (feetV ss bs s xs)).getD [],0) else ([],24)) else ([],ckL ss bs s xs)
theorem find_some {α : Type} {f : Nat → Option α} {n : Nat} {r : α} (h : (List.range n).findSome? f = some r) : ∃ k,k < n ∧ f k = some r := by
 obtain ⟨k,hk,h2⟩ := List.exists_of_findSome?_eq_some h
 exact ⟨k,List.mem_range.1 hk,h2⟩
end Go.Pb.Sag
namespace Go.Pb.Sag
open Go Go.Pb Go.Pb.Ware Go.RowKit

def putG (does : List Int → Bool) (most : Nat) : Nat → Nat → List (List Int) → Option (List (List Int))
 | 0,_,gs => some gs
 | d + 1,i,gs =>
  match (List.range gs.length).findSome? (fun k => if does (gs.getD k [] ++ [(i : Int)]) = true then putG does most d (i + 1) (gs.set k (gs.getD k [] ++ [(i : Int)])) else none) with
  | some r => some r
  | none => if gs.length = most then none else (if does [(i : Int)] = true then putG does most d (i + 1) (gs ++ [[(i : Int)]]) else none)
def tryG (does : List Int → Bool) (most d i : Nat) (gs : List (List Int)) (k : Nat) : Option (List (List Int)) := if does (gs.getD k [] ++ [(i : Int)]) = true then putG does most d (i + 1) (gs.set k (gs.getD k [] ++ [(i : Int)])) else none
theorem tryG_last (does : List Int → Bool) (most d i : Nat) (gs : List (List Int)) : tryG does most d i (gs ++ [[]]) gs.length = if does [(i : Int)] = true then putG does most d (i + 1) (gs ++ [[(i : Int)]]) else none := by
 unfold tryG
 rw [List.getD_eq_getElem?_getD,List.getElem?_append_right (Nat.le_refl _),Nat.sub_self,List.set_append_right _ _ (Nat.le_refl _),Nat.sub_self]
 rfl
theorem putG_succ (does : List Int → Bool) (most d i : Nat) (gs : List (List Int)) : putG does most (d + 1) i gs = match (List.range gs.length).findSome? (tryG does most d i gs) with
  | some r => some r
  | none => if gs.length = most then none else tryG does most d i (gs ++ [[]]) gs.length := by rw [tryG_last,putG];rfl
theorem putG_F {s : Bx} {fs : List Ft} {most : Nat} : ∀ (d i : Nat) (gs : List (List Int)),(∀ j,i ≤ j → j < i + d → fitsB s (chosenL fs [(j : Int)]) = true) → putG (fun g => fitsB s (chosenL fs g)) most d i gs = putF s fs most d i gs
 | 0,i,gs,_ => by rw [putG,putF]
 | d + 1,i,gs,h => by
  have ih : ∀ gs,putG (fun g => fitsB s (chosenL fs g)) most d (i + 1) gs = putF s fs most d (i + 1) gs := fun gs => putG_F d (i + 1) gs fun j h1 h2 => h j (by omega) (by omega)
  rw [putG,putF]
  simp only [ih,h i (Nat.le_refl _) (by omega),if_true]
  try (generalize (List.range gs.length).findSome? _ = r;cases r <;> rfl)
theorem putG_some {does : List Int → Bool} {most : Nat} : ∀ (d i : Nat) (gs : List (List Int)),(∀ j,i ≤ j → j < i + d → does [(j : Int)] = true) → i + d ≤ most → gs.length ≤ i → ∃ r,putG does most d i gs = some r
 | 0,i,gs,_,_,_ => ⟨gs,rfl⟩
 | d + 1,i,gs,h,h1,h2 => by
  rw [putG_succ]
  cases hf : (List.range gs.length).findSome? (tryG does most d i gs) with
  | some r => exact ⟨r,rfl⟩
  | none =>
   dsimp only
   rw [if_neg (by omega),tryG_last,if_pos (h i (Nat.le_refl _) (by omega))]
   exact putG_some d (i + 1) _ (fun j h3 h4 => h j (by omega) (by omega)) (by omega) (by rw [List.length_append,List.length_singleton];omega)
def GoodR (i : Nat) (gs : List (List Int)) : Prop := Good i gs ∧ ∀ g ∈ gs,g.Pairwise (· < ·)
theorem GoodR.nil : GoodR 0 [] := ⟨Good.nil,fun g h => by cases h⟩
theorem rise_snoc {i : Nat} {g : List Int} (h : g.Pairwise (· < ·)) (hl : ∀ z ∈ g,0 ≤ z ∧ z < (i : Int)) : (g ++ [(i : Int)]).Pairwise (· < ·) := by
 rw [List.pairwise_append]
 exact ⟨h,List.pairwise_singleton _ _,fun a ha b hb => by rw [List.mem_singleton.1 hb];exact (hl a ha).2⟩
theorem GoodR.push {i k : Nat} {gs : List (List Int)} {g : List Int} (h : GoodR i gs) (hg : gs[k]? = some g) : GoodR (i + 1) (gs.set k (g ++ [(i : Int)])) := by
 refine ⟨h.1.push hg,fun g' hm => ?_⟩
 have hgm := List.mem_of_getElem? hg
 rcases List.mem_or_eq_of_mem_set hm with h1 | rfl
 ·exact h.2 g' h1
 ·exact rise_snoc (h.2 g hgm) (h.1.lt g hgm)
theorem GoodR.snoc {i : Nat} {gs : List (List Int)} (h : GoodR i gs) : GoodR (i + 1) (gs ++ [[(i : Int)]]) := by
 refine ⟨h.1.snoc,fun g hm => ?_⟩
 rcases List.mem_append.1 hm with h1 | h1
 ·exact h.2 g h1
 ·simp at h1;subst h1;exact List.pairwise_singleton _ _
theorem set_last (gs : List (List Int)) (g : List Int) : (gs ++ [[]]).set gs.length g = gs ++ [g] := by
 rw [List.set_append_right _ _ (Nat.le_refl _),Nat.sub_self];rfl
theorem putG_good {does : List Int → Bool} {most : Nat} : ∀ (d i : Nat) (gs rs : List (List Int)),GoodR i gs → gs.length ≤ most → putG does most d i gs = some rs → GoodR (i + d) rs ∧ rs.length ≤ most
 | 0,i,gs,rs,hG,hm,h => by
  rw [putG] at h;injection h with h;subst h;exact ⟨hG,hm⟩
 | d + 1,i,gs,rs,hG,hm,h => by
  rw [putG_succ] at h
  cases hf : (List.range gs.length).findSome? (tryG does most d i gs) with
  | some r =>
   rw [hf] at h
   injection h with h
   subst h
   obtain ⟨k,hk,h2⟩ := find_some hf
   unfold tryG at h2
   split at h2
   ·have hg : gs[k]? = some gs[k] := List.getElem?_eq_getElem hk
    rw [List.getD_eq_getElem?_getD,hg,Option.getD_some] at h2
    have := putG_good d (i + 1) _ _ (hG.push hg) (by rw [List.length_set];exact hm) h2
    rw [show i + 1 + d = i + (d + 1) by omega] at this
    exact this
   ·cases h2
  | none =>
   rw [hf] at h
   dsimp only at h
   split at h
   ·cases h
   ·rw [tryG_last] at h
    split at h
    ·have := putG_good d (i + 1) _ _ hG.snoc (by rw [List.length_append,List.length_singleton];omega) h
     rw [show i + 1 + d = i + (d + 1) by omega] at this
     exact this
    ·cases h
def fewG (does : List Int → Bool) (n : Nat) : Option (List (List Int)) :=
 if (List.range n).all (fun j => does [(j : Int)]) = true then (List.range (n + 1)).findSome? (fun m => putG does m n 0 []) else none
structure Above (B : Nat) (W W' : World) : Prop where
 size : W.heap.size ≤ W'.heap.size
 block : ∀ b,B ≤ b → b < W.heap.size → W'.heap[b]? = W.heap[b]?
theorem Above.of_below {B : Nat} {W W' : World} (h : Below W.heap.size W W') : Above B W W' := ⟨h.size,fun b _ h1 => h.block b h1⟩
theorem Above.cell {B b o : Nat} {W W' : World} {v : Value} (h : Above B W W') (hb : B ≤ b) (hc : W.cell? ⟨b,o,none⟩ = some v) : W'.cell? ⟨b,o,none⟩ = some v :=
 (World.cell?_of_block (a := ⟨b,o,none⟩) (h.block b hb (World.block_lt_of_cell? W _ hc))).trans hc
theorem Above.free {B b o : Nat} {W W' : World} {v : Value} (h : Above B W W') (hb : B ≤ b) (hc : W.cell? ⟨b,o,none⟩ = some v) (hf : W.frozen? ⟨b,o,none⟩ = false) : W'.frozen? ⟨b,o,none⟩ = false :=
 (World.frozen?_of_block (a := ⟨b,o,none⟩) (h.block b hb (World.block_lt_of_cell? W _ hc))).trans hf
theorem owns_above {B lo e s n : Nat} {W W' : World} {v : Value} {xs : List Value} (h : W.ownsRow lo e s v n xs) (hB : B ≤ lo) (ha : Above B W W') : W'.ownsRow lo e s v n xs := by
 refine ⟨h.1, ?_⟩
 rcases h.2 with hn | ⟨g,cap,cur,h1,h2,h3,h4⟩
 ·exact .inl hn
 ·exact .inr ⟨g,cap,cur,h1,h2,(ha.block g (by omega) (Array.getElem?_eq_some_iff.1 h3).1).trans h3,h4⟩
def Apart (vs : List Value) : Prop := ∀ (j k : Nat) (u v : Value),j ≠ k → vs[j]? = some u → vs[k]? = some v → u.ownBlock = none ∨ u.ownBlock ≠ v.ownBlock
def PartsAt (B TO TI : Nat) (gs : List (List Int)) (W : World) : Prop := ∃ (gv : Value) (vs : List Value),(W.cell? ⟨B + 3,0,none⟩ = some gv ∧ W.frozen? ⟨B + 3,0,none⟩ = false) ∧ W.ownsRow (B + 6) TO 1 gv gs.length vs ∧ RowsIn (B + 6) TI W vs gs ∧ Apart vs ∧ B + 6 ≤ W.heap.size
theorem PartsAt.keep {B TO TI : Nat} {gs : List (List Int)} {W W' : World} (h : PartsAt B TO TI gs W) (ha : Above B W W') : PartsAt B TO TI gs W' := by
 obtain ⟨gv,vs,⟨c1,c2⟩,ho,hr,hA,hs⟩ := h
 exact ⟨gv,vs,⟨ha.cell (by omega) c1,ha.free (by omega) c1 c2⟩,owns_above ho (by omega) ha,fun k v g h1 h2 => owns_above (hr k v g h1 h2) (by omega) ha,hA,by have := ha.size;omega⟩
def BoxesAt (B : Nat) (a0 a1 a2 a4 a5 : Value) (W : World) : Prop := W.cell? ⟨B,0,none⟩ = some a0 ∧ W.cell? ⟨B + 1,0,none⟩ = some a1 ∧ W.cell? ⟨B + 2,0,none⟩ = some a2 ∧ W.cell? ⟨B + 4,0,none⟩ = some a4 ∧ W.cell? ⟨B + 5,0,none⟩ = some a5
theorem BoxesAt.keep {B : Nat} {a0 a1 a2 a4 a5 : Value} {W W' : World} (h : BoxesAt B a0 a1 a2 a4 a5 W) (hb : ∀ b,B ≤ b → b < B + 6 → b ≠ B + 3 → W'.heap[b]? = W.heap[b]?) : BoxesAt B a0 a1 a2 a4 a5 W' := by
 obtain ⟨h0,h1,h2,h4,h5⟩ := h
 have key : ∀ {b : Nat} {v : Value},B ≤ b → b < B + 6 → b ≠ B + 3 → W.cell? ⟨b,0,none⟩ = some v → W'.cell? ⟨b,0,none⟩ = some v := fun h1 h2 h3 h4 => (World.cell?_of_block (a := ⟨_,0,none⟩) (hb _ h1 h2 h3)).trans h4
 exact ⟨key (by omega) (by omega) (by omega) h0,key (by omega) (by omega) (by omega) h1,key (by omega) (by omega) (by omega) h2,key (by omega) (by omega) (by omega) h4,key (by omega) (by omega) (by omega) h5⟩
theorem BoxesAt.above {B : Nat} {a0 a1 a2 a4 a5 : Value} {W W' : World} (h : BoxesAt B a0 a1 a2 a4 a5 W) (hs : B + 6 ≤ W.heap.size) (ha : Above B W W') : BoxesAt B a0 a1 a2 a4 a5 W' := h.keep fun b h1 h2 _ => ha.block b h1 (by omega)
theorem BoxesAt.below {B : Nat} {a0 a1 a2 a4 a5 : Value} {W W' : World} (h : BoxesAt B a0 a1 a2 a4 a5 W) (hb : Below (B + 6) W W') : BoxesAt B a0 a1 a2 a4 a5 W' := h.keep fun b h1 h2 _ => hb.block b h2
theorem BoxesAt.set {B : Nat} {a0 a1 a2 a4 a5 v : Value} {W : World} (h : BoxesAt B a0 a1 a2 a4 a5 W) : BoxesAt B a0 a1 a2 a4 a5 (W.setCell ⟨B + 3,0,none⟩ v) := h.keep fun b h1 h2 h3 => Below.heap_setCell _ _ _ _ h3
theorem PartsAt.push {B TO TI i k : Nat} (hT : TO ≠ TI) {gs : List (List Int)} {g : List Int} {W w2 w3 : World} {v v' : Value} {vs : List Value} {gb cap : Nat} (hG : Good (i + 1) (gs.set k (g ++ [(i : Int)]))) (hg : gs[k]? = some g) (hv : vs[k]? = some v)
  (c8 : W.cell? ⟨B + 3,0,none⟩ = some (.slice (some ⟨gb,0,none⟩) gs.length cap) ∧ W.frozen? ⟨B + 3,0,none⟩ = false) (ho : W.ownsRow (B + 6) TO 1 (.slice (some ⟨gb,0,none⟩) gs.length cap) gs.length vs) (hr : RowsIn (B + 6) TI W vs gs) (hA : Apart vs) (hsz : B + 6 ≤ W.heap.size)
  (hb : Below W.heap.size W w2) (hg3 : w2.grownBy w3 v.ownBlock) (ho3 : w3.ownsRow (B + 6) TI 1 v' (g.length + 1) (g.map (Value.int .i64) ++ [.int .i64 (i : Int)])) :
  (w3.cell? ⟨gb,k,none⟩ = some v ∧ w3.frozen? ⟨gb,k,none⟩ = false) ∧ PartsAt B TO TI (gs.set k (g ++ [(i : Int)])) (w3.setCell ⟨gb,k,none⟩ v') ∧ Below (B + 6) W (w3.setCell ⟨gb,k,none⟩ v') := by
 have hk : k < gs.length := (List.getElem?_eq_some_iff.1 hg).1
 have hrow := hr k v g hv hg
 have ho2 := owns_below ho hb
 have hrow2 := owns_below hrow hb
 have hgb : B + 6 ≤ gb := own_ge ho gb rfl
 have a1 : (Value.slice (some ⟨gb,0,none⟩) gs.length cap).ownBlock = none ∨ (Value.slice (some ⟨gb,0,none⟩) gs.length cap).ownBlock ≠ v.ownBlock := apart_types ho2 hrow2 hT
 have ho4 : w3.ownsRow (B + 6) TO 1 (.slice (some ⟨gb,0,none⟩) gs.length cap) gs.length vs := ho2.kept hg3 a1
 have hbw : Below (B + 6) W w3 := (hb.mono hsz).grown hg3 (by have := hb.size;omega) (own_ge hrow)
 have a2 : some gb ≠ v.ownBlock := by rcases a1 with h | h;cases h;exact h
 have hcell : w3.cell? ⟨gb,k,none⟩ = some v := by
  have h1 := ho4.cells (g := gb) rfl k v hv
  rw [Go.WideShapes.add_plain,Nat.zero_add] at h1
  exact h1
 have hvl : k < vs.length := (List.getElem?_eq_some_iff.1 hv).1
 have hts : ∀ {u : Value} {n : Nat} {xs : List Value},w3.ownsRow (B + 6) TI 1 u n xs → u.ownBlock = none ∨ u.ownBlock ≠ some gb := fun h => apart_types h ho4 (Ne.symm hT)
 have hrj : ∀ (j : Nat) (u : Value) (g' : List Int),j ≠ k → vs[j]? = some u → gs[j]? = some g' → w3.ownsRow (B + 6) TI 1 u g'.length (g'.map (Value.int .i64)) := fun j u g' e hu hg' =>
  (owns_below (hr j u g' hu hg') hb).kept hg3 (hA j k u v e hu hv)
 have hkey : ∀ (j : Nat) (u : Value),j ≠ k → vs[j]? = some u → (v'.ownBlock = none ∨ v'.ownBlock ≠ u.ownBlock) ∧ (u.ownBlock = none ∨ u.ownBlock ≠ v'.ownBlock) := fun j u e hu => by
  have hjl : j < gs.length := by have h1 := ho.1;have h2 := (List.getElem?_eq_some_iff.1 hu).1;omega
  have hg' : gs[j]? = some gs[j] := List.getElem?_eq_getElem hjl
  have hj := hrj j u _ e hu hg'
  obtain ⟨x,hx⟩ := hG.one j gs[j] (by rw [List.getElem?_set_ne (Ne.symm e)];exact hg')
  obtain ⟨y,hy⟩ := hG.one k (g ++ [(i : Int)]) (List.getElem?_set_self hk)
  have hxy := hG.apart j k gs[j] (g ++ [(i : Int)]) x y e (by rw [List.getElem?_set_ne (Ne.symm e)];exact hg') (List.getElem?_set_self hk) hx hy
  have h1 : (gs[j].map (Value.int .i64))[0]? = some (.int .i64 x) := by rw [List.getElem?_map,hx];rfl
  have h2 : (g.map (Value.int .i64) ++ [.int .i64 (i : Int)])[0]? = some (.int .i64 y) := by
   have h3 : ((g ++ [(i : Int)]).map (Value.int .i64))[0]? = some (.int .i64 y) := by rw [List.getElem?_map,hy];rfl
   simpa using h3
  exact ⟨apart_heads ho3 hj h2 h1 (fun h => hxy (by injection h with _ h;exact h.symm)),apart_heads hj ho3 h1 h2 (fun h => hxy (by injection h))⟩
 refine ⟨⟨hcell,owns_frozen ho4 rfl k⟩,⟨.slice (some ⟨gb,0,none⟩) gs.length cap,vs.set k v',⟨?_, ?_⟩, ?_, ?_, ?_, ?_⟩,hbw.setCell (p := ⟨gb,k,none⟩) hgb v'⟩
 ·exact setc_block ((hbw.cell (p := ⟨B + 3,0,none⟩) (by simp)).trans c8.1) (by omega)
 ·exact set_free ((hbw.cell (p := ⟨B + 3,0,none⟩) (by simp)).trans c8.1) ((hbw.frozen (p := ⟨B + 3,0,none⟩) (by simp)).trans c8.2)
 ·rw [List.length_set];exact row_set ho4 hk
 ·intro j u g' hu hg'
  by_cases e : j = k
  ·subst e
   rw [List.getElem?_set_self hvl] at hu
   rw [List.getElem?_set_self hk] at hg'
   obtain rfl : v' = u := by simpa using hu
   obtain rfl : g ++ [(i : Int)] = g' := by simpa using hg'
   have h1 := set_own (o := j) (u := v') ho3 (hts ho3)
   simpa using h1
  ·rw [List.getElem?_set_ne (Ne.symm e)] at hu hg'
   have h3 := hrj j u g' e hu hg'
   exact set_own h3 (hts h3)
 ·intro j l u x hne hu hx
  by_cases e : j = k
  ·subst e
   rw [List.getElem?_set_self hvl] at hu
   rw [List.getElem?_set_ne hne] at hx
   obtain rfl : v' = u := by simpa using hu
   exact (hkey l x (Ne.symm hne) hx).1
  ·rw [List.getElem?_set_ne (Ne.symm e)] at hu
   by_cases e2 : l = k
   ·subst e2
    rw [List.getElem?_set_self hvl] at hx
    obtain rfl : v' = x := by simpa using hx
    exact (hkey j u e hu).2
   ·rw [List.getElem?_set_ne (Ne.symm e2)] at hx
    exact hA j l u x hne hu hx
 ·have := hbw.size;show B + 6 ≤ (w3.setCell _ _).heap.size;simp;omega
theorem PartsAt.pop {B TO TI i k : Nat} (hT : TO ≠ TI) {gs : List (List Int)} {g : List Int} {W : World} {gb gcap b cap n : Nat} {vs : List Value} (hgs : gs[k]? = some g) (hn : gs.length = n)
  (c8 : W.cell? ⟨B + 3,0,none⟩ = some (.slice (some ⟨gb,0,none⟩) n gcap) ∧ W.frozen? ⟨B + 3,0,none⟩ = false) (ho : W.ownsRow (B + 6) TO 1 (.slice (some ⟨gb,0,none⟩) n gcap) n vs) (hr : RowsIn (B + 6) TI W vs (gs.set k (g ++ [(i : Int)]))) (hA : Apart vs) (hsz : B + 6 ≤ W.heap.size)
  (hv : vs[k]? = some (.slice (some ⟨b,0,none⟩) (g.length + 1) cap)) :
  PartsAt B TO TI gs (W.setCell ⟨gb,k,none⟩ (.slice (some ⟨b,0,none⟩) g.length cap)) ∧ Below (B + 6) W (W.setCell ⟨gb,k,none⟩ (.slice (some ⟨b,0,none⟩) g.length cap)) := by
 subst hn
 have hk : k < gs.length := (List.getElem?_eq_some_iff.1 hgs).1
 have hvl : k < vs.length := (List.getElem?_eq_some_iff.1 hv).1
 have hgb : B + 6 ≤ gb := own_ge ho gb rfl
 have hts : ∀ {u : Value} {n : Nat} {xs : List Value},W.ownsRow (B + 6) TI 1 u n xs → u.ownBlock = none ∨ u.ownBlock ≠ some gb := fun h => apart_types h ho (Ne.symm hT)
 refine ⟨⟨.slice (some ⟨gb,0,none⟩) gs.length gcap,vs.set k (.slice (some ⟨b,0,none⟩) g.length cap),⟨setc_block c8.1 (by omega),set_free c8.1 c8.2⟩,row_set ho hk, ?_, ?_,by simpa using hsz⟩,(Below.refl _ _).setCell (p := ⟨gb,k,none⟩) hgb _⟩
 ·intro j u g' hu hg'
  by_cases e : j = k
  ·subst e
   rw [List.getElem?_set_self hvl] at hu
   rw [hgs] at hg'
   obtain rfl : Value.slice (some ⟨b,0,none⟩) g.length cap = u := by simpa using hu
   obtain rfl : g = g' := by simpa using hg'
   have h1 := hr j _ _ hv (List.getElem?_set_self hk)
   rw [List.length_append,List.length_singleton] at h1
   have h2 := row_take (m := g.length) h1 (by omega)
   rw [List.map_append,List.take_append_of_le_length (by simp),List.take_of_length_le (by simp)] at h2
   exact set_own h2 (hts h2)
  ·rw [List.getElem?_set_ne (Ne.symm e)] at hu
   have h1 := hr j u g' hu (by rw [List.getElem?_set_ne (Ne.symm e)];exact hg')
   exact set_own h1 (hts h1)
 ·have blk : ∀ (j : Nat) (u : Value),(vs.set k (.slice (some ⟨b,0,none⟩) g.length cap))[j]? = some u → ∃ u0,vs[j]? = some u0 ∧ u0.ownBlock = u.ownBlock := fun j u hu => by
   by_cases e : j = k
   ·subst e
    rw [List.getElem?_set_self hvl] at hu
    injection hu with hu
    subst hu
    exact ⟨_,hv,rfl⟩
   ·rw [List.getElem?_set_ne (Ne.symm e)] at hu
    exact ⟨u,hu,rfl⟩
  intro j l u x hne hu hx
  obtain ⟨u0,h1,h2⟩ := blk j u hu
  obtain ⟨x0,h3,h4⟩ := blk l x hx
  rw [← h2, ← h4]
  exact hA j l u0 x0 hne h1 h3
theorem PartsAt.grow {B TO TI n : Nat} {gs : List (List Int)} {W w2 w3 : World} {gv gv' : Value} {vs : List Value} (hT : TO ≠ TI) (hn : gs.length = n)
  (c8 : W.cell? ⟨B + 3,0,none⟩ = some gv ∧ W.frozen? ⟨B + 3,0,none⟩ = false) (ho : W.ownsRow (B + 6) TO 1 gv n vs) (hr : RowsIn (B + 6) TI W vs gs) (hA : Apart vs) (hsz : B + 6 ≤ W.heap.size)
  (hb : Below W.heap.size W w2) (hg3 : w2.grownBy w3 gv.ownBlock) (ho3 : w3.ownsRow (B + 6) TO 1 gv' (n + 1) (vs ++ [.slice none 0 0])) :
  (w3.cell? ⟨B + 3,0,none⟩ = some gv ∧ w3.frozen? ⟨B + 3,0,none⟩ = false) ∧ PartsAt B TO TI (gs ++ [[]]) (w3.setCell ⟨B + 3,0,none⟩ gv') ∧ Below (B + 6) W w3 := by
 subst hn
 have hbw : Below (B + 6) W w3 := (hb.mono hsz).grown hg3 (by have := hb.size;omega) (own_ge ho)
 have hG8 : w3.cell? ⟨B + 3,0,none⟩ = some gv ∧ w3.frozen? ⟨B + 3,0,none⟩ = false := ⟨(hbw.cell (p := ⟨B + 3,0,none⟩) (by simp)).trans c8.1,(hbw.frozen (p := ⟨B + 3,0,none⟩) (by simp)).trans c8.2⟩
 have far : ∀ {T n : Nat} {v : Value} {xs : List Value},w3.ownsRow (B + 6) T 1 v n xs → v.ownBlock = none ∨ v.ownBlock ≠ some (B + 3) := fun h => .inr fun e => by have := own_ge h _ e;omega
 have hvl : vs.length = gs.length := by have := ho.1;omega
 refine ⟨hG8,⟨gv',vs ++ [.slice none 0 0],⟨setc_same hG8.1,set_free hG8.1 hG8.2⟩, ?_, ?_, ?_, ?_⟩,hbw⟩
 ·rw [List.length_append,List.length_singleton];exact set_own ho3 (far ho3)
 ·intro k v g hv hg
  rcases Nat.lt_or_ge k gs.length with h1 | h1
  ·rw [List.getElem?_append_left (by omega)] at hv
   rw [List.getElem?_append_left h1] at hg
   have h2 := owns_below (hr k v g hv hg) hb
   have h3 := h2.kept hg3 (apart_types h2 (owns_below ho hb) (Ne.symm hT))
   exact set_own h3 (far h3)
  ·rw [List.getElem?_append_right (by omega),hvl] at hv
   rw [List.getElem?_append_right h1] at hg
   have h4 := (List.getElem?_eq_some_iff.1 hg).1
   simp at h4
   have e : k = gs.length := by omega
   subst e
   simp at hv hg
   subst hv;subst hg
   exact World.ownsRow_nil _ _ _ _
 ·intro j k u v hne hu hv
  rcases Nat.lt_or_ge j vs.length with h1 | h1
  ·rw [List.getElem?_append_left h1] at hu
   rcases Nat.lt_or_ge k vs.length with h2 | h2
   ·rw [List.getElem?_append_left h2] at hv
    exact hA j k u v hne hu hv
   ·rw [List.getElem?_append_right h2] at hv
    have h4 := (List.getElem?_eq_some_iff.1 hv).1
    simp at h4
    rw [show k - vs.length = 0 by omega] at hv
    simp at hv
    subst hv
    cases hob : u.ownBlock with
    | none => exact .inl rfl
    | some b => exact .inr (by simp [Value.ownBlock])
  ·rw [List.getElem?_append_right h1] at hu
   have h4 := (List.getElem?_eq_some_iff.1 hu).1
   simp at h4
   rw [show j - vs.length = 0 by omega] at hu
   simp at hu
   subst hu
   exact .inl rfl
 ·have := hbw.size;show B + 6 ≤ (w3.setCell _ _).heap.size;simp;omega
theorem PartsAt.shrink {B TO TI n gb cap : Nat} {gs : List (List Int)} {g : List Int} {W : World} {vs : List Value} (hn : gs.length = n)
  (c8 : W.cell? ⟨B + 3,0,none⟩ = some (.slice (some ⟨gb,0,none⟩) (n + 1) cap) ∧ W.frozen? ⟨B + 3,0,none⟩ = false) (ho : W.ownsRow (B + 6) TO 1 (.slice (some ⟨gb,0,none⟩) (n + 1) cap) (n + 1) vs) (hr : RowsIn (B + 6) TI W vs (gs ++ [g])) (hA : Apart vs) (hsz : B + 6 ≤ W.heap.size) :
  PartsAt B TO TI gs (W.setCell ⟨B + 3,0,none⟩ (.slice (some ⟨gb,0,none⟩) n cap)) := by
 subst hn
 have far : ∀ {T n : Nat} {v : Value} {xs : List Value},W.ownsRow (B + 6) T 1 v n xs → v.ownBlock = none ∨ v.ownBlock ≠ some (B + 3) := fun h => .inr fun e => by have := own_ge h _ e;omega
 have h1 := row_take (m := gs.length) ho (by omega)
 refine ⟨.slice (some ⟨gb,0,none⟩) gs.length cap,vs.take gs.length,⟨setc_same c8.1,set_free c8.1 c8.2⟩,set_own h1 (far h1), ?_, ?_,by simpa using hsz⟩
 ·intro k v g' hv hg
  have hk : k < gs.length := (List.getElem?_eq_some_iff.1 hg).1
  rw [List.getElem?_take,if_pos hk] at hv
  have h2 := hr k v g' hv (by rw [List.getElem?_append_left hk];exact hg)
  exact set_own h2 (far h2)
 ·intro j k u v hne hu hv
  rw [List.getElem?_take] at hu hv
  split at hu
  ·split at hv
   ·exact hA j k u v hne hu hv
   ·cases hv
  ·cases hu
def PutsRes (B TO TI : Nat) (a0 a1 a2 a4 a5 : Value) (Q : World → Prop) (gs : List (List Int)) (r : Option (List (List Int))) (e : Ending) (w' : World) : Prop :=
 Q w' ∧ BoxesAt B a0 a1 a2 a4 a5 w' ∧ ((∃ rs,r = some rs ∧ e = .returned (.bool true) ∧ PartsAt B TO TI rs w') ∨ (r = none ∧ e = .returned (.bool false) ∧ PartsAt B TO TI gs w'))
theorem PutsRes.yes {B TO TI : Nat} {a0 a1 a2 a4 a5 : Value} {Q : World → Prop} {gs rs : List (List Int)} {r : Option (List (List Int))} {e : Ending} {w' : World} (hq : Q w') (hB : BoxesAt B a0 a1 a2 a4 a5 w') (hr : r = some rs) (he : e = .returned (.bool true)) (hP : PartsAt B TO TI rs w') : PutsRes B TO TI a0 a1 a2 a4 a5 Q gs r e w' := ⟨hq,hB, .inl ⟨rs,hr,he,hP⟩⟩
theorem PutsRes.no {B TO TI : Nat} {a0 a1 a2 a4 a5 : Value} {Q : World → Prop} {gs : List (List Int)} {r : Option (List (List Int))} {e : Ending} {w' : World} (hq : Q w') (hB : BoxesAt B a0 a1 a2 a4 a5 w') (hr : r = none) (he : e = .returned (.bool false)) (hP : PartsAt B TO TI gs w') : PutsRes B TO TI a0 a1 a2 a4 a5 Q gs r e w' := ⟨hq,hB, .inr ⟨hr,he,hP⟩⟩
theorem Above.trans {B : Nat} {a b c : World} (h : Above B a b) (k : Above B b c) : Above B a c :=
 ⟨Nat.le_trans h.size k.size,fun i h1 h2 => (k.block i h1 (Nat.lt_of_lt_of_le h2 h.size)).trans (h.block i h1 h2)⟩
theorem Above.mono {B B' : Nat} {a b : World} (h : Above B a b) (hB : B ≤ B') : Above B' a b := ⟨h.size,fun i h1 h2 => h.block i (by omega) h2⟩
theorem wpAny_Rs {P : Program} {Q : Exit → Act → World → Prop} {a : Act} {w0 w : World} {l : List Oper} {L : Array Bool} {n : Nat} (ps : List (Nat × (Value → World → Prop))) (hs : List Nat) (g : Nat) (hn : hs.length + g = n) (hkeep : ∀ x ∈ ps,Keeps x.2)
  (hB : (groupB .any l.toArray L hs && pairsB .any l.toArray ((ps.map (·.1)).contains ·) hs && plainsB l.toArray ((ps.map (·.1)).contains ·) hs) = true) (hw : Below w0.heap.size w0 w)
  (h : wpS P .any l.toArray w0 ((ps.map (·.1)).contains ·) (pOf ps) (fun Γ' a' => ∀ w',All w0 (pOf ps) Γ' w' → wpAny P .any l.toArray Q g (mark hs L) a' w') (numbered l.toArray hs) (fun _ => none) a) :
  wpAny P .any l.toArray Q n L a w := by
 subst hn
 refine wpAny_R (ps.map (·.1)) hs g (pOf_keeps hkeep) hB hw (wpR_of_wpS (fun k hk => ?_) h)
 simp only [groupB,Bool.and_eq_true] at hB
 obtain ⟨_,hmem,_⟩ := orderB_spec hB.1.1.2
 exact (hmem k hk).2.2
end Go.Pb.Sag
namespace Go.Pb

open Go Go.RowKit
section
variable {P : Program} {md : Region.Mode} {ops : Array Oper} {Q : Exit → Act → World → Prop} {C : World → Prop}
def wpAnyC (P : Program) (md : Region.Mode) (ops : Array Oper) (Q : Exit → Act → World → Prop) (C : World → Prop) : Nat → Array Bool → Act → World → Prop
 | 0,L,a,w => C w ∧ Region.ready md ops L = [] ∧ Q .normal a w
 | n + 1,L,a,w => C w ∧ (Region.ready md ops L = [] → Q .normal a w) ∧ ∀ i ∈ Region.ready md ops L,wpOp P ops Q i (wpAnyC P md ops Q C n (L.setIfInBounds i true)) a w
theorem wpAnyC_any : ∀ {n : Nat} {L : Array Bool} {a : Act} {w : World},wpAnyC P md ops Q C n L a w → wpAny P md ops Q n L a w
 | 0,_,_,_,h => h.2
 | n + 1,_,_,_,h => ⟨h.2.1,fun i hi => wpOp_mono (fun _ _ h => wpAnyC_any h) (h.2.2 i hi)⟩
theorem wpAnyC_ready {n r : Nat} {L : Array Bool} {a : Act} {w : World} (hC : C w) (hr : Region.ready md ops L = [r]) (h : wpOp P ops Q r (wpAnyC P md ops Q C n (L.setIfInBounds r true)) a w) : wpAnyC P md ops Q C (n + 1) L a w :=
 ⟨hC,fun h0 => (by rw [hr] at h0;cases h0),fun i hi => by rw [hr,List.mem_singleton] at hi;subst hi;exact h⟩
theorem wpAnyC_op {n r : Nat} {o : Oper} {L : Array Bool} {a : Act} {w : World} (hC : C w) (hr : Region.ready md ops L = [r]) (ho : ops[r]? = some o) (hw : Region.wanted o (yielded ops a.tmps) = true)
  (h : ∀ K : Act → World → Prop,(∀ a' w',wpAnyC P md ops Q C n (L.setIfInBounds r true) a' w' → K a' w') → o.wp P a w K Q) : wpAnyC P md ops Q C (n + 1) L a w := by
 refine wpAnyC_ready hC hr ?_
 unfold wpOp
 simp only [ho,hw,if_true]
 exact .inl (h _ fun _ _ h => h)
theorem wpAnyC_end {L : Array Bool} {a : Act} {w : World} (hC : C w) (hr : Region.ready md ops L = []) (h : Q .normal a w) : wpAnyC P md ops Q C 0 L a w := ⟨hC,hr,h⟩
theorem wpAnyC_at {n : Nat} {L : Array Bool} {a : Act} {w : World} (h : wpAnyC P md ops Q C n L a w) : C w := by cases n <;> exact h.1
def LoadsC (P : Program) (ops : Array Oper) (C : World → Prop) (o : Oper) (v : Value) (a : Act) : Prop := Region.wanted o (yielded ops a.tmps) = true ∧ ∀ w,C w → (execOp a.eval o).run P w = .ok (.value v) w
theorem wpOp_keep {R : Act → Prop} {j : Nat} {oj : Oper} (hj : ops[j]? = some oj) {K : Act → World → Prop} {a : Act} {w : World} (hk : ∀ u,R (a.put oj.dst u)) (hkD : ∀ d u,R (({ a with defers := d :: a.defers } : Act).put oj.dst u))
  (h : wpOp P ops Q j K a w) : wpOp P ops Q j (fun a' w' => R a' ∧ K a' w') a w := by
 unfold wpOp at *
 simp only [hj] at *
 split
 ·rename_i hw
  simp only [hw,if_true] at h
  rcases h with h | h
  ·left
   unfold Oper.wp at *
   generalize (execOp a.eval oj).run P w = r at *
   cases r with
   | ok n w' =>
    cases n <;> simp only [Oper.upon] at h ⊢
    case value u => exact ⟨hk u,h⟩
    case skip => exact ⟨hk _,h⟩
    case defer d => exact ⟨hkD d _,h⟩
    case enter f args =>
     refine Calls.mono h fun e w'' he => ?_
     cases e with
     | returned u => exact ⟨hk u,he⟩
     | panicked c => exact he
     | outgrown => exact he
    case row row args => exact Rows.mono h fun u w'' he => ⟨hk u,he⟩
   | halt x w' => cases x <;> exact h
  ·exact .inr h
 ·rename_i hw
  simp only [hw] at h
  exact ⟨hk _,h⟩
theorem wpOp_putC {j : Nat} {oi oj : Oper} {v : Value} (hj : ops[j]? = some oj) (hap : oi.apart ops oj = true) (hsi : ∀ cs b,oi.op ≠ .select cs b) (hsj : ∀ cs b,oj.op ≠ .select cs b) {K : Act → World → Prop} {a : Act} {w : World}
  (hy : LoadsC P ops C oi v a) (h : wpOp P ops (Only Q) j K (a.put oi.dst v) w) : wpOp P ops (Only Q) j (fun a' w' => LoadsC P ops C oi v a' ∧ K (a'.put oi.dst v) w') a w := by
 obtain ⟨h1,h2,h3⟩ := Oper.apart_spec hap
 refine wpOp_keep hj (fun u => ?_) (fun d u => ?_) ?_
 ·exact ⟨by rw [wanted_put oi a oj.dst u h3];exact hy.1,fun w hC => by rw [execOp_put oi hsi a oj.dst u h3];exact hy.2 w hC⟩
 ·exact ⟨by rw [wanted_put oi _ oj.dst u h3];exact hy.1,fun w hC => by rw [execOp_put oi hsi _ oj.dst u h3];exact hy.2 w hC⟩
 ·unfold wpOp at *
  simp only [hj] at *
  rw [wanted_put oj a oi.dst v h1] at h
  split
  ·rename_i hw
   simp only [hw,if_true] at h
   rcases h with h | ⟨_,hl⟩
   ·left
    unfold Oper.wp at *
    rw [execOp_put oj hsj a oi.dst v h1] at h
    generalize (execOp a.eval oj).run P w = r at *
    cases r with
    | ok n w' =>
     cases n <;> simp only [Oper.upon] at h ⊢
     case value u => rw [← Act.put_comm a v u h2];exact h
     case skip => rw [← Act.put_comm a v undef h2];exact h
     case defer d => rw [← Act.put_comm _ v undef h2, ← Act.put_defers];exact h
     case enter f args =>
      refine Calls.mono h fun e w'' he => ?_
      cases e with
      | returned u => show K _ _;rw [← Act.put_comm a v u h2];exact he
      | panicked c => exact absurd he.1 (by simp)
      | outgrown => exact absurd he only_lets
     case row row args => exact Rows.mono h fun u w'' he => by rw [← Act.put_comm a v u h2];exact he
    | halt x w' =>
     cases x <;> simp only [Oper.upon] at h ⊢
     case panic u => exact absurd h.1 (by simp)
   ·exact absurd hl only_lets
  ·rename_i hw
   simp only [hw] at h
   rw [← Act.put_comm a v undef h2];exact h
theorem LoadsC.op {i : Nat} {o : Oper} {v : Value} {a : Act} (hi : ops[i]? = some o) (hy : LoadsC P ops C o v a) {K : Act → World → Prop} {w : World} (hC : C w) (h : K (a.put o.dst v) w) : wpOp P ops Q i K a w := by
 unfold wpOp
 simp only [hi,hy.1,if_true]
 left
 unfold Oper.wp
 rw [hy.2 w hC]
 exact h
theorem wpAnyC_first {i : Nat} {oi : Oper} {v : Value} (hi : ops[i]? = some oi) (hsel : ∀ (j : Nat) (o : Oper) cs b,ops[j]? = some o → o.op ≠ .select cs b) :
  ∀ (n : Nat) (L : Array Bool) (a : Act) (w : World),
   (∀ j oj,ops[j]? = some oj → j ≠ i → L.getD j true = false → (∀ e ∈ oj.after,Region.binds md e = true → e.on ≠ i) → oi.apart ops oj = true) →
   i ∈ Region.ready md ops L → LoadsC P ops C oi v a → C w →
   wpAnyC P md ops (Only Q) C n (L.setIfInBounds i true) (a.put oi.dst v) w → wpAnyC P md ops (Only Q) C (n + 1) L a w := by
 intro n
 induction n with
 | zero =>
  intro L a w _ hr hy hC H
  refine ⟨hC,fun h => (by rw [h] at hr;cases hr),fun j hj => ?_⟩
  by_cases hji : j = i
  ·subst hji;exact hy.op hi hC H
  ·have := ready_mono hj hji
   rw [H.2.1] at this
   cases this
 | succ n ih =>
  intro L a w hfree hr hy hC H
  refine ⟨hC,fun h => (by rw [h] at hr;cases hr),fun j hj => ?_⟩
  by_cases hji : j = i
  ·subst hji;exact hy.op hi hC H
  ·have h1 := H.2.2 j (ready_mono hj hji)
   obtain ⟨hjun,oj,hoj,hall⟩ := mem_ready.1 hj
   have hnot : ∀ e ∈ oj.after,Region.binds md e = true → e.on ≠ i := fun e he hb heq => by
    have h2 := hall e he hb
    have h0 := (mem_ready.1 hr).1
    rw [heq] at h2
    rcases Nat.lt_or_ge i L.size with h' | h'
    ·simp [h'] at h0 h2;rw [h0] at h2;cases h2
    ·simp [Array.getElem?_eq_none h'] at h2
   have h2 := wpOp_putC hoj (hfree j oj hoj hji hjun hnot) (fun cs b => hsel i oi cs b hi) (fun cs b => hsel j oj cs b hoj) hy h1
   have hfree' : ∀ k ok,ops[k]? = some ok → k ≠ i → (L.setIfInBounds j true).getD k true = false → (∀ e ∈ ok.after,Region.binds md e = true → e.on ≠ i) → oi.apart ops ok = true := fun k ok hk hki hun hno => by
    refine hfree k ok hk hki ?_ hno
    by_cases hjk : j = k
    ·subst hjk;exact hjun
    ·rw [getD_set_ne true hjk] at hun;exact hun
   have key : ∀ a' w',LoadsC P ops C oi v a' → wpAnyC P md ops (Only Q) C n ((L.setIfInBounds i true).setIfInBounds j true) (a'.put oi.dst v) w' → wpAnyC P md ops (Only Q) C (n + 1) (L.setIfInBounds j true) a' w' := by
    intro a' w' hy' H'
    rw [Array.setIfInBounds_comm _ _ (Ne.symm hji)] at H'
    have hr' := ready_mono hr (Ne.symm hji)
    exact ih (L.setIfInBounds j true) a' w' hfree' hr' hy' (wpAnyC_at H') H'
   exact wpOp_mono (fun a' w' h3 => key a' w' h3.1 h3.2) h2
end
section
variable {P : Program} {md : Region.Mode} {ops : Array Oper} {w0 : World} {fr : Nat → Bool} {p : Nat → Value → World → Prop} {C : World → Prop}
theorem wpAnyC_of_wpR {Q : Exit → Act → World → Prop} (hC : ∀ w,Below w0.heap.size w0 w → C w) {g : Nat} {hs : List Nat} {L : Array Bool} (hsel : Region.noSelect ops = true) (hplain : ∀ h o,h ∈ hs → fr h = false → ops[h]? = some o → plainOp o.op = true)
  (hkeep : ∀ i v w1 w2,p i v w1 → Below w1.heap.size w1 w2 → p i v w2) (hL : L.size = ops.size) :
  ∀ (f : Nat) (M : Array Bool) (l : List Nat) (Γ : Known) (a : Act) (w : World),l.length = f → l.Nodup → l.Pairwise (Pair md ops fr) → (∀ j ∈ l,M.getD j true = false) →
   (∀ j ∈ hs,j ∈ l ∨ M.getD j true = true) → (∀ h ∈ l, Γ h = none) → Hered md ops hs f M → All w0 p Γ w → mark l M = mark hs L →
   wpR P md ops w0 fr p (fun Γ' a' => ∀ w',All w0 p Γ' w' → wpAnyC P md ops Q C g (mark hs L) a' w') l Γ a → wpAnyC P md ops Q C (f + g) M a w := by
 intro f
 induction f with
 | zero =>
  intro M l Γ a w hlen _ _ _ _ _ _ hall hmk H
  obtain rfl := List.length_eq_zero_iff.1 hlen
  rw [Nat.zero_add,show M = mark hs L from hmk]
  exact H w hall
 | succ f ih =>
  intro M l Γ a w hlen hnd hpw hun hcov hΓ hh hall hmk H
  rw [show f + 1 + g = (f + g) + 1 by omega]
  refine ⟨hC _ hall.1,fun h0 => absurd h0 hh.1,fun i hi => ?_⟩
  obtain ⟨hiu,oi,hoi,hdeps⟩ := mem_ready.1 hi
  have hil : i ∈ l := by
   rcases hcov i (hh.2.1 i hi) with h1 | h1
   ·exact h1
   ·rw [h1] at hiu;cases hiu
  have hiM : i < M.size := by
   rcases Nat.lt_or_ge i M.size with h' | h'
   ·exact h'
   ·simp [Array.getElem?_eq_none h'] at hiu
  have H1 := wpR_pull hsel hkeep hoi l Γ a hil hnd hpw (fun j hj => waits_dep hdeps (hun j hj)) hΓ ⟨w,hall⟩ H
  have hle : (l.erase i).length = f := by rw [List.length_erase_of_mem hil];omega
  have next : ∀ Γ' a' w',(∀ h ∈ l.erase i, Γ' h = none) → All w0 p Γ' w' → wpR P md ops w0 fr p (fun Γ' a' => ∀ w',All w0 p Γ' w' → wpAnyC P md ops Q C g (mark hs L) a' w') (l.erase i) Γ' a' →
    wpAnyC P md ops Q C (f + g) (M.setIfInBounds i true) a' w' := fun Γ' a' w' hΓ' hall' H' =>
   ih (M.setIfInBounds i true) (l.erase i) Γ' a' w' hle (hnd.erase i) (hpw.sublist List.erase_sublist) (fun j hj => by
     have hne : j ≠ i := by rintro rfl;exact (List.Nodup.not_mem_erase hnd) hj
     rw [getD_set_ne true (Ne.symm hne)];exact hun j (List.mem_of_mem_erase hj))
    (fun j hj => by
     by_cases hji : j = i
     ·subst hji;right;simp
     ·rcases hcov j hj with h1 | h1
      ·left;exact (List.mem_erase_of_ne hji).2 h1
      ·right;rw [getD_set_ne true (Ne.symm hji)];exact h1)
    hΓ' (hh.2.2.2 i hi) hall' (by
     rw [← hmk]
     have key : ∀ (l : List Nat) (M : Array Bool),i ∈ l → mark l M = mark (l.erase i) (M.setIfInBounds i true) := by
      intro l
      induction l with
      | nil => intro M h;cases h
      | cons x l ihl =>
       intro M h
       by_cases hx : x = i
       ·subst hx;simp [mark]
       ·rw [List.erase_cons_tail (by simpa using hx)]
        simp only [mark,List.foldl_cons]
        have h2 := ihl (M.setIfInBounds x true) (by simpa [Ne.symm hx] using h)
        simp only [mark] at h2
        rw [h2,Array.setIfInBounds_comm _ _ hx]
     exact (key l M hil).symm) H'
  have hΓe : ∀ h ∈ l.erase i, Γ h = none := fun h hh' => hΓ h (List.mem_of_mem_erase hh')
  unfold wpR oneR at H1
  simp only [hoi] at H1
  unfold wpOp
  simp only [hoi]
  split
  ·rename_i hwant
   rw [if_pos hwant] at H1
   left
   split at H1
   ·rename_i hf
    obtain ⟨h1,h2⟩ := H1
    have h3 := h1 w (hall.cl oi)
    have go : ∀ u w'',Below w.heap.size w w'' → p i u w'' → wpAnyC P md ops Q C (f + g) (M.setIfInBounds i true) (a.put oi.dst u) w'' := by
     intro u w'' hb hq
     have hall' : All w0 p (upd Γ i u) w'' := ⟨hall.1.trans (hb.mono hall.1.size),fun k v hk => by
      unfold upd at hk
      by_cases hki : k = i
      ·subst hki;rw [if_pos rfl] at hk;cases hk;exact hq
      ·rw [if_neg hki] at hk;exact hkeep _ _ _ _ (hall.2 k v hk) hb⟩
     refine next _ _ _ (fun k hk => ?_) hall' (h2 u ⟨w'',hall'⟩)
     unfold upd
     rw [if_neg (by rintro rfl;exact (List.Nodup.not_mem_erase hnd) hk)]
     exact hΓe k hk
    unfold freshAt at h3
    unfold Oper.wp
    generalize (execOp a.eval oi).run P w = r at h3 ⊢
    cases r with
    | halt x w' => exact h3.elim
    | ok n w' =>
     cases n <;> simp only at h3
     case value u => exact go u w' h3.1 h3.2
     case enter fn args =>
      obtain ⟨rfl,hc⟩ := h3
      exact hc.mono fun e w'' ⟨u,he,hb,hq⟩ => by subst he;exact go u w'' hb hq
   ·rename_i hf
    obtain ⟨v,h1,h2⟩ := H1 ⟨w,hall.cl oi⟩
    have h3 := h1 w (hall.cl oi)
    unfold Oper.quietAt at h3
    unfold Oper.wp
    generalize hr : (execOp a.eval oi).run P w = r at h3 ⊢
    cases r with
    | halt x w' => simp only [Oper.quietUpon] at h3
    | ok n w' =>
     cases n <;> simp only [Oper.quietUpon] at h3
     case value u =>
      obtain ⟨rfl,rfl⟩ := h3
      exact next _ _ _ hΓe hall h2
     case skip =>
      obtain ⟨rfl,rfl⟩ := h3
      exact next _ _ _ hΓe hall h2
     case enter fn args => exact absurd hr (plain_ne (hplain i oi (hh.2.1 i hi) (by simpa using hf) hoi) _)
  ·rename_i hwant
   rw [if_neg hwant] at H1
   exact next _ _ _ hΓe hall H1
theorem wpAnyC_R {Q : Exit → Act → World → Prop} (hC : ∀ w,Below w0.heap.size w0 w → C w) {L : Array Bool} {a : Act} {w : World} (fs : List Nat) (hs : List Nat) (g : Nat)
  (hkeep : ∀ i v w1 w2,p i v w1 → Below w1.heap.size w1 w2 → p i v w2)
  (hB : (groupB md ops L hs && pairsB md ops (fs.contains ·) hs && plainsB ops (fs.contains ·) hs) = true) (hw : Below w0.heap.size w0 w)
  (h : wpR P md ops w0 (fs.contains ·) p (fun Γ' a' => ∀ w',All w0 p Γ' w' → wpAnyC P md ops Q C g (mark hs L) a' w') hs (fun _ => none) a) : wpAnyC P md ops Q C (hs.length + g) L a w := by
 simp only [Bool.and_eq_true] at hB
 obtain ⟨⟨hG,hP⟩,hPl⟩ := hB
 have hG' := hG
 simp only [groupB,Bool.and_eq_true,decide_eq_true_eq] at hG'
 obtain ⟨⟨⟨⟨hsz,hsel⟩,hcl⟩,hout⟩,hord⟩ := hG'
 obtain ⟨hnd,hmem,hpre⟩ := orderB_spec hord
 have hleft : left hs L = hs.length := by
  unfold left
  rw [List.filter_eq_self.2 (fun j hj => by rw [(hmem j hj).2.1];rfl)]
 have hsh : Shut md ops L := by
  intro j o ho hj e he hb
  have hjo : j < ops.size := by
   rcases Nat.lt_or_ge j ops.size with h' | h'
   ·exact h'
   ·simp [Array.getElem?_eq_none h'] at ho
  have h1 := List.all_eq_true.1 hcl j (List.mem_range.2 hjo)
  simp only [hj,ho,Bool.not_true,Bool.false_or] at h1
  simpa [hb] using Array.all_eq_true'.1 h1 e he
 have hh := hered_of hG hs.length L hleft hsh hsz (fun j hj => .inl hj) (fun j hj => hj)
 refine wpAnyC_of_wpR hC (hs := hs) (L := L) hsel (fun k o hk hf ho => ?_) hkeep hsz hs.length L hs (fun _ => none) a w rfl hnd (pairs_of hP) (fun j hj => (hmem j hj).2.1)
  (fun j hj => .inl hj) (fun _ _ => rfl) hh ⟨hw,fun _ _ hg => by cases hg⟩ rfl h
 have := List.all_eq_true.1 hPl k hk
 simp only [show (fs.contains k) = false from hf,ho,Bool.false_or] at this
 exact this
end
section
variable {P : Program} {md : Region.Mode} {ops : Array Oper} {C : World → Prop}
def wpFirstC (P : Program) (ops : Array Oper) (C : World → Prop) : List Nat → (Act → Prop) → Act → Prop
 | [],H,a => H a
 | i :: is,H,a => ∃ o v,ops[i]? = some o ∧ LoadsC P ops C o v a ∧ wpFirstC P ops C is H (a.put o.dst v)
theorem wpFirstC_any {Q : Exit → Act → World → Prop} (hsel : Region.noSelect ops = true) {w : World} (hC : C w) {n : Nat} {H : Act → Prop} : ∀ (fs : List Nat) (L : Array Bool) (a : Act),firstB md ops fs L = true →
  (∀ a,H a → wpAnyC P md ops (Only Q) C n (mark fs L) a w) → wpFirstC P ops C fs H a → wpAnyC P md ops (Only Q) C (fs.length + n) L a w
 | [],L,a,_,hH,h => by simpa using hH a h
 | i :: is,L,a,hb,hH,h => by
  obtain ⟨o,v,ho,hy,h⟩ := h
  simp only [firstB,Bool.and_eq_true,ho] at hb
  obtain ⟨⟨hr,hf⟩,hb⟩ := hb
  have hr2 : i ∈ Region.ready md ops L := by simpa using hr
  have ih := wpFirstC_any hsel hC is (L.setIfInBounds i true) _ hb hH h
  rw [List.length_cons,show is.length + 1 + n = is.length + n + 1 by omega]
  exact wpAnyC_first ho (Region.noSelect_spec hsel) _ L a w (fun j oj hj hne hun hno => freeB_spec ho hf hr2 j oj hj hne hun hno) hr2 hy hC ih
end
theorem wpAny_G {P : Program} {Q : Exit → Act → World → Prop} {a : Act} {w : World} {l : List Oper} (C : World → Prop) (hC : ∀ w',Below w.heap.size w w' → C w') (fs : List Nat)
  (hF : (Region.noSelect l.toArray && firstB .any l.toArray fs (Array.replicate l.length false)) = true)
  (ps : List (Nat × (Value → World → Prop))) (hs : List Nat) (g : Nat)
  (hn : fs.length + (hs.length + g) = l.length) (hkeep : ∀ x ∈ ps,Keeps x.2)
  (hB : (groupB .any l.toArray (mark fs (Array.replicate l.length false)) hs && pairsB .any l.toArray ((ps.map (·.1)).contains ·) hs && plainsB l.toArray ((ps.map (·.1)).contains ·) hs) = true)
  (h : wpFirstC P l.toArray C fs (fun a => wpS P .any l.toArray w ((ps.map (·.1)).contains ·) (pOf ps) (fun Γ' a' => ∀ w',All w (pOf ps) Γ' w' → wpAnyC P .any l.toArray (Only Q) C g (mark hs (mark fs (Array.replicate l.length false))) a' w') (numbered l.toArray hs) (fun _ => none) a) a) :
  wpAny P .any l.toArray (Only Q) l.toArray.size (Array.replicate l.toArray.size false) a w.drew := by
 simp only [Bool.and_eq_true] at hF
 have h1 := wpFirstC_any (P := P) (Q := Q) (md := .any) (C := C) hF.1 (w := w.drew) (hC _ (Below.refl _ w).drew) (n := hs.length + g) fs (Array.replicate l.length false) a hF.2 (fun a h => ?_) h
 ·rw [hn] at h1
  simpa using wpAnyC_any h1
 ·have h2 := wpR_of_wpS (fun k hk => by
   simp only [groupB,Bool.and_eq_true] at hB
   obtain ⟨_,hmem,_⟩ := orderB_spec hB.1.1.2
   exact (hmem k hk).2.2) h
  exact wpAnyC_R (P := P) (Q := Only Q) (w0 := w) (w := w.drew) (a := a) hC (ps.map (·.1)) hs g (pOf_keeps hkeep) hB (Below.refl _ w).drew h2
theorem wp_region_G {P : Program} {id : Nat} {Q : Exit → Act → World → Prop} {a : Act} {w : World} {l : List Oper} (C : World → Prop) (hC : ∀ w',Below w.heap.size w w' → C w') (fs : List Nat)
  (hF : (Region.noSelect l.toArray && firstB .any l.toArray fs (Array.replicate l.length false)) = true)
  (ps : List (Nat × (Value → World → Prop))) (hs : List Nat) (g : Nat) (hm : P.follows .mixedOrders = true)
  (hn : fs.length + (hs.length + g) = l.length) (hkeep : ∀ x ∈ ps,Keeps x.2)
  (hB : (groupB .any l.toArray (mark fs (Array.replicate l.length false)) hs && pairsB .any l.toArray ((ps.map (·.1)).contains ·) hs && plainsB l.toArray ((ps.map (·.1)).contains ·) hs) = true)
  (h : wpFirstC P l.toArray C fs (fun a => wpS P .any l.toArray w ((ps.map (·.1)).contains ·) (pOf ps) (fun Γ' a' => ∀ w',All w (pOf ps) Γ' w' → wpAnyC P .any l.toArray (Only Q) C g (mark hs (mark fs (Array.replicate l.length false))) a' w') (numbered l.toArray hs) (fun _ => none) a) a) :
  (Code.region id l.toArray true).wp P Q a w := wp_region_any hm (wpAny_only (wpAny_G C hC fs hF ps hs g hn hkeep hB h))
theorem wpIn_region_G {P : Program} {id : Nat} {Q : Exit → Act → World → Prop} {a : Act} {w : World} {l : List Oper} {lv n : Nat} (hd : noDefer l = true) (C : World → Prop) (hC : ∀ w',Below w.heap.size w w' → C w') (fs : List Nat)
  (hF : (Region.noSelect l.toArray && firstB .any l.toArray fs (Array.replicate l.length false)) = true)
  (ps : List (Nat × (Value → World → Prop))) (hs : List Nat) (g : Nat) (hm : P.follows .mixedOrders = true)
  (hn : fs.length + (hs.length + g) = l.length) (hkeep : ∀ x ∈ ps,Keeps x.2)
  (hB : (groupB .any l.toArray (mark fs (Array.replicate l.length false)) hs && pairsB .any l.toArray ((ps.map (·.1)).contains ·) hs && plainsB l.toArray ((ps.map (·.1)).contains ·) hs) = true)
  (h : wpFirstC P l.toArray C fs (fun a => wpS P .any l.toArray w ((ps.map (·.1)).contains ·) (pOf ps) (fun Γ' a' => ∀ w',All w (pOf ps) Γ' w' → wpAnyC P .any l.toArray (Only Q) C g (mark hs (mark fs (Array.replicate l.length false))) a' w') (numbered l.toArray hs) (fun _ => none) a) a) :
  (Code.region id l.toArray true).wpIn (Fence.wide.inRound lv) n P Q a w :=
 Go.wpIn_mono (Q := Only Q) (wpIn_region_any hm (wpAny_inRound (fun i o ho => noDefer_ne hd ho) (fun h => only_lets h) _ _ _ _ (wpAny_G C hC fs hF ps hs g hn hkeep hB h))) (fun e a w h => by obtain ⟨rfl,h⟩ := h;exact h)
end Go.Pb
namespace Go.Pb

open Go Go.RowKit
def NewList (B0 n : Nat) (cs : List Value) (v : Value) (W : World) : Prop :=
 ∃ B,B0 ≤ B ∧ v = .slice (some ⟨B,0,none⟩) n n ∧ ∀ o c,cs[o]? = some c → W.cell? ⟨B,o,none⟩ = some c ∧ W.frozen? ⟨B,o,none⟩ = false
theorem keeps_list {B0 n : Nat} {cs : List Value} : Keeps (NewList B0 n cs) := fun _ _ _ ⟨B,h1,h2,h3⟩ hb =>
 ⟨B,h1,h2,fun o c hc => ⟨bkeep hb (h3 o c hc).1,bfree hb (h3 o c hc).1 (h3 o c hc).2⟩⟩
theorem list_of {w w' : World} {n : Nat} {cs : List Value} {t : TypeId} (hb : Below w.heap.size w w') :
  Below w'.heap.size w' (w'.alloc (.cells cs.toArray t)) ∧ NewList w.heap.size n cs (.slice (some ⟨w'.heap.size,0,none⟩) n n) (w'.alloc (.cells cs.toArray t)) :=
 ⟨(Below.refl _ _).alloc (Nat.le_refl _) _,w'.heap.size,hb.size,rfl,fun o c hc => by
  refine ⟨?_,World.frozen?_alloc_new w' cs.toArray t o⟩
  rw [World.cell?_alloc_new];simpa using hc⟩
theorem keeps_owns {base size n : Nat} {e : TypeId} {xs : List Value} : Keeps (fun v w => w.ownsRow base e size v n xs) := fun _ _ _ h hb => owns_below h hb
end Go.Pb
namespace Go.Pb.Ware
open Go Go.Pb Go.RowKit
end Go.Pb.Ware
namespace Go.Pb
end Go.Pb
namespace Go.Pb.Ware
open Go Go.Pb Go.RowKit
end Go.Pb.Ware
namespace Go.Proofs
open Go.Shelf
def Tryz.lays125_ren : Go.Shelf.Ren := ⟨fun | 125 => 162 | 128 => 178 | 129 => 179 | n => n,fun | 46 => 193 | 3 => 3 | 51 => 205 | 53 => 175 | 4 => 4 | 5 => 5 | 9 => 9 | n => n,fun | n => n⟩
theorem Tryz.lays125 : Go.Proofs.Lays.n125 Tryz.prog Tryz.lays125_ren := {
 mixed := by kernel_rfl
 f125 := Tryz.func162.trans (congrArg some (by kernel_rfl))
 f128 := Tryz.func178.trans (congrArg some (by kernel_rfl))
 f129 := Tryz.func179.trans (congrArg some (by kernel_rfl))
 t3 := Tryz.underlying3
 a3 := Tryz.isAgg3
 z3 := Tryz.sizeOf3
 v3 := Tryz.zeroValue3
 t4 := Tryz.underlying4
 a4 := Tryz.isAgg4
 z4 := Tryz.sizeOf4
 v4 := Tryz.zeroValue4
 t5 := Tryz.underlying5
 a5 := Tryz.isAgg5
 z5 := Tryz.sizeOf5
 v5 := Tryz.zeroValue5
 t9 := Tryz.underlying9
 a9 := Tryz.isAgg9
 z9 := Tryz.sizeOf9
 v9 := Tryz.zeroValue9
 t46 := Tryz.underlying193
 a46 := Tryz.isAgg193
 z46 := Tryz.sizeOf193
 v46 := Tryz.zeroValue193
 t51 := Tryz.underlying205
 a51 := Tryz.isAgg205
 z51 := Tryz.sizeOf205
 v51 := Tryz.zeroValue205
 t53 := Tryz.underlying175
 a53 := Tryz.isAgg175
 z53 := Tryz.sizeOf175
 v53 := Tryz.zeroValue175 }
theorem Tryz.bits_Len (x : Int) (w : World) (h0 : 0 ≤ x) (h1 : x ≤ 18446744073709551615) :
  Calls Tryz.prog 162 #[.int .u64 x] w fun e w' => e = .returned (.int .i64 (Lib.bitLen x.toNat)) ∧ w' = w := Any.bits_Len Tryz.lays125 x w h0 h1
def Tryz.sortFeet_ren : Go.Shelf.Ren := ⟨fun | 6 => 145 | 15 => 162 | 14 => 161 | 28 => 178 | 29 => 179 | 20 => 170 | 21 => 171 | 22 => 172 | 23 => 173 | 24 => 174 | 25 => 175 | 26 => 176 | 27 => 177 | 46 => 181 | 47 => 182 | 48 => 183 | 49 => 184 | 50 => 185 | 57 => 186 | n => n,fun | 22 => 38 | 24 => 34 | 25 => 192 | 3 => 3 | 39 => 193 | 0 => 0 | 53 => 205 | 55 => 175 | 4 => 4 | 46 => 216 | 45 => 215 | 50 => 184 | 5 => 5 | 9 => 9 | 66 => 223 | 70 => 227 | 76 => 229 | 77 => 154 | n => n,fun | n => n⟩
theorem Tryz.sortFeet : Go.Proofs.SlLaysF0.n6 Tryz.prog Tryz.sortFeet_ren := {
 mixed := by kernel_rfl
 f6 := ⟨Tryz.f145.name,by decide,Tryz.func145.trans (congrArg some (by kernel_rfl))⟩
 f14 := ⟨Tryz.f161.name,by decide,Tryz.func161.trans (congrArg some (by kernel_rfl))⟩
 f15 := Tryz.func162.trans (congrArg some (by kernel_rfl))
 f20 := ⟨Tryz.f170.name,by decide,Tryz.func170.trans (congrArg some (by kernel_rfl))⟩
 f21 := ⟨Tryz.f171.name,by decide,Tryz.func171.trans (congrArg some (by kernel_rfl))⟩
 f22 := ⟨Tryz.f172.name,by decide,Tryz.func172.trans (congrArg some (by kernel_rfl))⟩
 f23 := ⟨Tryz.f173.name,by decide,Tryz.func173.trans (congrArg some (by kernel_rfl))⟩
 f24 := ⟨Tryz.f174.name,by decide,Tryz.func174.trans (congrArg some (by kernel_rfl))⟩
 f25 := ⟨Tryz.f175.name,by decide,Tryz.func175.trans (congrArg some (by kernel_rfl))⟩
 f26 := ⟨Tryz.f176.name,by decide,Tryz.func176.trans (congrArg some (by kernel_rfl))⟩
 f27 := ⟨Tryz.f177.name,by decide,Tryz.func177.trans (congrArg some (by kernel_rfl))⟩
 f28 := Tryz.func178.trans (congrArg some (by kernel_rfl))
 f29 := Tryz.func179.trans (congrArg some (by kernel_rfl))
 f46 := ⟨Tryz.f181.name,by decide,Tryz.func181.trans (congrArg some (by kernel_rfl))⟩
 f47 := Tryz.func182.trans (congrArg some (by kernel_rfl))
 f48 := Tryz.func183.trans (congrArg some (by kernel_rfl))
 f49 := ⟨Tryz.f184.name,by decide,Tryz.func184.trans (congrArg some (by kernel_rfl))⟩
 f50 := ⟨Tryz.f185.name,by decide,Tryz.func185.trans (congrArg some (by kernel_rfl))⟩
 f57 := ⟨Tryz.f186.name,by decide,Tryz.func186.trans (congrArg some (by kernel_rfl))⟩
 t0 := Tryz.underlying0
 a0 := Tryz.isAgg0
 z0 := Tryz.sizeOf0
 v0 := Tryz.zeroValue0
 t3 := Tryz.underlying3
 a3 := Tryz.isAgg3
 z3 := Tryz.sizeOf3
 v3 := Tryz.zeroValue3
 t4 := Tryz.underlying4
 a4 := Tryz.isAgg4
 z4 := Tryz.sizeOf4
 v4 := Tryz.zeroValue4
 t5 := Tryz.underlying5
 a5 := Tryz.isAgg5
 z5 := Tryz.sizeOf5
 v5 := Tryz.zeroValue5
 t9 := Tryz.underlying9
 a9 := Tryz.isAgg9
 z9 := Tryz.sizeOf9
 v9 := Tryz.zeroValue9
 t22 := Tryz.underlying38
 a22 := Tryz.isAgg38
 z22 := Tryz.sizeOf38
 v22 := Tryz.zeroValue38
 t25 := Tryz.underlying192
 a25 := Tryz.isAgg192
 z25 := Tryz.sizeOf192
 v25 := Tryz.zeroValue192
 t39 := Tryz.underlying193
 a39 := Tryz.isAgg193
 z39 := Tryz.sizeOf193
 v39 := Tryz.zeroValue193
 t45 := Tryz.underlying215
 a45 := Tryz.isAgg215
 z45 := Tryz.sizeOf215
 v45 := Tryz.zeroValue215
 t46 := Tryz.underlying216
 a46 := Tryz.isAgg216
 z46 := Tryz.sizeOf216
 v46 := Tryz.zeroValue216
 t50 := Tryz.underlying184
 a50 := Tryz.isAgg184
 z50 := Tryz.sizeOf184
 v50 := Tryz.zeroValue184
 t53 := Tryz.underlying205
 a53 := Tryz.isAgg205
 z53 := Tryz.sizeOf205
 v53 := Tryz.zeroValue205
 t55 := Tryz.underlying175
 a55 := Tryz.isAgg175
 z55 := Tryz.sizeOf175
 v55 := Tryz.zeroValue175
 t66 := Tryz.underlying223
 a66 := Tryz.isAgg223
 z66 := Tryz.sizeOf223
 v66 := Tryz.zeroValue223
 t70 := Tryz.underlying227
 a70 := Tryz.isAgg227
 z70 := Tryz.sizeOf227
 v70 := Tryz.zeroValue227
 t76 := Tryz.underlying229
 a76 := Tryz.isAgg229
 z76 := Tryz.sizeOf229
 v76 := Tryz.zeroValue229
 t77 := Tryz.underlying154
 a77 := Tryz.isAgg154
 z77 := Tryz.sizeOf154
 v77 := Tryz.zeroValue154 }
end Go.Proofs
namespace Go.Pb.Sag
open Go Go.Pb Go.Pb.Ware Go.RowKit

theorem same_toSq {q : Sq} {p : St} (h : sameSt q.y q.x q.turned p = true) : q = toSq p := by
 unfold sameSt at h
 rw [Bool.and_eq_true,Bool.and_eq_true,decide_eq_true_eq,decide_eq_true_eq,beq_iff_eq] at h
 obtain ⟨y,x,t⟩ := q
 obtain ⟨h1,h2,h3⟩ := h
 dsimp only at h1 h2 h3
 subst h1;subst h2;subst h3;rfl
theorem maskQ_toSq (f : Ft) (p : St) : maskQ f (toSq p) = maskOf f p := rfl
theorem packs_place {s : Bx} : ∀ {fs : List Ft} {used : Nat} {q : List St},q ∈ packsF (fs.map (spotsL s)) used → q.length = fs.length ∧ placeB s fs (q.map toSq) used = true
 | [],used,q,h => by
  rw [List.map_nil,packsF,List.mem_singleton] at h
  subst h;exact ⟨rfl,rfl⟩
 | f :: fs,used,q,h => by
  rw [List.map_cons,packsF,List.mem_flatMap] at h
  obtain ⟨a,ha,h2⟩ := h
  split at h2
  ·cases h2
  ·rename_i hm
   obtain ⟨r,hr,rfl⟩ := List.mem_map.1 h2
   obtain ⟨p,hp,rfl⟩ := List.mem_map.1 ha
   obtain ⟨h3,h4⟩ := packs_place hr
   refine ⟨by simp [h3], ?_⟩
   rw [List.map_cons,placeB,maskQ_toSq]
   have h5 : anySt (toSq p).y (toSq p).x (toSq p).turned (standsL s f) = true := List.any_eq_true.2 ⟨p,hp,by simp [sameSt,toSq]⟩
   rw [h5,h4]
   dsimp only at hm
   simpa using hm
theorem place_packs {s : Bx} : ∀ {fs : List Ft} {used : Nat} {qs : List Sq},placeB s fs qs used = true → ∃ q ∈ packsF (fs.map (spotsL s)) used,q.map toSq = qs
 | [],used, [],_ => ⟨[],by rw [List.map_nil,packsF];exact List.mem_singleton.2 rfl,rfl⟩
 | [],used,_ :: _,h => by rw [placeB] at h;cases h;all_goals simp
 | _ :: _,used, [],h => by rw [placeB] at h;cases h;all_goals simp
 | f :: fs,used,q :: qs,h => by
  rw [placeB,Bool.and_eq_true,Bool.and_eq_true] at h
  obtain ⟨h1,h2,h3⟩ := h
  obtain ⟨p,hp,hs⟩ := List.any_eq_true.1 h1
  have e := same_toSq hs
  subst e
  rw [maskQ_toSq] at h2 h3
  obtain ⟨r,hr,rfl⟩ := place_packs h3
  refine ⟨p :: r, ?_,rfl⟩
  rw [List.map_cons,packsF,List.mem_flatMap]
  refine ⟨(p,maskOf f p),List.mem_map.2 ⟨p,hp,rfl⟩, ?_⟩
  rw [if_neg (by simpa using h2)]
  exact List.mem_map.2 ⟨r,hr,rfl⟩
theorem place_stands {s : Bx} : ∀ {fs : List Ft} {used : Nat} {qs : List Sq},placeB s fs qs used = true → ∀ f ∈ fs,noStand s f = false
 | [],used,_,_ => fun f hf => by cases hf
 | _ :: _,used, [],h => by rw [placeB] at h;cases h;all_goals simp
 | f :: fs,used,q :: qs,h => by
  rw [placeB,Bool.and_eq_true,Bool.and_eq_true] at h
  obtain ⟨h1,h2,h3⟩ := h
  obtain ⟨p,hp,hs⟩ := List.any_eq_true.1 h1
  intro g hg
  rcases List.mem_cons.1 hg with rfl | hg
  ·unfold noStand
   cases hl : standsL s g with
   | nil => rw [hl] at hp;cases hp
   | cons a l => rfl
  ·exact place_stands h3 g hg
def cnt (m : Nat) : Nat := (List.range 36).countP fun i => m.testBit i
theorem cnt_or {a b : Nat} (h : a &&& b = 0) : cnt (a ||| b) = cnt a + cnt b := by
 have hb : ∀ i, ¬ (a.testBit i = true ∧ b.testBit i = true) := fun i hi => by
  have := congrArg (Nat.testBit · i) h
  simp [hi.1,hi.2] at this
 unfold cnt
 generalize List.range 36 = l
 induction l with
 | nil => rfl
 | cons i l ih =>
  have := hb i
  rw [List.countP_cons,List.countP_cons,List.countP_cons,ih,Nat.testBit_or]
  cases h1 : a.testBit i <;> cases h2 : b.testBit i <;> simp [h1,h2] at this ⊢ <;> omega
theorem cnt_mono {a b : Nat} (h : a &&& b = a) : cnt a ≤ cnt b := by
 unfold cnt
 refine List.countP_mono_left fun i _ hi => ?_
 have h2 : (a &&& b).testBit i = a.testBit i := by rw [h]
 rw [Nat.testBit_and,hi] at h2
 simpa using h2
theorem cnt_fin : ∀ y x v h : Fin 7,x.val + v.val ≤ 6 → y.val + h.val ≤ 6 → cnt (boxM y.val x.val v.val h.val) = v.val * h.val := by decide +kernel
theorem cnt_all (y : Nat) (h1 : y < 7) (x : Nat) (h2 : x < 7) (v : Nat) (h3 : v < 7) (h : Nat) (h4 : h < 7) : x + v ≤ 6 → y + h ≤ 6 → cnt (boxM y x v h) = v * h := cnt_fin ⟨y,h1⟩ ⟨x,h2⟩ ⟨v,h3⟩ ⟨h,h4⟩
theorem in_fin : ∀ y x v h : Fin 7,x.val + v.val ≤ 6 → y.val + h.val ≤ 6 → boxM y.val x.val v.val h.val &&& boxM 0 0 (x.val + v.val) (y.val + h.val) = boxM y.val x.val v.val h.val := by decide +kernel
theorem in_all (y : Nat) (h1 : y < 7) (x : Nat) (h2 : x < 7) (v : Nat) (h3 : v < 7) (h : Nat) (h4 : h < 7) : x + v ≤ 6 → y + h ≤ 6 → boxM y x v h &&& boxM 0 0 (x + v) (y + h) = boxM y x v h := in_fin ⟨y,h1⟩ ⟨x,h2⟩ ⟨v,h3⟩ ⟨h,h4⟩
theorem wide_fin : ∀ a b v h : Fin 7,a.val ≤ v.val → b.val ≤ h.val → boxM 0 0 a.val b.val &&& boxM 0 0 v.val h.val = boxM 0 0 a.val b.val := by decide +kernel
theorem wide_all (a : Nat) (h1 : a < 7) (b : Nat) (h2 : b < 7) (v : Nat) (h3 : v < 7) (h : Nat) (h4 : h < 7) : a ≤ v → b ≤ h → boxM 0 0 a b &&& boxM 0 0 v h = boxM 0 0 a b := wide_fin ⟨a,h1⟩ ⟨b,h2⟩ ⟨v,h3⟩ ⟨h,h4⟩
theorem box_in {y x v h A B : Nat} (h1 : x + v ≤ A) (h2 : y + h ≤ B) (hA : A ≤ 6) (hB : B ≤ 6) : boxM y x v h &&& boxM 0 0 A B = boxM y x v h := by
 have e1 := in_all y (by omega) x (by omega) v (by omega) h (by omega) (by omega) (by omega)
 have e2 := wide_all (x + v) (by omega) (y + h) (by omega) A (by omega) B (by omega) h1 h2
 rw [← e1,Nat.and_assoc,e2]
theorem areaL_cons (f : Ft) (fs : List Ft) : areaL (f :: fs) = f.wide * f.deep + areaL fs := by unfold areaL;rw [List.map_cons,List.sum_cons]
theorem place_area {s : Bx} {A B : Nat} (hX : boxOk s = true) (hA : s.wide = (A : Int)) (hB : s.deep = (B : Int)) : ∀ {fs : List Ft} {t : Nat} {qs : List Sq},(∀ f ∈ fs,FtOk f) → t &&& boxM 0 0 A B = t → placeB s fs qs t = true → (cnt t : Int) + areaL fs ≤ (cnt (boxM 0 0 A B) : Int)
 | [],t,_,_,h1,_ => by
  have := cnt_mono h1
  unfold areaL;rw [List.map_nil,List.sum_nil];omega
 | _ :: _,t, [],_,_,h => by rw [placeB] at h;cases h;all_goals simp
 | f :: fs,t,q :: qs,hF,h1,h => by
  rw [placeB,Bool.and_eq_true,Bool.and_eq_true] at h
  obtain ⟨h2,h3,h4⟩ := h
  obtain ⟨p,hp,hs⟩ := List.any_eq_true.1 h2
  have e := same_toSq hs
  subst e
  rw [maskQ_toSq] at h3 h4
  have hb := boxOk_iff.1 hX
  have hf := hF f List.mem_cons_self
  have ho := standsN_ok hp
  unfold okAt at ho
  rw [Bool.and_eq_true,decide_eq_true_eq,decide_eq_true_eq] at ho
  obtain ⟨a,ha⟩ : ∃ a : Nat,(sideV f p.turned).1 = (a : Int) := by
   refine ⟨(sideV f p.turned).1.toNat, ?_⟩
   unfold FtOk at hf;unfold sideV;split <;> dsimp only <;> omega
  obtain ⟨b,hb2⟩ : ∃ b : Nat,(sideV f p.turned).2 = (b : Int) := by
   refine ⟨(sideV f p.turned).2.toNat, ?_⟩
   unfold FtOk at hf;unfold sideV;split <;> dsimp only <;> omega
  have hab : f.wide * f.deep = ((a * b : Nat) : Int) := by
   rw [Int.natCast_mul, ← ha, ← hb2];unfold sideV;split
   ·exact Int.mul_comm _ _
   ·rfl
  have hm : maskOf f p = boxM p.y p.x a b := by unfold maskOf;rw [ha,hb2];rfl
  rw [ha,hb2] at ho
  have hin : maskOf f p &&& boxM 0 0 A B = maskOf f p := by rw [hm];exact box_in (by omega) (by omega) (by omega) (by omega)
  have hc : cnt (maskOf f p) = a * b := by rw [hm];exact cnt_all _ (by omega) _ (by omega) _ (by omega) _ (by omega) (by omega) (by omega)
  have h0 : t &&& maskOf f p = 0 := by simpa using h3
  have ih := place_area hX hA hB (fun g hg => hF g (List.mem_cons_of_mem _ hg)) (t := t ||| maskOf f p) (by rw [Nat.and_or_distrib_right,h1,hin]) h4
  rw [cnt_or h0,hc] at ih
  rw [areaL_cons,hab]
  omega
theorem pack_area {s : Bx} {fs : List Ft} {qs : List Sq} (hX : boxOk s = true) (hF : ∀ f ∈ fs,FtOk f) (h : placeB s fs qs 0 = true) : areaL fs ≤ s.wide * s.deep := by
 have hb := boxOk_iff.1 hX
 obtain ⟨A,hA⟩ : ∃ A : Nat,s.wide = (A : Int) := ⟨s.wide.toNat,by omega⟩
 obtain ⟨B,hB⟩ : ∃ B : Nat,s.deep = (B : Int) := ⟨s.deep.toNat,by omega⟩
 have h1 := place_area hX hA hB hF (Nat.zero_and _) h
 rw [cnt_all 0 (by omega) 0 (by omega) A (by omega) B (by omega) (by omega) (by omega)] at h1
 have h2 : cnt 0 = 0 := by decide
 rw [h2] at h1
 rw [hA,hB, ← Int.natCast_mul];omega
theorem pack_shown {s : Bx} {fs : List Ft} {qs : List Sq} (hX : boxOk s = true) (hF : ∀ f ∈ fs,FtOk f) (h : packB s fs qs = true) : ∃ q ∈ shownL s fs,q.map toSq = qs := by
 unfold packB at h
 rw [Bool.and_eq_true,Bool.and_eq_true,Bool.and_eq_true] at h
 obtain ⟨_,h1,h3,h4⟩ := h
 have hp : plainB s fs = false := by
  have e1 : troubleB s fs 1 = false := by simpa using h1
  have e3 : troubleB s fs 3 = false := by simpa using h3
  have e2 : troubleB s fs 2 = false := by
   show fs.any (noStand s) = false
   rw [List.any_eq_false]
   intro f hf;rw [place_stands h4 f hf];simp
  have e4 : troubleB s fs 4 = false := by
   show decide (s.wide * s.deep < areaL fs) = false
   have := pack_area hX hF h4
   rw [decide_eq_false_iff_not];omega
  unfold plainB;rw [e1,e2,e3,e4];rfl
 unfold shownL;rw [hp]
 exact place_packs h4
theorem shown_pack {s : Bx} {fs : List Ft} {q : List St} (h : q ∈ shownL s fs) : packB s fs (q.map toSq) = true := by
 unfold shownL at h
 split at h
 ·cases h
 ·rename_i hp
  obtain ⟨h1,h2⟩ := packs_place h
  have hp2 : plainB s fs = false := by simpa using hp
  unfold plainB at hp2
  rw [Bool.or_eq_false_iff,Bool.or_eq_false_iff,Bool.or_eq_false_iff] at hp2
  unfold packB
  rw [hp2.1,hp2.2.2.1,h2,List.length_map,h1];simp
end Go.Pb.Sag
namespace Go.Pb.Sag
open Go Go.Pb Go.Pb.Ware Go.RowKit
def exRows : List (List Int) := [[1,100,102,100,102,50,51,10,200,210,1000], [2,190,200,90,100,30,30,0,500,500,0]]
def exL : List It := [⟨2,1,5⟩,⟨2,1,5⟩,⟨1,2,4⟩]
end Go.Pb.Sag
namespace Go.Pb.Sag
open Go Go.Pb Go.Pb.Ware Go.RowKit

def GoodS (ss : List (List Int)) : Prop := ss.length ≤ 40 ∧ ∀ (k : Nat) r,ss[k]? = some r → r.length = 11 ∧ r.getD 0 0 = (k : Int) + 1 ∧ okS r = true
theorem kept_up : ∀ {rs : List (List Int)} {b : Nat},(∀ (k : Nat) r,rs[k]? = some r → r.getD 0 0 = ((b + k : Nat) : Int) + 1 ∧ okS r = true) → kept okS (b : Int) rs = true
 | [],_,_ => rfl
 | r :: rs,b,h => by
  have h0 := h 0 r rfl
  rw [kept_next h0.2 (by rw [h0.1];omega),h0.1]
  have e : ((b + 0 : Nat) : Int) + 1 = ((b + 1 : Nat) : Int) := by omega
  rw [e]
  refine kept_up fun k r2 hk => ?_
  have h1 := h (k + 1) r2 (by simpa using hk)
  rw [show b + 1 + k = b + (k + 1) by omega]
  exact h1
theorem goodS_ck {ss : List (List Int)} (h : GoodS ss) : ckW ss [] = 0 := by
 refine ckW_1 ?_ rfl
 rw [keptB_short (by have := h.1;omega)]
 exact kept_up (b := 0) fun k r hk => by rw [Nat.zero_add];exact (h.2 k r hk).2
theorem goodS_snoc {ss : List (List Int)} {r : List Int} (h : GoodS ss) (hl : ss.length < 40) (h1 : r.length = 11) (h2 : r.getD 0 0 = (ss.length : Int) + 1) (h3 : okS r = true) : GoodS (ss ++ [r]) := by
 refine ⟨by rw [List.length_append,List.length_singleton];omega,fun k x hx => ?_⟩
 rcases Nat.lt_or_ge k ss.length with hk | hk
 ·rw [List.getElem?_append_left hk] at hx;exact h.2 k x hx
 ·rw [List.getElem?_append_right hk] at hx
  have hk2 := (List.getElem?_eq_some_iff.1 hx).1
  simp at hk2
  have e : k = ss.length := by omega
  subst e
  simp at hx
  subst hx
  exact ⟨h1,h2,h3⟩
theorem goodS_nil : GoodS [] := ⟨by simp,fun k r h => by simp at h⟩
theorem findR_at : ∀ {rs : List (List Int)} {b k : Nat} {r : List Int},(∀ (k : Nat) r,rs[k]? = some r → r.getD 0 0 = ((b + k : Nat) : Int) + 1) → rs[k]? = some r → findR (((b + k : Nat) : Int) + 1) rs = some r
 | [],_,k,r,_,hk => by simp at hk
 | x :: rs,b,0,r,h,hk => by
  have h0 := h 0 x rfl
  simp at hk
  subst hk
  rw [findR,if_pos h0]
 | x :: rs,b,k + 1,r,h,hk => by
  have h0 := h 0 x rfl
  rw [findR,if_neg (by rw [h0];omega)]
  have h2 : ∀ (j : Nat) y,rs[j]? = some y → y.getD 0 0 = ((b + 1 + j : Nat) : Int) + 1 := fun j y hj => by
   have := h (j + 1) y (by simpa using hj)
   rw [show b + 1 + j = b + (j + 1) by omega];exact this
  have := findR_at (rs := rs) (b := b + 1) (k := k) h2 (by simpa using hk)
  rwa [show b + 1 + k = b + (k + 1) by omega] at this
theorem goodS_item {ss : List (List Int)} {sh cl : Int} (h : GoodS ss) (h1 : 1 ≤ sh) (h2 : sh ≤ (ss.length : Int)) (h3 : 0 ≤ cl) (h4 : cl ≤ 50) : itemB ss ⟨sh,1,cl⟩ = true := by
 obtain ⟨k,rfl⟩ : ∃ k : Nat,sh = (k : Int) + 1 := ⟨(sh - 1).toNat,by omega⟩
 have hk : k < ss.length := by omega
 have hr : ss[k]? = some ss[k] := List.getElem?_eq_getElem hk
 have hg := h.2 k _ hr
 have hf : findR ((k : Int) + 1) ss = some ss[k] := by
  have := findR_at (rs := ss) (b := 0) (k := k) (r := ss[k]) (fun j y hj => by rw [Nat.zero_add];exact (h.2 j y hj).2.1) hr
  rwa [Nat.zero_add] at this
 unfold itemB
 dsimp only
 rw [hf]
 dsimp only
 have hs : (Ware.stands (shR ss[k]) 1).1 = true := by
  have ho : shOk (shR ss[k]) = true := hg.2.2
  have hb : 0 ≤ (shR ss[k]).bears := by
   simp only [shOk,Bool.and_eq_true,btw_iff] at ho;omega
  unfold Ware.stands
  have hp : ckP (shR ss[k]) 1 = 0 := by unfold ckP;rw [ho];rfl
  rw [if_pos hp]
  exact decide_eq_true (by omega)
 rw [hs,btw_iff.2 ⟨h3,h4⟩];rfl
theorem goodS_ex : GoodS exRows := by
 refine ⟨by decide,fun k r hk => ?_⟩
 match k,hk with
 | 0,hk => simp [exRows] at hk;subst hk;exact ⟨rfl,rfl,by decide⟩
 | 1,hk => simp [exRows] at hk;subst hk;exact ⟨rfl,rfl,by decide⟩
 | k + 2,hk => simp [exRows] at hk
theorem good_ck {ss : List (List Int)} {s : Bx} {xs : List It} (h : GoodS ss) (hX : boxOk s = true) (hn : xs.length ≤ 5) (hi : xs.all (itemB ss) = true) : ckL ss [] s xs = 0 := by
 refine ckL_good ?_ (by omega) hi
 unfold ckG;rw [if_pos (goodS_ck h)]
 unfold ckX;rw [if_pos hX]
end Go.Pb.Sag
namespace Go.Pb.Sag
open Go Go.Pb Go.Pb.Ware Go.RowKit

theorem cells_store {W : World} {B o : Nat} {u : Value} {vs : List Value} (h : CellsAt W B vs) : CellsAt (W.setCell ⟨B,o,none⟩ u) B (vs.set o u) := by
 intro j v hv
 by_cases hj : j = o
 ·subst hj
  have hl : j < vs.length := by have := (List.getElem?_eq_some_iff.1 hv).1;simpa using this
  rw [List.getElem?_set_self hl] at hv
  injection hv with hv
  subst hv
  have h1 := h j _ (List.getElem?_eq_getElem hl)
  exact ⟨setc_same h1.1,set_free h1.1 h1.2⟩
 ·rw [List.getElem?_set_ne (Ne.symm hj)] at hv
  have h1 := h j v hv
  exact ⟨setc_other h1.1 hj,set_free h1.1 h1.2⟩
theorem cells_grown {W W' : World} {B : Nat} {vs : List Value} {row : Option Nat} (h : CellsAt W B vs) (hg : W.grownBy W' row) (hne : some B ≠ row) : CellsAt W' B vs :=
 fun o v hv => ⟨grown_kept hg (h o v hv).1 hne,grown_free hg (h o v hv).1 (h o v hv).2 hne⟩
def Z9 : List Value := [.slice none 0 0, .slice none 0 0, .int .i64 0, .int .i64 0, .int .i64 0, .int .i64 0, .int .i64 0, .int .i64 0, .slice none 0 0]
structure MadeAt (TS TI B : Nat) (w : World) (args : List Value) (c : List Int) (sv iv : Value) (ss : List (List Int)) (xs : List It) (W : World) : Prop where
 below : Below B w W
 size : B + 1 + 1 + 1 ≤ W.heap.size
 arg : CellsAt W B args
 res : CellsAt W (B + 1) Z9
 floor : CellsAt W (B + 1 + 1) (sv :: .slice none 0 0 :: (c.map (Value.int .i64) ++ [iv]))
 clen : c.length = 6
 shapes : W.ownsRow (B + 1 + 1 + 1) TS 11 sv ss.length (ss.flatten.map (Value.int .i64))
 items : W.ownsRow (B + 1 + 1 + 1) TI 3 iv xs.length ((xs.map rowX).flatten.map (Value.int .i64))
theorem MadeAt.next {TS TI B : Nat} {w W W' : World} {args : List Value} {c : List Int} {sv iv : Value} {ss : List (List Int)} {xs : List It} (h : MadeAt TS TI B w args c sv iv ss xs W) (hb : Below W.heap.size W W') : MadeAt TS TI B w args c sv iv ss xs W' :=
 ⟨h.below.trans (hb.mono (by have := h.size;omega)),by have := hb.size;have := h.size;omega,h.arg.below hb,h.res.below hb,h.floor.below hb,h.clen,owns_below h.shapes hb,owns_below h.items hb⟩
theorem own_ne {W : World} {lo T s n b : Nat} {v : Value} {xs : List Value} (h : W.ownsRow lo T s v n xs) (hb : b < lo) : some b ≠ v.ownBlock := fun e => by
 have := own_ge h b e.symm;omega
theorem own_ne' {W : World} {lo T s n b : Nat} {v : Value} {xs : List Value} (h : W.ownsRow lo T s v n xs) (hb : b < lo) : v.ownBlock = none ∨ v.ownBlock ≠ some b := .inr fun e => own_ne h hb e.symm
theorem MadeAt.push {TS TI B : Nat} {w W W' : World} {args : List Value} {c : List Int} {sv sv' iv : Value} {ss : List (List Int)} {xs : List It} {r : List Int} (h : MadeAt TS TI B w args c sv iv ss xs W) (hT : TI ≠ TS) (hg : W.grownBy W' sv.ownBlock)
  (ho : W'.ownsRow (B + 1 + 1 + 1) TS 11 sv' (ss.length + 1) (ss.flatten.map (Value.int .i64) ++ r.map (Value.int .i64))) : MadeAt TS TI B w args c sv' iv (ss ++ [r]) xs (W'.setCell ⟨B + 1 + 1,0,none⟩ sv') := by
 have h0 := h.size
 have e1 : (ss ++ [r]).length = ss.length + 1 := by simp
 have e2 : (ss ++ [r]).flatten.map (Value.int .i64) = ss.flatten.map (Value.int .i64) ++ r.map (Value.int .i64) := by simp
 refine ⟨(below_grown h.below hg h.shapes (by omega) (by omega)).setCell (p := ⟨B + 1 + 1,0,none⟩) (by show B ≤ B + 1 + 1;omega) _,by have := hg.size;simp;omega,(cells_grown h.arg hg (own_ne h.shapes (by omega))).other (by omega) _,(cells_grown h.res hg (own_ne h.shapes (by omega))).other (by omega) _, ?_,h.clen, ?_, ?_⟩
 ·exact cells_store (cells_grown h.floor hg (own_ne h.shapes (by omega)))
 ·rw [e1,e2];exact set_own ho (own_ne' ho (by omega))
 ·exact set_own (h.items.kept hg (apart_types h.items h.shapes hT)) (own_ne' h.items (by omega))
theorem MadeAt.add {TS TI B : Nat} {w W W' : World} {args : List Value} {c : List Int} {sv iv iv' : Value} {ss : List (List Int)} {xs : List It} {x : It} (h : MadeAt TS TI B w args c sv iv ss xs W) (hT : TS ≠ TI) (hg : W.grownBy W' iv.ownBlock)
  (ho : W'.ownsRow (B + 1 + 1 + 1) TI 3 iv' (xs.length + 1) ((xs.map rowX).flatten.map (Value.int .i64) ++ (rowX x).map (Value.int .i64))) : MadeAt TS TI B w args c sv iv' ss (xs ++ [x]) (W'.setCell ⟨B + 1 + 1,8,none⟩ iv') := by
 have h0 := h.size
 have e1 : (xs ++ [x]).length = xs.length + 1 := by simp
 have e2 : ((xs ++ [x]).map rowX).flatten.map (Value.int .i64) = (xs.map rowX).flatten.map (Value.int .i64) ++ (rowX x).map (Value.int .i64) := by simp
 refine ⟨(below_grown h.below hg h.items (by omega) (by omega)).setCell (p := ⟨B + 1 + 1,8,none⟩) (by show B ≤ B + 1 + 1;omega) _,by have := hg.size;simp;omega,(cells_grown h.arg hg (own_ne h.items (by omega))).other (by omega) _,(cells_grown h.res hg (own_ne h.items (by omega))).other (by omega) _, ?_,h.clen, ?_, ?_⟩
 ·have h1 := cells_store (o := 8) (u := iv') (cells_grown h.floor hg (own_ne h.items (by omega)))
  match c,h.clen,h1 with
  | [c1,c2,c3,c4,c5,c6],_,h1 => exact h1
 ·exact set_own (h.shapes.kept hg (apart_types h.shapes h.items hT)) (own_ne' h.shapes (by omega))
 ·rw [e1,e2];exact set_own ho (own_ne' ho (by omega))
theorem own_set {W : World} {lo T n s cap g k : Nat} {xs : List Value} {v : Value} (h : W.ownsRow lo T s (.slice (some ⟨g,0,none⟩) n cap) n xs) : (W.setCell ⟨g,k,none⟩ v).ownsRow lo T s (.slice (some ⟨g,0,none⟩) n cap) n (xs.set k v) := by
 refine ⟨by rw [List.length_set];exact h.1, ?_⟩
 rcases h.2 with ⟨h1,_⟩ | ⟨g',cap',cur,h1,h2,h3,h4,h5,h6,h7⟩
 ·cases h1
 ·injection h1 with e1 _ e2
  injection e1 with e1
  injection e1 with e1
  subst e1;subst e2
  refine .inr ⟨g,cap,cur.setIfInBounds k v,rfl,h2, ?_,h4,h5,by rw [Array.size_setIfInBounds];exact h6, ?_⟩
  ·rw [Go.Sort.setCell_eq]
   unfold Go.Sort.mapBlock
   rw [Array.getElem?_modify,if_pos rfl,h3];rfl
  ·rw [Array.toList_setIfInBounds,List.take_set,h7]
theorem flat_set : ∀ {xs : List It} {i : Nat} {x : It},i < xs.length → (((((xs.map rowX).flatten.map (Value.int .i64)).set (i * 3) (.int .i64 x.shape)).set (i * 3 + 1) (.int .i64 x.many)).set (i * 3 + 2) (.int .i64 x.clear)) = ((xs.set i x).map rowX).flatten.map (Value.int .i64)
 | [],i,x,h => by simp at h
 | y :: ys,0,x,h => rfl
 | y :: ys,i + 1,x,h => by
  have ih := flat_set (xs := ys) (i := i) (x := x) (by simpa using h)
  have e : ∀ (l : List Value) (j : Nat) (v : Value),(Value.int .i64 y.shape :: .int .i64 y.many :: .int .i64 y.clear :: l).set (j + 3) v = .int .i64 y.shape :: .int .i64 y.many :: .int .i64 y.clear :: l.set j v := fun l j v => rfl
  have e0 : (((y :: ys).map rowX).flatten.map (Value.int .i64)) = .int .i64 y.shape :: .int .i64 y.many :: .int .i64 y.clear :: ((ys.map rowX).flatten.map (Value.int .i64)) := rfl
  rw [e0,show (i + 1) * 3 = i * 3 + 3 by omega,show i * 3 + 3 + 1 = i * 3 + 1 + 3 by omega,show i * 3 + 3 + 2 = i * 3 + 2 + 3 by omega,e,e,e,ih]
  rfl
theorem MadeAt.over {TS TI B g cap i : Nat} {w W : World} {args : List Value} {c : List Int} {sv : Value} {ss : List (List Int)} {xs : List It} {x : It} (h : MadeAt TS TI B w args c sv (.slice (some ⟨g,0,none⟩) xs.length cap) ss xs W) (hT : TS ≠ TI) (hi : i < xs.length) :
  MadeAt TS TI B w args c sv (.slice (some ⟨g,0,none⟩) xs.length cap) ss (xs.set i x) (((W.setCell ⟨g,i * 3,none⟩ (.int .i64 x.shape)).setCell ⟨g,i * 3 + 1,none⟩ (.int .i64 x.many)).setCell ⟨g,i * 3 + 2,none⟩ (.int .i64 x.clear)) := by
 have h0 := h.size
 have hgb := own_ge h.items g rfl
 have n1 : ∀ o u,sv.ownBlock = none ∨ sv.ownBlock ≠ some (⟨g,o,u⟩ : Addr).block := fun o u => apart_types h.shapes h.items hT
 refine ⟨((h.below.setCell (p := ⟨g,i * 3,none⟩) (by show B ≤ g;omega) _).setCell (p := ⟨g,i * 3 + 1,none⟩) (by show B ≤ g;omega) _).setCell (p := ⟨g,i * 3 + 2,none⟩) (by show B ≤ g;omega) _,by simp;omega,((h.arg.other (by omega) _).other (by omega) _).other (by omega) _,((h.res.other (by omega) _).other (by omega) _).other (by omega) _,((h.floor.other (by omega) _).other (by omega) _).other (by omega) _,h.clen, ?_, ?_⟩
 ·exact set_own (set_own (set_own h.shapes (n1 0 none)) (n1 0 none)) (n1 0 none)
 ·rw [List.length_set, ← flat_set hi]
  exact own_set (own_set (own_set h.items))
theorem MadeAt.wares {TS TI B : Nat} {w W : World} {args : List Value} {c : List Int} {sv sv' iv : Value} {ss ss' : List (List Int)} {xs : List It} (h : MadeAt TS TI B w args c sv iv ss xs W) (ho : W.ownsRow (B + 1 + 1 + 1) TS 11 sv' ss'.length (ss'.flatten.map (Value.int .i64))) :
  MadeAt TS TI B w args c sv' iv ss' xs ((W.setCell ⟨B + 1 + 1,0,none⟩ sv').setCell ⟨B + 1 + 1,1,none⟩ (.slice none 0 0)) := by
 have h0 := h.size
 refine ⟨(h.below.setCell (p := ⟨B + 1 + 1,0,none⟩) (by show B ≤ B + 1 + 1;omega) _).setCell (p := ⟨B + 1 + 1,1,none⟩) (by show B ≤ B + 1 + 1;omega) _,by simp;omega,(h.arg.other (by omega) _).other (by omega) _,(h.res.other (by omega) _).other (by omega) _, ?_,h.clen,set_own (set_own ho (own_ne' ho (by omega))) (own_ne' ho (by omega)),set_own (set_own h.items (own_ne' h.items (by omega))) (own_ne' h.items (by omega))⟩
 exact cells_store (o := 1) (cells_store (o := 0) h.floor)
theorem MadeAt.box {TS TI B : Nat} {w W : World} {args : List Value} {c : List Int} {sv iv : Value} {ss : List (List Int)} {xs : List It} {c1 c2 c3 c4 c5 c6 : Int} (h : MadeAt TS TI B w args c sv iv ss xs W) :
  MadeAt TS TI B w args [c1,c2,c3,c4,c5,c6] sv iv ss xs ((((((W.setCell ⟨B + 1 + 1,2,none⟩ (.int .i64 c1)).setCell ⟨B + 1 + 1,3,none⟩ (.int .i64 c2)).setCell ⟨B + 1 + 1,4,none⟩ (.int .i64 c3)).setCell ⟨B + 1 + 1,5,none⟩ (.int .i64 c4)).setCell ⟨B + 1 + 1,6,none⟩ (.int .i64 c5)).setCell ⟨B + 1 + 1,7,none⟩ (.int .i64 c6)) := by
 have h0 := h.size
 have hb : ∀ {V : World} (o : Nat) (u : Value),Below B w V → Below B w (V.setCell ⟨B + 1 + 1,o,none⟩ u) := fun o u h => h.setCell (p := ⟨B + 1 + 1,o,none⟩) (by show B ≤ B + 1 + 1;omega) u
 have hs := own_ne' h.shapes (b := B + 1 + 1) (by omega)
 have hi := own_ne' h.items (b := B + 1 + 1) (by omega)
 refine ⟨hb _ _ (hb _ _ (hb _ _ (hb _ _ (hb _ _ (hb _ _ h.below))))),by simp;omega,(((((h.arg.other (by omega) _).other (by omega) _).other (by omega) _).other (by omega) _).other (by omega) _).other (by omega) _,(((((h.res.other (by omega) _).other (by omega) _).other (by omega) _).other (by omega) _).other (by omega) _).other (by omega) _, ?_,rfl,set_own (set_own (set_own (set_own (set_own (set_own h.shapes hs) hs) hs) hs) hs) hs,set_own (set_own (set_own (set_own (set_own (set_own h.items hi) hi) hi) hi) hi) hi⟩
 have h1 := cells_store (o := 7) (u := .int .i64 c6) (cells_store (o := 6) (u := .int .i64 c5) (cells_store (o := 5) (u := .int .i64 c4) (cells_store (o := 4) (u := .int .i64 c3) (cells_store (o := 3) (u := .int .i64 c2) (cells_store (o := 2) (u := .int .i64 c1) h.floor)))))
 match c,h.clen,h1 with
 | [a1,a2,a3,a4,a5,a6],_,h1 => exact h1
theorem MadeAt.side {TS TI B b o : Nat} {w W : World} {args : List Value} {c : List Int} {sv iv u : Value} {ss : List (List Int)} {xs : List It} (h : MadeAt TS TI B w args c sv iv ss xs W) (hb : B + 1 + 1 + 1 ≤ b) (hs : ∀ a,sv.ownBlock = some a → a < b) (hi : ∀ a,iv.ownBlock = some a → a < b) :
  MadeAt TS TI B w args c sv iv ss xs (W.setCell ⟨b,o,none⟩ u) := by
 have h0 := h.size
 exact ⟨h.below.setCell (p := ⟨b,o,none⟩) (by show B ≤ b;omega) _,by simp;omega,h.arg.other (by omega) _,h.res.other (by omega) _,h.floor.other (by omega) _,h.clen,set_own h.shapes (.inr fun e => by have := hs b e;omega),set_own h.items (.inr fun e => by have := hi b e;omega)⟩
theorem MadeAt.lt {TS TI B : Nat} {w W : World} {args : List Value} {c : List Int} {sv iv : Value} {ss : List (List Int)} {xs : List It} (h : MadeAt TS TI B w args c sv iv ss xs W) : (∀ a,sv.ownBlock = some a → a < W.heap.size) ∧ ∀ a,iv.ownBlock = some a → a < W.heap.size :=
 ⟨fun a e => (World.ownsRow.lt h.shapes a e).2,fun a e => (World.ownsRow.lt h.items a e).2⟩
theorem goodS_i64 {ss : List (List Int)} (h : GoodS ss) : ∀ r ∈ ss,r.length = 11 ∧ ∀ z ∈ r,I64 z := by
 intro r hr
 obtain ⟨k,hk⟩ := List.getElem?_of_mem hr
 obtain ⟨h1,_,h3⟩ := h.2 k r hk
 refine ⟨h1, ?_⟩
 obtain ⟨a0,a1,a2,a3,a4,a5,a6,a7,a8,a9,a10,rfl⟩ := len11 h1
 have h4 := shOk_iff.1 h3
 simp only [shR,List.getD_cons_zero,List.getD_cons_succ] at h4
 intro z hz
 simp only [List.mem_cons,List.not_mem_nil,or_false] at hz
 rcases hz with rfl | rfl | rfl | rfl | rfl | rfl | rfl | rfl | rfl | rfl | rfl <;> exact I64.mk (by omega) (by omega)
theorem item_i64 {ss : List (List Int)} {x : It} (h : GoodS ss) (hx : itemB ss x = true) : ∀ z ∈ rowX x,I64 z := by
 unfold itemB at hx
 split at hx
 ·rename_i r hf
  obtain ⟨hm,hid⟩ := findR_mem hf
  obtain ⟨k,hk⟩ := List.getElem?_of_mem hm
  have h3 := shOk_iff.1 (h.2 k r hk).2.2
  rw [Bool.and_eq_true,btw_iff] at hx
  have hs : ckP (shR r) x.many = 0 := by
   have h4 := hx.1
   unfold Ware.stands at h4
   split at h4
   ·assumption
   ·cases h4
  have hmn : 1 ≤ x.many ∧ x.many ≤ 40 := by
   unfold ckP at hs
   split at hs
   ·split at hs
    ·rename_i hb;exact btw_iff.1 hb
    ·cases hs
   ·cases hs
  have hsh : (shR r).id = x.shape := hid
  intro z hz
  simp only [rowX,List.mem_cons,List.not_mem_nil,or_false] at hz
  rcases hz with rfl | rfl | rfl
  ·exact I64.mk (by omega) (by omega)
  ·exact I64.mk (by omega) (by omega)
  ·exact I64.mk (by omega) (by omega)
 ·cases hx
theorem MadeAt.rows {TS TI B : Nat} {w W : World} {args : List Value} {c : List Int} {sv iv : Value} {ss : List (List Int)} {xs : List It} (h : MadeAt TS TI B w args c sv iv ss xs W) (hg : GoodS ss) : RowsAt 11 W sv ss :=
 rowsAt_of_owns (rows := ss) (fun r hr => (goodS_i64 hg r hr).1) h.shapes (fun r hr => (goodS_i64 hg r hr).2)
end Go.Pb.Sag
namespace Go.Pb.Sag
open Go Go.Pb Go.Pb.Ware Go.RowKit

theorem weightL_cons (f : Ft) (fs : List Ft) : weightL (f :: fs) = f.weight + weightL fs := by unfold weightL;rw [List.map_cons,List.sum_cons]
theorem sums_sub {gs fs : List Ft} (h : gs.Sublist fs) : (∀ f ∈ fs,FtOk f) → weightL gs ≤ weightL fs ∧ areaL gs ≤ areaL fs := by
 induction h with
 | slnil => exact fun _ => ⟨Int.le_refl _,Int.le_refl _⟩
 | cons a _ ih =>
  intro hF
  have h1 := ih fun f hf => hF f (List.mem_cons_of_mem _ hf)
  have ha := hF a List.mem_cons_self
  unfold FtOk at ha
  have hm : 0 ≤ a.wide * a.deep := Int.mul_nonneg (by omega) (by omega)
  rw [weightL_cons,areaL_cons];omega
 | cons_cons a _ ih =>
  intro hF
  have h1 := ih fun f hf => hF f (List.mem_cons_of_mem _ hf)
  rw [weightL_cons,weightL_cons,areaL_cons,areaL_cons];omega
theorem trouble_up {s : Bx} {gs fs : List Ft} {k : Int} (h : gs.Sublist fs) (hF : ∀ f ∈ fs,FtOk f) (ht : troubleB s gs k = true) : troubleB s fs k = true := by
 have hs := sums_sub h hF
 by_cases h1 : k = 1
 ·subst h1
  obtain ⟨f,hf,h2⟩ := List.any_eq_true.1 (show gs.any (highB s) = true from ht)
  exact (List.any_eq_true.2 ⟨f,h.subset hf,h2⟩ : fs.any (highB s) = true)
 by_cases h2 : k = 2
 ·subst h2
  obtain ⟨f,hf,h2⟩ := List.any_eq_true.1 (show gs.any (noStand s) = true from ht)
  exact (List.any_eq_true.2 ⟨f,h.subset hf,h2⟩ : fs.any (noStand s) = true)
 by_cases h3 : k = 3
 ·subst h3
  have h4 := of_decide_eq_true (show decide (s.bears < weightL gs) = true from ht)
  exact (decide_eq_true (by omega) : decide (s.bears < weightL fs) = true)
 by_cases h4 : k = 4
 ·subst h4
  have h5 := of_decide_eq_true (show decide (s.wide * s.deep < areaL gs) = true from ht)
  exact (decide_eq_true (by omega) : decide (s.wide * s.deep < areaL fs) = true)
 unfold troubleB at ht
 rw [if_neg h1,if_neg h2,if_neg h3,if_neg h4] at ht
 cases ht
end Go.Pb.Sag
namespace Go.Pb
open Go Go.RowKit

structure LAt (n : Nat) (w : World) (v : Value) (m : Nat) (cs : List Value) : Prop where
 len : cs.length = m * n
 one : ∀ u ∈ cs,u.oneCell' = true
 at' : (v = .slice none 0 0 ∧ m = 0) ∨ ∃ (a : Addr) (cap : Nat),v = .slice (some a) m cap ∧ m ≤ cap ∧ cap ≤ 9223372036854775807 ∧ ∀ j u,cs[j]? = some u → w.cell? (a.add j) = some u
theorem LAt.below {n m : Nat} {w w' : World} {v : Value} {cs : List Value} (h : LAt n w v m cs) (hb : Below w.heap.size w w') : LAt n w' v m cs :=
 ⟨h.len,h.one,by
  rcases h.at' with h1 | ⟨a,cap,h1,h2,h3,h4⟩
  ·exact .inl h1
  ·exact .inr ⟨a,cap,h1,h2,h3,fun j u hu => bkeep hb (h4 j u hu)⟩⟩
theorem LAt.shape {n m : Nat} {w : World} {v : Value} {cs : List Value} (h : LAt n w v m cs) : ∃ (a : Option Addr) (cap : Nat),v = .slice a m cap ∧ m ≤ cap ∧ cap ≤ 9223372036854775807 ∧ (a = none → m = 0 ∧ cap = 0) := by
 rcases h.at' with ⟨h1,h2⟩ | ⟨a,cap,h1,h2,h3,h4⟩
 ·subst h2;exact ⟨none,0,h1,Nat.le_refl _,by omega,fun _ => ⟨rfl,rfl⟩⟩
 ·exact ⟨some a,cap,h1,h2,h3,fun e => by cases e⟩
theorem LAt.cells {n m cap : Nat} {w : World} {a : Addr} {cs : List Value} (h : LAt n w (.slice (some a) m cap) m cs) : ∀ j u,cs[j]? = some u → w.cell? (a.add j) = some u := by
 rcases h.at' with ⟨h1,_⟩ | ⟨a',cap',h1,_,_,h4⟩
 ·cases h1
 ·injection h1 with h1 _ _;injection h1 with h1;subst h1;exact h4
theorem LAt.nil {n cap : Nat} {w : World} {cs : List Value} {m : Nat} (h : LAt n w (.slice none m cap) m cs) : m = 0 ∧ cap = 0 ∧ cs = [] := by
 rcases h.at' with ⟨h1,h2⟩ | ⟨a',cap',h1,_,_,h4⟩
 ·injection h1 with _ _ h3;subst h2;exact ⟨rfl,h3,List.length_eq_zero_iff.1 (by rw [h.len];simp)⟩
 ·injection h1 with h1 _ _;cases h1
theorem LAt.head {n m cap k : Nat} {w : World} {a : Addr} {cs : List Value} (h : LAt n w (.slice (some a) m cap) m cs) (hk : k ≤ m) : LAt n w (.slice (some a) k cap) k (cs.take (k * n)) := by
 obtain ⟨_,cap',e,h2,h3,_⟩ := h.shape
 injection e with _ _ e;subst e
 refine ⟨by rw [List.length_take,h.len];exact Nat.min_eq_left (Nat.mul_le_mul_right n hk),fun u hu => h.one u (List.mem_of_mem_take hu), .inr ⟨a,cap,rfl,by omega,h3,fun j u hu => ?_⟩⟩
 rw [List.getElem?_take] at hu
 split at hu
 ·exact h.cells j u hu
 ·cases hu
theorem LAt.tail {n m cap k : Nat} {w : World} {a q : Addr} {cs : List Value} (h : LAt n w (.slice (some a) m cap) m cs) (hk : k ≤ m) (hq : k < m → q = a.add (k * n)) : LAt n w (.slice (some q) (m - k) (cap - k)) (m - k) (cs.drop (k * n)) := by
 obtain ⟨_,cap',e,h2,h3,_⟩ := h.shape
 injection e with _ _ e;subst e
 refine ⟨by rw [List.length_drop,h.len,Nat.sub_mul],fun u hu => h.one u (List.mem_of_mem_drop hu), .inr ⟨q,cap - k,rfl,by omega,by omega,fun j u hu => ?_⟩⟩
 have hkm : k < m := by
  rcases Nat.lt_or_ge k m with h5 | h5
  ·exact h5
  ·have h6 := (List.getElem?_eq_some_iff.1 hu).1
   rw [List.length_drop,h.len] at h6
   have := Nat.mul_le_mul_right n h5
   omega
 rw [hq hkm,Go.Deep.add_add]
 rw [List.getElem?_drop] at hu
 exact h.cells _ u hu
theorem drop_take_erase {n : Nat} {α : Type} {f : α → List Value} (hf : ∀ x,(f x).length = n) : ∀ {l : List α} {k : Nat},(l.flatMap f).take (k * n) = (l.take k).flatMap f ∧ (l.flatMap f).drop (k * n) = (l.drop k).flatMap f
 | [],k => by simp
 | x :: l,0 => by simp
 | x :: l,k + 1 => by
  obtain ⟨h1,h2⟩ := drop_take_erase hf (l := l) (k := k)
  rw [List.flatMap_cons,List.take_succ_cons,List.drop_succ_cons,List.flatMap_cons,Nat.succ_mul]
  have e : (f x).length ≤ k * n + n := by rw [hf];omega
  refine ⟨?_, ?_⟩
  ·rw [List.take_append,List.take_of_length_le e,hf,show k * n + n - n = k * n by omega,h1]
  ·rw [List.drop_append,List.drop_of_length_le e,hf,show k * n + n - n = k * n by omega,h2,List.nil_append]
theorem flat_erase {n : Nat} {α : Type} {f : α → List Value} (hf : ∀ x,(f x).length = n) (l : List α) (k : Nat) : (l.flatMap f).take (k * n) ++ (l.flatMap f).drop ((k + 1) * n) = (l.eraseIdx k).flatMap f := by
 rw [(drop_take_erase hf).1,(drop_take_erase hf).2, ← List.flatMap_append, ← List.eraseIdx_eq_take_drop_succ]
end Go.Pb
namespace Go.Pb.Sag
open Go Go.Pb Go.Pb.Ware Go.RowKit

def cellsX (x : It) : List Value := [.int .i64 x.shape, .int .i64 x.many, .int .i64 x.clear]
def itCells (xs : List It) : List Value := xs.flatMap cellsX
theorem lenX (x : It) : (cellsX x).length = 3 := rfl
theorem it_len (xs : List It) : (itCells xs).length = xs.length * 3 := by
 unfold itCells
 induction xs with
 | nil => rfl
 | cons x xs ih => rw [List.flatMap_cons,List.length_append,ih,List.length_cons,lenX];omega
theorem it_one {xs : List It} : ∀ u ∈ itCells xs,u.oneCell' = true := fun u hu => by
 obtain ⟨x,_,h⟩ := List.mem_flatMap.1 hu
 simp only [cellsX,List.mem_cons,List.not_mem_nil,or_false] at h
 rcases h with rfl | rfl | rfl <;> rfl
theorem it_flat (xs : List It) : itCells xs = (xs.map rowX).flatten.map (Value.int .i64) := by
 unfold itCells
 induction xs with
 | nil => rfl
 | cons x xs ih => rw [List.flatMap_cons,ih,List.map_cons,List.flatten_cons,List.map_append];rfl
def I64X (x : It) : Prop := I64 x.shape ∧ I64 x.many ∧ I64 x.clear
theorem it_rows {w : World} {base : Nat} {T : TypeId} {v : Value} {xs : List It} (h : w.ownsRow base T 3 v xs.length (itCells xs)) (hi : ∀ x ∈ xs,I64X x) : RowsAt 3 w v (xs.map rowX) := by
 refine rowsAt_of_owns (e := T) (base := base) (fun r hr => ?_) (by rw [List.length_map, ← it_flat];exact h) (fun r hr z hz => ?_)
 ·obtain ⟨x,_,rfl⟩ := List.mem_map.1 hr;rfl
 ·obtain ⟨x,hx,rfl⟩ := List.mem_map.1 hr
  obtain ⟨h1,h2,h3⟩ := hi x hx
  simp only [rowX,List.mem_cons,List.not_mem_nil,or_false] at hz
  rcases hz with rfl | rfl | rfl
  ·exact h1
  ·exact h2
  ·exact h3
theorem it_i64 {w : World} {iv : Value} {xs : List It} (hi : RowsAt 3 w iv (xs.map rowX)) {k : Nat} {x : It} (hx : xs[k]? = some x) : I64X x := by
 rcases hi with ⟨_,h⟩ | ⟨a,cap,_,_,_,h⟩
 ·rw [List.map_eq_nil_iff] at h;subst h;simp at hx
 ·have h1 := (h k (rowX x) (by rw [List.getElem?_map,hx];rfl)).2
  exact ⟨(h1 0 _ rfl).2,(h1 1 _ rfl).2,(h1 2 _ rfl).2⟩
theorem it_lat {w : World} {v : Value} {xs : List It} (h : RowsAt 3 w v (xs.map rowX)) : LAt 3 w v xs.length (itCells xs) := by
 refine ⟨it_len xs,it_one, ?_⟩
 rcases h with ⟨h1,h2⟩ | ⟨a,cap,h1,h2,h3,h4⟩
 ·rw [List.map_eq_nil_iff] at h2;subst h2;exact .inl ⟨h1,rfl⟩
 ·rw [List.length_map] at h1 h2
  refine .inr ⟨a,cap,h1,h2,h3,fun j u hu => ?_⟩
  have hj := (List.getElem?_eq_some_iff.1 hu).1
  rw [it_len] at hj
  have hk : j / 3 < xs.length := by omega
  have hx : xs[j / 3]? = some xs[j / 3] := List.getElem?_eq_getElem hk
  have e := flat_get cellsX lenX hx (show j % 3 < 3 by omega)
  rw [show j / 3 * 3 + j % 3 = j by omega] at e
  have hu2 : (cellsX xs[j / 3])[j % 3]? = some u := by rw [← e];exact hu
  have h5 := (h4 (j / 3) (rowX xs[j / 3]) (by rw [List.getElem?_map,hx];rfl)).2
  have key : ∀ i,i < 3 → (cellsX xs[j / 3])[i]? = some u → w.cell? (a.add (j / 3 * 3 + i)) = some u := by
   intro i hi hu3
   match i,hi with
   | 0,_ => injection hu3 with e;rw [← e];exact (h5 0 _ rfl).1
   | 1,_ => injection hu3 with e;rw [← e];exact (h5 1 _ rfl).1
   | 2,_ => injection hu3 with e;rw [← e];exact (h5 2 _ rfl).1
  have := key (j % 3) (by omega) hu2
  rwa [show j / 3 * 3 + j % 3 = j by omega] at this
theorem lenQ' (q : Sq) : (cellsQ q).length = 3 := rfl
theorem st_len (qs : List Sq) : (qs.flatMap cellsQ).length = qs.length * 3 := by
 induction qs with
 | nil => rfl
 | cons x xs ih => rw [List.flatMap_cons,List.length_append,ih,List.length_cons,lenQ'];omega
theorem st_one {qs : List Sq} : ∀ u ∈ qs.flatMap cellsQ,u.oneCell' = true := fun u hu => by
 obtain ⟨x,_,h⟩ := List.mem_flatMap.1 hu
 simp only [cellsQ,List.mem_cons,List.not_mem_nil,or_false] at h
 rcases h with rfl | rfl | rfl <;> rfl
theorem st_lat {w : World} {v : Value} {qs : List Sq} (h : StAt w v qs) : LAt 3 w v qs.length (qs.flatMap cellsQ) := by
 refine ⟨st_len qs,st_one, ?_⟩
 rcases h with ⟨h1,h2⟩ | ⟨a,cap,h1,h2,h3,h4⟩
 ·subst h2;exact .inl ⟨h1,rfl⟩
 ·refine .inr ⟨a,cap,h1,h2,h3,fun j u hu => ?_⟩
  have hj := (List.getElem?_eq_some_iff.1 hu).1
  rw [st_len] at hj
  have hx : qs[j / 3]? = some qs[j / 3] := List.getElem?_eq_getElem (by omega)
  have e := flat_get cellsQ lenQ' hx (show j % 3 < 3 by omega)
  rw [show j / 3 * 3 + j % 3 = j by omega] at e
  have := h4 (j / 3) _ hx (j % 3) u (by rw [← e];exact hu)
  rwa [show j / 3 * 3 + j % 3 = j by omega] at this
end Go.Pb.Sag
namespace Go.Pb.Sag
open Go Go.Pb Go.Pb.Ware Go.RowKit

theorem mem_cellL {s : Bx} {f : Ft} {y x : Nat} {p : St} : p ∈ cellL s f y x (ways f).length ↔ p.y = y ∧ p.x = x ∧ p.turned ∈ ways f ∧ okAt s f p = true := by
 unfold cellL
 rw [List.take_length,List.mem_filter,List.mem_map]
 constructor
 ·rintro ⟨⟨t,ht,rfl⟩,h⟩;exact ⟨rfl,rfl,ht,h⟩
 ·rintro ⟨rfl,rfl,h1,h2⟩;exact ⟨⟨p.turned,h1,rfl⟩,h2⟩
theorem mem_rowL {s : Bx} {f : Ft} {y : Nat} {p : St} : ∀ {m : Nat},p ∈ rowL s f y m ↔ p.y = y ∧ p.x < m ∧ p.turned ∈ ways f ∧ okAt s f p = true
 | 0 => by simp [rowL]
 | m + 1 => by
  rw [rowL,List.mem_append,mem_rowL (m := m),mem_cellL]
  constructor
  ·rintro (⟨h1,h2,h3⟩ | ⟨h1,h2,h3⟩)
   ·exact ⟨h1,by omega,h3⟩
   ·exact ⟨h1,by omega,h3⟩
  ·rintro ⟨h1,h2,h3⟩
   by_cases e : p.x = m
   ·exact .inr ⟨h1,e,h3⟩
   ·exact .inl ⟨h1,by omega,h3⟩
theorem mem_standsN {s : Bx} {f : Ft} {p : St} : ∀ {n : Nat},p ∈ standsN s f n ↔ p.y < n ∧ p.x < s.wide.toNat ∧ p.turned ∈ ways f ∧ okAt s f p = true
 | 0 => by simp [standsN]
 | n + 1 => by
  rw [standsN,List.mem_append,mem_standsN (n := n),mem_rowL]
  constructor
  ·rintro (⟨h1,h3⟩ | ⟨h1,h3⟩)
   ·exact ⟨by omega,h3⟩
   ·exact ⟨by omega,h3⟩
  ·rintro ⟨h1,h3⟩
   by_cases e : p.y = n
   ·exact .inr ⟨e,h3⟩
   ·exact .inl ⟨by omega,h3⟩
theorem mem_stands {s : Bx} {f : Ft} {p : St} : p ∈ standsL s f ↔ p.y < s.deep.toNat ∧ p.x < s.wide.toNat ∧ p.turned ∈ ways f ∧ okAt s f p = true := mem_standsN
theorem any_toSq {s : Bx} {f : Ft} {q : Sq} : anySt q.y q.x q.turned (standsL s f) = true ↔ ∃ p ∈ standsL s f,q = toSq p := by
 unfold anySt
 rw [List.any_eq_true]
 constructor
 ·rintro ⟨p,hp,h⟩;exact ⟨p,hp,same_toSq h⟩
 ·rintro ⟨p,hp,rfl⟩
  refine ⟨p,hp, ?_⟩
  unfold sameSt toSq;simp
def GoodP (s : Bx) (t : Nat) (p : Ft × Sq) : Prop := anySt p.2.y p.2.x p.2.turned (standsL s p.1) = true ∧ t &&& maskQ p.1 p.2 = 0
def OffP (p r : Ft × Sq) : Prop := maskQ p.1 p.2 &&& maskQ r.1 r.2 = 0
theorem place_zip {s : Bx} : ∀ {ps : List (Ft × Sq)} {t : Nat},placeB s (ps.map Prod.fst) (ps.map Prod.snd) t = true ↔ (∀ p ∈ ps,GoodP s t p) ∧ ps.Pairwise OffP
 | [],t => by simp [placeB]
 | p :: ps,t => by
  rw [List.map_cons,List.map_cons,placeB,Bool.and_eq_true,Bool.and_eq_true,place_zip (ps := ps),List.pairwise_cons]
  have e : (!(t &&& maskQ p.1 p.2 != 0)) = true ↔ t &&& maskQ p.1 p.2 = 0 := by simp
  rw [e]
  constructor
  ·rintro ⟨h1,h2,h3,h4⟩
   refine ⟨fun r hr => ?_,fun r hr => (or_and_zero.1 (h3 r hr).2).2,h4⟩
   rcases List.mem_cons.1 hr with rfl | hr
   ·exact ⟨h1,h2⟩
   ·exact ⟨(h3 r hr).1,(or_and_zero.1 (h3 r hr).2).1⟩
  ·rintro ⟨h1,h2,h3⟩
   refine ⟨(h1 p (by simp)).1,(h1 p (by simp)).2,fun r hr => ?_,h3⟩
   have h4 := h1 r (by simp [hr])
   exact ⟨h4.1,or_and_zero.2 ⟨h4.2,h2 r hr⟩⟩
theorem off_symm {p r : Ft × Sq} (h : OffP p r) : OffP r p := by unfold OffP at *;rw [Nat.and_comm];exact h
theorem unzip {fs : List Ft} {qs : List Sq} (h : qs.length = fs.length) : (fs.zip qs).map Prod.fst = fs ∧ (fs.zip qs).map Prod.snd = qs := ⟨List.map_fst_zip (by omega),List.map_snd_zip (by omega)⟩
theorem map_erase {α β : Type} {g : α → β} : ∀ {l : List α} {k : Nat},(l.eraseIdx k).map g = (l.map g).eraseIdx k
 | [],_ => rfl
 | x :: l,0 => rfl
 | x :: l,k + 1 => by rw [List.eraseIdx_cons_succ,List.map_cons,List.map_cons,List.eraseIdx_cons_succ,map_erase]
theorem trouble_perm {s : Bx} {fs gs : List Ft} (h : fs.Perm gs) (k : Int) : troubleB s fs k = troubleB s gs k := by
 unfold troubleB weightL areaL
 have h1 : ∀ p : Ft → Bool,fs.any p = gs.any p := fun p => h.any_eq
 have h2 := sum_perm (h.map fun f => f.weight)
 have h3 := sum_perm (h.map fun f => f.wide * f.deep)
 rw [h1,h1,h2,h3]
theorem pack_zip {s : Bx} {ps : List (Ft × Sq)} : packB s (ps.map Prod.fst) (ps.map Prod.snd) = true ↔ (troubleB s (ps.map Prod.fst) 1 = false ∧ troubleB s (ps.map Prod.fst) 3 = false) ∧ (∀ p ∈ ps,GoodP s 0 p) ∧ ps.Pairwise OffP := by
 unfold packB
 rw [Bool.and_eq_true,Bool.and_eq_true,Bool.and_eq_true,place_zip]
 simp [and_assoc]
theorem pack_perm {s : Bx} {ps rs : List (Ft × Sq)} (h : ps.Perm rs) (hp : packB s (ps.map Prod.fst) (ps.map Prod.snd) = true) : packB s (rs.map Prod.fst) (rs.map Prod.snd) = true := by
 obtain ⟨⟨h1,h2⟩,h3,h4⟩ := pack_zip.1 hp
 refine pack_zip.2 ⟨⟨by rw [← trouble_perm (h.map Prod.fst)];exact h1,by rw [← trouble_perm (h.map Prod.fst)];exact h2⟩,fun p hp => h3 p (h.mem_iff.2 hp),(h.pairwise_iff off_symm).1 h4⟩
theorem pack_part {s : Bx} {ps rs : List (Ft × Sq)} (h : rs.Sublist ps) (hF : ∀ f ∈ ps.map Prod.fst,FtOk f) (hp : packB s (ps.map Prod.fst) (ps.map Prod.snd) = true) : packB s (rs.map Prod.fst) (rs.map Prod.snd) = true := by
 obtain ⟨⟨h1,h2⟩,h3,h4⟩ := pack_zip.1 hp
 have up : ∀ k,troubleB s (ps.map Prod.fst) k = false → troubleB s (rs.map Prod.fst) k = false := fun k hk => by
  cases ht : troubleB s (rs.map Prod.fst) k with
  | false => rfl
  | true => rw [trouble_up (h.map Prod.fst) hF ht] at hk;cases hk
 exact pack_zip.2 ⟨⟨up 1 h1,up 3 h2⟩,fun p hp => h3 p (h.subset hp),h4.sublist h⟩
theorem pack_take {s : Bx} {fs : List Ft} {qs : List Sq} {k : Nat} (hF : ∀ f ∈ fs,FtOk f) (h : packB s fs qs = true) : packB s (fs.eraseIdx k) (qs.eraseIdx k) = true := by
 have hl : qs.length = fs.length := by unfold packB at h;rw [Bool.and_eq_true,decide_eq_true_eq] at h;exact h.1
 obtain ⟨e1,e2⟩ := unzip hl
 have h2 : packB s ((fs.zip qs).map Prod.fst) ((fs.zip qs).map Prod.snd) = true := by rw [e1,e2];exact h
 have h3 := pack_part (rs := (fs.zip qs).eraseIdx k) (List.eraseIdx_sublist _ _) (by rw [e1];exact hF) h2
 rwa [map_erase,map_erase,e1,e2] at h3
theorem pack_again {s : Bx} {fs : List Ft} {qs : List Sq} {k : Nat} {f : Ft} {q : Sq} (hf : fs[k]? = some f) (hq : qs[k]? = some q) (h : packB s fs qs = true) : packB s (fs.eraseIdx k ++ [f]) (qs.eraseIdx k ++ [q]) = true := by
 have hl : qs.length = fs.length := by unfold packB at h;rw [Bool.and_eq_true,decide_eq_true_eq] at h;exact h.1
 obtain ⟨e1,e2⟩ := unzip hl
 have h2 : packB s ((fs.zip qs).map Prod.fst) ((fs.zip qs).map Prod.snd) = true := by rw [e1,e2];exact h
 have hk := (List.getElem?_eq_some_iff.1 hf).1
 have hz : (fs.zip qs)[k]? = some (f,q) := by rw [List.getElem?_zip_eq_some];exact ⟨hf,hq⟩
 have hzl := (List.getElem?_eq_some_iff.1 hz).1
 have hze := (List.getElem?_eq_some_iff.1 hz).2
 have hp : (fs.zip qs).Perm ((fs.zip qs).eraseIdx k ++ [(f,q)]) := by
  rw [List.eraseIdx_eq_take_drop_succ,List.append_assoc]
  refine List.Perm.trans (List.Perm.of_eq ?_) (List.Perm.append_left _ (List.perm_append_comm (l₁ := [(f,q)])))
  rw [← hze,List.singleton_append, ← List.drop_eq_getElem_cons,List.take_append_drop]
 have h3 := pack_perm hp h2
 rwa [List.map_append,List.map_append,map_erase,map_erase,e1,e2] at h3
def addF (s : Bx) (fs : List Ft) (qs : List Sq) (f : Ft) : Option St := (standsL s f).find? fun p => packB s (fs ++ [f]) (qs ++ [toSq p])
theorem add_some {s : Bx} {fs : List Ft} {qs : List Sq} {f : Ft} {q : Sq} (h : packB s (fs ++ [f]) (qs ++ [q]) = true) : ∃ p,addF s fs qs f = some p ∧ packB s (fs ++ [f]) (qs ++ [toSq p]) = true := by
 have hl : (qs ++ [q]).length = (fs ++ [f]).length := by unfold packB at h;rw [Bool.and_eq_true,decide_eq_true_eq] at h;exact h.1
 obtain ⟨e1,e2⟩ := unzip hl
 have h2 : packB s (((fs ++ [f]).zip (qs ++ [q])).map Prod.fst) (((fs ++ [f]).zip (qs ++ [q])).map Prod.snd) = true := by rw [e1,e2];exact h
 have hll : qs.length = fs.length := by simpa using hl
 have hm : (f,q) ∈ (fs ++ [f]).zip (qs ++ [q]) := by
  refine List.mem_of_getElem? (i := fs.length) ?_
  rw [List.getElem?_zip_eq_some,List.getElem?_append_right (Nat.le_refl _),List.getElem?_append_right (by omega),Nat.sub_self,hll,Nat.sub_self]
  exact ⟨rfl,rfl⟩
 obtain ⟨p,hp,e⟩ := any_toSq.1 ((pack_zip.1 h2).2.1 _ hm).1
 dsimp only at e hp
 cases ha : addF s fs qs f with
 | none =>
  unfold addF at ha
  rw [List.find?_eq_none] at ha
  exact absurd (e ▸ h) (ha p hp)
 | some r =>
  unfold addF at ha
  exact ⟨r,rfl,List.find?_some (p := fun p => packB s (fs ++ [f]) (qs ++ [toSq p])) ha⟩
def Wider (s t : Bx) : Prop := s.wide ≤ t.wide ∧ s.deep ≤ t.deep ∧ s.high ≤ t.high ∧ s.bears ≤ t.bears
theorem stands_wide {s t : Bx} {f : Ft} {p : St} (hw : Wider s t) (h : p ∈ standsL s f) : p ∈ standsL t f := by
 obtain ⟨h1,h2,h3,h4⟩ := mem_stands.1 h
 obtain ⟨w1,w2,_,_⟩ := hw
 refine mem_stands.2 ⟨by omega,by omega,h3, ?_⟩
 unfold okAt at h4 ⊢
 rw [Bool.and_eq_true,decide_eq_true_eq,decide_eq_true_eq] at h4 ⊢
 omega
theorem pack_wide {s t : Bx} {fs : List Ft} {qs : List Sq} (hw : Wider s t) (h : packB s fs qs = true) : packB t fs qs = true := by
 have hl : qs.length = fs.length := by unfold packB at h;rw [Bool.and_eq_true,decide_eq_true_eq] at h;exact h.1
 obtain ⟨e1,e2⟩ := unzip hl
 have h2 : packB s ((fs.zip qs).map Prod.fst) ((fs.zip qs).map Prod.snd) = true := by rw [e1,e2];exact h
 obtain ⟨⟨h3,h4⟩,h5,h6⟩ := pack_zip.1 h2
 suffices h7 : packB t ((fs.zip qs).map Prod.fst) ((fs.zip qs).map Prod.snd) = true by rwa [e1,e2] at h7
 refine pack_zip.2 ⟨⟨?_, ?_⟩,fun p hp => ⟨?_,(h5 p hp).2⟩,h6⟩
 ·unfold troubleB at h3 ⊢
  rw [if_pos rfl,List.any_eq_false] at h3 ⊢
  intro f hf
  have := h3 f hf
  unfold highB at this ⊢
  rw [decide_eq_true_eq] at this ⊢
  have := hw.2.2.1
  omega
 ·unfold troubleB at h4 ⊢
  rw [if_neg (by decide),if_neg (by decide),if_pos rfl,decide_eq_false_iff_not] at h4 ⊢
  have := hw.2.2.2
  omega
 ·obtain ⟨r,hr,e⟩ := any_toSq.1 (h5 p hp).1
  exact any_toSq.2 ⟨r,stands_wide hw hr,e⟩
end Go.Pb.Sag
namespace Go.Pb.Sag
open Go Go.Pb Go.Pb.Ware Go.RowKit

def below (i : Nat) (g : List Int) : List Int := g.filter fun z => decide (z < (i : Int))
end Go.Pb.Sag