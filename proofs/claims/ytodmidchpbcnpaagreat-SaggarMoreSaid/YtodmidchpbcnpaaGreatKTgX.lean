/- Part of a claim. -/
import Derived.Test.YtodmidchpbcnpaaGreatKSpX
import Derived.Laws.OwnMore
import Derived.Test.YtodmidchpbcnpaaGreatKSdX
import Derived.OwnWalk
import Derived.Test.YtodmidchpbcnpaaGreatKLibX
set_option linter.unusedVariables false
set_option linter.unusedSimpArgs false
namespace Go.Pb.Sag
open Go Go.Pb Go.Pb.Ware Go.RowKit

def whereL (g : Nat) : Nat → List Nat → List Int
 | _, [] => []
 | i,a :: l => if a = g then (i : Int) :: whereL g (i + 1) l else whereL g (i + 1) l
def groupedL (of : List Nat) (many : Nat) : List (List Int) := (List.range many).map fun g => whereL g 0 of
theorem grouped_len {of : List Nat} {many : Nat} : (groupedL of many).length = many := by unfold groupedL;simp
theorem grouped_at {of : List Nat} {many k : Nat} (h : k < many) : (groupedL of many)[k]? = some (whereL k 0 of) := by unfold groupedL;simp [h]
end Go.Pb.Sag
namespace Go.Pb.Sag
open Go Go.Pb Go.Pb.Ware Go.RowKit

def GrpAt (lo TO TI : Nat) (gv : Value) (gs : List (List Int)) (W : World) : Prop := ∃ vs : List Value,W.ownsRow lo TO 1 gv gs.length vs ∧ RowsIn lo TI W vs gs ∧ Apart vs ∧ ∀ (k : Nat) (u : Value),vs[k]? = some u → gs[k]? = some [] → u.ownBlock = none
theorem GrpAt.push {lo TO TI i k n : Nat} (hT : TO ≠ TI) {gs : List (List Int)} {g : List Int} {W w2 w3 : World} {v v' : Value} {vs : List Value} {gb cap : Nat} (hn : gs.length = n) (hg : gs[k]? = some g) (hv : vs[k]? = some v)
  (hheads : ∀ (j : Nat) (g' : List Int) (x y : Int),j ≠ k → gs[j]? = some g' → g'[0]? = some x → (g ++ [(i : Int)])[0]? = some y → x ≠ y)
  (ho : W.ownsRow lo TO 1 (.slice (some ⟨gb,0,none⟩) n cap) n vs) (hr : RowsIn lo TI W vs gs) (hA : Apart vs) (hE : ∀ (k : Nat) (u : Value),vs[k]? = some u → gs[k]? = some [] → u.ownBlock = none) (hsz : lo ≤ W.heap.size)
  (hb : Below W.heap.size W w2) (hg3 : w2.grownBy w3 v.ownBlock) (ho3 : w3.ownsRow lo TI 1 v' (g.length + 1) (g.map (Value.int .i64) ++ [.int .i64 (i : Int)])) :
  (w3.cell? ⟨gb,k,none⟩ = some v ∧ w3.frozen? ⟨gb,k,none⟩ = false) ∧ GrpAt lo TO TI (.slice (some ⟨gb,0,none⟩) n cap) (gs.set k (g ++ [(i : Int)])) (w3.setCell ⟨gb,k,none⟩ v') ∧ Below lo W (w3.setCell ⟨gb,k,none⟩ v') := by
 subst hn
 have hk : k < gs.length := (List.getElem?_eq_some_iff.1 hg).1
 have hrow := hr k v g hv hg
 have ho2 := owns_below ho hb
 have hrow2 := owns_below hrow hb
 have hgb : lo ≤ gb := own_ge ho gb rfl
 have a1 : (Value.slice (some ⟨gb,0,none⟩) gs.length cap).ownBlock = none ∨ (Value.slice (some ⟨gb,0,none⟩) gs.length cap).ownBlock ≠ v.ownBlock := apart_types ho2 hrow2 hT
 have ho4 : w3.ownsRow lo TO 1 (.slice (some ⟨gb,0,none⟩) gs.length cap) gs.length vs := ho2.kept hg3 a1
 have hbw : Below lo W w3 := (hb.mono hsz).grown hg3 (by have := hb.size;omega) (own_ge hrow)
 have hcell : w3.cell? ⟨gb,k,none⟩ = some v := by
  have h1 := ho4.cells (g := gb) rfl k v hv
  rw [Go.WideShapes.add_plain,Nat.zero_add] at h1
  exact h1
 have hvl : k < vs.length := (List.getElem?_eq_some_iff.1 hv).1
 have hts : ∀ {u : Value} {n : Nat} {xs : List Value},w3.ownsRow lo TI 1 u n xs → u.ownBlock = none ∨ u.ownBlock ≠ some gb := fun h => apart_types h ho4 (Ne.symm hT)
 have hrj : ∀ (j : Nat) (u : Value) (g' : List Int),j ≠ k → vs[j]? = some u → gs[j]? = some g' → w3.ownsRow lo TI 1 u g'.length (g'.map (Value.int .i64)) := fun j u g' e hu hg' =>
  (owns_below (hr j u g' hu hg') hb).kept hg3 (hA j k u v e hu hv)
 have hvb : v'.ownBlock ≠ none := by
  obtain ⟨b,c,rfl,_⟩ := own_some ho3 (by omega)
  simp [Value.ownBlock]
 have hkey : ∀ (j : Nat) (u : Value),j ≠ k → vs[j]? = some u → (v'.ownBlock = none ∨ v'.ownBlock ≠ u.ownBlock) ∧ (u.ownBlock = none ∨ u.ownBlock ≠ v'.ownBlock) := fun j u e hu => by
  have hjl : j < gs.length := by have h1 := ho.1;have h2 := (List.getElem?_eq_some_iff.1 hu).1;omega
  have hg' : gs[j]? = some gs[j] := List.getElem?_eq_getElem hjl
  have hj := hrj j u _ e hu hg'
  cases hq : gs[j] with
  | nil =>
   have h0 := hE j u hu (by rw [hg',hq])
   exact ⟨.inr (by rw [h0];exact hvb), .inl h0⟩
  | cons a l =>
   obtain ⟨y,hy⟩ : ∃ y,(g ++ [(i : Int)])[0]? = some y := ⟨_,List.getElem?_eq_getElem (by simp)⟩
   have hx : (gs[j])[0]? = some a := by rw [hq];rfl
   have hxy := hheads j gs[j] a y e hg' hx hy
   have h1 : (gs[j].map (Value.int .i64))[0]? = some (.int .i64 a) := by rw [List.getElem?_map,hx];rfl
   have h2 : (g.map (Value.int .i64) ++ [.int .i64 (i : Int)])[0]? = some (.int .i64 y) := by
    have h3 : ((g ++ [(i : Int)]).map (Value.int .i64))[0]? = some (.int .i64 y) := by rw [List.getElem?_map,hy];rfl
    simpa using h3
   exact ⟨apart_heads ho3 hj h2 h1 (fun h => hxy (by injection h with _ h;exact h.symm)),apart_heads hj ho3 h1 h2 (fun h => hxy (by injection h))⟩
 refine ⟨⟨hcell,owns_frozen ho4 rfl k⟩,⟨vs.set k v', ?_, ?_, ?_, ?_⟩,hbw.setCell (p := ⟨gb,k,none⟩) hgb v'⟩
 ·rw [List.length_set];exact row_set ho4 hk
 ·intro j u g' hu hg'
  by_cases e : j = k
  ·subst e
   rw [List.getElem?_set_self hvl] at hu
   rw [List.getElem?_set_self hk] at hg'
   obtain rfl : v' = u := by simpa using hu
   obtain rfl : g ++ [(i : Int)] = g' := by simpa using hg'
   have h1 := set_own (o := j) (u := v') ho3 (hts ho3)
   simpa using h1
  ·rw [List.getElem?_set_ne (Ne.symm e)] at hu hg'
   have h3 := hrj j u g' e hu hg'
   exact set_own h3 (hts h3)
 ·intro j l u x hne hu hx
  by_cases e : j = k
  ·subst e
   rw [List.getElem?_set_self hvl] at hu
   rw [List.getElem?_set_ne hne] at hx
   obtain rfl : v' = u := by simpa using hu
   exact (hkey l x (Ne.symm hne) hx).1
  ·rw [List.getElem?_set_ne (Ne.symm e)] at hu
   by_cases e2 : l = k
   ·subst e2
    rw [List.getElem?_set_self hvl] at hx
    obtain rfl : v' = x := by simpa using hx
    exact (hkey j u e hu).2
   ·rw [List.getElem?_set_ne (Ne.symm e2)] at hx
    exact hA j l u x hne hu hx
 ·intro j u hu hg'
  by_cases e : j = k
  ·subst e
   rw [List.getElem?_set_self hk] at hg'
   injection hg' with hg'
   simp at hg'
  ·rw [List.getElem?_set_ne (Ne.symm e)] at hu hg'
   exact hE j u hu hg'
theorem GrpAt.new {lo TO TI n B : Nat} {W : World} (h : W.ownsRow lo TO 1 (.slice (some ⟨B,0,none⟩) n n) n (madeCells (Value.slice none 0 0).cells (n * 1)).toList) : GrpAt lo TO TI (.slice (some ⟨B,0,none⟩) n n) (groupedL [] n) W := by
 have hnil : ∀ (k : Nat) (u : Value),(madeCells (Value.slice none 0 0).cells (n * 1)).toList[k]? = some u → u = .slice none 0 0 := by
  intro k u hu
  have hk : k < n := by have := (List.getElem?_eq_some_iff.1 hu).1;simpa [madeCells] using this
  rw [Array.getElem?_toList] at hu
  unfold madeCells at hu
  rw [Array.getElem?_map,Array.getElem?_range,if_pos (by omega)] at hu
  have h2 : (#[Value.slice none 0 0] : Array Value)[k % 1]! = u := by injection hu
  rw [Nat.mod_one] at h2
  exact h2.symm
 have hg : ∀ (k : Nat) (g : List Int),(groupedL [] n)[k]? = some g → g = [] := by
  intro k g h
  have hk : k < n := by have := (List.getElem?_eq_some_iff.1 h).1;rwa [grouped_len] at this
  rw [grouped_at hk] at h
  injection h with h
  exact h.symm
 refine ⟨_,by rw [grouped_len];exact h, ?_, ?_, ?_⟩
 ·intro k u g hu hg'
  rw [hnil k u hu,hg k g hg']
  exact World.ownsRow_nil _ _ _ _
 ·intro j k u v _ hu _
  rw [hnil j u hu]
  exact .inl rfl
 ·intro k u hu _
  rw [hnil k u hu]
  rfl
end Go.Pb.Sag
namespace Go.Pb

open Go Go.RowKit
theorem wp_append_lat {P : Program} {o : Oper} {a : Act} {K : Act → World → Prop} {Q : Exit → Act → World → Prop} (w : World) (s x : Operand) (t : TypeId) (ho : o.op = .call { callee := .builtin .append,args := #[s,x],argTypes := #[t,t] })
  (base : Nat) (e : TypeId) (i : TypeInfo) (z : Value) (size bytes : Nat) (ht : P.underlying t = some (.slice e)) (hi : P.info? e = some i) (hz : i.zero = some z)
  (hsize : i.size = size) (hby : i.bytes = bytes) (hzs : z.cells.size = size) (hsz : 0 < size) (v : Value) (n : Nat) (xs : List Value) (hs : a.eval s = v) (hown : w.ownsRow base e size v n xs)
  (xv : Value) (m : Nat) (cs : List Value) (hx : a.eval x = xv) (hn : LAt size w xv m cs) (h63 : n + m ≤ maxLen) (hbytes : (n + m) * bytes ≤ 140737488355328) (hbase : base ≤ w.heap.size)
  (h : ∀ v' w',w'.ownsRow base e size v' (n + m) (xs ++ cs) → w.grownBy w' v.ownBlock → K (a.put o.dst v') w') : o.wp P a w K Q := by
 rcases hn.at' with ⟨rfl,rfl⟩ | ⟨ad,c,rfl,h2,h3,h4⟩
 ·have hcs : cs = [] := List.length_eq_zero_iff.1 (by rw [hn.len];simp)
  subst hcs
  have hr := run_append_owned_none (P := P) (w := w) base t o.type e i size ht hi v n xs hown
  have h5 := h v w (by simpa using hown) ⟨rfl,rfl,rfl,Nat.le_refl _,fun k _ _ => rfl⟩
  unfold Oper.wp execOp
  simp only [ho,resolve,invoke,builtin,Sem.run_bind,Sem.run_pure,Result.andThen_ok,List.map_toArray,List.map_cons,List.map_nil,hs,hx,hr]
  exact h5
 ·exact wp_append_own w s x t ho base e i z size bytes ht hi hz hsize hby hzs hsz v n xs hs hown ad m c cs hx hn.len h4 hn.one h63 hbytes hbase fun v' w' h5 h6 _ => h v' w' h5 h6
theorem wpList_append_lat {P : Program} {w : World} {ops : Array Oper} {rest : List Oper} {o : Oper} {a : Act} {Q : Exit → Act → World → Prop} (hgd : o.guard = none) (s x : Operand) (t : TypeId)
  (ho : o.op = .call { callee := .builtin .append,args := #[s,x],argTypes := #[t,t] })
  (base : Nat) (e : TypeId) (i : TypeInfo) (z : Value) (size bytes : Nat) (ht : P.underlying t = some (.slice e)) (hi : P.info? e = some i) (hz : i.zero = some z)
  (hsize : i.size = size) (hby : i.bytes = bytes) (hzs : z.cells.size = size) (hsz : 0 < size) (v : Value) (n : Nat) (xs : List Value) (hs : a.eval s = v) (hown : w.ownsRow base e size v n xs)
  (xv : Value) (m : Nat) (cs : List Value) (hx : a.eval x = xv) (hn : LAt size w xv m cs) (h63 : n + m ≤ maxLen) (hbytes : (n + m) * bytes ≤ 140737488355328) (hbase : base ≤ w.heap.size)
  (h : ∀ v' w',w'.ownsRow base e size v' (n + m) (xs ++ cs) → w.grownBy w' v.ownBlock → wpList P ops Q rest (a.put o.dst v') w') : wpList P ops Q (o :: rest) a w :=
 wpList_plain hgd fun _ hK => wp_append_lat w s x t ho base e i z size bytes ht hi hz hsize hby hzs hsz v n xs hs hown xv m cs hx hn h63 hbytes hbase fun v' w' h2 h3 => hK _ _ (h v' w' h2 h3)
end Go.Pb
namespace Go.Pb.Sag
open Go Go.Pb Go.Pb.Ware Go.RowKit

def RowsQ (lo TQ TS : Nat) (v : Value) (rows : List (List St)) (W : World) : Prop := ∃ us : List Value,W.ownsRow lo TQ 1 v rows.length us ∧ ∀ (k : Nat) (u : Value) (q : List St),us[k]? = some u → rows[k]? = some q → W.ownsRow lo TS 3 u q.length (q.flatMap cellsP)
theorem RowsQ.below {lo TQ TS : Nat} {v : Value} {rows : List (List St)} {W W' : World} (h : RowsQ lo TQ TS v rows W) (hb : Below W.heap.size W W') : RowsQ lo TQ TS v rows W' := by
 obtain ⟨us,h1,h2⟩ := h
 exact ⟨us,owns_below h1 hb,fun k u q h3 h4 => owns_below (h2 k u q h3 h4) hb⟩
theorem RowsQ.nil {lo TQ TS : Nat} {W : World} : RowsQ lo TQ TS (.slice none 0 0) [] W := ⟨[],World.ownsRow_nil _ _ _ _,fun k u q h => by simp at h⟩
theorem RowsQ.shape {lo TQ TS : Nat} {v : Value} {rows : List (List St)} {W : World} (h : RowsQ lo TQ TS v rows W) : ∃ (a : Option Addr) (cap : Nat),v = .slice a rows.length cap ∧ rows.length ≤ 9223372036854775807 := by
 obtain ⟨us,h1,_⟩ := h
 exact owns_shape h1
theorem RowsQ.append {lo TQ TS : Nat} (hT : TQ ≠ TS) {v v' : Value} {rows more : List (List St)} {us ms : List Value} {W w3 : World}
  (ho : W.ownsRow lo TQ 1 v rows.length us) (hr : ∀ (k : Nat) (u : Value) (q : List St),us[k]? = some u → rows[k]? = some q → W.ownsRow lo TS 3 u q.length (q.flatMap cellsP))
  (hm : ∀ (k : Nat) (u : Value) (q : List St),ms[k]? = some u → more[k]? = some q → W.ownsRow lo TS 3 u q.length (q.flatMap cellsP)) (hml : ms.length = more.length)
  (hg : W.grownBy w3 v.ownBlock) (ho3 : w3.ownsRow lo TQ 1 v' (rows.length + more.length) (us ++ ms)) : RowsQ lo TQ TS v' (rows ++ more) w3 := by
 have hul : us.length = rows.length := by have := ho.1;omega
 have kept : ∀ {u : Value} {q : List St},W.ownsRow lo TS 3 u q.length (q.flatMap cellsP) → w3.ownsRow lo TS 3 u q.length (q.flatMap cellsP) := fun h => h.kept hg (apart_types h ho (Ne.symm hT))
 refine ⟨us ++ ms,by rw [List.length_append];exact ho3,fun k u q hu hq => ?_⟩
 rcases Nat.lt_or_ge k rows.length with h | h
 ·rw [List.getElem?_append_left (by omega)] at hu
  rw [List.getElem?_append_left h] at hq
  exact kept (hr k u q hu hq)
 ·rw [List.getElem?_append_right (by omega),hul] at hu
  rw [List.getElem?_append_right h] at hq
  exact kept (hm (k - rows.length) u q hu hq)
theorem RowsQ.one {lo TQ TS B : Nat} {u : Value} {q : List St} {W : World} (hB : W.heap.size = B) (hlo : lo ≤ B) (h : W.ownsRow lo TS 3 u q.length (q.flatMap cellsP)) : RowsQ lo TQ TS (.slice (some ⟨B,0,none⟩) 1 1) [q] (W.alloc (.cells #[u] TQ)) := by
 subst hB
 refine ⟨[u],⟨rfl, .inr ⟨W.heap.size,1,#[u],rfl,hlo,World.alloc_heap_new W _,Nat.le_refl _,by unfold maxLen;omega,rfl,rfl⟩⟩,fun k x y hx hy => ?_⟩
 match k with
 | 0 =>
  injection hx with hx;injection hy with hy
  subst hx;subst hy
  exact h.alloc _
 | k + 1 => simp at hx
end Go.Pb.Sag
namespace Go.Pb.Sag
open Go Go.Pb Go.Pb.Ware Go.RowKit

def FillG (w1 : World) (g T n m : Nat) (cs : List Value) (W : World) : Prop := OutOnly w1 g 0 W ∧ ∃ v,(W.cell? ⟨g,0,none⟩ = some v ∧ W.frozen? ⟨g,0,none⟩ = false) ∧ W.ownsRow w1.heap.size T n v m cs
theorem FillG.slot {w1 Wb w2 w3 : World} {g T n m : Nat} {xs : List Value} {v c0 : Value} (hlt : g < w1.heap.size) (hc : w1.cell? ⟨g,0,none⟩ = some c0) (hf : w1.frozen? ⟨g,0,none⟩ = false) (hO : OutOnly w1 g 0 Wb) (c1 : Wb.cell? ⟨g,0,none⟩ = some v) (hb : Below Wb.heap.size Wb w2)
  (hown2 : w2.ownsRow w1.heap.size T n v m xs) (hg3 : w2.grownBy w3 v.ownBlock) : w3.cell? ⟨g,0,none⟩ = some v ∧ w3.frozen? ⟨g,0,none⟩ = false := by
 have hr : ∀ r,v.ownBlock = some r → w1.heap.size ≤ r := fun r e => (World.ownsRow.lt hown2 r e).1
 exact ⟨grown_kept hg3 (bkeep hb c1) (fun e => by have := hr g e.symm;omega),((hO.next hlt hb).grown hg3 hlt hr).frz 0 c0 hc hf⟩
theorem FillG.push {w1 Wb w2 w3 : World} {g T n m : Nat} {xs ys : List Value} {v v' c0 : Value} (hlt : g < w1.heap.size) (hc : w1.cell? ⟨g,0,none⟩ = some c0) (hf : w1.frozen? ⟨g,0,none⟩ = false) (hO : OutOnly w1 g 0 Wb) (c1 : Wb.cell? ⟨g,0,none⟩ = some v) (hb : Below Wb.heap.size Wb w2)
  (hown2 : w2.ownsRow w1.heap.size T n v m xs) (hg3 : w2.grownBy w3 v.ownBlock) (ho3 : w3.ownsRow w1.heap.size T n v' (m + 1) ys) :
  FillG w1 g T n (m + 1) ys (w3.setCell ⟨g,0,none⟩ v') ∧ KeepsOthers Wb (w3.setCell ⟨g,0,none⟩ v') ∧ Wb.heap.size ≤ (w3.setCell ⟨g,0,none⟩ v').heap.size := by
 have hr : ∀ r,v.ownBlock = some r → w1.heap.size ≤ r := fun r e => (World.ownsRow.lt hown2 r e).1
 have hO4 := ((hO.next hlt hb).grown hg3 hlt hr).set v'
 have c3 : w3.cell? ⟨g,0,none⟩ = some v := grown_kept hg3 (bkeep hb c1) (fun e => by have := hr g e.symm;omega)
 refine ⟨⟨hO4,v',⟨setc_same c3,hO4.frz 0 c0 hc hf⟩, ?_⟩,((keeps_of_below hb).trans (KeepsOthers.of_grownBy hg3 (own_cells hown2))).trans (KeepsOthers.setCell _ _ _), ?_⟩
 ·exact ho3.kept (grown_setc w3 ⟨g,0,none⟩ v') (.inr fun e => by have := (World.ownsRow.lt ho3 g e).1;omega)
 ·have := hb.size;have := hg3.size;simp;omega
end Go.Pb.Sag
namespace Go.Pb


open Go Go.RowKit
def exploreB (md : Region.Mode) (ops : Array Oper) (T : List Nat) (Lend : Array Bool) : Nat → Array Bool → Bool
 | 0,L => L == Lend
 | m + 1,L => !(Region.ready md ops L).isEmpty && (Region.ready md ops L).all fun i => T.contains i && exploreB md ops T Lend m (L.setIfInBounds i true)
theorem getD_set_at {L : Array Bool} {i : Nat} (h : L.getD i true = false) : (L.setIfInBounds i true).getD i false = true := by
 have hlt : i < L.size := by
  rcases Nat.lt_or_ge i L.size with h1 | h1
  ·exact h1
  ·simp [Array.getElem?_eq_none h1] at h
 simp [hlt]
theorem getD_set_off {L : Array Bool} {i k : Nat} (h : i ≠ k) : (L.setIfInBounds i true).getD k false = L.getD k false := by
 simp [Array.getElem?_setIfInBounds,h]
theorem wpAnyC_explore {P : Program} {md : Region.Mode} {ops : Array Oper} {Q : Exit → Act → World → Prop} {C : World → Prop} {T : List Nat} {Lend : Array Bool} {n : Nat} {S : Array Bool → Act → World → Prop} (hC : ∀ L a w,S L a w → C w)
  (hop : ∀ i ∈ T, ∀ (L : Array Bool) (a : Act) (w : World),L.getD i true = false → (∀ o,ops[i]? = some o → ∀ e ∈ o.after,Region.binds md e = true → L.getD e.on false = true) → S L a w → wpOp P ops Q i (S (L.setIfInBounds i true)) a w)
  (hend : ∀ a w,S Lend a w → wpAnyC P md ops Q C n Lend a w) :
  ∀ (m : Nat) (L : Array Bool) (a : Act) (w : World),exploreB md ops T Lend m L = true → S L a w → wpAnyC P md ops Q C (m + n) L a w := by
 intro m
 induction m with
 | zero =>
  intro L a w h hS
  rw [exploreB,beq_iff_eq] at h
  subst h
  rw [Nat.zero_add]
  exact hend a w hS
 | succ m ih =>
  intro L a w h hS
  rw [exploreB,Bool.and_eq_true] at h
  rw [show m + 1 + n = m + n + 1 by omega]
  refine ⟨hC L a w hS,fun e => by rw [e] at h;simp at h,fun i hi => ?_⟩
  have h2 := List.all_eq_true.1 h.2 i hi
  rw [Bool.and_eq_true] at h2
  obtain ⟨h3,o,ho,h4⟩ := mem_ready.1 hi
  exact wpOp_mono (fun a' w' hS' => ih _ a' w' h2.2 hS') (hop i (by simpa using h2.1) L a w h3 (fun o2 ho2 => by rw [ho] at ho2;injection ho2 with ho2;subst ho2;exact h4) hS)
end Go.Pb
namespace Go.Pb


open Go Go.RowKit
def putT (ds : List Nat) (a : Act) (val : Nat → Value) : Act := ds.foldl (fun a d => a.put (some d) (val d)) a
def updV (val : Nat → Value) (d : Nat) (v : Value) (j : Nat) : Value := if j = d then v else val j
theorem putT_defers {val : Nat → Value} : ∀ (ds : List Nat) (a : Act),(putT ds a val).defers = a.defers
 | [],a => rfl
 | d :: ds,a => putT_defers ds (a.put (some d) (val d))
theorem putT_slot {val : Nat → Value} {j : Nat} : ∀ (ds : List Nat) (a : Act),(putT ds a val).tmps[j]? = if j ∈ ds ∧ j < a.tmps.size then some (val j) else a.tmps[j]?
 | [],a => by simp [putT]
 | d :: ds,a => by
  show (putT ds (a.put (some d) (val d)) val).tmps[j]? = _
  rw [putT_slot ds (a.put (some d) (val d))]
  simp only [Act.put,Array.size_setIfInBounds,Array.getElem?_setIfInBounds,List.mem_cons]
  by_cases h1 : j ∈ ds
  ·by_cases h2 : j < a.tmps.size
   ·simp [h1,h2]
   ·have h3 : ¬ d = j ∨ a.tmps[j]? = none := .inr (Array.getElem?_eq_none (by omega))
    by_cases hd : d = j
    ·subst hd;simp [h1,h2,Array.getElem?_eq_none (show a.tmps.size ≤ d by omega)]
    ·simp [h1,h2,hd]
  ·by_cases hd : d = j
   ·subst hd
    by_cases h2 : d < a.tmps.size
    ·simp [h1,h2]
    ·simp [h1,h2]
   ·have hd2 : ¬ j = d := fun e => hd e.symm
    simp [h1,hd,hd2]
theorem act_ext {a b : Act} (h1 : a.defers = b.defers) (h2 : ∀ j : Nat,a.tmps[j]? = b.tmps[j]?) : a = b := by
 cases a;cases b
 dsimp only at h1 h2
 subst h1
 congr 1
 exact Array.ext_getElem? h2
theorem putT_size {val : Nat → Value} : ∀ (ds : List Nat) (a : Act),(putT ds a val).tmps.size = a.tmps.size
 | [],a => rfl
 | d :: ds,a => by
  show (putT ds (a.put (some d) (val d)) val).tmps.size = _
  rw [putT_size ds]
  simp [Act.put]
theorem putT_put {ds : List Nat} {a : Act} {val : Nat → Value} {d : Nat} {v : Value} (hd : d ∈ ds) : (putT ds a val).put (some d) v = putT ds a (updV val d v) := by
 refine act_ext ?_ fun j => ?_
 ·rw [putT_defers];exact putT_defers ds a
 ·rw [putT_slot]
  show ((putT ds a val).tmps.setIfInBounds d v)[j]? = _
  rw [Array.getElem?_setIfInBounds,putT_slot,putT_size]
  unfold updV
  by_cases e : d = j
  ·subst e
   rw [if_pos rfl,if_pos rfl]
   by_cases h : d < a.tmps.size
   ·rw [if_pos h,if_pos ⟨hd,h⟩]
   ·rw [if_neg h,if_neg (fun h2 => h h2.2),Array.getElem?_eq_none (by omega)]
  ·rw [if_neg e,if_neg (show ¬ j = d from fun h => e h.symm)]
theorem putT_self {ds : List Nat} {a : Act} : putT ds a (fun d => a.tmps.getD d undef) = a := by
 refine act_ext (putT_defers ds a) fun j => ?_
 rw [putT_slot]
 by_cases h : j ∈ ds ∧ j < a.tmps.size
 ·rw [if_pos h,Array.getElem?_eq_getElem h.2,Array.getD_eq_getD_getElem?,Array.getElem?_eq_getElem h.2];rfl
 ·rw [if_neg h]
theorem getD_false {L : Array Bool} {i : Nat} (h : L.getD i true = false) : L.getD i false = false := by
 rcases Nat.lt_or_ge i L.size with h1 | h1
 ·simp [h1] at h ⊢;exact h
 ·simp [Array.getElem?_eq_none h1]
theorem wp_region_firstC {P : Program} {id : Nat} {Q : Exit → Act → World → Prop} {a : Act} {w : World} {l : List Oper} (C : World → Prop) (hCw : C w.drew) (fs : List Nat) (m : Nat)
  (hF : (Region.noSelect l.toArray && firstB .any l.toArray fs (Array.replicate l.length false)) = true) (hm : P.follows .mixedOrders = true) (hn : fs.length + m = l.length)
  (h : wpFirstC P l.toArray C fs (fun a => wpAnyC P .any l.toArray (Only Q) C m (mark fs (Array.replicate l.length false)) a w.drew) a) :
  (Code.region id l.toArray true).wp P Q a w := by
 simp only [Bool.and_eq_true] at hF
 refine wp_region_any hm (wpAny_only (wpAnyC_any (C := C) ?_))
 have h3 := wpFirstC_any (P := P) (Q := Q) (md := .any) hF.1 (w := w.drew) hCw (n := m) fs (Array.replicate l.length false) a hF.2 (fun a h => h) h
 rw [hn] at h3
 simpa using h3
theorem wpAnyC_slots {P : Program} {md : Region.Mode} {ops : Array Oper} {Q : Exit → Act → World → Prop} {C : World → Prop} (T ds : List Nat) (n : Nat) (Lend : Array Bool) (R : Array Bool → (Nat → Value) → World → Prop) {L : Array Bool} {a : Act} {w : World}
  (hB : exploreB md ops T Lend T.length L = true) (hC : ∀ L val w,R L val w → C w) (h0 : ∀ val,R L val w)
  (hop : ∀ i ∈ T, ∀ (L : Array Bool) (val : Nat → Value) (w : World),L.getD i true = false → (∀ o,ops[i]? = some o → ∀ e ∈ o.after,Region.binds md e = true → L.getD e.on false = true) → R L val w →
   wpOp P ops Q i (fun a' w' => ∃ d v,d ∈ ds ∧ a' = (putT ds a val).put (some d) v ∧ R (L.setIfInBounds i true) (updV val d v) w') (putT ds a val) w)
  (hend : ∀ val w,R Lend val w → wpAnyC P md ops Q C n Lend (putT ds a val) w) : wpAnyC P md ops Q C (T.length + n) L a w := by
 refine wpAnyC_explore (Q := Q) (S := fun L b w => ∃ val,b = putT ds a val ∧ R L val w) (Lend := Lend) (fun L b w h => ?_) (fun i hi L b w h1 h2 h3 => ?_) (fun b w h => ?_) T.length L a w hB ⟨_,putT_self.symm,h0 _⟩
 ·obtain ⟨val, -,h⟩ := h;exact hC L val w h
 ·obtain ⟨val,rfl,h⟩ := h3
  refine wpOp_mono (fun a' w' h4 => ?_) (hop i hi L val w h1 h2 h)
  obtain ⟨d,v,hd,rfl,h5⟩ := h4
  exact ⟨_,putT_put hd,h5⟩
 ·obtain ⟨val,rfl,h⟩ := h;exact hend val w h
structure ChainC (B : Nat) (T : TypeId) (m : Nat) (cs c1 : List Value) (e0 e1 e2 e3 : Bool) (v0 v1 v2 v3 : Value) (W : World) : Prop where
 lit : e0 = true → e1 = false → W.ownsRow B T 3 v0 0 []
 mid : e1 = true → e3 = false → W.ownsRow B T 3 v1 m cs
 one : e2 = true → e3 = false → W.ownsRow B T 3 v2 1 c1
 fin : e3 = true → W.ownsRow B T 3 v3 (m + 1) (cs ++ c1)
 off : e0 = true → e2 = true → e1 = false → ∀ b,v0.ownBlock = some b → v2.ownBlock ≠ some b
 s1 : e1 = true → e0 = true
 s3 : e3 = true → e1 = true ∧ e2 = true
variable {B m : Nat} {T : TypeId} {cs c1 : List Value} {e0 e1 e2 e3 : Bool} {v0 v1 v2 v3 : Value} {W W' : World}
theorem ChainC.start : ChainC B T m cs c1 false false false false v0 v1 v2 v3 W := ⟨fun h => (by cases h),fun h => (by cases h),fun h => (by cases h),fun h => (by cases h),fun h => (by cases h),fun h => (by cases h),fun h => (by cases h)⟩
theorem ChainC.alloc (h : ChainC B T m cs c1 e0 e1 e2 e3 v0 v1 v2 v3 W) (o : Obj) : ChainC B T m cs c1 e0 e1 e2 e3 v0 v1 v2 v3 (W.alloc o) :=
 ⟨fun a b => (h.lit a b).alloc o,fun a b => (h.mid a b).alloc o,fun a b => (h.one a b).alloc o,fun a => (h.fin a).alloc o,h.off,h.s1,h.s3⟩
theorem ChainC.grown {T2 n2 : Nat} {u : Value} {ys : List Value} (h : ChainC B T m cs c1 e0 e1 e2 e3 v0 v1 v2 v3 W) (ho : W.ownsRow B T2 3 u n2 ys) (hT : T ≠ T2) (hg : W.grownBy W' u.ownBlock) : ChainC B T m cs c1 e0 e1 e2 e3 v0 v1 v2 v3 W' :=
 ⟨fun a b => (h.lit a b).kept hg (Sag.apart_types (h.lit a b) ho hT),fun a b => (h.mid a b).kept hg (Sag.apart_types (h.mid a b) ho hT),fun a b => (h.one a b).kept hg (Sag.apart_types (h.one a b) ho hT),fun a => (h.fin a).kept hg (Sag.apart_types (h.fin a) ho hT),h.off,h.s1,h.s3⟩
theorem ChainC.op0 (h : ChainC B T m cs c1 false e1 e2 e3 v0 v1 v2 v3 W) (hB : B ≤ W.heap.size) : ChainC B T m cs c1 true e1 e2 e3 (.slice (some ⟨W.heap.size,0,none⟩) 0 0) v1 v2 v3 (W.alloc (.cells #[] T)) := by
 have h1 : e1 = false := by cases e1 with | false => rfl | true => exact absurd (h.s1 rfl) (by simp)
 subst h1
 have h3 : e3 = false := by cases e3 with | false => rfl | true => exact absurd (h.s3 rfl).1 (by simp)
 subst h3
 refine ⟨fun _ _ => ⟨rfl, .inr ⟨W.heap.size,0,#[],rfl,hB,World.alloc_heap_new W _,Nat.le_refl _,by simp [maxLen],rfl,rfl⟩⟩,fun a => (by cases a),fun a b => (h.one a b).alloc _,fun a => (by cases a),fun _ a _ b hb e => ?_,fun a => (by cases a),fun a => (by cases a)⟩
 simp [Value.ownBlock] at hb
 have := (World.ownsRow.lt (h.one a rfl) b e).2
 omega
theorem ChainC.op1 {v : Value} (h : ChainC B T m cs c1 e0 false e2 e3 v0 v1 v2 v3 W) (h0 : e0 = true) (ho : W'.ownsRow B T 3 v m cs) (hg : W.grownBy W' v0.ownBlock) : ChainC B T m cs c1 e0 true e2 e3 v0 v v2 v3 W' := by
 subst h0
 have h3 : e3 = false := by cases e3 with | false => rfl | true => exact absurd (h.s3 rfl).1 (by simp)
 subst h3
 refine ⟨fun _ a => (by cases a),fun _ _ => ho,fun a b => (h.one a b).kept hg ?_,fun a => (by cases a),fun _ _ a => (by cases a),fun _ => rfl,fun a => (by cases a)⟩
 cases hv : v0.ownBlock with
 | none =>
  by_cases e : v2.ownBlock = none
  ·exact .inl e
  ·exact .inr e
 | some b => exact .inr (h.off rfl a rfl b hv)
theorem ChainC.op2 (x y z : Value) (h : ChainC B T m cs [x,y,z] e0 e1 false e3 v0 v1 v2 v3 W) (hB : B ≤ W.heap.size) : ChainC B T m cs [x,y,z] e0 e1 true e3 v0 v1 (.slice (some ⟨W.heap.size,0,none⟩) 1 1) v3 (W.alloc (.cells #[x,y,z] T)) := by
 have h3 : e3 = false := by cases e3 with | false => rfl | true => exact absurd (h.s3 rfl).2 (by simp)
 subst h3
 refine ⟨fun a b => (h.lit a b).alloc _,fun a b => (h.mid a b).alloc _,fun _ _ => ⟨rfl, .inr ⟨W.heap.size,1,#[x,y,z],rfl,hB,World.alloc_heap_new W _,Nat.le_refl _,by unfold maxLen;omega,rfl,rfl⟩⟩,fun a => (by cases a),fun a _ c b hb e => ?_,h.s1,fun a => (by cases a)⟩
 simp [Value.ownBlock] at e
 have := (World.ownsRow.lt (h.lit a c) b hb).2
 omega
theorem ChainC.op3 {v : Value} (h : ChainC B T m cs c1 e0 e1 e2 false v0 v1 v2 v3 W) (h1 : e1 = true) (h2 : e2 = true) (ho : W'.ownsRow B T 3 v (m + 1) (cs ++ c1)) : ChainC B T m cs c1 e0 e1 e2 true v0 v1 v2 v W' := by
 subst h1;subst h2
 exact ⟨fun _ a => (by cases a),fun _ a => (by cases a),fun _ a => (by cases a),fun _ => ho,fun _ _ a => (by cases a),fun _ => h.s1 rfl,fun _ => ⟨rfl,rfl⟩⟩
theorem one_lat {x y z : Value} {v : Value} (h : W.ownsRow B T 3 v 1 [x,y,z]) (h1 : ∀ u ∈ [x,y,z],u.oneCell' = true) : ∃ a c,v = .slice (some a) 1 c ∧ ∀ j u, [x,y,z][j]? = some u → W.cell? (a.add j) = some u := by
 obtain ⟨g,cap,rfl,h2,h3⟩ := Sag.own_some h (by decide)
 exact ⟨_,_,rfl,fun j u hj => h.cells (g := g) rfl j u hj⟩
end Go.Pb
namespace Go.Pb.Sag
open Go Go.Pb Go.Pb.Ware Go.RowKit

def Placed (s : Bx) (f : Ft) (q : Sq) : Prop := (0 ≤ q.x ∧ q.x + (sideV f q.turned).1 ≤ s.wide) ∧ (0 ≤ q.y ∧ q.y + (sideV f q.turned).2 ≤ s.deep) ∧ 1 ≤ (sideV f q.turned).1 ∧ 1 ≤ (sideV f q.turned).2
def Off (f g : Ft) (q r : Sq) : Prop := (q.x + (sideV f q.turned).1 ≤ r.x ∨ r.x + (sideV g r.turned).1 ≤ q.x) ∨ (q.y + (sideV f q.turned).2 ≤ r.y ∨ r.y + (sideV g r.turned).2 ≤ q.y)
structure PileAt (s : Bx) (cl : Int) (f : Ft) (q : Sq) (m h : Int × Int) : Prop where
 m1 : m.1 = (2 * q.x + (sideV f q.turned).1) * s.cell
 m2 : m.2 = (2 * q.y + (sideV f q.turned).2) * s.cell
 h1 : 0 ≤ h.1 ∧ h.1 + 2 * cl ≤ (sideV f q.turned).1 * s.cell
 h2 : 0 ≤ h.2 ∧ h.2 + 2 * cl ≤ (sideV f q.turned).2 * s.cell
theorem cell_line {c x w W : Int} (hc : 1 ≤ c ∧ c ≤ 500) (hx : 0 ≤ x ∧ x + w ≤ W) (hw : 1 ≤ w) (hW : W ≤ 6) :
  (2 * x + w) * c = 2 * (x * c) + w * c ∧ 0 ≤ x * c ∧ 0 ≤ w * c ∧ x * c + w * c ≤ W * c ∧ W * c ≤ 3000 := by
 refine ⟨by rw [Int.add_mul,Int.mul_assoc],Int.mul_nonneg hx.1 (by omega),Int.mul_nonneg (by omega) (by omega), ?_, ?_⟩
 ·rw [← Int.add_mul];exact Int.mul_le_mul_of_nonneg_right hx.2 (by omega)
 ·have := (mul_bd W c 6 500 (by omega) hW (by omega) hc.2).2;omega
theorem PileAt.apart {s : Bx} {cl dl : Int} {f g : Ft} {q r : Sq} {m h n k : Int × Int} (hX : boxOk s = true) (hq : Placed s f q) (hr : Placed s g r) (p : PileAt s cl f q m h) (u : PileAt s dl g r n k) (ho : Off f g q r) :
  ((m.1 + h.1 + 2 * (cl + dl) ≤ n.1 - k.1) ∨ (n.1 + k.1 + 2 * (cl + dl) ≤ m.1 - h.1)) ∨ ((m.2 + h.2 + 2 * (cl + dl) ≤ n.2 - k.2) ∨ (n.2 + k.2 + 2 * (cl + dl) ≤ m.2 - h.2)) := by
 obtain ⟨m1,m2,h1,h2⟩ := p
 obtain ⟨n1,n2,k1,k2⟩ := u
 have hb := boxOk_iff.1 hX
 unfold Placed at hq hr
 unfold Off at ho
 have e1 := cell_line (c := s.cell) (by omega) hq.1 hq.2.2.1 (by omega)
 have e2 := cell_line (c := s.cell) (by omega) hq.2.1 hq.2.2.2 (by omega)
 have e3 := cell_line (c := s.cell) (by omega) hr.1 hr.2.2.1 (by omega)
 have e4 := cell_line (c := s.cell) (by omega) hr.2.1 hr.2.2.2 (by omega)
 rw [e1.1] at m1
 rw [e2.1] at m2
 rw [e3.1] at n1
 rw [e4.1] at n2
 have mono : ∀ {a b : Int},a ≤ b → a * s.cell ≤ b * s.cell := fun h => Int.mul_le_mul_of_nonneg_right h (by omega)
 rcases ho with (h0 | h0) | (h0 | h0)
 ·have := mono h0;rw [Int.add_mul] at this;left;left;omega
 ·have := mono h0;rw [Int.add_mul] at this;left;right;omega
 ·have := mono h0;rw [Int.add_mul] at this;right;left;omega
 ·have := mono h0;rw [Int.add_mul] at this;right;right;omega
end Go.Pb.Sag
namespace Go.Pb.Sag
open Go Go.Pb Go.Pb.Ware Go.RowKit


def covQ (f : Ft) (q : Sq) (y x : Nat) : Bool := decide (q.y ≤ (y : Int) ∧ (y : Int) < q.y + (sideV f q.turned).2 ∧ q.x ≤ (x : Int) ∧ (x : Int) < q.x + (sideV f q.turned).1)
def covK (fs : List Ft) (qs : List Sq) (k y x : Nat) : Bool := (fs[k]?).any fun f => (qs[k]?).any fun q => covQ f q y x
def gridC (fs : List Ft) (qs : List Sq) (y x : Nat) : Nat → Int
 | 0 => 0
 | k + 1 => if covK fs qs k y x = true then (k : Int) + 1 else gridC fs qs y x k
def gridRow (fs : List Ft) (qs : List Sq) (W n y : Nat) : List Int := (List.range W).map fun x => gridC fs qs y x n
theorem gridC_bd {fs : List Ft} {qs : List Sq} {y x : Nat} : ∀ k : Nat,0 ≤ gridC fs qs y x k ∧ gridC fs qs y x k ≤ k
 | 0 => by simp [gridC]
 | k + 1 => by
  have h := gridC_bd (fs := fs) (qs := qs) (y := y) (x := x) k
  unfold gridC
  split <;> omega
theorem gridRow_len {fs : List Ft} {qs : List Sq} {W n y : Nat} : (gridRow fs qs W n y).length = W := by unfold gridRow;simp
theorem gridRow_i64 {fs : List Ft} {qs : List Sq} {W n y : Nat} (hn : n ≤ 1000) : ∀ z ∈ gridRow fs qs W n y,I64 z := by
 intro z hz
 unfold gridRow at hz
 obtain ⟨x, -,rfl⟩ := List.mem_map.1 hz
 have := gridC_bd (fs := fs) (qs := qs) (y := y) (x := x) n
 exact I64.mk (by omega) (by omega)
structure GridAt (B Bg G D Wd : Nat) (R : Nat → Nat) (K : Nat) (g : Nat → Nat → Int) (W : World) : Prop where
 var : W.cell? ⟨Bg,0,none⟩ = some (.slice (some ⟨G,0,none⟩) D D)
 room : ∀ y,y < D → (∃ u,W.cell? ⟨G,y,none⟩ = some u) ∧ W.frozen? ⟨G,y,none⟩ = false
 top : ∀ y,y < K → W.cell? ⟨G,y,none⟩ = some (.slice (some ⟨R y,0,none⟩) Wd Wd)
 cell : ∀ y x,y < K → x < Wd → W.cell? ⟨R y,x,none⟩ = some (.int .i64 (g y x)) ∧ W.frozen? ⟨R y,x,none⟩ = false
 off : ∀ y,y < K → R y ≠ G ∧ R y ≠ Bg ∧ B ≤ R y ∧ R y < W.heap.size
 inj : ∀ y z,y < K → z < K → R y = R z → y = z
 lo : B ≤ G ∧ B ≤ Bg ∧ G ≠ Bg
theorem GridAt.below {B Bg G D Wd K : Nat} {R : Nat → Nat} {g : Nat → Nat → Int} {W W' : World} (h : GridAt B Bg G D Wd R K g W) (hb : Below W.heap.size W W') : GridAt B Bg G D Wd R K g W' :=
 ⟨bkeep hb h.var,fun y hy => ⟨(h.room y hy).1.imp fun u hu => bkeep hb hu,(h.room y hy).1.elim fun u hu => bfree hb hu (h.room y hy).2⟩,fun y hy => bkeep hb (h.top y hy),
  fun y x hy hx => ⟨bkeep hb (h.cell y x hy hx).1,bfree hb (h.cell y x hy hx).1 (h.cell y x hy hx).2⟩,fun y hy => ⟨(h.off y hy).1,(h.off y hy).2.1,(h.off y hy).2.2.1,Nat.lt_of_lt_of_le (h.off y hy).2.2.2 hb.size⟩,h.inj,h.lo⟩
theorem cell_off {W : World} {b o c p : Nat} {v : Value} (h : ¬ (b = c ∧ o = p)) : (W.setCell ⟨c,p,none⟩ v).cell? ⟨b,o,none⟩ = W.cell? ⟨b,o,none⟩ := by
 by_cases hb : b = c
 ·subst hb
  have ho : ¬ o = p := fun e => h ⟨rfl,e⟩
  simp [go_sem,ho,Ne.symm ho]
 ·simp [go_sem,hb,Ne.symm hb]
theorem frozen_set {W : World} {b o c p : Nat} {v : Value} : (W.setCell ⟨c,p,none⟩ v).frozen? ⟨b,o,none⟩ = W.frozen? ⟨b,o,none⟩ := by simp [go_sem]
theorem cell_on {W : World} {c p : Nat} {v u : Value} (h : W.cell? ⟨c,p,none⟩ = some u) : (W.setCell ⟨c,p,none⟩ v).cell? ⟨c,p,none⟩ = some v := by simp [go_sem,h]
theorem GridAt.set {B Bg G D Wd K y0 x0 : Nat} {R : Nat → Nat} {g : Nat → Nat → Int} {W : World} {z : Int} (h : GridAt B Bg G D Wd R K g W) (hy : y0 < K) (hx : x0 < Wd) :
  GridAt B Bg G D Wd R K (fun y x => if y = y0 ∧ x = x0 then z else g y x) (W.setCell ⟨R y0,x0,none⟩ (.int .i64 z)) := by
 obtain ⟨o1,o2,o3,o4⟩ := h.off y0 hy
 refine ⟨by rw [cell_off (fun e => o2 e.1.symm)];exact h.var,fun y hy => ⟨by rw [cell_off (fun e => o1 e.1.symm)];exact (h.room y hy).1,by rw [frozen_set];exact (h.room y hy).2⟩,fun y hy => by rw [cell_off (fun e => o1 e.1.symm)];exact h.top y hy,
  fun y x hy' hx' => ⟨?_,by rw [frozen_set];exact (h.cell y x hy' hx').2⟩,fun y hy => by simpa using h.off y hy,h.inj,h.lo⟩
 by_cases e : y = y0 ∧ x = x0
 ·obtain ⟨rfl,rfl⟩ := e
  rw [if_pos ⟨rfl,rfl⟩]
  exact cell_on (h.cell y x hy' hx').1
 ·rw [if_neg e,cell_off (fun e2 => e ⟨h.inj y y0 hy' hy e2.1,e2.2⟩)]
  exact (h.cell y x hy' hx').1
theorem GridAt.row {B Bg G D Wd K b : Nat} {R : Nat → Nat} {g : Nat → Nat → Int} {W : World} (h : GridAt B Bg G D Wd R K g W) (hK : K < D) (hb : ∀ x,x < Wd → W.cell? ⟨b,x,none⟩ = some (.int .i64 0) ∧ W.frozen? ⟨b,x,none⟩ = false)
  (h1 : ∀ y,y < K → R y ≠ b) (h2 : b ≠ G ∧ b ≠ Bg ∧ B ≤ b ∧ b < W.heap.size) (hg : ∀ x,g K x = 0) : GridAt B Bg G D Wd (fun y => if y = K then b else R y) (K + 1) g (W.setCell ⟨G,K,none⟩ (.slice (some ⟨b,0,none⟩) Wd Wd)) := by
 obtain ⟨l1,l2,l3⟩ := h.lo
 have hu := (h.room K hK).1
 refine ⟨by rw [cell_off (fun e => l3 e.1.symm)];exact h.var,fun y hy => ⟨?_,by rw [frozen_set];exact (h.room y hy).2⟩,fun y hy => ?_,fun y x hy hx => ?_,fun y hy => ?_,fun y z hy hz e => ?_,h.lo⟩
 ·by_cases e : y = K
  ·subst e;obtain ⟨u,hu⟩ := hu;exact ⟨_,cell_on hu⟩
  ·rw [cell_off (fun e2 => e e2.2)];exact (h.room y hy).1
 ·by_cases e : y = K
  ·subst e;obtain ⟨u,hu⟩ := hu;rw [if_pos rfl];exact cell_on hu
  ·rw [if_neg e,cell_off (fun e2 => e e2.2)];exact h.top y (by omega)
 ·by_cases e : y = K
  ·subst e;rw [if_pos rfl,cell_off (fun e2 => h2.1 e2.1),frozen_set,hg];exact hb x hx
  ·rw [if_neg e,cell_off (fun e2 => (h.off y (by omega)).1 e2.1),frozen_set];exact h.cell y x (by omega) hx
 ·by_cases e : y = K
  ·subst e;rw [if_pos rfl];simpa using h2
  ·rw [if_neg e];simpa using h.off y (by omega)
 ·by_cases e1 : y = K <;> by_cases e2 : z = K
  ·omega
  ·rw [if_pos e1,if_neg e2] at e;exact absurd e.symm (h1 z (by omega))
  ·rw [if_neg e1,if_pos e2] at e;exact absurd e (h1 y (by omega))
  ·rw [if_neg e1,if_neg e2] at e;exact h.inj y z (by omega) (by omega) e
theorem GridAt.nums {B Bg G D Wd K : Nat} {R : Nat → Nat} {fs : List Ft} {qs : List Sq} {n : Nat} {W : World} (hn : n ≤ 1000) (hW : Wd ≤ 1000) (h : GridAt B Bg G D Wd R K (fun y x => gridC fs qs y x n) W) {y : Nat} (hy : y < K) :
  NumsAt W (.slice (some ⟨R y,0,none⟩) Wd Wd) (gridRow fs qs Wd n y) := by
 refine .inr ⟨⟨R y,0,none⟩,Wd,by rw [gridRow_len],by rw [gridRow_len];exact Nat.le_refl _,by omega,fun k z hz => ?_⟩
 have hk : k < Wd := by have := (List.getElem?_eq_some_iff.1 hz).1;rwa [gridRow_len] at this
 refine ⟨?_,gridRow_i64 hn z (List.mem_of_getElem? hz)⟩
 have e : z = gridC fs qs y k n := by
  unfold gridRow at hz
  rw [List.getElem?_map,List.getElem?_range hk] at hz
  exact (Option.some.inj hz).symm
 rw [e,Go.WideShapes.add_plain,Nat.zero_add]
 exact (h.cell y k hy hk).1
end Go.Pb.Sag
namespace Go.Pb
open Go.RowKit Go.ChangeShapes Go.WideShapes Go.ChangeAt Go.Deep
section
variable {H : Type} {enc : TypeId × Value → H} {P : Program} {w : World} {base : Nat} {spare : Nat → Bool} {held : Bool}
theorem open_raw {r : Reach} {b0 m n1 n3 : Nat} {t t1 t2 t3 e1 e3 : TypeId} {f1 f2 f3 : Field} {v : Value} {d : DataW H} {p : List MemPlace} (hu : P.underlying t = some (.struct #[f1,f2,f3])) (hC : P.cellsOf t = 6)
  (ho1 : f1.offset = 0) (ho2 : f2.offset = 1) (ho3 : f3.offset = 5) (ht1 : f1.type = t1) (ht2 : f2.type = t2) (ht3 : f3.type = t3) (c1 : P.cellsOf t1 = 1) (c2 : P.cellsOf t2 = 4) (c3 : P.cellsOf t3 = 1)
  (u1 : P.underlying t1 = some (.slice e1)) (u3 : P.underlying t3 = some (.slice e3)) (hf1 : flatI P m e1 = true) (hf2 : flatI P m t2 = true) (hf3 : flatI P m e3 = true) (hn1 : P.cellsOf e1 = n1) (hn3 : P.cellsOf e3 = n3)
  (hv : Value.okWide P w r b0 t v) (h : DataW.Trod enc P w base spare held t v d p) :
  ∃ v1 v3 rows1 rows3 b0 b1 b2 b3,v = .agg #[v1, .int .i64 b0, .int .i64 b1, .int .i64 b2, .int .i64 b3,v3] ∧ RowsAt n1 w v1 rows1 ∧ RowsAt n3 w v3 rows3 ∧ (I64 b0 ∧ I64 b1) ∧ I64 b2 ∧ I64 b3 := by
 obtain ⟨cs,rfl,hsz⟩ := okWide_struct hu hv
 obtain ⟨fuel,hf⟩ := h
 obtain ⟨xs,k,_,_,hlen,hxl,hg⟩ := DataW.trod_struct hu hf
 obtain ⟨l⟩ := cs
 match l,hsz.trans hC with
 | [a1,a2,a3,a4,a5,a6],_ =>
  have g1 := hg 0 f1 rfl
  have g2 := hg 1 f2 rfl
  have g3 := hg 2 f3 rfl
  rw [ho1,ht1,c1] at g1
  rw [ho2,ht2,c2] at g2
  rw [ho3,ht3,c3] at g3
  have x1 : xs[0]? = some (xs[0]'(by simp at hxl;omega)) := List.getElem?_eq_getElem _
  have x2 : xs[1]? = some (xs[1]'(by simp at hxl;omega)) := List.getElem?_eq_getElem _
  have x3 : xs[2]? = some (xs[2]'(by simp at hxl;omega)) := List.getElem?_eq_getElem _
  rw [x1] at g1
  rw [x2] at g2
  rw [x3] at g3
  obtain ⟨v1,r1,e1',h1⟩ := open_rows u1 hf1 hn1 g1
  obtain ⟨v3,r3,e3',h3⟩ := open_rows u3 hf3 hn3 g3
  obtain ⟨_,hi⟩ := flat_cells m hf2 g2
  obtain ⟨y0,hy0,hw0⟩ := hi 0 a2 rfl
  obtain ⟨y1,hy1,hw1⟩ := hi 1 a3 rfl
  obtain ⟨y2,hy2,hw2⟩ := hi 2 a4 rfl
  obtain ⟨y3,hy3,hw3⟩ := hi 3 a5 rfl
  simp [Value.cells] at e1' e3'
  subst e1';subst e3';subst hy0;subst hy1;subst hy2;subst hy3
  exact ⟨_,_,r1,r3,y0,y1,y2,y3,rfl,h1,h3,⟨hw0,hw1⟩,hw2,hw3⟩
end
end Go.Pb