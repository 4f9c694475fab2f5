/- Part of a claim. -/
import Derived.Test.YtodmidchpbcnpaaGreatKSmV
import Derived.Laws.OwnMore
import Derived.Test.YtodmidchpbcnpaaGreatKScV
import Derived.Shelf.Small.Bits
import Derived.Shelf.SlSortCmp.SmallK
import Derived.Ground.SlsfProg
import Derived.Test.YtodmidchpbcnpaaGreatProg
set_option linter.unusedVariables false
set_option linter.unusedSimpArgs false
namespace Go.Pb.Sag
open Go Go.Pb Go.Pb.Ware Go.RowKit

def GrpAt (lo TO TI : Nat) (gv : Value) (gs : List (List Int)) (W : World) : Prop := ∃ vs : List Value, W.ownsRow lo TO 1 gv gs.length vs ∧ RowsIn lo TI W vs gs ∧ Apart vs ∧ ∀ (k : Nat) (u : Value), vs[k]? = some u → gs[k]? = some [] → u.ownBlock = none
theorem GrpAt.push {lo TO TI i k n : Nat} (hT : TO ≠ TI) {gs : List (List Int)} {g : List Int} {W w2 w3 : World} {v v' : Value} {vs : List Value} {gb cap : Nat} (hn : gs.length = n) (hg : gs[k]? = some g) (hv : vs[k]? = some v)
  (hheads : ∀ (j : Nat) (g' : List Int) (x y : Int), j ≠ k → gs[j]? = some g' → g'[0]? = some x → (g ++ [(i : Int)])[0]? = some y → x ≠ y)
  (ho : W.ownsRow lo TO 1 (.slice (some ⟨gb, 0, none⟩) n cap) n vs) (hr : RowsIn lo TI W vs gs) (hA : Apart vs) (hE : ∀ (k : Nat) (u : Value), vs[k]? = some u → gs[k]? = some [] → u.ownBlock = none) (hsz : lo ≤ W.heap.size)
  (hb : Below W.heap.size W w2) (hg3 : w2.grownBy w3 v.ownBlock) (ho3 : w3.ownsRow lo TI 1 v' (g.length + 1) (g.map (Value.int .i64) ++ [.int .i64 (i : Int)])) :
  (w3.cell? ⟨gb, k, none⟩ = some v ∧ w3.frozen? ⟨gb, k, none⟩ = false) ∧ GrpAt lo TO TI (.slice (some ⟨gb, 0, none⟩) n cap) (gs.set k (g ++ [(i : Int)])) (w3.setCell ⟨gb, k, none⟩ v') ∧ Below lo W (w3.setCell ⟨gb, k, none⟩ v') := by
 subst hn
 have hk : k < gs.length := (List.getElem?_eq_some_iff.1 hg).1
 have hrow := hr k v g hv hg
 have ho2 := owns_below ho hb
 have hrow2 := owns_below hrow hb
 have hgb : lo ≤ gb := own_ge ho gb rfl
 have a1 : (Value.slice (some ⟨gb, 0, none⟩) gs.length cap).ownBlock = none ∨ (Value.slice (some ⟨gb, 0, none⟩) gs.length cap).ownBlock ≠ v.ownBlock := apart_types ho2 hrow2 hT
 have ho4 : w3.ownsRow lo TO 1 (.slice (some ⟨gb, 0, none⟩) gs.length cap) gs.length vs := ho2.kept hg3 a1
 have hbw : Below lo W w3 := (hb.mono hsz).grown hg3 (by have := hb.size; omega) (own_ge hrow)
 have hcell : w3.cell? ⟨gb, k, none⟩ = some v := by
  have h1 := ho4.cells (g := gb) rfl k v hv
  rw [Go.WideShapes.add_plain, Nat.zero_add] at h1
  exact h1
 have hvl : k < vs.length := (List.getElem?_eq_some_iff.1 hv).1
 have hts : ∀ {u : Value} {n : Nat} {xs : List Value}, w3.ownsRow lo TI 1 u n xs → u.ownBlock = none ∨ u.ownBlock ≠ some gb := fun h => apart_types h ho4 (Ne.symm hT)
 have hrj : ∀ (j : Nat) (u : Value) (g' : List Int), j ≠ k → vs[j]? = some u → gs[j]? = some g' → w3.ownsRow lo TI 1 u g'.length (g'.map (Value.int .i64)) := fun j u g' e hu hg' =>
  (owns_below (hr j u g' hu hg') hb).kept hg3 (hA j k u v e hu hv)
 have hvb : v'.ownBlock ≠ none := by
  obtain ⟨b, c, rfl, _⟩ := own_some ho3 (by omega)
  simp [Value.ownBlock]
 have hkey : ∀ (j : Nat) (u : Value), j ≠ k → vs[j]? = some u → (v'.ownBlock = none ∨ v'.ownBlock ≠ u.ownBlock) ∧ (u.ownBlock = none ∨ u.ownBlock ≠ v'.ownBlock) := fun j u e hu => by
  have hjl : j < gs.length := by have h1 := ho.1; have h2 := (List.getElem?_eq_some_iff.1 hu).1; omega
  have hg' : gs[j]? = some gs[j] := List.getElem?_eq_getElem hjl
  have hj := hrj j u _ e hu hg'
  cases hq : gs[j] with
  | nil =>
   have h0 := hE j u hu (by rw [hg', hq])
   exact ⟨.inr (by rw [h0]; exact hvb), .inl h0⟩
  | cons a l =>
   obtain ⟨y, hy⟩ : ∃ y, (g ++ [(i : Int)])[0]? = some y := ⟨_, List.getElem?_eq_getElem (by simp)⟩
   have hx : (gs[j])[0]? = some a := by rw [hq]; rfl
   have hxy := hheads j gs[j] a y e hg' hx hy
   have h1 : (gs[j].map (Value.int .i64))[0]? = some (.int .i64 a) := by rw [List.getElem?_map, hx]; rfl
   have h2 : (g.map (Value.int .i64) ++ [.int .i64 (i : Int)])[0]? = some (.int .i64 y) := by
    have h3 : ((g ++ [(i : Int)]).map (Value.int .i64))[0]? = some (.int .i64 y) := by rw [List.getElem?_map, hy]; rfl
    simpa using h3
   exact ⟨apart_heads ho3 hj h2 h1 (fun h => hxy (by injection h with _ h; exact h.symm)), apart_heads hj ho3 h1 h2 (fun h => hxy (by injection h))⟩
 refine ⟨⟨hcell, owns_frozen ho4 rfl k⟩, ⟨vs.set k v', ?_, ?_, ?_, ?_⟩, hbw.setCell (p := ⟨gb, k, none⟩) hgb v'⟩
 ·rw [List.length_set]; exact row_set ho4 hk
 ·intro j u g' hu hg'
  by_cases e : j = k
  ·subst e
   rw [List.getElem?_set_self hvl] at hu
   rw [List.getElem?_set_self hk] at hg'
   obtain rfl : v' = u := by simpa using hu
   obtain rfl : g ++ [(i : Int)] = g' := by simpa using hg'
   have h1 := set_own (o := j) (u := v') ho3 (hts ho3)
   simpa using h1
  ·rw [List.getElem?_set_ne (Ne.symm e)] at hu hg'
   have h3 := hrj j u g' e hu hg'
   exact set_own h3 (hts h3)
 ·intro j l u x hne hu hx
  by_cases e : j = k
  ·subst e
   rw [List.getElem?_set_self hvl] at hu
   rw [List.getElem?_set_ne hne] at hx
   obtain rfl : v' = u := by simpa using hu
   exact (hkey l x (Ne.symm hne) hx).1
  ·rw [List.getElem?_set_ne (Ne.symm e)] at hu
   by_cases e2 : l = k
   ·subst e2
    rw [List.getElem?_set_self hvl] at hx
    obtain rfl : v' = x := by simpa using hx
    exact (hkey j u e hu).2
   ·rw [List.getElem?_set_ne (Ne.symm e2)] at hx
    exact hA j l u x hne hu hx
 ·intro j u hu hg'
  by_cases e : j = k
  ·subst e
   rw [List.getElem?_set_self hk] at hg'
   injection hg' with hg'
   simp at hg'
  ·rw [List.getElem?_set_ne (Ne.symm e)] at hu hg'
   exact hE j u hu hg'
theorem GrpAt.new {lo TO TI n B : Nat} {W : World} (h : W.ownsRow lo TO 1 (.slice (some ⟨B, 0, none⟩) n n) n (madeCells (Value.slice none 0 0).cells (n * 1)).toList) : GrpAt lo TO TI (.slice (some ⟨B, 0, none⟩) n n) (groupedL [] n) W := by
 have hnil : ∀ (k : Nat) (u : Value), (madeCells (Value.slice none 0 0).cells (n * 1)).toList[k]? = some u → u = .slice none 0 0 := by
  intro k u hu
  have hk : k < n := by have := (List.getElem?_eq_some_iff.1 hu).1; simpa [madeCells] using this
  rw [Array.getElem?_toList] at hu
  unfold madeCells at hu
  rw [Array.getElem?_map, Array.getElem?_range, if_pos (by omega)] at hu
  have h2 : (#[Value.slice none 0 0] : Array Value)[k % 1]! = u := by injection hu
  rw [Nat.mod_one] at h2
  exact h2.symm
 have hg : ∀ (k : Nat) (g : List Int), (groupedL [] n)[k]? = some g → g = [] := by
  intro k g h
  have hk : k < n := by have := (List.getElem?_eq_some_iff.1 h).1; rwa [grouped_len] at this
  rw [grouped_at hk] at h
  injection h with h
  exact h.symm
 refine ⟨_, by rw [grouped_len]; exact h, ?_, ?_, ?_⟩
 ·intro k u g hu hg'
  rw [hnil k u hu, hg k g hg']
  exact World.ownsRow_nil _ _ _ _
 ·intro j k u v _ hu _
  rw [hnil j u hu]
  exact .inl rfl
 ·intro k u hu _
  rw [hnil k u hu]
  rfl
end Go.Pb.Sag
namespace Go.Pb

open Go Go.RowKit
theorem fresh_append_lat {P : Program} {o : Oper} {a : Act} {w : World} (s x : Operand) (t : TypeId) (ho : o.op = .call { callee := .builtin .append, args := #[s, x], argTypes := #[t, t] })
  (base : Nat) (e : TypeId) (i : TypeInfo) (z : Value) (size bytes : Nat) (ht : P.underlying t = some (.slice e)) (hi : P.info? e = some i) (hz : i.zero = some z)
  (hsize : i.size = size) (hby : i.bytes = bytes) (hzs : z.cells.size = size) (hsz : 0 < size) (v : Value) (hs : a.eval s = v) (hv : NewEmpty base e v w)
  (xv : Value) (m : Nat) (cs : List Value) (hx : a.eval x = xv) (hn : LAt size w xv m cs) (h63 : m ≤ maxLen) (hbytes : m * bytes ≤ 140737488355328) (hbase : base ≤ w.heap.size) :
  freshAt P o a (fun v w => w.ownsRow base e size v m cs) w := by
 rcases hn.at' with ⟨rfl, rfl⟩ | ⟨ad, c, rfl, h2, h3, h4⟩
 ·have hcs : cs = [] := List.length_eq_zero_iff.1 (by rw [hn.len]; simp)
  subst hcs
  obtain ⟨B, hB, rfl, hg⟩ := hv
  have hown : w.ownsRow base e size (.slice (some ⟨B, 0, none⟩) 0 0) 0 [] := ⟨by simp, .inr ⟨B, 0, #[], rfl, hB, hg, Nat.le_refl _, by simp [maxLen], by simp, by simp⟩⟩
  have hr := run_append_owned_none (P := P) (w := w) base t o.type e i size ht hi _ 0 [] hown
  unfold freshAt execOp
  simp only [ho, resolve, invoke, builtin, Sem.run_bind, Sem.run_pure, Result.andThen_ok, List.map_toArray, List.map_cons, List.map_nil, hs, hx, hr]
  exact ⟨Below.refl _ _, hown⟩
 ·exact fresh_append s x t ho base e i z size bytes ht hi hz hsize hby hzs hsz v hs hv ad m c cs hx hn.len h4 hn.one h63 hbytes hbase
theorem wp_append_lat {P : Program} {o : Oper} {a : Act} {K : Act → World → Prop} {Q : Exit → Act → World → Prop} (w : World) (s x : Operand) (t : TypeId) (ho : o.op = .call { callee := .builtin .append, args := #[s, x], argTypes := #[t, t] })
  (base : Nat) (e : TypeId) (i : TypeInfo) (z : Value) (size bytes : Nat) (ht : P.underlying t = some (.slice e)) (hi : P.info? e = some i) (hz : i.zero = some z)
  (hsize : i.size = size) (hby : i.bytes = bytes) (hzs : z.cells.size = size) (hsz : 0 < size) (v : Value) (n : Nat) (xs : List Value) (hs : a.eval s = v) (hown : w.ownsRow base e size v n xs)
  (xv : Value) (m : Nat) (cs : List Value) (hx : a.eval x = xv) (hn : LAt size w xv m cs) (h63 : n + m ≤ maxLen) (hbytes : (n + m) * bytes ≤ 140737488355328) (hbase : base ≤ w.heap.size)
  (h : ∀ v' w', w'.ownsRow base e size v' (n + m) (xs ++ cs) → w.grownBy w' v.ownBlock → K (a.put o.dst v') w') : o.wp P a w K Q := by
 rcases hn.at' with ⟨rfl, rfl⟩ | ⟨ad, c, rfl, h2, h3, h4⟩
 ·have hcs : cs = [] := List.length_eq_zero_iff.1 (by rw [hn.len]; simp)
  subst hcs
  have hr := run_append_owned_none (P := P) (w := w) base t o.type e i size ht hi v n xs hown
  have h5 := h v w (by simpa using hown) ⟨rfl, rfl, rfl, Nat.le_refl _, fun k _ _ => rfl⟩
  unfold Oper.wp execOp
  simp only [ho, resolve, invoke, builtin, Sem.run_bind, Sem.run_pure, Result.andThen_ok, List.map_toArray, List.map_cons, List.map_nil, hs, hx, hr]
  exact h5
 ·exact wp_append_own w s x t ho base e i z size bytes ht hi hz hsize hby hzs hsz v n xs hs hown ad m c cs hx hn.len h4 hn.one h63 hbytes hbase fun v' w' h5 h6 _ => h v' w' h5 h6
theorem wpList_append_lat {P : Program} {w : World} {ops : Array Oper} {rest : List Oper} {o : Oper} {a : Act} {Q : Exit → Act → World → Prop} (hgd : o.guard = none) (s x : Operand) (t : TypeId)
  (ho : o.op = .call { callee := .builtin .append, args := #[s, x], argTypes := #[t, t] })
  (base : Nat) (e : TypeId) (i : TypeInfo) (z : Value) (size bytes : Nat) (ht : P.underlying t = some (.slice e)) (hi : P.info? e = some i) (hz : i.zero = some z)
  (hsize : i.size = size) (hby : i.bytes = bytes) (hzs : z.cells.size = size) (hsz : 0 < size) (v : Value) (n : Nat) (xs : List Value) (hs : a.eval s = v) (hown : w.ownsRow base e size v n xs)
  (xv : Value) (m : Nat) (cs : List Value) (hx : a.eval x = xv) (hn : LAt size w xv m cs) (h63 : n + m ≤ maxLen) (hbytes : (n + m) * bytes ≤ 140737488355328) (hbase : base ≤ w.heap.size)
  (h : ∀ v' w', w'.ownsRow base e size v' (n + m) (xs ++ cs) → w.grownBy w' v.ownBlock → wpList P ops Q rest (a.put o.dst v') w') : wpList P ops Q (o :: rest) a w :=
 wpList_plain hgd fun _ hK => wp_append_lat w s x t ho base e i z size bytes ht hi hz hsize hby hzs hsz v n xs hs hown xv m cs hx hn h63 hbytes hbase fun v' w' h2 h3 => hK _ _ (h v' w' h2 h3)
end Go.Pb
namespace Go.Pb.Sag
open Go Go.Pb Go.Pb.Ware Go.RowKit

def hitL (s : Bx) (f : Ft) (fs : List Ft) (t : Nat) (begun : List St) (p : St) : List (List St) := if (t &&& maskOf f p != 0) = true then [] else (packsF (fs.map (spotsL s)) (t ||| maskOf f p)).map (fun q => begun ++ p :: q)
theorem packs_begun {s : Bx} {f : Ft} {fs : List Ft} {t : Nat} {begun : List St} : (packsF ((f :: fs).map (spotsL s)) t).map (begun ++ ·) = (standsL s f).flatMap (hitL s f fs t begun) := by
 rw [List.map_cons, packsF, List.map_flatMap]
 unfold spotsL
 rw [List.flatMap_map]
 congr 1
 funext p
 unfold hitL
 dsimp only
 split
 ·rfl
 ·rw [List.map_map]; rfl
theorem hit_used {s : Bx} {f : Ft} {fs : List Ft} {t : Nat} {begun : List St} {p : St} (h : ¬ t &&& maskOf f p = 0) : hitL s f fs t begun p = [] := by
 unfold hitL
 rw [if_pos (by simpa using h)]
theorem hit_room {s : Bx} {f : Ft} {fs : List Ft} {t : Nat} {begun : List St} {p : St} (h : t &&& maskOf f p = 0) (hr : roomB s fs (t ||| maskOf f p) = false) : hitL s f fs t begun p = [] := by
 unfold hitL
 rw [if_neg (by simp [h])]
 have h2 : packsF (fs.map (spotsL s)) (t ||| maskOf f p) = [] := by
  unfold roomB at hr
  simpa using hr
 rw [h2]; rfl
theorem hit_packs {s : Bx} {f : Ft} {fs : List Ft} {t : Nat} {begun : List St} {p : St} (h : t &&& maskOf f p = 0) : hitL s f fs t begun p = (packsF (fs.map (spotsL s)) (t ||| maskOf f p)).map ((begun ++ [p]) ++ ·) := by
 unfold hitL
 rw [if_neg (by simp [h])]
 congr 1
 funext q
 rw [List.append_assoc]; rfl
theorem flat_step {α β : Type} {l : List α} {H : α → List β} {j : Nat} (hj : j < l.length) : (l.take (j + 1)).flatMap H = (l.take j).flatMap H ++ H l[j] := by
 rw [List.take_succ_eq_append_getElem hj, List.flatMap_append, List.flatMap_singleton]
theorem take_more {α : Type} {out h : List α} {most : Nat} (hl : out.length < most) : out ++ h.take (most - out.length) = (out ++ h).take most := by
 rw [List.take_append, List.take_of_length_le (l := out) (by omega)]
theorem take_done {α β : Type} {l : List α} {H : α → List β} {j most : Nat} (h : most ≤ (((l.take j).flatMap H).take most).length) : (l.flatMap H).take most = ((l.take j).flatMap H).take most := by
 have e : l.flatMap H = (l.take j).flatMap H ++ (l.drop j).flatMap H := by rw [← List.flatMap_append, List.take_append_drop]
 rw [List.length_take] at h
 rw [e, List.take_append, show most - ((l.take j).flatMap H).length = 0 by omega, List.take_zero, List.append_nil]
def RowsQ (lo TQ TS : Nat) (v : Value) (rows : List (List St)) (W : World) : Prop := ∃ us : List Value, W.ownsRow lo TQ 1 v rows.length us ∧ ∀ (k : Nat) (u : Value) (q : List St), us[k]? = some u → rows[k]? = some q → W.ownsRow lo TS 3 u q.length (q.flatMap cellsP)
theorem RowsQ.below {lo TQ TS : Nat} {v : Value} {rows : List (List St)} {W W' : World} (h : RowsQ lo TQ TS v rows W) (hb : Below W.heap.size W W') : RowsQ lo TQ TS v rows W' := by
 obtain ⟨us, h1, h2⟩ := h
 exact ⟨us, owns_below h1 hb, fun k u q h3 h4 => owns_below (h2 k u q h3 h4) hb⟩
theorem RowsQ.base {lo lo2 TQ TS : Nat} {v : Value} {rows : List (List St)} {W : World} (h : RowsQ lo TQ TS v rows W) (hb : lo2 ≤ lo) : RowsQ lo2 TQ TS v rows W := by
 obtain ⟨us, h1, h2⟩ := h
 exact ⟨us, owns_base hb h1, fun k u q h3 h4 => owns_base hb (h2 k u q h3 h4)⟩
theorem RowsQ.nil {lo TQ TS : Nat} {W : World} : RowsQ lo TQ TS (.slice none 0 0) [] W := ⟨[], World.ownsRow_nil _ _ _ _, fun k u q h => by simp at h⟩
theorem RowsQ.shape {lo TQ TS : Nat} {v : Value} {rows : List (List St)} {W : World} (h : RowsQ lo TQ TS v rows W) : ∃ (a : Option Addr) (cap : Nat), v = .slice a rows.length cap ∧ rows.length ≤ 9223372036854775807 := by
 obtain ⟨us, h1, _⟩ := h
 exact owns_shape h1
theorem RowsQ.append {lo TQ TS : Nat} (hT : TQ ≠ TS) {v v' : Value} {rows more : List (List St)} {us ms : List Value} {W w3 : World}
  (ho : W.ownsRow lo TQ 1 v rows.length us) (hr : ∀ (k : Nat) (u : Value) (q : List St), us[k]? = some u → rows[k]? = some q → W.ownsRow lo TS 3 u q.length (q.flatMap cellsP))
  (hm : ∀ (k : Nat) (u : Value) (q : List St), ms[k]? = some u → more[k]? = some q → W.ownsRow lo TS 3 u q.length (q.flatMap cellsP)) (hml : ms.length = more.length)
  (hg : W.grownBy w3 v.ownBlock) (ho3 : w3.ownsRow lo TQ 1 v' (rows.length + more.length) (us ++ ms)) : RowsQ lo TQ TS v' (rows ++ more) w3 := by
 have hul : us.length = rows.length := by have := ho.1; omega
 have kept : ∀ {u : Value} {q : List St}, W.ownsRow lo TS 3 u q.length (q.flatMap cellsP) → w3.ownsRow lo TS 3 u q.length (q.flatMap cellsP) := fun h => h.kept hg (apart_types h ho (Ne.symm hT))
 refine ⟨us ++ ms, by rw [List.length_append]; exact ho3, fun k u q hu hq => ?_⟩
 rcases Nat.lt_or_ge k rows.length with h | h
 ·rw [List.getElem?_append_left (by omega)] at hu
  rw [List.getElem?_append_left h] at hq
  exact kept (hr k u q hu hq)
 ·rw [List.getElem?_append_right (by omega), hul] at hu
  rw [List.getElem?_append_right h] at hq
  exact kept (hm (k - rows.length) u q hu hq)
theorem RowsQ.one {lo TQ TS B : Nat} {u : Value} {q : List St} {W : World} (hB : W.heap.size = B) (hlo : lo ≤ B) (h : W.ownsRow lo TS 3 u q.length (q.flatMap cellsP)) : RowsQ lo TQ TS (.slice (some ⟨B, 0, none⟩) 1 1) [q] (W.alloc (.cells #[u] TQ)) := by
 subst hB
 refine ⟨[u], ⟨rfl, .inr ⟨W.heap.size, 1, #[u], rfl, hlo, World.alloc_heap_new W _, Nat.le_refl _, by unfold maxLen; omega, rfl, rfl⟩⟩, fun k x y hx hy => ?_⟩
 match k with
 | 0 =>
  injection hx with hx; injection hy with hy
  subst hx; subst hy
  exact h.alloc _
 | k + 1 => simp at hx
end Go.Pb.Sag
namespace Go.Pb

open Go Go.RowKit
section
variable {P : Program} {md : Region.Mode} {ops : Array Oper} {Q : Exit → Act → World → Prop} {C : World → Prop}
def wpAnyC (P : Program) (md : Region.Mode) (ops : Array Oper) (Q : Exit → Act → World → Prop) (C : World → Prop) : Nat → Array Bool → Act → World → Prop
 | 0, L, a, w => C w ∧ Region.ready md ops L = [] ∧ Q .normal a w
 | n + 1, L, a, w => C w ∧ (Region.ready md ops L = [] → Q .normal a w) ∧ ∀ i ∈ Region.ready md ops L, wpOp P ops Q i (wpAnyC P md ops Q C n (L.setIfInBounds i true)) a w
theorem wpAnyC_any : ∀ {n : Nat} {L : Array Bool} {a : Act} {w : World}, wpAnyC P md ops Q C n L a w → wpAny P md ops Q n L a w
 | 0, _, _, _, h => h.2
 | n + 1, _, _, _, h => ⟨h.2.1, fun i hi => wpOp_mono (fun _ _ h => wpAnyC_any h) (h.2.2 i hi)⟩
theorem wpAnyC_ready {n r : Nat} {L : Array Bool} {a : Act} {w : World} (hC : C w) (hr : Region.ready md ops L = [r]) (h : wpOp P ops Q r (wpAnyC P md ops Q C n (L.setIfInBounds r true)) a w) : wpAnyC P md ops Q C (n + 1) L a w :=
 ⟨hC, fun h0 => (by rw [hr] at h0; cases h0), fun i hi => by rw [hr, List.mem_singleton] at hi; subst hi; exact h⟩
theorem wpAnyC_op {n r : Nat} {o : Oper} {L : Array Bool} {a : Act} {w : World} (hC : C w) (hr : Region.ready md ops L = [r]) (ho : ops[r]? = some o) (hw : Region.wanted o (yielded ops a.tmps) = true)
  (h : ∀ K : Act → World → Prop, (∀ a' w', wpAnyC P md ops Q C n (L.setIfInBounds r true) a' w' → K a' w') → o.wp P a w K Q) : wpAnyC P md ops Q C (n + 1) L a w := by
 refine wpAnyC_ready hC hr ?_
 unfold wpOp
 simp only [ho, hw, if_true]
 exact .inl (h _ fun _ _ h => h)
theorem wpAnyC_end {L : Array Bool} {a : Act} {w : World} (hC : C w) (hr : Region.ready md ops L = []) (h : Q .normal a w) : wpAnyC P md ops Q C 0 L a w := ⟨hC, hr, h⟩
theorem wpAnyC_at {n : Nat} {L : Array Bool} {a : Act} {w : World} (h : wpAnyC P md ops Q C n L a w) : C w := by cases n <;> exact h.1
def LoadsC (P : Program) (ops : Array Oper) (C : World → Prop) (o : Oper) (v : Value) (a : Act) : Prop := Region.wanted o (yielded ops a.tmps) = true ∧ ∀ w, C w → (execOp a.eval o).run P w = .ok (.value v) w
theorem wpOp_keep {R : Act → Prop} {j : Nat} {oj : Oper} (hj : ops[j]? = some oj) {K : Act → World → Prop} {a : Act} {w : World} (hk : ∀ u, R (a.put oj.dst u)) (hkD : ∀ d u, R (({ a with defers := d :: a.defers } : Act).put oj.dst u))
  (h : wpOp P ops Q j K a w) : wpOp P ops Q j (fun a' w' => R a' ∧ K a' w') a w := by
 unfold wpOp at *
 simp only [hj] at *
 split
 ·rename_i hw
  simp only [hw, if_true] at h
  rcases h with h | h
  ·left
   unfold Oper.wp at *
   generalize (execOp a.eval oj).run P w = r at *
   cases r with
   | ok n w' =>
    cases n <;> simp only [Oper.upon] at h ⊢
    case value u => exact ⟨hk u, h⟩
    case skip => exact ⟨hk _, h⟩
    case defer d => exact ⟨hkD d _, h⟩
    case enter f args =>
     refine Calls.mono h fun e w'' he => ?_
     cases e with
     | returned u => exact ⟨hk u, he⟩
     | panicked c => exact he
     | outgrown => exact he
    case row row args => exact Rows.mono h fun u w'' he => ⟨hk u, he⟩
   | halt x w' => cases x <;> exact h
  ·exact .inr h
 ·rename_i hw
  simp only [hw] at h
  exact ⟨hk _, h⟩
theorem wpOp_putC {j : Nat} {oi oj : Oper} {v : Value} (hj : ops[j]? = some oj) (hap : oi.apart ops oj = true) (hsi : ∀ cs b, oi.op ≠ .select cs b) (hsj : ∀ cs b, oj.op ≠ .select cs b) {K : Act → World → Prop} {a : Act} {w : World}
  (hy : LoadsC P ops C oi v a) (h : wpOp P ops (Only Q) j K (a.put oi.dst v) w) : wpOp P ops (Only Q) j (fun a' w' => LoadsC P ops C oi v a' ∧ K (a'.put oi.dst v) w') a w := by
 obtain ⟨h1, h2, h3⟩ := Oper.apart_spec hap
 refine wpOp_keep hj (fun u => ?_) (fun d u => ?_) ?_
 ·exact ⟨by rw [wanted_put oi a oj.dst u h3]; exact hy.1, fun w hC => by rw [execOp_put oi hsi a oj.dst u h3]; exact hy.2 w hC⟩
 ·exact ⟨by rw [wanted_put oi _ oj.dst u h3]; exact hy.1, fun w hC => by rw [execOp_put oi hsi _ oj.dst u h3]; exact hy.2 w hC⟩
 ·unfold wpOp at *
  simp only [hj] at *
  rw [wanted_put oj a oi.dst v h1] at h
  split
  ·rename_i hw
   simp only [hw, if_true] at h
   rcases h with h | ⟨_, hl⟩
   ·left
    unfold Oper.wp at *
    rw [execOp_put oj hsj a oi.dst v h1] at h
    generalize (execOp a.eval oj).run P w = r at *
    cases r with
    | ok n w' =>
     cases n <;> simp only [Oper.upon] at h ⊢
     case value u => rw [← Act.put_comm a v u h2]; exact h
     case skip => rw [← Act.put_comm a v undef h2]; exact h
     case defer d => rw [← Act.put_comm _ v undef h2, ← Act.put_defers]; exact h
     case enter f args =>
      refine Calls.mono h fun e w'' he => ?_
      cases e with
      | returned u => show K _ _; rw [← Act.put_comm a v u h2]; exact he
      | panicked c => exact absurd he.1 (by simp)
      | outgrown => exact absurd he only_lets
     case row row args => exact Rows.mono h fun u w'' he => by rw [← Act.put_comm a v u h2]; exact he
    | halt x w' =>
     cases x <;> simp only [Oper.upon] at h ⊢
     case panic u => exact absurd h.1 (by simp)
   ·exact absurd hl only_lets
  ·rename_i hw
   simp only [hw] at h
   rw [← Act.put_comm a v undef h2]; exact h
theorem LoadsC.op {i : Nat} {o : Oper} {v : Value} {a : Act} (hi : ops[i]? = some o) (hy : LoadsC P ops C o v a) {K : Act → World → Prop} {w : World} (hC : C w) (h : K (a.put o.dst v) w) : wpOp P ops Q i K a w := by
 unfold wpOp
 simp only [hi, hy.1, if_true]
 left
 unfold Oper.wp
 rw [hy.2 w hC]
 exact h
theorem wpAnyC_first {i : Nat} {oi : Oper} {v : Value} (hi : ops[i]? = some oi) (hsel : ∀ (j : Nat) (o : Oper) cs b, ops[j]? = some o → o.op ≠ .select cs b) :
  ∀ (n : Nat) (L : Array Bool) (a : Act) (w : World),
   (∀ j oj, ops[j]? = some oj → j ≠ i → L.getD j true = false → (∀ e ∈ oj.after, Region.binds md e = true → e.on ≠ i) → oi.apart ops oj = true) →
   i ∈ Region.ready md ops L → LoadsC P ops C oi v a → C w →
   wpAnyC P md ops (Only Q) C n (L.setIfInBounds i true) (a.put oi.dst v) w → wpAnyC P md ops (Only Q) C (n + 1) L a w := by
 intro n
 induction n with
 | zero =>
  intro L a w _ hr hy hC H
  refine ⟨hC, fun h => (by rw [h] at hr; cases hr), fun j hj => ?_⟩
  by_cases hji : j = i
  ·subst hji; exact hy.op hi hC H
  ·have := ready_mono hj hji
   rw [H.2.1] at this
   cases this
 | succ n ih =>
  intro L a w hfree hr hy hC H
  refine ⟨hC, fun h => (by rw [h] at hr; cases hr), fun j hj => ?_⟩
  by_cases hji : j = i
  ·subst hji; exact hy.op hi hC H
  ·have h1 := H.2.2 j (ready_mono hj hji)
   obtain ⟨hjun, oj, hoj, hall⟩ := mem_ready.1 hj
   have hnot : ∀ e ∈ oj.after, Region.binds md e = true → e.on ≠ i := fun e he hb heq => by
    have h2 := hall e he hb
    have h0 := (mem_ready.1 hr).1
    rw [heq] at h2
    rcases Nat.lt_or_ge i L.size with h' | h'
    ·simp [h'] at h0 h2; rw [h0] at h2; cases h2
    ·simp [Array.getElem?_eq_none h'] at h2
   have h2 := wpOp_putC hoj (hfree j oj hoj hji hjun hnot) (fun cs b => hsel i oi cs b hi) (fun cs b => hsel j oj cs b hoj) hy h1
   have hfree' : ∀ k ok, ops[k]? = some ok → k ≠ i → (L.setIfInBounds j true).getD k true = false → (∀ e ∈ ok.after, Region.binds md e = true → e.on ≠ i) → oi.apart ops ok = true := fun k ok hk hki hun hno => by
    refine hfree k ok hk hki ?_ hno
    by_cases hjk : j = k
    ·subst hjk; exact hjun
    ·rw [getD_set_ne true hjk] at hun; exact hun
   have key : ∀ a' w', LoadsC P ops C oi v a' → wpAnyC P md ops (Only Q) C n ((L.setIfInBounds i true).setIfInBounds j true) (a'.put oi.dst v) w' → wpAnyC P md ops (Only Q) C (n + 1) (L.setIfInBounds j true) a' w' := by
    intro a' w' hy' H'
    rw [Array.setIfInBounds_comm _ _ (Ne.symm hji)] at H'
    have hr' := ready_mono hr (Ne.symm hji)
    exact ih (L.setIfInBounds j true) a' w' hfree' hr' hy' (wpAnyC_at H') H'
   exact wpOp_mono (fun a' w' h3 => key a' w' h3.1 h3.2) h2
end
section
variable {P : Program} {md : Region.Mode} {ops : Array Oper} {w0 : World} {fr : Nat → Bool} {p : Nat → Value → World → Prop} {C : World → Prop}
theorem wpAnyC_of_wpR {Q : Exit → Act → World → Prop} (hC : ∀ w, Below w0.heap.size w0 w → C w) {g : Nat} {hs : List Nat} {L : Array Bool} (hsel : Region.noSelect ops = true) (hplain : ∀ h o, h ∈ hs → fr h = false → ops[h]? = some o → plainOp o.op = true)
  (hkeep : ∀ i v w1 w2, p i v w1 → Below w1.heap.size w1 w2 → p i v w2) (hL : L.size = ops.size) :
  ∀ (f : Nat) (M : Array Bool) (l : List Nat) (Γ : Known) (a : Act) (w : World), l.length = f → l.Nodup → l.Pairwise (Pair md ops fr) → (∀ j ∈ l, M.getD j true = false) →
   (∀ j ∈ hs, j ∈ l ∨ M.getD j true = true) → (∀ h ∈ l, Γ h = none) → Hered md ops hs f M → All w0 p Γ w → mark l M = mark hs L →
   wpR P md ops w0 fr p (fun Γ' a' => ∀ w', All w0 p Γ' w' → wpAnyC P md ops Q C g (mark hs L) a' w') l Γ a → wpAnyC P md ops Q C (f + g) M a w := by
 intro f
 induction f with
 | zero =>
  intro M l Γ a w hlen _ _ _ _ _ _ hall hmk H
  obtain rfl := List.length_eq_zero_iff.1 hlen
  rw [Nat.zero_add, show M = mark hs L from hmk]
  exact H w hall
 | succ f ih =>
  intro M l Γ a w hlen hnd hpw hun hcov hΓ hh hall hmk H
  rw [show f + 1 + g = (f + g) + 1 by omega]
  refine ⟨hC _ hall.1, fun h0 => absurd h0 hh.1, fun i hi => ?_⟩
  obtain ⟨hiu, oi, hoi, hdeps⟩ := mem_ready.1 hi
  have hil : i ∈ l := by
   rcases hcov i (hh.2.1 i hi) with h1 | h1
   ·exact h1
   ·rw [h1] at hiu; cases hiu
  have hiM : i < M.size := by
   rcases Nat.lt_or_ge i M.size with h' | h'
   ·exact h'
   ·simp [Array.getElem?_eq_none h'] at hiu
  have H1 := wpR_pull hsel hkeep hoi l Γ a hil hnd hpw (fun j hj => waits_dep hdeps (hun j hj)) hΓ ⟨w, hall⟩ H
  have hle : (l.erase i).length = f := by rw [List.length_erase_of_mem hil]; omega
  have next : ∀ Γ' a' w', (∀ h ∈ l.erase i, Γ' h = none) → All w0 p Γ' w' → wpR P md ops w0 fr p (fun Γ' a' => ∀ w', All w0 p Γ' w' → wpAnyC P md ops Q C g (mark hs L) a' w') (l.erase i) Γ' a' →
    wpAnyC P md ops Q C (f + g) (M.setIfInBounds i true) a' w' := fun Γ' a' w' hΓ' hall' H' =>
   ih (M.setIfInBounds i true) (l.erase i) Γ' a' w' hle (hnd.erase i) (hpw.sublist List.erase_sublist) (fun j hj => by
     have hne : j ≠ i := by rintro rfl; exact (List.Nodup.not_mem_erase hnd) hj
     rw [getD_set_ne true (Ne.symm hne)]; exact hun j (List.mem_of_mem_erase hj))
    (fun j hj => by
     by_cases hji : j = i
     ·subst hji; right; simp
     ·rcases hcov j hj with h1 | h1
      ·left; exact (List.mem_erase_of_ne hji).2 h1
      ·right; rw [getD_set_ne true (Ne.symm hji)]; exact h1)
    hΓ' (hh.2.2.2 i hi) hall' (by
     rw [← hmk]
     have key : ∀ (l : List Nat) (M : Array Bool), i ∈ l → mark l M = mark (l.erase i) (M.setIfInBounds i true) := by
      intro l
      induction l with
      | nil => intro M h; cases h
      | cons x l ihl =>
       intro M h
       by_cases hx : x = i
       ·subst hx; simp [mark]
       ·rw [List.erase_cons_tail (by simpa using hx)]
        simp only [mark, List.foldl_cons]
        have h2 := ihl (M.setIfInBounds x true) (by simpa [Ne.symm hx] using h)
        simp only [mark] at h2
        rw [h2, Array.setIfInBounds_comm _ _ hx]
     exact (key l M hil).symm) H'
  have hΓe : ∀ h ∈ l.erase i, Γ h = none := fun h hh' => hΓ h (List.mem_of_mem_erase hh')
  unfold wpR oneR at H1
  simp only [hoi] at H1
  unfold wpOp
  simp only [hoi]
  split
  ·rename_i hwant
   rw [if_pos hwant] at H1
   left
   split at H1
   ·rename_i hf
    obtain ⟨h1, h2⟩ := H1
    have h3 := h1 w (hall.cl oi)
    have go : ∀ u w'', Below w.heap.size w w'' → p i u w'' → wpAnyC P md ops Q C (f + g) (M.setIfInBounds i true) (a.put oi.dst u) w'' := by
     intro u w'' hb hq
     have hall' : All w0 p (upd Γ i u) w'' := ⟨hall.1.trans (hb.mono hall.1.size), fun k v hk => by
      unfold upd at hk
      by_cases hki : k = i
      ·subst hki; rw [if_pos rfl] at hk; cases hk; exact hq
      ·rw [if_neg hki] at hk; exact hkeep _ _ _ _ (hall.2 k v hk) hb⟩
     refine next _ _ _ (fun k hk => ?_) hall' (h2 u ⟨w'', hall'⟩)
     unfold upd
     rw [if_neg (by rintro rfl; exact (List.Nodup.not_mem_erase hnd) hk)]
     exact hΓe k hk
    unfold freshAt at h3
    unfold Oper.wp
    generalize (execOp a.eval oi).run P w = r at h3 ⊢
    cases r with
    | halt x w' => exact h3.elim
    | ok n w' =>
     cases n <;> simp only at h3
     case value u => exact go u w' h3.1 h3.2
     case enter fn args =>
      obtain ⟨rfl, hc⟩ := h3
      exact hc.mono fun e w'' ⟨u, he, hb, hq⟩ => by subst he; exact go u w'' hb hq
   ·rename_i hf
    obtain ⟨v, h1, h2⟩ := H1 ⟨w, hall.cl oi⟩
    have h3 := h1 w (hall.cl oi)
    unfold Oper.quietAt at h3
    unfold Oper.wp
    generalize hr : (execOp a.eval oi).run P w = r at h3 ⊢
    cases r with
    | halt x w' => simp only [Oper.quietUpon] at h3
    | ok n w' =>
     cases n <;> simp only [Oper.quietUpon] at h3
     case value u =>
      obtain ⟨rfl, rfl⟩ := h3
      exact next _ _ _ hΓe hall h2
     case skip =>
      obtain ⟨rfl, rfl⟩ := h3
      exact next _ _ _ hΓe hall h2
     case enter fn args => exact absurd hr (plain_ne (hplain i oi (hh.2.1 i hi) (by simpa using hf) hoi) _)
  ·rename_i hwant
   rw [if_neg hwant] at H1
   exact next _ _ _ hΓe hall H1
theorem wpAnyC_R {Q : Exit → Act → World → Prop} (hC : ∀ w, Below w0.heap.size w0 w → C w) {L : Array Bool} {a : Act} {w : World} (fs : List Nat) (hs : List Nat) (g : Nat)
  (hkeep : ∀ i v w1 w2, p i v w1 → Below w1.heap.size w1 w2 → p i v w2)
  (hB : (groupB md ops L hs && pairsB md ops (fs.contains ·) hs && plainsB ops (fs.contains ·) hs) = true) (hw : Below w0.heap.size w0 w)
  (h : wpR P md ops w0 (fs.contains ·) p (fun Γ' a' => ∀ w', All w0 p Γ' w' → wpAnyC P md ops Q C g (mark hs L) a' w') hs (fun _ => none) a) : wpAnyC P md ops Q C (hs.length + g) L a w := by
 simp only [Bool.and_eq_true] at hB
 obtain ⟨⟨hG, hP⟩, hPl⟩ := hB
 have hG' := hG
 simp only [groupB, Bool.and_eq_true, decide_eq_true_eq] at hG'
 obtain ⟨⟨⟨⟨hsz, hsel⟩, hcl⟩, hout⟩, hord⟩ := hG'
 obtain ⟨hnd, hmem, hpre⟩ := orderB_spec hord
 have hleft : left hs L = hs.length := by
  unfold left
  rw [List.filter_eq_self.2 (fun j hj => by rw [(hmem j hj).2.1]; rfl)]
 have hsh : Shut md ops L := by
  intro j o ho hj e he hb
  have hjo : j < ops.size := by
   rcases Nat.lt_or_ge j ops.size with h' | h'
   ·exact h'
   ·simp [Array.getElem?_eq_none h'] at ho
  have h1 := List.all_eq_true.1 hcl j (List.mem_range.2 hjo)
  simp only [hj, ho, Bool.not_true, Bool.false_or] at h1
  simpa [hb] using Array.all_eq_true'.1 h1 e he
 have hh := hered_of hG hs.length L hleft hsh hsz (fun j hj => .inl hj) (fun j hj => hj)
 refine wpAnyC_of_wpR hC (hs := hs) (L := L) hsel (fun k o hk hf ho => ?_) hkeep hsz hs.length L hs (fun _ => none) a w rfl hnd (pairs_of hP) (fun j hj => (hmem j hj).2.1)
  (fun j hj => .inl hj) (fun _ _ => rfl) hh ⟨hw, fun _ _ hg => by cases hg⟩ rfl h
 have := List.all_eq_true.1 hPl k hk
 simp only [show (fs.contains k) = false from hf, ho, Bool.false_or] at this
 exact this
end
section
variable {P : Program} {md : Region.Mode} {ops : Array Oper} {C : World → Prop}
def wpFirstC (P : Program) (ops : Array Oper) (C : World → Prop) : List Nat → (Act → Prop) → Act → Prop
 | [], H, a => H a
 | i :: is, H, a => ∃ o v, ops[i]? = some o ∧ LoadsC P ops C o v a ∧ wpFirstC P ops C is H (a.put o.dst v)
theorem wpFirstC_any {Q : Exit → Act → World → Prop} (hsel : Region.noSelect ops = true) {w : World} (hC : C w) {n : Nat} {H : Act → Prop} : ∀ (fs : List Nat) (L : Array Bool) (a : Act), firstB md ops fs L = true →
  (∀ a, H a → wpAnyC P md ops (Only Q) C n (mark fs L) a w) → wpFirstC P ops C fs H a → wpAnyC P md ops (Only Q) C (fs.length + n) L a w
 | [], L, a, _, hH, h => by simpa using hH a h
 | i :: is, L, a, hb, hH, h => by
  obtain ⟨o, v, ho, hy, h⟩ := h
  simp only [firstB, Bool.and_eq_true, ho] at hb
  obtain ⟨⟨hr, hf⟩, hb⟩ := hb
  have hr2 : i ∈ Region.ready md ops L := by simpa using hr
  have ih := wpFirstC_any hsel hC is (L.setIfInBounds i true) _ hb hH h
  rw [List.length_cons, show is.length + 1 + n = is.length + n + 1 by omega]
  exact wpAnyC_first ho (Region.noSelect_spec hsel) _ L a w (fun j oj hj hne hun hno => freeB_spec ho hf hr2 j oj hj hne hun hno) hr2 hy hC ih
end
theorem wpAny_G {P : Program} {Q : Exit → Act → World → Prop} {a : Act} {w : World} {l : List Oper} (C : World → Prop) (hC : ∀ w', Below w.heap.size w w' → C w') (fs : List Nat)
  (hF : (Region.noSelect l.toArray && firstB .any l.toArray fs (Array.replicate l.length false)) = true)
  (ps : List (Nat × (Value → World → Prop))) (hs : List Nat) (g : Nat)
  (hn : fs.length + (hs.length + g) = l.length) (hkeep : ∀ x ∈ ps, Keeps x.2)
  (hB : (groupB .any l.toArray (mark fs (Array.replicate l.length false)) hs && pairsB .any l.toArray ((ps.map (·.1)).contains ·) hs && plainsB l.toArray ((ps.map (·.1)).contains ·) hs) = true)
  (h : wpFirstC P l.toArray C fs (fun a => wpS P .any l.toArray w ((ps.map (·.1)).contains ·) (pOf ps) (fun Γ' a' => ∀ w', All w (pOf ps) Γ' w' → wpAnyC P .any l.toArray (Only Q) C g (mark hs (mark fs (Array.replicate l.length false))) a' w') (numbered l.toArray hs) (fun _ => none) a) a) :
  wpAny P .any l.toArray (Only Q) l.toArray.size (Array.replicate l.toArray.size false) a w.drew := by
 simp only [Bool.and_eq_true] at hF
 have h1 := wpFirstC_any (P := P) (Q := Q) (md := .any) (C := C) hF.1 (w := w.drew) (hC _ (Below.refl _ w).drew) (n := hs.length + g) fs (Array.replicate l.length false) a hF.2 (fun a h => ?_) h
 ·rw [hn] at h1
  simpa using wpAnyC_any h1
 ·have h2 := wpR_of_wpS (fun k hk => by
   simp only [groupB, Bool.and_eq_true] at hB
   obtain ⟨_, hmem, _⟩ := orderB_spec hB.1.1.2
   exact (hmem k hk).2.2) h
  exact wpAnyC_R (P := P) (Q := Only Q) (w0 := w) (w := w.drew) (a := a) hC (ps.map (·.1)) hs g (pOf_keeps hkeep) hB (Below.refl _ w).drew h2
theorem wp_region_G {P : Program} {id : Nat} {Q : Exit → Act → World → Prop} {a : Act} {w : World} {l : List Oper} (C : World → Prop) (hC : ∀ w', Below w.heap.size w w' → C w') (fs : List Nat)
  (hF : (Region.noSelect l.toArray && firstB .any l.toArray fs (Array.replicate l.length false)) = true)
  (ps : List (Nat × (Value → World → Prop))) (hs : List Nat) (g : Nat) (hm : P.follows .mixedOrders = true)
  (hn : fs.length + (hs.length + g) = l.length) (hkeep : ∀ x ∈ ps, Keeps x.2)
  (hB : (groupB .any l.toArray (mark fs (Array.replicate l.length false)) hs && pairsB .any l.toArray ((ps.map (·.1)).contains ·) hs && plainsB l.toArray ((ps.map (·.1)).contains ·) hs) = true)
  (h : wpFirstC P l.toArray C fs (fun a => wpS P .any l.toArray w ((ps.map (·.1)).contains ·) (pOf ps) (fun Γ' a' => ∀ w', All w (pOf ps) Γ' w' → wpAnyC P .any l.toArray (Only Q) C g (mark hs (mark fs (Array.replicate l.length false))) a' w') (numbered l.toArray hs) (fun _ => none) a) a) :
  (Code.region id l.toArray true).wp P Q a w := wp_region_any hm (wpAny_only (wpAny_G C hC fs hF ps hs g hn hkeep hB h))
theorem wpIn_region_G {P : Program} {id : Nat} {Q : Exit → Act → World → Prop} {a : Act} {w : World} {l : List Oper} {lv n : Nat} (hd : noDefer l = true) (C : World → Prop) (hC : ∀ w', Below w.heap.size w w' → C w') (fs : List Nat)
  (hF : (Region.noSelect l.toArray && firstB .any l.toArray fs (Array.replicate l.length false)) = true)
  (ps : List (Nat × (Value → World → Prop))) (hs : List Nat) (g : Nat) (hm : P.follows .mixedOrders = true)
  (hn : fs.length + (hs.length + g) = l.length) (hkeep : ∀ x ∈ ps, Keeps x.2)
  (hB : (groupB .any l.toArray (mark fs (Array.replicate l.length false)) hs && pairsB .any l.toArray ((ps.map (·.1)).contains ·) hs && plainsB l.toArray ((ps.map (·.1)).contains ·) hs) = true)
  (h : wpFirstC P l.toArray C fs (fun a => wpS P .any l.toArray w ((ps.map (·.1)).contains ·) (pOf ps) (fun Γ' a' => ∀ w', All w (pOf ps) Γ' w' → wpAnyC P .any l.toArray (Only Q) C g (mark hs (mark fs (Array.replicate l.length false))) a' w') (numbered l.toArray hs) (fun _ => none) a) a) :
  (Code.region id l.toArray true).wpIn (Fence.wide.inRound lv) n P Q a w :=
 Go.wpIn_mono (Q := Only Q) (wpIn_region_any hm (wpAny_inRound (fun i o ho => noDefer_ne hd ho) (fun h => only_lets h) _ _ _ _ (wpAny_G C hC fs hF ps hs g hn hkeep hB h))) (fun e a w h => by obtain ⟨rfl, h⟩ := h; exact h)
end Go.Pb
namespace Go.Proofs
open Go.Shelf
def Tryz.lays125_ren : Go.Shelf.Ren := ⟨fun | 125 => 162 | 128 => 178 | 129 => 179 | n => n, fun | 46 => 193 | 3 => 3 | 51 => 205 | 53 => 175 | 4 => 4 | 5 => 5 | 9 => 9 | n => n, fun | n => n⟩
theorem Tryz.lays125 : Go.Proofs.Lays.n125 Tryz.prog Tryz.lays125_ren := {
 mixed := by kernel_rfl
 f125 := Tryz.func162.trans (congrArg some (by kernel_rfl))
 f128 := Tryz.func178.trans (congrArg some (by kernel_rfl))
 f129 := Tryz.func179.trans (congrArg some (by kernel_rfl))
 t3 := Tryz.underlying3
 a3 := Tryz.isAgg3
 z3 := Tryz.sizeOf3
 v3 := Tryz.zeroValue3
 t4 := Tryz.underlying4
 a4 := Tryz.isAgg4
 z4 := Tryz.sizeOf4
 v4 := Tryz.zeroValue4
 t5 := Tryz.underlying5
 a5 := Tryz.isAgg5
 z5 := Tryz.sizeOf5
 v5 := Tryz.zeroValue5
 t9 := Tryz.underlying9
 a9 := Tryz.isAgg9
 z9 := Tryz.sizeOf9
 v9 := Tryz.zeroValue9
 t46 := Tryz.underlying193
 a46 := Tryz.isAgg193
 z46 := Tryz.sizeOf193
 v46 := Tryz.zeroValue193
 t51 := Tryz.underlying205
 a51 := Tryz.isAgg205
 z51 := Tryz.sizeOf205
 v51 := Tryz.zeroValue205
 t53 := Tryz.underlying175
 a53 := Tryz.isAgg175
 z53 := Tryz.sizeOf175
 v53 := Tryz.zeroValue175 }
theorem Tryz.bits_Len (x : Int) (w : World) (h0 : 0 ≤ x) (h1 : x ≤ 18446744073709551615) :
  Calls Tryz.prog 162 #[.int .u64 x] w fun e w' => e = .returned (.int .i64 (Lib.bitLen x.toNat)) ∧ w' = w := Any.bits_Len Tryz.lays125 x w h0 h1
def Tryz.sortFeet_ren : Go.Shelf.Ren := ⟨fun | 6 => 145 | 15 => 162 | 14 => 161 | 28 => 178 | 29 => 179 | 20 => 170 | 21 => 171 | 22 => 172 | 23 => 173 | 24 => 174 | 25 => 175 | 26 => 176 | 27 => 177 | 46 => 181 | 47 => 182 | 48 => 183 | 49 => 184 | 50 => 185 | 57 => 186 | n => n, fun | 22 => 38 | 24 => 34 | 25 => 192 | 3 => 3 | 39 => 193 | 0 => 0 | 53 => 205 | 55 => 175 | 4 => 4 | 46 => 216 | 45 => 215 | 50 => 184 | 5 => 5 | 9 => 9 | 66 => 223 | 70 => 227 | 76 => 229 | 77 => 154 | n => n, fun | n => n⟩
theorem Tryz.sortFeet : Go.Proofs.SlLaysF0.n6 Tryz.prog Tryz.sortFeet_ren := {
 mixed := by kernel_rfl
 f6 := ⟨Tryz.f145.name, by decide, Tryz.func145.trans (congrArg some (by kernel_rfl))⟩
 f14 := ⟨Tryz.f161.name, by decide, Tryz.func161.trans (congrArg some (by kernel_rfl))⟩
 f15 := Tryz.func162.trans (congrArg some (by kernel_rfl))
 f20 := ⟨Tryz.f170.name, by decide, Tryz.func170.trans (congrArg some (by kernel_rfl))⟩
 f21 := ⟨Tryz.f171.name, by decide, Tryz.func171.trans (congrArg some (by kernel_rfl))⟩
 f22 := ⟨Tryz.f172.name, by decide, Tryz.func172.trans (congrArg some (by kernel_rfl))⟩
 f23 := ⟨Tryz.f173.name, by decide, Tryz.func173.trans (congrArg some (by kernel_rfl))⟩
 f24 := ⟨Tryz.f174.name, by decide, Tryz.func174.trans (congrArg some (by kernel_rfl))⟩
 f25 := ⟨Tryz.f175.name, by decide, Tryz.func175.trans (congrArg some (by kernel_rfl))⟩
 f26 := ⟨Tryz.f176.name, by decide, Tryz.func176.trans (congrArg some (by kernel_rfl))⟩
 f27 := ⟨Tryz.f177.name, by decide, Tryz.func177.trans (congrArg some (by kernel_rfl))⟩
 f28 := Tryz.func178.trans (congrArg some (by kernel_rfl))
 f29 := Tryz.func179.trans (congrArg some (by kernel_rfl))
 f46 := ⟨Tryz.f181.name, by decide, Tryz.func181.trans (congrArg some (by kernel_rfl))⟩
 f47 := Tryz.func182.trans (congrArg some (by kernel_rfl))
 f48 := Tryz.func183.trans (congrArg some (by kernel_rfl))
 f49 := ⟨Tryz.f184.name, by decide, Tryz.func184.trans (congrArg some (by kernel_rfl))⟩
 f50 := ⟨Tryz.f185.name, by decide, Tryz.func185.trans (congrArg some (by kernel_rfl))⟩
 f57 := ⟨Tryz.f186.name, by decide, Tryz.func186.trans (congrArg some (by kernel_rfl))⟩
 t0 := Tryz.underlying0
 a0 := Tryz.isAgg0
 z0 := Tryz.sizeOf0
 v0 := Tryz.zeroValue0
 t3 := Tryz.underlying3
 a3 := Tryz.isAgg3
 z3 := Tryz.sizeOf3
 v3 := Tryz.zeroValue3
 t4 := Tryz.underlying4
 a4 := Tryz.isAgg4
 z4 := Tryz.sizeOf4
 v4 := Tryz.zeroValue4
 t5 := Tryz.underlying5
 a5 := Tryz.isAgg5
 z5 := Tryz.sizeOf5
 v5 := Tryz.zeroValue5
 t9 := Tryz.underlying9
 a9 := Tryz.isAgg9
 z9 := Tryz.sizeOf9
 v9 := Tryz.zeroValue9
 t22 := Tryz.underlying38
 a22 := Tryz.isAgg38
 z22 := Tryz.sizeOf38
 v22 := Tryz.zeroValue38
 t25 := Tryz.underlying192
 a25 := Tryz.isAgg192
 z25 := Tryz.sizeOf192
 v25 := Tryz.zeroValue192
 t39 := Tryz.underlying193
 a39 := Tryz.isAgg193
 z39 := Tryz.sizeOf193
 v39 := Tryz.zeroValue193
 t45 := Tryz.underlying215
 a45 := Tryz.isAgg215
 z45 := Tryz.sizeOf215
 v45 := Tryz.zeroValue215
 t46 := Tryz.underlying216
 a46 := Tryz.isAgg216
 z46 := Tryz.sizeOf216
 v46 := Tryz.zeroValue216
 t50 := Tryz.underlying184
 a50 := Tryz.isAgg184
 z50 := Tryz.sizeOf184
 v50 := Tryz.zeroValue184
 t53 := Tryz.underlying205
 a53 := Tryz.isAgg205
 z53 := Tryz.sizeOf205
 v53 := Tryz.zeroValue205
 t55 := Tryz.underlying175
 a55 := Tryz.isAgg175
 z55 := Tryz.sizeOf175
 v55 := Tryz.zeroValue175
 t66 := Tryz.underlying223
 a66 := Tryz.isAgg223
 z66 := Tryz.sizeOf223
 v66 := Tryz.zeroValue223
 t70 := Tryz.underlying227
 a70 := Tryz.isAgg227
 z70 := Tryz.sizeOf227
 v70 := Tryz.zeroValue227
 t76 := Tryz.underlying229
 a76 := Tryz.isAgg229
 z76 := Tryz.sizeOf229
 v76 := Tryz.zeroValue229
 t77 := Tryz.underlying154
 a77 := Tryz.isAgg154
 z77 := Tryz.sizeOf154
 v77 := Tryz.zeroValue154 }
end Go.Proofs
namespace Go.Pb.Sag
open Go Go.Pb Go.Pb.Ware Go.RowKit
def exRows : List (List Int) := [[1, 100, 102, 100, 102, 50, 51, 10, 200, 210, 1000], [2, 190, 200, 90, 100, 30, 30, 0, 500, 500, 0]]
def exL : List It := [⟨2, 1, 5⟩, ⟨2, 1, 5⟩, ⟨1, 2, 4⟩]
end Go.Pb.Sag