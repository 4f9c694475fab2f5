/- Part of a claim. -/
import Derived.Test.YtodmidchpbcnpaaGreatKSmU
import Derived.Test.YtodmidchpbcnpaaGreatKScU
import Derived.Test.YtodmidchpbcnpaaGreatKLibU
import Derived.Laws.OwnMore
set_option linter.unusedVariables false
set_option linter.unusedSimpArgs false
namespace Go.Pb.Sag
open Go Go.Pb Go.Pb.Ware Go.RowKit

theorem where_mem {g : Nat} : ∀ {l : List Nat} {i : Nat} {z : Int}, z ∈ whereL g i l → ∃ n : Nat, z = ((i + n : Nat) : Int) ∧ l[n]? = some g
 | [], i, z, h => by cases h
 | a :: l, i, z, h => by
  rw [whereL] at h
  split at h
  ·rename_i ha
   rcases List.mem_cons.1 h with e | e
   ·exact ⟨0, by simpa using e, by rw [ha]; rfl⟩
   ·obtain ⟨n, h1, h2⟩ := where_mem e
    exact ⟨n + 1, by rw [h1]; congr 1; omega, by simpa using h2⟩
  ·obtain ⟨n, h1, h2⟩ := where_mem h
   exact ⟨n + 1, by rw [h1]; congr 1; omega, by simpa using h2⟩
theorem where_heads {l : List Nat} {j k : Nat} (hjk : j ≠ k) {x y : Int} (hx : (whereL j 0 l)[0]? = some x) (hy : (whereL k 0 l ++ [(l.length : Int)])[0]? = some y) : x ≠ y := by
 obtain ⟨n, h1, h2⟩ := where_mem (List.mem_of_getElem? hx)
 have hn := (List.getElem?_eq_some_iff.1 h2).1
 rcases List.mem_append.1 (List.mem_of_getElem? hy) with h3 | h3
 ·obtain ⟨m, h4, h5⟩ := where_mem h3
  intro e
  have : n = m := by omega
  subst this
  rw [h2] at h5
  injection h5 with h5
  exact hjk h5
 ·rw [List.mem_singleton] at h3
  omega
def GrpAt (lo TO TI : Nat) (gv : Value) (gs : List (List Int)) (W : World) : Prop := ∃ vs : List Value, W.ownsRow lo TO 1 gv gs.length vs ∧ RowsIn lo TI W vs gs ∧ Apart vs ∧ ∀ (k : Nat) (u : Value), vs[k]? = some u → gs[k]? = some [] → u.ownBlock = none
theorem GrpAt.push {lo TO TI i k n : Nat} (hT : TO ≠ TI) {gs : List (List Int)} {g : List Int} {W w2 w3 : World} {v v' : Value} {vs : List Value} {gb cap : Nat} (hn : gs.length = n) (hg : gs[k]? = some g) (hv : vs[k]? = some v)
  (hheads : ∀ (j : Nat) (g' : List Int) (x y : Int), j ≠ k → gs[j]? = some g' → g'[0]? = some x → (g ++ [(i : Int)])[0]? = some y → x ≠ y)
  (ho : W.ownsRow lo TO 1 (.slice (some ⟨gb, 0, none⟩) n cap) n vs) (hr : RowsIn lo TI W vs gs) (hA : Apart vs) (hE : ∀ (k : Nat) (u : Value), vs[k]? = some u → gs[k]? = some [] → u.ownBlock = none) (hsz : lo ≤ W.heap.size)
  (hb : Below W.heap.size W w2) (hg3 : w2.grownBy w3 v.ownBlock) (ho3 : w3.ownsRow lo TI 1 v' (g.length + 1) (g.map (Value.int .i64) ++ [.int .i64 (i : Int)])) :
  (w3.cell? ⟨gb, k, none⟩ = some v ∧ w3.frozen? ⟨gb, k, none⟩ = false) ∧ GrpAt lo TO TI (.slice (some ⟨gb, 0, none⟩) n cap) (gs.set k (g ++ [(i : Int)])) (w3.setCell ⟨gb, k, none⟩ v') ∧ Below lo W (w3.setCell ⟨gb, k, none⟩ v') := by
 subst hn
 have hk : k < gs.length := (List.getElem?_eq_some_iff.1 hg).1
 have hrow := hr k v g hv hg
 have ho2 := owns_below ho hb
 have hrow2 := owns_below hrow hb
 have hgb : lo ≤ gb := own_ge ho gb rfl
 have a1 : (Value.slice (some ⟨gb, 0, none⟩) gs.length cap).ownBlock = none ∨ (Value.slice (some ⟨gb, 0, none⟩) gs.length cap).ownBlock ≠ v.ownBlock := apart_types ho2 hrow2 hT
 have ho4 : w3.ownsRow lo TO 1 (.slice (some ⟨gb, 0, none⟩) gs.length cap) gs.length vs := ho2.kept hg3 a1
 have hbw : Below lo W w3 := (hb.mono hsz).grown hg3 (by have := hb.size; omega) (own_ge hrow)
 have hcell : w3.cell? ⟨gb, k, none⟩ = some v := by
  have h1 := ho4.cells (g := gb) rfl k v hv
  rw [Go.WideShapes.add_plain, Nat.zero_add] at h1
  exact h1
 have hvl : k < vs.length := (List.getElem?_eq_some_iff.1 hv).1
 have hts : ∀ {u : Value} {n : Nat} {xs : List Value}, w3.ownsRow lo TI 1 u n xs → u.ownBlock = none ∨ u.ownBlock ≠ some gb := fun h => apart_types h ho4 (Ne.symm hT)
 have hrj : ∀ (j : Nat) (u : Value) (g' : List Int), j ≠ k → vs[j]? = some u → gs[j]? = some g' → w3.ownsRow lo TI 1 u g'.length (g'.map (Value.int .i64)) := fun j u g' e hu hg' =>
  (owns_below (hr j u g' hu hg') hb).kept hg3 (hA j k u v e hu hv)
 have hvb : v'.ownBlock ≠ none := by
  obtain ⟨b, c, rfl, _⟩ := own_some ho3 (by omega)
  simp [Value.ownBlock]
 have hkey : ∀ (j : Nat) (u : Value), j ≠ k → vs[j]? = some u → (v'.ownBlock = none ∨ v'.ownBlock ≠ u.ownBlock) ∧ (u.ownBlock = none ∨ u.ownBlock ≠ v'.ownBlock) := fun j u e hu => by
  have hjl : j < gs.length := by have h1 := ho.1; have h2 := (List.getElem?_eq_some_iff.1 hu).1; omega
  have hg' : gs[j]? = some gs[j] := List.getElem?_eq_getElem hjl
  have hj := hrj j u _ e hu hg'
  cases hq : gs[j] with
  | nil =>
   have h0 := hE j u hu (by rw [hg', hq])
   exact ⟨.inr (by rw [h0]; exact hvb), .inl h0⟩
  | cons a l =>
   obtain ⟨y, hy⟩ : ∃ y, (g ++ [(i : Int)])[0]? = some y := ⟨_, List.getElem?_eq_getElem (by simp)⟩
   have hx : (gs[j])[0]? = some a := by rw [hq]; rfl
   have hxy := hheads j gs[j] a y e hg' hx hy
   have h1 : (gs[j].map (Value.int .i64))[0]? = some (.int .i64 a) := by rw [List.getElem?_map, hx]; rfl
   have h2 : (g.map (Value.int .i64) ++ [.int .i64 (i : Int)])[0]? = some (.int .i64 y) := by
    have h3 : ((g ++ [(i : Int)]).map (Value.int .i64))[0]? = some (.int .i64 y) := by rw [List.getElem?_map, hy]; rfl
    simpa using h3
   exact ⟨apart_heads ho3 hj h2 h1 (fun h => hxy (by injection h with _ h; exact h.symm)), apart_heads hj ho3 h1 h2 (fun h => hxy (by injection h))⟩
 refine ⟨⟨hcell, owns_frozen ho4 rfl k⟩, ⟨vs.set k v', ?_, ?_, ?_, ?_⟩, hbw.setCell (p := ⟨gb, k, none⟩) hgb v'⟩
 ·rw [List.length_set]; exact row_set ho4 hk
 ·intro j u g' hu hg'
  by_cases e : j = k
  ·subst e
   rw [List.getElem?_set_self hvl] at hu
   rw [List.getElem?_set_self hk] at hg'
   obtain rfl : v' = u := by simpa using hu
   obtain rfl : g ++ [(i : Int)] = g' := by simpa using hg'
   have h1 := set_own (o := j) (u := v') ho3 (hts ho3)
   simpa using h1
  ·rw [List.getElem?_set_ne (Ne.symm e)] at hu hg'
   have h3 := hrj j u g' e hu hg'
   exact set_own h3 (hts h3)
 ·intro j l u x hne hu hx
  by_cases e : j = k
  ·subst e
   rw [List.getElem?_set_self hvl] at hu
   rw [List.getElem?_set_ne hne] at hx
   obtain rfl : v' = u := by simpa using hu
   exact (hkey l x (Ne.symm hne) hx).1
  ·rw [List.getElem?_set_ne (Ne.symm e)] at hu
   by_cases e2 : l = k
   ·subst e2
    rw [List.getElem?_set_self hvl] at hx
    obtain rfl : v' = x := by simpa using hx
    exact (hkey j u e hu).2
   ·rw [List.getElem?_set_ne (Ne.symm e2)] at hx
    exact hA j l u x hne hu hx
 ·intro j u hu hg'
  by_cases e : j = k
  ·subst e
   rw [List.getElem?_set_self hk] at hg'
   injection hg' with hg'
   simp at hg'
  ·rw [List.getElem?_set_ne (Ne.symm e)] at hu hg'
   exact hE j u hu hg'
theorem GrpAt.new {lo TO TI n B : Nat} {W : World} (h : W.ownsRow lo TO 1 (.slice (some ⟨B, 0, none⟩) n n) n (madeCells (Value.slice none 0 0).cells (n * 1)).toList) : GrpAt lo TO TI (.slice (some ⟨B, 0, none⟩) n n) (groupedL [] n) W := by
 have hnil : ∀ (k : Nat) (u : Value), (madeCells (Value.slice none 0 0).cells (n * 1)).toList[k]? = some u → u = .slice none 0 0 := by
  intro k u hu
  have hk : k < n := by have := (List.getElem?_eq_some_iff.1 hu).1; simpa [madeCells] using this
  rw [Array.getElem?_toList] at hu
  unfold madeCells at hu
  rw [Array.getElem?_map, Array.getElem?_range, if_pos (by omega)] at hu
  have h2 : (#[Value.slice none 0 0] : Array Value)[k % 1]! = u := by injection hu
  rw [Nat.mod_one] at h2
  exact h2.symm
 have hg : ∀ (k : Nat) (g : List Int), (groupedL [] n)[k]? = some g → g = [] := by
  intro k g h
  have hk : k < n := by have := (List.getElem?_eq_some_iff.1 h).1; rwa [grouped_len] at this
  rw [grouped_at hk] at h
  injection h with h
  exact h.symm
 refine ⟨_, by rw [grouped_len]; exact h, ?_, ?_, ?_⟩
 ·intro k u g hu hg'
  rw [hnil k u hu, hg k g hg']
  exact World.ownsRow_nil _ _ _ _
 ·intro j k u v _ hu _
  rw [hnil j u hu]
  exact .inl rfl
 ·intro k u hu _
  rw [hnil k u hu]
  rfl
end Go.Pb.Sag
namespace Go.Pb
open Go Go.RowKit

structure LAt (n : Nat) (w : World) (v : Value) (m : Nat) (cs : List Value) : Prop where
 len : cs.length = m * n
 one : ∀ u ∈ cs, u.oneCell' = true
 at' : (v = .slice none 0 0 ∧ m = 0) ∨ ∃ (a : Addr) (cap : Nat), v = .slice (some a) m cap ∧ m ≤ cap ∧ cap ≤ 9223372036854775807 ∧ ∀ j u, cs[j]? = some u → w.cell? (a.add j) = some u
theorem LAt.below {n m : Nat} {w w' : World} {v : Value} {cs : List Value} (h : LAt n w v m cs) (hb : Below w.heap.size w w') : LAt n w' v m cs :=
 ⟨h.len, h.one, by
  rcases h.at' with h1 | ⟨a, cap, h1, h2, h3, h4⟩
  ·exact .inl h1
  ·exact .inr ⟨a, cap, h1, h2, h3, fun j u hu => bkeep hb (h4 j u hu)⟩⟩
theorem LAt.shape {n m : Nat} {w : World} {v : Value} {cs : List Value} (h : LAt n w v m cs) : ∃ (a : Option Addr) (cap : Nat), v = .slice a m cap ∧ m ≤ cap ∧ cap ≤ 9223372036854775807 ∧ (a = none → m = 0 ∧ cap = 0) := by
 rcases h.at' with ⟨h1, h2⟩ | ⟨a, cap, h1, h2, h3, h4⟩
 ·subst h2; exact ⟨none, 0, h1, Nat.le_refl _, by omega, fun _ => ⟨rfl, rfl⟩⟩
 ·exact ⟨some a, cap, h1, h2, h3, fun e => by cases e⟩
theorem LAt.cells {n m cap : Nat} {w : World} {a : Addr} {cs : List Value} (h : LAt n w (.slice (some a) m cap) m cs) : ∀ j u, cs[j]? = some u → w.cell? (a.add j) = some u := by
 rcases h.at' with ⟨h1, _⟩ | ⟨a', cap', h1, _, _, h4⟩
 ·cases h1
 ·injection h1 with h1 _ _; injection h1 with h1; subst h1; exact h4
theorem LAt.nil {n cap : Nat} {w : World} {cs : List Value} {m : Nat} (h : LAt n w (.slice none m cap) m cs) : m = 0 ∧ cap = 0 ∧ cs = [] := by
 rcases h.at' with ⟨h1, h2⟩ | ⟨a', cap', h1, _, _, h4⟩
 ·injection h1 with _ _ h3; subst h2; exact ⟨rfl, h3, List.length_eq_zero_iff.1 (by rw [h.len]; simp)⟩
 ·injection h1 with h1 _ _; cases h1
theorem LAt.head {n m cap k : Nat} {w : World} {a : Addr} {cs : List Value} (h : LAt n w (.slice (some a) m cap) m cs) (hk : k ≤ m) : LAt n w (.slice (some a) k cap) k (cs.take (k * n)) := by
 obtain ⟨_, cap', e, h2, h3, _⟩ := h.shape
 injection e with _ _ e; subst e
 refine ⟨by rw [List.length_take, h.len]; exact Nat.min_eq_left (Nat.mul_le_mul_right n hk), fun u hu => h.one u (List.mem_of_mem_take hu), .inr ⟨a, cap, rfl, by omega, h3, fun j u hu => ?_⟩⟩
 rw [List.getElem?_take] at hu
 split at hu
 ·exact h.cells j u hu
 ·cases hu
theorem LAt.tail {n m cap k : Nat} {w : World} {a q : Addr} {cs : List Value} (h : LAt n w (.slice (some a) m cap) m cs) (hk : k ≤ m) (hq : k < m → q = a.add (k * n)) : LAt n w (.slice (some q) (m - k) (cap - k)) (m - k) (cs.drop (k * n)) := by
 obtain ⟨_, cap', e, h2, h3, _⟩ := h.shape
 injection e with _ _ e; subst e
 refine ⟨by rw [List.length_drop, h.len, Nat.sub_mul], fun u hu => h.one u (List.mem_of_mem_drop hu), .inr ⟨q, cap - k, rfl, by omega, by omega, fun j u hu => ?_⟩⟩
 have hkm : k < m := by
  rcases Nat.lt_or_ge k m with h5 | h5
  ·exact h5
  ·have h6 := (List.getElem?_eq_some_iff.1 hu).1
   rw [List.length_drop, h.len] at h6
   have := Nat.mul_le_mul_right n h5
   omega
 rw [hq hkm, Go.Deep.add_add]
 rw [List.getElem?_drop] at hu
 exact h.cells _ u hu
theorem drop_take_erase {n : Nat} {α : Type} {f : α → List Value} (hf : ∀ x, (f x).length = n) : ∀ {l : List α} {k : Nat}, (l.flatMap f).take (k * n) = (l.take k).flatMap f ∧ (l.flatMap f).drop (k * n) = (l.drop k).flatMap f
 | [], k => by simp
 | x :: l, 0 => by simp
 | x :: l, k + 1 => by
  obtain ⟨h1, h2⟩ := drop_take_erase hf (l := l) (k := k)
  rw [List.flatMap_cons, List.take_succ_cons, List.drop_succ_cons, List.flatMap_cons, Nat.succ_mul]
  have e : (f x).length ≤ k * n + n := by rw [hf]; omega
  refine ⟨?_, ?_⟩
  ·rw [List.take_append, List.take_of_length_le e, hf, show k * n + n - n = k * n by omega, h1]
  ·rw [List.drop_append, List.drop_of_length_le e, hf, show k * n + n - n = k * n by omega, h2, List.nil_append]
theorem flat_erase {n : Nat} {α : Type} {f : α → List Value} (hf : ∀ x, (f x).length = n) (l : List α) (k : Nat) : (l.flatMap f).take (k * n) ++ (l.flatMap f).drop ((k + 1) * n) = (l.eraseIdx k).flatMap f := by
 rw [(drop_take_erase hf).1, (drop_take_erase hf).2, ← List.flatMap_append, ← List.eraseIdx_eq_take_drop_succ]
end Go.Pb
namespace Go.Pb.Sag
open Go Go.Pb Go.Pb.Ware Go.RowKit

end Go.Pb.Sag
namespace Go.Pb.Sag
open Go Go.Pb Go.Pb.Ware Go.RowKit

def FillG (w1 : World) (g T n m : Nat) (cs : List Value) (W : World) : Prop := OutOnly w1 g 0 W ∧ ∃ v, (W.cell? ⟨g, 0, none⟩ = some v ∧ W.frozen? ⟨g, 0, none⟩ = false) ∧ W.ownsRow w1.heap.size T n v m cs
theorem FillG.slot {w1 Wb w2 w3 : World} {g T n m : Nat} {xs : List Value} {v c0 : Value} (hlt : g < w1.heap.size) (hc : w1.cell? ⟨g, 0, none⟩ = some c0) (hf : w1.frozen? ⟨g, 0, none⟩ = false) (hO : OutOnly w1 g 0 Wb) (c1 : Wb.cell? ⟨g, 0, none⟩ = some v) (hb : Below Wb.heap.size Wb w2)
  (hown2 : w2.ownsRow w1.heap.size T n v m xs) (hg3 : w2.grownBy w3 v.ownBlock) : w3.cell? ⟨g, 0, none⟩ = some v ∧ w3.frozen? ⟨g, 0, none⟩ = false := by
 have hr : ∀ r, v.ownBlock = some r → w1.heap.size ≤ r := fun r e => (World.ownsRow.lt hown2 r e).1
 exact ⟨grown_kept hg3 (bkeep hb c1) (fun e => by have := hr g e.symm; omega), ((hO.next hlt hb).grown hg3 hlt hr).frz 0 c0 hc hf⟩
theorem FillG.push {w1 Wb w2 w3 : World} {g T n m : Nat} {xs ys : List Value} {v v' c0 : Value} (hlt : g < w1.heap.size) (hc : w1.cell? ⟨g, 0, none⟩ = some c0) (hf : w1.frozen? ⟨g, 0, none⟩ = false) (hO : OutOnly w1 g 0 Wb) (c1 : Wb.cell? ⟨g, 0, none⟩ = some v) (hb : Below Wb.heap.size Wb w2)
  (hown2 : w2.ownsRow w1.heap.size T n v m xs) (hg3 : w2.grownBy w3 v.ownBlock) (ho3 : w3.ownsRow w1.heap.size T n v' (m + 1) ys) :
  FillG w1 g T n (m + 1) ys (w3.setCell ⟨g, 0, none⟩ v') ∧ KeepsOthers Wb (w3.setCell ⟨g, 0, none⟩ v') ∧ Wb.heap.size ≤ (w3.setCell ⟨g, 0, none⟩ v').heap.size := by
 have hr : ∀ r, v.ownBlock = some r → w1.heap.size ≤ r := fun r e => (World.ownsRow.lt hown2 r e).1
 have hO4 := ((hO.next hlt hb).grown hg3 hlt hr).set v'
 have c3 : w3.cell? ⟨g, 0, none⟩ = some v := grown_kept hg3 (bkeep hb c1) (fun e => by have := hr g e.symm; omega)
 refine ⟨⟨hO4, v', ⟨setc_same c3, hO4.frz 0 c0 hc hf⟩, ?_⟩, ((keeps_of_below hb).trans (KeepsOthers.of_grownBy hg3 (own_cells hown2))).trans (KeepsOthers.setCell _ _ _), ?_⟩
 ·exact ho3.kept (grown_setc w3 ⟨g, 0, none⟩ v') (.inr fun e => by have := (World.ownsRow.lt ho3 g e).1; omega)
 ·have := hb.size; have := hg3.size; simp; omega
end Go.Pb.Sag
namespace Go.Pb

open Go Go.RowKit
theorem fresh_append_nums {P : Program} {o : Oper} {a : Act} {w : World} (s x : Operand) (t : TypeId) (ho : o.op = .call { callee := .builtin .append, args := #[s, x], argTypes := #[t, t] })
  (base : Nat) (e : TypeId) (i : TypeInfo) (z : Value) (bytes : Nat) (ht : P.underlying t = some (.slice e)) (hi : P.info? e = some i) (hz : i.zero = some z)
  (hsize : i.size = 1) (hby : i.bytes = bytes) (hzs : z.cells.size = 1) (v : Value) (hs : a.eval s = v) (hv : NewEmpty base e v w)
  (xv : Value) (zs : List Int) (hx : a.eval x = xv) (hn : NumsAt w xv zs) (h63 : zs.length ≤ maxLen) (hbytes : zs.length * bytes ≤ 140737488355328) (hbase : base ≤ w.heap.size) :
  freshAt P o a (fun v w => w.ownsRow base e 1 v zs.length (zs.map (Value.int .i64))) w := by
 rcases hn with ⟨rfl, rfl⟩ | ⟨ad, c, rfl, h2, h3, h4⟩
 ·obtain ⟨B, hB, rfl, hg⟩ := hv
  have hown : w.ownsRow base e 1 (.slice (some ⟨B, 0, none⟩) 0 0) 0 [] := ⟨by simp, .inr ⟨B, 0, #[], rfl, hB, hg, Nat.le_refl _, by simp [maxLen], by simp, by simp⟩⟩
  have hr := run_append_owned_none (P := P) (w := w) base t o.type e i 1 ht hi _ 0 [] hown
  unfold freshAt execOp
  simp only [ho, resolve, invoke, builtin, Sem.run_bind, Sem.run_pure, Result.andThen_ok, List.map_toArray, List.map_cons, List.map_nil, hs, hx, hr]
  exact ⟨Below.refl _ _, hown⟩
 ·exact fresh_append s x t ho base e i z 1 bytes ht hi hz hsize hby hzs (by omega) v hs hv ad zs.length c (zs.map (Value.int .i64)) hx (by rw [List.length_map, Nat.mul_one])
   (fun j u hu => by
    rw [List.getElem?_map] at hu
    cases hz : zs[j]? with
    | none => rw [hz] at hu; cases hu
    | some y => rw [hz] at hu; injection hu with hu; rw [← hu]; exact (h4 j y hz).1)
   (fun u hu => by obtain ⟨y, _, rfl⟩ := List.mem_map.1 hu; rfl) h63 hbytes hbase
end Go.Pb
namespace Go.Pb.Sag
open Go Go.Pb Go.Pb.Ware Go.RowKit

theorem part_zero {s : Bx} {fs : List Ft} {most : Nat} {of : List Nat} {used : Nat} : partF s fs most 0 of used = if fitG s fs (groupedL of used) = true then some (of, used) else none := by rw [partF]
theorem part_here {s : Bx} {fs : List Ft} {most d : Nat} {of : List Nat} {used g : Nat} {r : List Nat × Nat} (hg : g < min (used + 1) most) (h0 : ∀ j, j < g → partF s fs most d (of ++ [j]) (max used (j + 1)) = none) (h : partF s fs most d (of ++ [g]) (max used (g + 1)) = some r) :
  partF s fs most (d + 1) of used = some r := by rw [partF]; exact find_here hg h0 h
theorem part_no {s : Bx} {fs : List Ft} {most d : Nat} {of : List Nat} {used : Nat} (h0 : ∀ j, j < min (used + 1) most → partF s fs most d (of ++ [j]) (max used (j + 1)) = none) : partF s fs most (d + 1) of used = none := by rw [partF]; exact find_no h0
theorem fit_not {s : Bx} {fs : List Ft} {gs : List (List Int)} {k : Nat} {g : List Int} (hg : gs[k]? = some g) (h : fitsB s (chosenL fs g) = false) : fitG s fs gs = false := by
 unfold fitG
 rw [List.all_eq_false]
 exact ⟨g, List.mem_of_getElem? hg, by rw [h]; simp⟩
theorem fit_snoc {s : Bx} {fs : List Ft} {gs : List (List Int)} {k : Nat} {g : List Int} (hg : gs[k]? = some g) (h0 : fitG s fs (gs.take k) = true) (h : fitsB s (chosenL fs g) = true) : fitG s fs (gs.take (k + 1)) = true := by
 unfold fitG at *
 obtain ⟨hk, he⟩ := List.getElem?_eq_some_iff.1 hg
 rw [List.take_succ_eq_append_getElem hk, List.all_append, h0, he, Bool.true_and]
 simp [h]
end Go.Pb.Sag
namespace Go.Pb.Sag
open Go Go.Pb Go.Pb.Ware Go.RowKit
def exRows : List (List Int) := [[1, 100, 102, 100, 102, 50, 51, 10, 200, 210, 1000], [2, 190, 200, 90, 100, 30, 30, 0, 500, 500, 0]]
def exL : List It := [⟨2, 1, 5⟩, ⟨2, 1, 5⟩, ⟨1, 2, 4⟩]
end Go.Pb.Sag
namespace Go.Pb.Sag
open Go Go.Pb Go.Pb.Ware Go.RowKit

def accB (s : Bx) (fs : List Ft) : Int → List Int → List (List Int) → Bool
 | _, seen, [] => decide (seen.length = fs.length)
 | first, seen, g :: gs => match g[0]? with
  | none => false
  | some x => idxB (fs.length : Int) (-1) g && (decide (first < x) && (g.all (fun z => !seen.contains z) && (fitsB s (chosenL fs g) && accB s fs x (seen ++ g) gs)))
theorem idx_iff {n : Int} : ∀ {zs : List Int} {last : Int}, idxB n last zs = true ↔ zs.Pairwise (· < ·) ∧ ∀ z ∈ zs, last < z ∧ z < n
 | [], last => by simp [idxB]
 | z :: zs, last => by
  rw [idxB, Bool.and_eq_true, btw_iff, idx_iff (zs := zs) (last := z), List.pairwise_cons]
  constructor
  ·rintro ⟨h1, h2, h3⟩
   refine ⟨⟨fun y hy => (h3 y hy).1, h2⟩, fun y hy => ?_⟩
   rcases List.mem_cons.1 hy with e | e
   ·omega
   ·have := h3 y e; omega
  ·rintro ⟨⟨h1, h2⟩, h3⟩
   have h4 := h3 z (by simp)
   exact ⟨by omega, h2, fun y hy => ⟨h1 y hy, (h3 y (by simp [hy])).2⟩⟩
end Go.Pb.Sag