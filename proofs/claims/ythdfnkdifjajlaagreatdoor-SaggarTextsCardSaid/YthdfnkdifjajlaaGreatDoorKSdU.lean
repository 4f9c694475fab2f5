/- Part of a claim. -/
import Derived.Test.YthdfnkdifjajlaaGreatDoorKLibU
import Derived.OrdersIn
import Derived.RangeFuncCalls
import Derived.RangeFuncLeaves
import Derived.RangeFuncNested
import Derived.Deep.LoopGhost
import Derived.Shelf.SlSortCmp.SmallK
import Derived.Shelf.Strings.Builder1
import Derived.Shelf.Small.Bits
import Derived.Shelf.Strings.BuilderF
import Derived.Shelf.Strings.BuilderK
import Derived.Shelf.Strconv.Itoa0
import Derived.Shelf.Strconv.Itoa1
import Derived.Shelf.LaysM
import Derived.Shelf.Strconv.Itoa2
import Derived.Shelf.Strconv.Itoa3
import Derived.Shelf.Strings.Search1
import Derived.Shelf.Strings.Search2
import Derived.Shelf.Strings.Search3
import Derived.Shelf.Strings.Count
import Derived.Shelf.Strings.Prefix
import Derived.Shelf.Strings.Split
import Derived.Shelf.Strings.SplitShaped
import Derived.Shelf.Strings.FieldsFuncAny
import Derived.Test.YthdfnkdifjajlaaGreatDoorProg
set_option linter.unusedVariables false
set_option linter.unusedSimpArgs false
namespace Go.Pb.Sag
open Go Go.Pb Go.Pb.Ware Go.RowKit

def ways (f : Ft) : List Bool := if f.wide = f.deep then [false] else [false,true]
def okAt (s : Bx) (f : Ft) (p : St) : Bool := decide ((p.x : Int) + (sideV f p.turned).1 ≤ s.wide) && decide ((p.y : Int) + (sideV f p.turned).2 ≤ s.deep)
def cellL (s : Bx) (f : Ft) (y x k : Nat) : List St := (((ways f).take k).map fun t => (⟨y,x,t⟩ : St)).filter (okAt s f)
def rowL (s : Bx) (f : Ft) (y : Nat) : Nat → List St
 | 0 => []
 | m + 1 => rowL s f y m ++ cellL s f y m (ways f).length
def standsN (s : Bx) (f : Ft) : Nat → List St
 | 0 => []
 | n + 1 => standsN s f n ++ rowL s f n s.wide.toNat
def standsL (s : Bx) (f : Ft) : List St := standsN s f s.deep.toNat
def encS (p : St) : Array Value := #[.agg #[.int .i64 (p.y : Int), .int .i64 (p.x : Int), .bool p.turned]]
theorem ways_len (f : Ft) : 1 ≤ (ways f).length ∧ (ways f).length ≤ 2 := by unfold ways;split <;> simp
theorem cellL_yes {s : Bx} {f : Ft} {y x k : Nat} {t : Bool} (ht : (ways f)[k]? = some t) (h : okAt s f ⟨y,x,t⟩ = true) : cellL s f y x (k + 1) = cellL s f y x k ++ [⟨y,x,t⟩] := by
 obtain ⟨hk,rfl⟩ := List.getElem?_eq_some_iff.1 ht
 unfold cellL
 rw [List.take_succ_eq_append_getElem hk,List.map_append,List.filter_append]
 simp [h]
theorem cellL_no {s : Bx} {f : Ft} {y x k : Nat} {t : Bool} (ht : (ways f)[k]? = some t) (h : okAt s f ⟨y,x,t⟩ = false) : cellL s f y x (k + 1) = cellL s f y x k := by
 obtain ⟨hk,rfl⟩ := List.getElem?_eq_some_iff.1 ht
 unfold cellL
 rw [List.take_succ_eq_append_getElem hk,List.map_append,List.filter_append]
 simp [h]
theorem row_part (s : Bx) (f : Ft) (y : Nat) : ∀ {m n : Nat},m ≤ n → rowL s f y m <+: rowL s f y n
 | m,0,h => by rw [show m = 0 by omega];exact List.prefix_rfl
 | m,n + 1,h => by
  rcases Nat.lt_or_ge m (n + 1) with h2 | h2
  ·exact (row_part s f y (m := m) (n := n) (by omega)).trans (List.prefix_append _ _)
  ·rw [show m = n + 1 by omega];exact List.prefix_rfl
theorem stands_part (s : Bx) (f : Ft) : ∀ {m n : Nat},m ≤ n → standsN s f m <+: standsN s f n
 | m,0,h => by rw [show m = 0 by omega];exact List.prefix_rfl
 | m,n + 1,h => by
  rcases Nat.lt_or_ge m (n + 1) with h2 | h2
  ·exact (stands_part s f (m := m) (n := n) (by omega)).trans (List.prefix_append _ _)
  ·rw [show m = n + 1 by omega];exact List.prefix_rfl
theorem cell_part (s : Bx) (f : Ft) (y x k : Nat) : cellL s f y x k <+: cellL s f y x (ways f).length := by
 unfold cellL
 rw [List.take_length]
 exact ((List.take_prefix k (ways f)).map _).filter _
theorem pre_stands {s : Bx} {f : Ft} {y x k : Nat} (hy : y < s.deep.toNat) (hx : x < s.wide.toNat) : standsN s f y ++ rowL s f y x ++ cellL s f y x k <+: standsL s f := by
 have h1 : standsN s f y ++ rowL s f y x ++ cellL s f y x k <+: standsN s f y ++ rowL s f y (x + 1) := by
  rw [List.append_assoc,rowL]
  exact (List.prefix_append_right_inj _).2 ((List.prefix_append_right_inj _).2 (cell_part s f y x k))
 have h2 : standsN s f y ++ rowL s f y (x + 1) <+: standsN s f (y + 1) := by
  rw [standsN];exact (List.prefix_append_right_inj _).2 (row_part s f y (by omega))
 exact h1.trans (h2.trans (stands_part s f (by omega)))
def KeepSeg (lo hi : Nat) (W W' : World) : Prop := W.heap.size ≤ W'.heap.size ∧ ∀ k,lo ≤ k → k < hi → W'.heap[k]? = W.heap[k]?
theorem KeepSeg.refl {lo hi : Nat} {W : World} : KeepSeg lo hi W W := ⟨Nat.le_refl _,fun _ _ _ => rfl⟩
theorem KeepSeg.trans {lo hi : Nat} {A B C : World} (h : KeepSeg lo hi A B) (k : KeepSeg lo hi B C) : KeepSeg lo hi A C := ⟨Nat.le_trans h.1 k.1,fun i h1 h2 => (k.2 i h1 h2).trans (h.2 i h1 h2)⟩
theorem KeepSeg.of_below {lo hi : Nat} {W W' : World} (h : Below hi W W') : KeepSeg lo hi W W' := ⟨h.size,fun i _ h2 => h.block i h2⟩
theorem keepSeg_b {lo hi : Nat} {w : World} (hn : hi ≤ w.heap.size) (W : World) (l : Nat) (o o' : Obj) (hl : w.heap.size ≤ l) (h : W.heap[l]? = some o) (h1 : o.isCells = false) (h2 : o.isWalk = false) : KeepSeg lo hi W (W.putObj l o') :=
 KeepSeg.of_below (belowK_b hn W l o o' hl h h1 h2)
theorem KeepSeg.cell {lo hi : Nat} {W W' : World} (h : KeepSeg lo hi W W') {k o : Nat} {v : Value} (h1 : lo ≤ k) (h2 : k < hi) (hc : W.cell? ⟨k,o,none⟩ = some v) : W'.cell? ⟨k,o,none⟩ = some v := by
 rw [World.cell?_of_block (w := W) (h.2 k h1 h2)];exact hc
def StandsIn (lo hi : Nat) (s : Bx) (f : Ft) (lb : Array Value) (W : World) : Prop := ∃ p q r b : Nat,(lo ≤ p ∧ p < hi) ∧ (lo ≤ q ∧ q < hi) ∧ (lo ≤ r ∧ r < hi) ∧ (lo ≤ b ∧ b < hi) ∧
 lb = #[.pointer (some ⟨p,0,none⟩), .pointer (some ⟨q,0,none⟩), .pointer (some ⟨r,0,none⟩)] ∧
 W.cell? ⟨p,1,none⟩ = some (.int .i64 s.wide) ∧ W.cell? ⟨p,2,none⟩ = some (.int .i64 s.deep) ∧ W.cell? ⟨q,0,none⟩ = some (.slice (some ⟨b,0,none⟩) (ways f).length 2) ∧
 (W.cell? ⟨b,0,none⟩ = some (.bool false) ∧ W.cell? ⟨b,1,none⟩ = some (.bool true)) ∧
 W.cell? ⟨r,0,none⟩ = some (.int .i64 f.wide) ∧ W.cell? ⟨r,1,none⟩ = some (.int .i64 f.deep) ∧ W.cell? ⟨r,2,none⟩ = some (.int .i64 f.high) ∧ W.cell? ⟨r,3,none⟩ = some (.int .i64 f.weight)
theorem StandsIn.keep {lo hi : Nat} {s : Bx} {f : Ft} {lb : Array Value} {W W' : World} (h : StandsIn lo hi s f lb W) (hk : KeepSeg lo hi W W') : StandsIn lo hi s f lb W' := by
 obtain ⟨p,q,r,b,hp,hq,hr,hb,e,c1,c2,c3,⟨c4,c5⟩,c6,c7,c8,c9⟩ := h
 exact ⟨p,q,r,b,hp,hq,hr,hb,e,hk.cell hp.1 hp.2 c1,hk.cell hp.1 hp.2 c2,hk.cell hq.1 hq.2 c3,⟨hk.cell hb.1 hb.2 c4,hk.cell hb.1 hb.2 c5⟩,hk.cell hr.1 hr.2 c6,hk.cell hr.1 hr.2 c7,hk.cell hr.1 hr.2 c8,hk.cell hr.1 hr.2 c9⟩
end Go.Pb.Sag
namespace Go.Pb
open Go Go.RowKit
theorem CellsAt.store1 {W : World} {B : Nat} {a a' : Value} (h : CellsAt W B [a]) : CellsAt (W.setCell ⟨B,0,none⟩ a') B [a'] := by
 have h0 := h 0 a rfl
 intro o v hv
 match o,hv with
 | 0,hv => injection hv with hv;subst hv;exact ⟨by simp [go_sem,h0.1],by simp [go_sem,h0.2]⟩
 | o + 1,hv => simp at hv
end Go.Pb
namespace Go.Pb.Sag
open Go Go.Pb Go.Pb.Ware Go.RowKit
def highB (s : Bx) (f : Ft) : Bool := decide (s.high < f.high)
def noStand (s : Bx) (f : Ft) : Bool := (standsL s f).isEmpty
def troubleB (s : Bx) (fs : List Ft) (kind : Int) : Bool :=
 if kind = 1 then fs.any (highB s) else if kind = 2 then fs.any (noStand s) else if kind = 3 then decide (s.bears < weightL fs) else if kind = 4 then decide (s.wide * s.deep < areaL fs) else false
def plainB (s : Bx) (fs : List Ft) : Bool := troubleB s fs 1 || (troubleB s fs 2 || (troubleB s fs 3 || troubleB s fs 4))
theorem any_no {α : Type} {p : α → Bool} {l : List α} {k : Nat} (hk : k < l.length) (h : (l.take k).any p = false) (h2 : p l[k] = false) : (l.take (k + 1)).any p = false := by
 rw [List.take_succ_eq_append_getElem hk,List.any_append,h];simp [h2]
theorem any_yes {α : Type} {p : α → Bool} {l : List α} {k : Nat} (hk : k < l.length) (h2 : p l[k] = true) : l.any p = true := List.any_eq_true.2 ⟨_,List.getElem_mem hk,h2⟩
theorem plain_no {s : Bx} {fs : List Ft} (h : ∀ j : Int,1 ≤ j → j < 5 → troubleB s fs j = false) : plainB s fs = false := by
 unfold plainB;rw [h 1 (by omega) (by omega),h 2 (by omega) (by omega),h 3 (by omega) (by omega),h 4 (by omega) (by omega)];rfl
theorem plain_yes {s : Bx} {fs : List Ft} {j : Int} (h0 : 1 ≤ j) (h1 : j < 5) (h : troubleB s fs j = true) : plainB s fs = true := by
 unfold plainB
 rcases (show j = 1 ∨ j = 2 ∨ j = 3 ∨ j = 4 by omega) with rfl | rfl | rfl | rfl <;> rw [h] <;> simp
end Go.Pb.Sag
namespace Go.Pb.Sag
open Go Go.Pb Go.Pb.Ware Go.RowKit

structure Sq where
 y : Int
 x : Int
 turned : Bool
def cellsQ (q : Sq) : List Value := [.int .i64 q.y, .int .i64 q.x, .bool q.turned]
def StAt (w : World) (v : Value) (qs : List Sq) : Prop :=
 (v = .slice none 0 0 ∧ qs = []) ∨ ∃ (a : Addr) (cap : Nat),v = .slice (some a) qs.length cap ∧ qs.length ≤ cap ∧ cap ≤ 9223372036854775807 ∧
  ∀ k q,qs[k]? = some q → ∀ j u,(cellsQ q)[j]? = some u → w.cell? (a.add (k * 3 + j)) = some u
theorem StAt.below {w w' : World} {v : Value} {qs : List Sq} (h : StAt w v qs) (hb : Below w.heap.size w w') : StAt w' v qs := by
 rcases h with h | ⟨a,cap,h1,h2,h3,h4⟩
 ·exact .inl h
 ·exact .inr ⟨a,cap,h1,h2,h3,fun k q hq j u hu => bkeep hb (h4 k q hq j u hu)⟩
theorem StAt.shape {w : World} {v : Value} {qs : List Sq} (h : StAt w v qs) : ∃ (a : Option Addr) (cap : Nat),v = .slice a qs.length cap ∧ qs.length ≤ cap ∧ cap ≤ 9223372036854775807 := by
 rcases h with ⟨h1,h2⟩ | ⟨a,cap,h1,h2,h3,_⟩
 ·subst h2;exact ⟨none,0,h1,by simp,by omega⟩
 ·exact ⟨_,cap,h1,h2,h3⟩
theorem StAt.row {w : World} {a : Option Addr} {cap : Nat} {qs : List Sq} (h : StAt w (.slice a qs.length cap) qs) {k : Nat} (hk : k < qs.length) :
  ∃ a',a = some a' ∧ w.cell? (a'.add (k * 3)) = some (.int .i64 qs[k].y) ∧ w.cell? ⟨(a'.add (k * 3)).block,(a'.add (k * 3)).off + 1,none⟩ = some (.int .i64 qs[k].x) ∧ w.cell? ⟨(a'.add (k * 3)).block,(a'.add (k * 3)).off + 2,none⟩ = some (.bool qs[k].turned) := by
 rcases h with ⟨h1,h2⟩ | ⟨a',cap',h1,h2,h3,h4⟩
 ·subst h2;simp at hk
 ·injection h1 with h1 _ _
  have h5 := h4 k _ (List.getElem?_eq_getElem hk)
  have e : ∀ (p : Addr) (j : Nat),j ≠ 0 → p.add j = ⟨p.block,p.off + j,none⟩ := fun p j hj => by unfold Addr.add;rw [if_neg hj]
  refine ⟨a',h1,h5 0 _ rfl, ?_, ?_⟩
  ·have := h5 1 _ rfl;rw [← Go.Deep.add_add,e _ 1 (by decide)] at this;exact this
  ·have := h5 2 _ rfl;rw [← Go.Deep.add_add,e _ 2 (by decide)] at this;exact this
theorem cellL_ok {s : Bx} {f : Ft} {y x k : Nat} {p : St} (h : p ∈ cellL s f y x k) : okAt s f p = true := (List.mem_filter.1 h).2
theorem rowL_ok {s : Bx} {f : Ft} {y : Nat} {p : St} : ∀ {m : Nat},p ∈ rowL s f y m → okAt s f p = true
 | 0,h => by cases h
 | m + 1,h => by
  rcases List.mem_append.1 h with h | h
  ·exact rowL_ok h
  ·exact cellL_ok h
theorem standsN_ok {s : Bx} {f : Ft} {p : St} : ∀ {n : Nat},p ∈ standsN s f n → okAt s f p = true
 | 0,h => by cases h
 | n + 1,h => by
  rcases List.mem_append.1 h with h | h
  ·exact standsN_ok h
  ·exact rowL_ok h
theorem stands_ok {s : Bx} {f : Ft} {p : St} (hX : boxOk s = true) (hF : FtOk f) (h : p ∈ standsL s f) : (0 ≤ (sideV f p.turned).1 ∧ (p.x : Int) + (sideV f p.turned).1 ≤ 6) ∧ (0 ≤ (sideV f p.turned).2 ∧ (p.y : Int) + (sideV f p.turned).2 ≤ 6) := by
 have h1 := standsN_ok h
 have h2 := boxOk_iff.1 hX
 unfold FtOk at hF
 unfold okAt at h1
 rw [Bool.and_eq_true,decide_eq_true_eq,decide_eq_true_eq] at h1
 have h3 : (1 ≤ (sideV f p.turned).1) ∧ 1 ≤ (sideV f p.turned).2 := by unfold sideV;split <;> dsimp only <;> omega
 omega
theorem mask_lt {f : Ft} {m n : Nat} {t : Bool} (h1 : 0 ≤ (sideV f t).1 ∧ (n : Int) + (sideV f t).1 ≤ 6) (h2 : 0 ≤ (sideV f t).2 ∧ (m : Int) + (sideV f t).2 ≤ 6) : maskOf f ⟨m,n,t⟩ < 2 ^ 36 := by
 unfold maskOf;exact box_lt (by dsimp only;omega) (by dsimp only;omega)
end Go.Pb.Sag
namespace Go.Pb.Sag
open Go Go.Pb Go.Pb.Ware Go.RowKit
end Go.Pb.Sag
namespace Go.Pb.Sag
open Go Go.Pb Go.Pb.Ware Go.RowKit

def chosenL (fs : List Ft) (zs : List Int) : List Ft := zs.map fun z => fs.getD z.toNat zFt
theorem chosen_ok {fs : List Ft} {zs : List Int} (h : ∀ f ∈ fs,FtOk f) (hz : ∀ z ∈ zs,0 ≤ z ∧ z < (fs.length : Int)) : ∀ f ∈ chosenL fs zs,FtOk f := by
 intro f hf
 obtain ⟨z,hz1,rfl⟩ := List.mem_map.1 hf
 have h2 := hz z hz1
 have h3 : z.toNat < fs.length := by omega
 rw [List.getD_eq_getElem?_getD,List.getElem?_eq_getElem h3]
 exact h _ (List.getElem_mem h3)
theorem chosen_snoc {fs : List Ft} {zs : List Int} {k m : Nat} {f : Ft} (hk : k < zs.length) (hm : zs[k] = (m : Int)) (hf : fs[m]? = some f) : (chosenL fs (zs.take k)).flatMap cellsF ++ cellsF f = (chosenL fs (zs.take (k + 1))).flatMap cellsF := by
 unfold chosenL
 rw [snocF,List.take_succ_eq_append_getElem hk,List.map_append,List.map_singleton,hm,Int.toNat_natCast,List.getD_eq_getElem?_getD,hf];rfl
def NewFeet (T : TypeId) (fs : List Ft) (W : World) (e : Ending) (w' : World) : Prop := ∃ v,e = .returned v ∧ Below W.heap.size W w' ∧ w'.ownsRow W.heap.size T 4 v fs.length (fs.flatMap cellsF)
end Go.Pb.Sag
namespace Go.Pb.Sag
open Go Go.Pb Go.Pb.Ware Go.RowKit

abbrev Sp := St × Nat
def spotsL (s : Bx) (f : Ft) : List Sp := (standsL s f).map fun p => (p,maskOf f p)
def packsF : List (List Sp) → Nat → List (List St)
 | [],_ => [[]]
 | l :: ls,used => l.flatMap fun a => if (used &&& a.2 != 0) = true then [] else (packsF ls (used ||| a.2)).map (a.1 :: ·)
def allPacks (s : Bx) (fs : List Ft) : List (List St) := packsF (fs.map (spotsL s)) 0
def shownL (s : Bx) (fs : List Ft) : List (List St) := if plainB s fs = true then [] else allPacks s fs
def lev (sp : List (List Sp)) (p : List St) (nx tk : Nat → Nat) (j : Nat) : List (List St) :=
 ((sp.getD j []).drop (nx j)).flatMap fun a => if (tk j &&& a.2 != 0) = true then [] else (packsF (sp.drop (j + 1)) (tk j ||| a.2)).map fun q => p.take j ++ a.1 :: q
def levs (sp : List (List Sp)) (p : List St) (nx tk : Nat → Nat) : Nat → List (List St)
 | 0 => []
 | j + 1 => lev sp p nx tk j ++ levs sp p nx tk j
def upd1 (g : Nat → Nat) (i v : Nat) : Nat → Nat := fun k => if k = i then v else g k
theorem upd1_at (g : Nat → Nat) (i v : Nat) : upd1 g i v i = v := by simp [upd1]
theorem upd1_ne (g : Nat → Nat) {i k : Nat} (v : Nat) (h : k ≠ i) : upd1 g i v k = g k := by simp [upd1,h]
theorem lev_congr {sp : List (List Sp)} {p p' : List St} {nx nx' tk tk' : Nat → Nat} {j : Nat} (h1 : nx j = nx' j) (h2 : tk j = tk' j) (h3 : p.take j = p'.take j) : lev sp p nx tk j = lev sp p' nx' tk' j := by
 unfold lev;rw [h1,h2,h3]
theorem levs_congr {sp : List (List Sp)} {p p' : List St} {nx nx' tk tk' : Nat → Nat} : ∀ {j : Nat},(∀ k,k < j → nx k = nx' k ∧ tk k = tk' k ∧ p.take k = p'.take k) → levs sp p nx tk j = levs sp p' nx' tk' j
 | 0,_ => rfl
 | j + 1,h => by
  rw [levs,levs,levs_congr fun k hk => h k (by omega)]
  have h2 := h j (by omega)
  rw [lev_congr h2.1 h2.2.1 h2.2.2]
theorem lev_end {sp : List (List Sp)} {p : List St} {nx tk : Nat → Nat} {j : Nat} (h : (sp.getD j []).length ≤ nx j) : lev sp p nx tk j = [] := by
 unfold lev;rw [List.drop_of_length_le h];rfl
theorem lev_meets {sp : List (List Sp)} {p : List St} {nx tk : Nat → Nat} {j : Nat} {a : Sp} (h : (sp.getD j [])[nx j]? = some a) (hm : (tk j &&& a.2 != 0) = true) : lev sp p nx tk j = lev sp p (upd1 nx j (nx j + 1)) tk j := by
 obtain ⟨hk,ha⟩ := List.getElem?_eq_some_iff.1 h
 unfold lev
 rw [upd1_at,List.drop_eq_getElem_cons hk,List.flatMap_cons,ha,if_pos hm,List.nil_append]
theorem lev_free {sp : List (List Sp)} {p : List St} {nx tk : Nat → Nat} {j : Nat} {a : Sp} (h : (sp.getD j [])[nx j]? = some a) (hm : (tk j &&& a.2 != 0) = false) :
  lev sp p nx tk j = ((packsF (sp.drop (j + 1)) (tk j ||| a.2)).map fun q => p.take j ++ a.1 :: q) ++ lev sp p (upd1 nx j (nx j + 1)) tk j := by
 obtain ⟨hk,ha⟩ := List.getElem?_eq_some_iff.1 h
 unfold lev
 rw [upd1_at,List.drop_eq_getElem_cons hk,List.flatMap_cons,ha,if_neg (by rw [hm];simp)]
theorem lev_new {sp : List (List Sp)} {p : List St} {nx tk : Nat → Nat} {j : Nat} (hj : j < sp.length) (h : nx j = 0) : lev sp p nx tk j = (packsF (sp.drop j) (tk j)).map fun q => p.take j ++ q := by
 unfold lev
 rw [h,List.drop_zero,List.drop_eq_getElem_cons hj,packsF,List.getD_eq_getElem?_getD,List.getElem?_eq_getElem hj,Option.getD_some,List.map_flatMap]
 congr 1;funext a
 split
 ·rfl
 ·rw [List.map_map];rfl
theorem take_set {p : List St} {i : Nat} {a : St} (h : i < p.length) : (p.set i a).take (i + 1) = p.take i ++ [a] := by
 rw [List.take_succ_eq_append_getElem (by rw [List.length_set];exact h),List.getElem_set_self,List.take_set]
 congr 1
 rw [List.set_eq_of_length_le (by rw [List.length_take];omega)]
theorem take_set_le {p : List St} {i k : Nat} {a : St} (h : k ≤ i) : (p.set i a).take k = p.take k := by
 rw [List.take_set,List.set_eq_of_length_le (by rw [List.length_take];omega)]
def toShow (sp : List (List Sp)) (p : List St) (nx tk : Nat → Nat) (i : Nat) : List (List St) := if i = sp.length then p :: levs sp p nx tk i else levs sp p nx tk (i + 1)
theorem start_show (sp : List (List Sp)) (p : List St) (hp : p.length = sp.length) (nx tk : Nat → Nat) (h1 : nx 0 = 0) (h2 : tk 0 = 0) : toShow sp p nx tk 0 = packsF sp 0 := by
 unfold toShow
 split
 ·rename_i h
  have h3 : sp = [] := List.length_eq_zero_iff.1 h.symm
  have h4 : p = [] := List.length_eq_zero_iff.1 (by omega)
  subst h3;subst h4;rfl
 ·rename_i h
  rw [levs,levs,List.append_nil,lev_new (by omega) h1,h2,List.drop_zero];simp
theorem go_deeper {sp : List (List Sp)} {p : List St} {nx tk : Nat → Nat} {i : Nat} {a : Sp} (hi : i < sp.length) (hp : p.length = sp.length) (h : (sp.getD i [])[nx i]? = some a) (hm : (tk i &&& a.2 != 0) = false) :
  toShow sp (p.set i a.1) (upd1 (upd1 nx i (nx i + 1)) (i + 1) 0) (upd1 tk (i + 1) (tk i ||| a.2)) (i + 1) = toShow sp p nx tk i := by
 have h1 : toShow sp p nx tk i = ((packsF (sp.drop (i + 1)) (tk i ||| a.2)).map fun q => p.take i ++ a.1 :: q) ++ levs sp (p.set i a.1) (upd1 (upd1 nx i (nx i + 1)) (i + 1) 0) (upd1 tk (i + 1) (tk i ||| a.2)) (i + 1) := by
  unfold toShow
  rw [if_neg (by omega),levs,levs,lev_free h hm,List.append_assoc]
  congr 1
  rw [lev_congr (p := p) (p' := p.set i a.1) (nx := upd1 nx i (nx i + 1)) (nx' := upd1 (upd1 nx i (nx i + 1)) (i + 1) 0) (tk := tk) (tk' := upd1 tk (i + 1) (tk i ||| a.2)) (upd1_ne _ _ (show i ≠ i + 1 by omega)).symm (upd1_ne _ _ (show i ≠ i + 1 by omega)).symm (take_set_le (Nat.le_refl _)).symm]
  congr 1
  exact levs_congr fun k hk => ⟨by rw [upd1_ne _ _ (show k ≠ i + 1 by omega),upd1_ne _ _ (show k ≠ i by omega)],by rw [upd1_ne _ _ (show k ≠ i + 1 by omega)],(take_set_le (show k ≤ i by omega)).symm⟩
 rw [h1]
 have e : ∀ q : List St,p.take i ++ a.1 :: q = (p.set i a.1).take (i + 1) ++ q := fun q => by rw [take_set (show i < p.length by omega)];simp
 unfold toShow
 split
 ·rename_i h2
  rw [List.drop_of_length_le (by omega)]
  rw [packsF,List.map_singleton,e,List.append_nil,List.take_of_length_le (by rw [List.length_set];omega)];rfl
 ·rename_i h2
  rw [levs]
  congr 1
  rw [lev_new (by omega) (upd1_at _ _ _),upd1_at]
  exact List.map_congr_left fun q _ => (e q).symm
theorem go_past {sp : List (List Sp)} {p : List St} {nx tk : Nat → Nat} {i : Nat} {a : Sp} (hi : i < sp.length) (h : (sp.getD i [])[nx i]? = some a) (hm : (tk i &&& a.2 != 0) = true) :
  toShow sp p (upd1 nx i (nx i + 1)) tk i = toShow sp p nx tk i := by
 unfold toShow
 rw [if_neg (by omega),if_neg (by omega),levs,levs,lev_meets h hm]
 congr 1
 exact levs_congr fun k hk => ⟨by rw [upd1_ne _ _ (show k ≠ i by omega)],rfl,rfl⟩
theorem go_back {sp : List (List Sp)} {p : List St} {nx tk : Nat → Nat} {i : Nat} (hi : i < sp.length) (h : (sp.getD i []).length ≤ nx i) : toShow sp p nx tk i = levs sp p nx tk i := by
 unfold toShow
 rw [if_neg (by omega),levs,lev_end h,List.nil_append]
theorem back_show {sp : List (List Sp)} {p : List St} {nx tk : Nat → Nat} {i : Nat} (hi : i < sp.length) : levs sp p nx tk (i + 1) = toShow sp p nx tk i := by
 unfold toShow;rw [if_neg (by omega)]
theorem full_show (sp : List (List Sp)) (p : List St) (nx tk : Nat → Nat) : toShow sp p nx tk sp.length = p :: levs sp p nx tk sp.length := by unfold toShow;rw [if_pos rfl]
def left (B n : Nat) (len nx : Nat → Nat) : Nat → Nat
 | 0 => 0
 | j + 1 => left B n len nx j + (len j - nx j) * B ^ (n - j)
theorem left_congr {B n : Nat} {len nx nx' : Nat → Nat} : ∀ {j : Nat},(∀ k,k < j → nx k = nx' k) → left B n len nx j = left B n len nx' j
 | 0,_ => rfl
 | j + 1,h => by rw [left,left,left_congr fun k hk => h k (by omega),h j (by omega)]
theorem left_deeper {B n : Nat} {len nx : Nat → Nat} {i : Nat} (hi : i < n) (hB : len (i + 1) < B) (h : nx i < len i) :
  left B n len (upd1 (upd1 nx i (nx i + 1)) (i + 1) 0) (i + 2) < left B n len nx (i + 1) := by
 rw [left,left,left]
 rw [left_congr (nx' := nx) (j := i) fun k hk => by rw [upd1_ne _ _ (show k ≠ i + 1 by omega),upd1_ne _ _ (show k ≠ i by omega)]]
 rw [upd1_at,upd1_ne _ _ (show i ≠ i + 1 by omega),upd1_at,Nat.sub_zero]
 have h1 : B ^ (n - i) = B * B ^ (n - (i + 1)) := by rw [show n - i = (n - (i + 1)) + 1 by omega,Nat.pow_succ,Nat.mul_comm]
 have h2 : (len i - nx i) * B ^ (n - i) = (len i - (nx i + 1)) * B ^ (n - i) + B ^ (n - i) := by
  rw [show len i - nx i = (len i - (nx i + 1)) + 1 by omega,Nat.succ_mul]
 rw [h2,h1]
 have h3 : len (i + 1) * B ^ (n - (i + 1)) < B * B ^ (n - (i + 1)) := Nat.mul_lt_mul_of_pos_right hB (Nat.pow_pos (by omega))
 omega
theorem left_past {B n : Nat} {len nx : Nat → Nat} {i : Nat} (hB : 0 < B) (h : nx i < len i) : left B n len (upd1 nx i (nx i + 1)) (i + 1) < left B n len nx (i + 1) := by
 rw [left,left]
 rw [left_congr (nx' := nx) (j := i) fun k hk => by rw [upd1_ne _ _ (show k ≠ i by omega)],upd1_at]
 have h2 : (len i - nx i) * B ^ (n - i) = (len i - (nx i + 1)) * B ^ (n - i) + B ^ (n - i) := by
  rw [show len i - nx i = (len i - (nx i + 1)) + 1 by omega,Nat.succ_mul]
 have h3 : 0 < B ^ (n - i) := Nat.pow_pos hB
 omega
theorem left_back {B n : Nat} {len nx : Nat → Nat} {i : Nat} (h : len i ≤ nx i) : left B n len nx (i + 1) = left B n len nx i := by rw [left,Nat.sub_eq_zero_of_le h];simp
end Go.Pb.Sag
namespace Go.Pb.Sag
def remD (sp : List (List Sp)) (p : List St) (nx tk : Nat → Nat) : Nat → List (List St)
 | 0 => []
 | d + 1 => toShow sp p nx tk d
theorem remD_levs {sp : List (List Sp)} {p : List St} {nx tk : Nat → Nat} {i : Nat} (hi : i ≤ sp.length) : levs sp p nx tk i = remD sp p nx tk i := by
 cases i with
 | zero => rfl
 | succ i => exact back_show (by omega)
theorem drop_head {α : Type} {l : List α} {m : Nat} {a : α} {r : List α} (h : l.drop m = a :: r) : l[m]? = some a ∧ l.drop (m + 1) = r ∧ m < l.length := by
 have hm : m < l.length := by
  rcases Nat.lt_or_ge m l.length with h2 | h2
  ·exact h2
  ·rw [List.drop_of_length_le h2] at h;cases h
 rw [List.drop_eq_getElem_cons hm] at h
 injection h with h1 h2
 exact ⟨by rw [List.getElem?_eq_getElem hm,h1],h2,hm⟩
theorem drop_done {α : Type} {l : List α} {m : Nat} (hm : m ≤ l.length) (h : l.drop m = []) : m = l.length := by
 have := congrArg List.length h
 rw [List.length_drop] at this
 simp at this;omega
def lenS (sp : List (List Sp)) (j : Nat) : Nat := (sp.getD j []).length
end Go.Pb.Sag
namespace Go.Pb.Sag
open Go Go.Pb Go.Pb.Ware Go.RowKit

theorem flat_at {α : Type} {n : Nat} (cs : α → List Value) (hc : ∀ x,(cs x).length = n) : ∀ (l : List α) (j : Nat) (u : Value),(l.flatMap cs)[j]? = some u → ∃ i o x,j = i * n + o ∧ l[i]? = some x ∧ (cs x)[o]? = some u
 | [],j,u,h => by simp at h
 | x :: l,j,u,h => by
  rw [List.flatMap_cons] at h
  by_cases hj : j < n
  ·rw [List.getElem?_append_left (by rw [hc];exact hj)] at h
   exact ⟨0,j,x,by omega,rfl,h⟩
  ·rw [List.getElem?_append_right (by rw [hc];omega),hc] at h
   obtain ⟨i,o,y,h1,h2,h3⟩ := flat_at cs hc l _ _ h
   exact ⟨i + 1,o,y,by rw [Nat.succ_mul];omega,by simpa using h2,h3⟩
theorem flat_len {α : Type} {n : Nat} (cs : α → List Value) (hc : ∀ x,(cs x).length = n) (l : List α) : (l.flatMap cs).length = l.length * n := by
 induction l with
 | nil => simp
 | cons x l ih => rw [List.flatMap_cons,List.length_append,ih,hc,List.length_cons,Nat.succ_mul];omega
theorem lenQ (q : Sq) : (cellsQ q).length = 3 := rfl
theorem lenF (f : Ft) : (cellsF f).length = 4 := rfl
theorem one_Q {qs : List Sq} : ∀ u ∈ qs.flatMap cellsQ,u.oneCell' = true := fun u hu => by
 obtain ⟨q,_,h⟩ := List.mem_flatMap.1 hu
 simp only [cellsQ,List.mem_cons,List.not_mem_nil,or_false] at h
 rcases h with rfl | rfl | rfl <;> rfl
theorem one_F {fs : List Ft} : ∀ u ∈ fs.flatMap cellsF,u.oneCell' = true := fun u hu => by
 obtain ⟨f,_,h⟩ := List.mem_flatMap.1 hu;exact one_cellsF u h
theorem stAt_cells {w : World} {a : Addr} {cap : Nat} {qs : List Sq} (h : StAt w (.slice (some a) qs.length cap) qs) : ∀ j u,(qs.flatMap cellsQ)[j]? = some u → w.cell? (a.add j) = some u := by
 intro j u hu
 obtain ⟨i,o,q,rfl,h2,h3⟩ := flat_at cellsQ lenQ _ _ _ hu
 rcases h with ⟨h,_⟩ | ⟨a',cap',h4,h5,h6,h7⟩
 ·cases h
 ·injection h4 with e1 e2 e3
  injection e1 with e1
  subst e1
  exact h7 i q h2 o u h3
theorem feetAt_cells {w : World} {a : Addr} {cap : Nat} {fs : List Ft} (h : FeetAt w (.slice (some a) fs.length cap) fs) : ∀ j u,(fs.flatMap cellsF)[j]? = some u → w.cell? (a.add j) = some u := by
 intro j u hu
 obtain ⟨i,o,f,rfl,h2,h3⟩ := flat_at cellsF lenF _ _ _ hu
 rcases h with ⟨h,_⟩ | ⟨a',cap',h4,h5,h6,h7⟩
 ·cases h
 ·injection h4 with e1 e2 e3
  injection e1 with e1
  subst e1
  have h8 := (h7 i (rowF f) (by rw [List.getElem?_map,h2];rfl)).2
  have h11 : cellsF f = (rowF f).map (Value.int .i64) := rfl
  rw [h11,List.getElem?_map] at h3
  cases hz : (rowF f)[o]? with
  | none => rw [hz] at h3;cases h3
  | some z =>
   rw [hz] at h3
   injection h3 with h3
   rw [← h3];exact (h8 o z hz).1
def NewSts (T : TypeId) (qs : List Sq) (W : World) (e : Ending) (w' : World) : Prop := ∃ v,e = .returned v ∧ Below W.heap.size W w' ∧ w'.ownsRow W.heap.size T 3 v qs.length (qs.flatMap cellsQ)
theorem owns_empty (w : World) (e : TypeId) (size : Nat) : (w.alloc (.cells #[] e)).ownsRow w.heap.size e size (.slice (some ⟨w.heap.size,0,none⟩) 0 0) 0 [] :=
 ⟨by simp, .inr ⟨w.heap.size,0,#[],rfl,Nat.le_refl _,heap_alloc_new w _,Nat.le_refl _,by simp [maxLen],by simp,by simp⟩⟩
theorem stAt_of_owns {w : World} {base : Nat} {e : TypeId} {v : Value} {qs : List Sq} (h : w.ownsRow base e 3 v qs.length (qs.flatMap cellsQ)) : StAt w v qs := by
 obtain ⟨hl,h⟩ := h
 rcases h with ⟨h1,h2⟩ | ⟨g,cap,cur,h1,h2,h3,h4,h5,h6,h7⟩
 ·exact .inl ⟨h1,List.length_eq_zero_iff.1 h2⟩
 ·refine .inr ⟨_,cap,h1,h4,by unfold maxLen at h5;omega,fun k q hk j u hu => ?_⟩
  have key : ∀ (qs : List Sq) (k : Nat),qs[k]? = some q → (qs.flatMap cellsQ)[k * 3 + j]? = some u := by
   intro qs
   induction qs with
   | nil => intro k hk;simp at hk
   | cons x xs ih =>
    intro k hk
    rw [List.flatMap_cons]
    cases k with
    | zero =>
     simp at hk;subst hk
     have hj : j < 3 := by have := (List.getElem?_eq_some_iff.1 hu).1;rwa [lenQ] at this
     rw [List.getElem?_append_left (by rw [lenQ];omega),Nat.zero_mul,Nat.zero_add];exact hu
    | succ k =>
     simp at hk
     rw [List.getElem?_append_right (by rw [lenQ];omega),lenQ,show (k + 1) * 3 + j - 3 = k * 3 + j by omega]
     exact ih k hk
  have h8 := key qs k hk
  have hlt : k * 3 + j < qs.length * 3 := by
   have := (List.getElem?_eq_some_iff.1 h8).1;rwa [flat_len cellsQ lenQ] at this
  have h9 : (cur.toList.take (qs.length * 3))[k * 3 + j]? = some u := by rw [h7];exact h8
  rw [List.getElem?_take,if_pos hlt] at h9
  rw [Go.WideShapes.add_plain]
  simp only [World.cell?,h3,Nat.zero_add]
  simpa using h9
end Go.Pb.Sag
namespace Go.Pb.Sag
open Go Go.Pb Go.Pb.Ware Go.RowKit

def cellsA (a : Sp) : List Value := [.int .i64 (a.1.y : Int), .int .i64 (a.1.x : Int), .bool a.1.turned, .int .u64 (a.2 : Int)]
def SpotsIn (lo hi : Nat) (v : Value) (sp : List (List Sp)) (W : World) : Prop := ∃ g : Nat,(lo ≤ g ∧ g < hi) ∧ v = .slice (some ⟨g,0,none⟩) sp.length sp.length ∧
 ∀ i l,sp[i]? = some l → ∃ (a : Option Addr) (cap : Nat),W.cell? ⟨g,i,none⟩ = some (.slice a l.length cap) ∧ (l.length : Int) ≤ 1000 ∧
  ∀ k x,l[k]? = some x → ∃ b : Nat,(lo ≤ b ∧ b < hi) ∧ a = some ⟨b,0,none⟩ ∧ ∀ j u,(cellsA x)[j]? = some u → W.cell? ⟨b,k * 4 + j,none⟩ = some u
theorem SpotsIn.keep {lo hi : Nat} {v : Value} {sp : List (List Sp)} {W W' : World} (h : SpotsIn lo hi v sp W) (hk : KeepSeg lo hi W W') : SpotsIn lo hi v sp W' := by
 obtain ⟨g,hg,e,h⟩ := h
 refine ⟨g,hg,e,fun i l hl => ?_⟩
 obtain ⟨a,cap,h1,h0,h2⟩ := h i l hl
 refine ⟨a,cap,hk.cell hg.1 hg.2 h1,h0,fun k x hx => ?_⟩
 obtain ⟨b,hb,e2,h3⟩ := h2 k x hx
 exact ⟨b,hb,e2,fun j u hu => hk.cell hb.1 hb.2 (h3 j u hu)⟩
def PAt (W : World) (B : Nat) (p : List St) : Prop := ∀ k q,p[k]? = some q → ∀ j u,(cellsP q)[j]? = some u → W.cell? ⟨B,k * 3 + j,none⟩ = some u ∧ W.frozen? ⟨B,k * 3 + j,none⟩ = false
def NAt (q : IntKind) (W : World) (B : Nat) (nx : Nat → Nat) : Prop := ∀ k,k < 6 → W.cell? ⟨B,k,none⟩ = some (.int q (nx k : Int)) ∧ W.frozen? ⟨B,k,none⟩ = false
theorem block_same {W W' : World} {B o : Nat} (h : W'.heap[B]? = W.heap[B]?) {u : Value} (hc : W.cell? ⟨B,o,none⟩ = some u ∧ W.frozen? ⟨B,o,none⟩ = false) : W'.cell? ⟨B,o,none⟩ = some u ∧ W'.frozen? ⟨B,o,none⟩ = false :=
 ⟨(World.cell?_of_block (w := W) h).trans hc.1,(World.frozen?_of_block (a := ⟨B,o,none⟩) (w := W) h).trans hc.2⟩
theorem PAt.keep {W W' : World} {B : Nat} {p : List St} (h : PAt W B p) (hb : W'.heap[B]? = W.heap[B]?) : PAt W' B p := fun k q hq j u hu => block_same hb (h k q hq j u hu)
theorem NAt.keep {q : IntKind} {W W' : World} {B : Nat} {nx : Nat → Nat} (h : NAt q W B nx) (hb : W'.heap[B]? = W.heap[B]?) : NAt q W' B nx := fun k hk => block_same hb (h k hk)
theorem set_free {W : World} {a b : Addr} {u v : Value} (hc : W.cell? a = some u) (hf : W.frozen? a = false) : (W.setCell b v).frozen? a = false := by simp [go_sem,hf]
theorem setc_same {W : World} {a : Addr} {u v : Value} (h : W.cell? a = some u) : (W.setCell a v).cell? a = some v := by simp [go_sem,h]
theorem setc_other {W : World} {B o o' : Nat} {u v : Value} (h : W.cell? ⟨B,o,none⟩ = some u) (hne : o ≠ o') : (W.setCell ⟨B,o',none⟩ v).cell? ⟨B,o,none⟩ = some u := by
 simp [go_sem,h]
theorem setc_block {W : World} {B B' o o' : Nat} {u v : Value} (h : W.cell? ⟨B,o,none⟩ = some u) (hne : B ≠ B') : (W.setCell ⟨B',o',none⟩ v).cell? ⟨B,o,none⟩ = some u := by
 simp [go_sem,h]
theorem NAt.set {q : IntKind} {W : World} {B i v : Nat} {nx : Nat → Nat} (h : NAt q W B nx) (hi : i < 6) : NAt q (W.setCell ⟨B,i,none⟩ (.int q (v : Int))) B (upd1 nx i v) := by
 intro k hk
 have h1 := h k hk
 refine ⟨?_,set_free h1.1 h1.2⟩
 by_cases e : k = i
 ·subst e;rw [upd1_at];exact setc_same h1.1
 ·rw [upd1_ne _ _ e];exact setc_other h1.1 e
theorem PAt.set {W : World} {B i : Nat} {p : List St} {a : St} (h : PAt W B p) (hi : i < p.length) :
  PAt (((W.setCell ⟨B,i * 3,none⟩ (.int .i64 (a.y : Int))).setCell ⟨B,i * 3 + 1,none⟩ (.int .i64 (a.x : Int))).setCell ⟨B,i * 3 + 2,none⟩ (.bool a.turned)) B (p.set i a) := by
 intro k q hq j u hu
 have hj : j < 3 := by have := (List.getElem?_eq_some_iff.1 hu).1;simpa [cellsP] using this
 have hk : k < p.length := by have := (List.getElem?_eq_some_iff.1 hq).1;simpa using this
 obtain ⟨u0,hu0⟩ : ∃ u0,(cellsP p[k])[j]? = some u0 := ⟨(cellsP p[k])[j]'(show j < 3 from hj),List.getElem?_eq_getElem _⟩
 have h1 := h k p[k] (List.getElem?_eq_getElem hk) j u0 hu0
 refine ⟨?_,by simp [go_sem,h1.2]⟩
 by_cases e : k = i
 ·subst e
  rw [List.getElem?_set_self hk] at hq
  injection hq with hq
  subst hq
  rcases (show j = 0 ∨ j = 1 ∨ j = 2 by omega) with rfl | rfl | rfl
  ·have hu2 : Value.int .i64 (a.y : Int) = u := by injection hu
   rw [← hu2,Nat.add_zero]
   rw [Nat.add_zero] at h1
   exact setc_other (setc_other (setc_same h1.1) (by omega)) (by omega)
  ·have hu2 : Value.int .i64 (a.x : Int) = u := by injection hu
   rw [← hu2]
   exact setc_other (setc_same (setc_other h1.1 (by omega))) (by omega)
  ·have hu2 : Value.bool a.turned = u := by injection hu
   rw [← hu2]
   exact setc_same (setc_other (setc_other h1.1 (by omega)) (by omega))
 ·rw [List.getElem?_set_ne (Ne.symm e),List.getElem?_eq_getElem hk] at hq
  injection hq with hq
  subst hq
  rw [hu] at hu0
  injection hu0 with hu0
  subst hu0
  exact setc_other (setc_other (setc_other h1.1 (by omega)) (by omega)) (by omega)
def toSq (p : St) : Sq := ⟨(p.y : Int),(p.x : Int),p.turned⟩
theorem PAt.stAt {W : World} {B : Nat} {p : List St} (h : PAt W B p) (hn : p.length ≤ 1000) : StAt W (.slice (some ⟨B,0,none⟩) p.length p.length) (p.map toSq) := by
 refine .inr ⟨⟨B,0,none⟩,p.length,by rw [List.length_map],by rw [List.length_map];exact Nat.le_refl _,by omega,fun k q hq j u hu => ?_⟩
 rw [List.getElem?_map] at hq
 cases hp : p[k]? with
 | none => rw [hp] at hq;cases hq
 | some x =>
  rw [hp] at hq
  injection hq with hq
  subst hq
  rw [Go.WideShapes.add_plain,Nat.zero_add]
  exact (h k x hp j u hu).1
end Go.Pb.Sag
namespace Go.Pb.Sag
open Go Go.Pb Go.Pb.Ware Go.RowKit
theorem spots_mask {s : Bx} {fs : List Ft} (hX : boxOk s = true) (hok : ∀ f ∈ fs,FtOk f) {i k : Nat} {l : List Sp} {a : Sp} (h : (fs.map (spotsL s))[i]? = some l) (ha : l[k]? = some a) : a.2 < 2 ^ 36 := by
 rw [List.getElem?_map] at h
 cases hf : fs[i]? with
 | none => rw [hf] at h;cases h
 | some f =>
  rw [hf] at h
  injection h with h
  subst h
  unfold spotsL at ha
  rw [List.getElem?_map] at ha
  cases hp : (standsL s f)[k]? with
  | none => rw [hp] at ha;cases ha
  | some p =>
   rw [hp] at ha
   injection ha with ha
   subst ha
   obtain ⟨g1,g2⟩ := stands_ok hX (hok f (List.mem_of_getElem? hf)) (List.mem_of_getElem? hp)
   exact mask_lt g1 g2
end Go.Pb.Sag
namespace Go.Pb

open Go Go.RowKit
section
variable {P : Program} {ops : Array Oper} {Q : Exit → Act → World → Prop}
def Only (Q : Exit → Act → World → Prop) : Exit → Act → World → Prop := fun e a w => e = .normal ∧ Q .normal a w
theorem only_lets (h : LetsOut (Only Q)) : False := by obtain ⟨a,w,h,_⟩ := h;cases h
theorem upon_only {o : Oper} {a : Act} {K : Act → World → Prop} {r : Result Next} (h : o.upon P a K (Only Q) r) : o.upon P a K Q r := by
 rcases r with ⟨n,w'⟩ | ⟨hh,w'⟩
 ·cases n with
  | value v => exact h
  | skip => exact h
  | defer d => exact h
  | enter f args =>
   refine Calls.mono (show Calls P f args w' _ from h) fun e w'' h2 => ?_
   cases e with
   | returned v => exact h2
   | panicked c => exact absurd h2.1 (by simp)
   | outgrown => exact (only_lets h2).elim
  | row row args => exact h
  | _ => exact h
 ·cases hh with
  | panic v => exact absurd h.1 (by simp)
  | _ => exact h
theorem wpOp_only {i : Nat} {K : Act → World → Prop} {a : Act} {w : World} (h : wpOp P ops (Only Q) i K a w) : wpOp P ops Q i K a w := by
 unfold wpOp at *
 cases ho : ops[i]? with
 | none => simpa [ho] using h
 | some o =>
  simp only [ho] at h ⊢
  split at h
  ·rename_i hw
   rw [if_pos hw]
   rcases h with h | ⟨_,h⟩
   ·exact .inl (upon_only h)
   ·exact (only_lets h).elim
  ·rename_i hw
   rw [if_neg hw];exact h
theorem wpAny_only {md : Region.Mode} : ∀ {n : Nat} {L : Array Bool} {a : Act} {w : World},wpAny P md ops (Only Q) n L a w → wpAny P md ops Q n L a w
 | 0,_,_,_,h => ⟨h.1,h.2.2⟩
 | n + 1,_,_,_,h => ⟨fun hr => (h.1 hr).2,fun i hi => wpOp_only (wpOp_mono (fun _ _ h => wpAny_only h) (h.2 i hi))⟩
def bound (o : Oper) (e : Nat) : Oper := { o with after := o.after.push { on := e,ground := .data } }
def late (ops : Array Oper) (s : Nat) (os : Oper) (e : Nat) : Array Oper := ops.setIfInBounds s (bound os e)
theorem late_ne {s e i : Nat} {os : Oper} (h : i ≠ s) : (late ops s os e)[i]? = ops[i]? := by unfold late;rw [Array.getElem?_setIfInBounds_ne (Ne.symm h)]
theorem late_at {s e : Nat} {os : Oper} (h : ops[s]? = some os) : (late ops s os e)[s]? = some (bound os e) := by
 have : s < ops.size := (Array.getElem?_eq_some_iff.1 h).1
 unfold late;rw [Array.getElem?_setIfInBounds_self_of_lt this]
theorem late_yielded {s e : Nat} {os : Oper} (h : ops[s]? = some os) (t : Array Value) : yielded (late ops s os e) t = yielded ops t := by
 funext j
 unfold yielded
 by_cases hj : j = s
 ·subst hj;rw [late_at h,h];rfl
 ·rw [late_ne hj]
theorem late_op {s e i : Nat} {os : Oper} (h : ops[s]? = some os) {K : Act → World → Prop} {a : Act} {w : World} (hh : wpOp P (late ops s os e) Q i K a w) : wpOp P ops Q i K a w := by
 unfold wpOp at *
 rw [late_yielded h] at hh
 by_cases hi : i = s
 ·subst hi
  rw [late_at h] at hh
  rw [h]
  exact hh
 ·rw [late_ne hi] at hh;exact hh
theorem late_ready {md : Region.Mode} {s e i : Nat} {os : Oper} (h : ops[s]? = some os) {L : Array Bool} (hi : i ∈ Region.ready md (late ops s os e) L) : i ∈ Region.ready md ops L := by
 obtain ⟨h1,o,ho,h2⟩ := mem_ready.1 hi
 by_cases hs : i = s
 ·subst hs
  rw [late_at h] at ho
  obtain rfl : bound os e = o := by simpa using ho
  exact mem_ready.2 ⟨h1,os,h,fun x hx => h2 x (by unfold bound;exact Array.mem_push.2 (.inl hx))⟩
 ·rw [late_ne hs] at ho
  exact mem_ready.2 ⟨h1,o,ho,h2⟩
theorem ready_late {md : Region.Mode} {s e i : Nat} {os : Oper} (h : ops[s]? = some os) {L : Array Bool} (hi : i ∈ Region.ready md ops L) (hse : i ≠ s ∨ L.getD e false = true) : i ∈ Region.ready md (late ops s os e) L := by
 obtain ⟨h1,o,ho,h2⟩ := mem_ready.1 hi
 by_cases hs : i = s
 ·subst hs
  rw [h] at ho
  obtain rfl : os = o := by simpa using ho
  refine mem_ready.2 ⟨h1,bound os e,late_at h,fun x hx hb => ?_⟩
  unfold bound at hx
  rcases Array.mem_push.1 hx with hx | rfl
  ·exact h2 x hx hb
  ·exact hse.resolve_left (fun h => h rfl)
 ·exact mem_ready.2 ⟨h1,o,by rw [late_ne hs];exact ho,h2⟩
def freeB (md : Region.Mode) (ops : Array Oper) (e : Nat) (oe : Oper) : Bool := (List.range ops.size).all fun j => j == e || oe.after.any (fun x => Region.binds md x && x.on == j) || match ops[j]? with
 | some oj => oj.after.any (fun x => Region.binds md x && x.on == e) || oe.apart ops oj
 | none => true
theorem freeB_spec {md : Region.Mode} {e : Nat} {oe : Oper} {L : Array Bool} (he : ops[e]? = some oe) (h : freeB md ops e oe = true) (hr : e ∈ Region.ready md ops L) (j : Nat) (oj : Oper) (hj : ops[j]? = some oj) (hne : j ≠ e) (hun : L.getD j true = false)
  (hno : ∀ x ∈ oj.after,Region.binds md x = true → x.on ≠ e) : oe.apart ops oj = true := by
 obtain ⟨_,o,ho,h2⟩ := mem_ready.1 hr
 rw [he] at ho
 obtain rfl : oe = o := by simpa using ho
 have h1 := List.all_eq_true.1 h j (List.mem_range.2 (Array.getElem?_eq_some_iff.1 hj).1)
 simp only [hj,Bool.or_eq_true,beq_iff_eq,hne,false_or] at h1
 rcases h1 with h1 | h1 | h1
 ·obtain ⟨x,hx,hb⟩ := Array.any_eq_true'.1 h1
  simp only [Bool.and_eq_true,beq_iff_eq] at hb
  have h3 := h2 x hx hb.1
  rw [hb.2] at h3
  rcases Nat.lt_or_ge j L.size with h' | h'
  ·simp [h'] at hun h3;rw [hun] at h3;cases h3
  ·simp [Array.getElem?_eq_none h'] at h3
 ·obtain ⟨x,hx,hb⟩ := Array.any_eq_true'.1 h1
  simp only [Bool.and_eq_true,beq_iff_eq] at hb
  exact absurd hb.2 (hno x hx hb.1)
 ·exact h1
theorem wpAny_late {md : Region.Mode} {s e : Nat} {os oe : Oper} (hs : ops[s]? = some os) (he : ops[e]? = some oe) (hse : e ≠ s) (hsel : Region.noSelect ops = true)
  (hdeps : ∀ x ∈ oe.after,Region.binds md x = true → ∃ y ∈ os.after,Region.binds md y = true ∧ y.on = x.on)
  (hfree : freeB md ops e oe = true)
  (hy : ∀ (a : Act) (w : World) (K : Act → World → Prop),wpOp P ops (Only Q) e K a w → ∃ v,Yields P ops oe v a ∧ K (a.put oe.dst v) w) :
  ∀ {n : Nat} {L : Array Bool} {a : Act} {w : World},L.size = ops.size → wpAny P md (late ops s os e) (Only Q) n L a w → wpAny P md ops (Only Q) n L a w := by
 have hes : e < ops.size := (Array.getElem?_eq_some_iff.1 he).1
 have key : ∀ {L : Array Bool},L.size = ops.size → s ∈ Region.ready md ops L → L.getD e false = true ∨ e ∈ Region.ready md ops L := by
  intro L hL h
  obtain ⟨h1,o,ho,h2⟩ := mem_ready.1 h
  rw [hs] at ho
  obtain rfl : os = o := by simpa using ho
  cases hle : L.getD e false
  ·refine .inr (mem_ready.2 ⟨?_,oe,he,fun x hx hb => ?_⟩)
   ·have hlt : e < L.size := by omega
    simp [hlt] at hle ⊢;exact hle
   ·obtain ⟨y,hy1,hy2,hy3⟩ := hdeps x hx hb
    rw [← hy3];exact h2 y hy1 hy2
  ·exact .inl rfl
 intro n
 induction n with
 | zero =>
  intro L a w hL h
  refine ⟨?_,h.2⟩
  refine List.eq_nil_iff_forall_not_mem.2 fun i hi => ?_
  have hno : ∀ i,i ∉ Region.ready md (late ops s os e) L := fun i => by rw [h.1];simp
  by_cases his : i = s
  ·subst his
   rcases key hL hi with h3 | h3
   ·exact hno i (ready_late hs hi (.inr h3))
   ·exact hno e (ready_late hs h3 (.inl hse))
  ·exact hno i (ready_late hs hi (.inl his))
 | succ n ih =>
  intro L a w hL h
  by_cases hr : e ∈ Region.ready md ops L
  ·have h1 := late_op hs (h.2 e (ready_late hs hr (.inl hse)))
   obtain ⟨v,hv,hk⟩ := hy a w _ h1
   refine wpAny_first he (Region.noSelect_spec hsel) (fun c a w h => by cases h.1) n L a w (fun j oj hj hne hun hno => ?_) hr hv (ih (by simpa using hL) hk)
   exact freeB_spec he hfree hr j oj hj hne hun hno
  ·refine ⟨fun h0 => h.1 (List.eq_nil_iff_forall_not_mem.2 fun i hi => by have := late_ready hs hi;rw [h0] at this;cases this),fun i hi => ?_⟩
   have hi2 : i ∈ Region.ready md (late ops s os e) L := by
    by_cases his : i = s
    ·subst his
     rcases key hL hi with h3 | h3
     ·exact ready_late hs hi (.inr h3)
     ·exact absurd h3 hr
    ·exact ready_late hs hi (.inl his)
   exact wpOp_mono (fun a' w' h => ih (by simpa using hL) h) (late_op hs (h.2 i hi2))
theorem extract_yields {oe : Oper} {t : Operand} {ix : Nat} (hop : oe.op = .extract t ix) (hg : oe.guard = none) {e : Nat} (he : ops[e]? = some oe) (a : Act) (w : World) (K : Act → World → Prop)
  (h : wpOp P ops (Only Q) e K a w) : ∃ v,Yields P ops oe v a ∧ K (a.put oe.dst v) w := by
 have hw : Region.wanted oe (yielded ops a.tmps) = true := by unfold Region.wanted;rw [hg]
 unfold wpOp at h
 simp only [he,hw,if_true] at h
 have h1 : oe.wp P a w K (Only Q) := h.resolve_right fun h => only_lets h.2
 have hr : (∃ v, ∀ w,(execOp a.eval oe).run P w = .ok (.value v) w) ∨ ∀ w, ∃ m,(execOp a.eval oe).run P w = .halt m w ∧ ∀ v,m ≠ .panic v := by
  have h0 : ∀ w,(execOp a.eval oe).run P w = (do let v ← Instr.extract (a.eval t) ix;pure (Next.value v) : Sem Next).run P w := fun w => by unfold execOp;rw [hop]
  simp only [h0]
  generalize a.eval t = x
  unfold Instr.extract
  cases x with
  | tuple vs =>
   cases hx : vs[ix]? with
   | some v => exact .inl ⟨v,fun w => by simp [hx,go_sem]⟩
   | none => exact .inr fun w => ⟨.stuck "Extract: no such component",by simp [hx,go_sem],fun v h => by cases h⟩
  | _ => exact .inr fun w => ⟨.stuck "Extract: tuple expected",by simp [go_sem],fun v h => by cases h⟩
 rcases hr with ⟨v,hv⟩ | hr
 ·refine ⟨v, .inl ⟨hw,hv⟩, ?_⟩
  unfold Oper.wp at h1
  rw [hv w] at h1;exact h1
 ·obtain ⟨m,hm,hne⟩ := hr w
  unfold Oper.wp at h1
  rw [hm] at h1
  cases m with
  | panic v => exact absurd rfl (hne v)
  | _ => exact h1.elim
end
theorem wp_region_Rl {P : Program} {id : Nat} {Q : Exit → Act → World → Prop} {a : Act} {w : World} {l l' : List Oper} (s e : Nat) {os oe : Oper} {t : Operand} {ix : Nat} (hos : l[s]? = some os) (hoe : l[e]? = some oe) (hl : l' = l.set s (bound os e)) (hop : oe.op = .extract t ix) (hg : oe.guard = none)
  (hC : ((e != s) && Region.noSelect l.toArray && freeB .any l.toArray e oe && (oe.after.all fun x => !Region.binds .any x || os.after.any fun y => Region.binds .any y && y.on == x.on)) = true)
  (ps : List (Nat × (Value → World → Prop))) (hs : List Nat) (g : Nat) (hm : P.follows .mixedOrders = true)
  (hn : hs.length + g = l'.length) (hkeep : ∀ x ∈ ps,Keeps x.2)
  (hB : (groupB .any l'.toArray (Array.replicate l'.length false) hs && pairsB .any l'.toArray ((ps.map (·.1)).contains ·) hs && plainsB l'.toArray ((ps.map (·.1)).contains ·) hs) = true)
  (h : wpS P .any l'.toArray w ((ps.map (·.1)).contains ·) (pOf ps) (fun Γ' a' => ∀ w',All w (pOf ps) Γ' w' → wpAny P .any l'.toArray (Only Q) g (mark hs (Array.replicate l'.length false)) a' w') (numbered l'.toArray hs) (fun _ => none) a) :
  (Code.region id l.toArray true).wp P Q a w := by
 have hl2 : late l.toArray s os e = l'.toArray := by rw [hl];unfold late;simp
 have hlen : l'.length = l.length := by rw [hl];simp
 simp only [Bool.and_eq_true,bne_iff_ne] at hC
 obtain ⟨⟨⟨hse,hsel⟩,hfree⟩,hdeps⟩ := hC
 refine wp_region_any hm (wpAny_only ?_)
 refine wpAny_late (ops := l.toArray) (s := s) (e := e) (os := os) (oe := oe) (by simpa using hos) (by simpa using hoe) hse hsel (fun x hx hb => ?_) (by simpa using hfree) (fun a w K h => extract_yields hop hg (by simpa using hoe) a w K h) (by simp) ?_
 ·have h1 := Array.all_eq_true'.1 hdeps x hx
  simp only [hb,Bool.not_true,Bool.false_or] at h1
  obtain ⟨y,hy,hb2⟩ := Array.any_eq_true'.1 h1
  simp only [Bool.and_eq_true,beq_iff_eq] at hb2
  exact ⟨y,hy,hb2.1,hb2.2⟩
 ·rw [hl2]
  have h2 := wpR_of_wpS (fun k hk => by
   simp only [groupB,Bool.and_eq_true] at hB
   obtain ⟨_,hmem,_⟩ := orderB_spec hB.1.1.2
   exact (hmem k hk).2.2) h
  have := wpAny_R (P := P) (Q := Only Q) (w0 := w) (w := w.drew) (a := a) (ps.map (·.1)) hs g (pOf_keeps hkeep) hB (Below.refl _ w).drew h2
  rw [hn,hlen] at this
  simpa using this
end Go.Pb
namespace Go.Pb

open Go Go.RowKit
section
variable {P : Program} {α β : Type}
def Fails (P : Program) (s : Sem α) : Prop := ∀ w v w',s.run P w ≠ .ok v w'
def Steady (P : Program) (s : Sem α) : Prop := (∃ v, ∀ w,s.run P w = .ok v w) ∨ Fails P s
theorem Fails.bind_left {s : Sem α} (h : Fails P s) (f : α → Sem β) : Fails P (s >>= f) := fun w v w' e => by
 rw [Sem.run_bind] at e
 cases hs : s.run P w with
 | ok u w1 => exact h w u w1 hs
 | halt m w1 => rw [hs] at e;cases e
theorem Steady.halt (m : Halt) : Steady P (.halt m : Sem α) := .inr fun w v w' e => by cases e
theorem Steady.bind {s : Sem α} {f : α → Sem β} (h : Steady P s) (h2 : ∀ u,Steady P (f u)) : Steady P (s >>= f) := by
 rcases h with ⟨u,hu⟩ | h
 ·rcases h2 u with ⟨v,hv⟩ | h2
  ·exact .inl ⟨v,fun w => by rw [Sem.run_bind,hu w];exact hv w⟩
  ·exact .inr fun w v w' e => by
    rw [Sem.run_bind,hu w] at e;exact h2 w v w' e
 ·exact .inr (h.bind_left f)
end
end Go.Pb
namespace Go.Pb

open Go Go.RowKit
def firstB (md : Region.Mode) (ops : Array Oper) : List Nat → Array Bool → Bool
 | [],_ => true
 | i :: is,L => (Region.ready md ops L).contains i && (match ops[i]? with | some o => freeB md ops i o | none => false) && firstB md ops is (L.setIfInBounds i true)
end Go.Pb
namespace Go.Pb

open Go Go.RowKit
theorem oper_inRound {P : Program} {o : Oper} {a : Act} {w : World} {K : Act → World → Prop} {Q : Exit → Act → World → Prop} {l n : Nat} (hd : ∀ c,o.op ≠ .defer c) (h : o.wp P a w K Q) : o.wpIn (Fence.wide.inRound l) n P a w K Q := by
 refine ⟨fun _ _ => trivial, ?_⟩
 rw [Oper.semAt_eq _ _ _ hd]
 unfold Oper.wp at h
 generalize (execOp a.eval o).run P w = r at h ⊢
 cases r with
 | ok x w' =>
  cases x with
  | enter f args => exact ⟨fun h => by simp [Fence.wide] at h,CallsIn.inRound l (callsIn_wide.2 h)⟩
  | row r args => exact ⟨fun h => by simp [Fence.wide] at h,fun c cs hr => by obtain ⟨v,w',hR,hs⟩ := h c cs;exact ⟨v,w',hR,stepsIn_wide.2 hs⟩⟩
  | round _ _ _ _ _ => exact False.elim h
  | _ => exact h
 | halt x w' => cases x <;> exact h
theorem wpAny_inRound {P : Program} {md : Region.Mode} {ops : Array Oper} {Q : Exit → Act → World → Prop} {l n : Nat} (hd : ∀ (i : Nat) (o : Oper),ops[i]? = some o → ∀ c,o.op ≠ .defer c) (hL : ¬ LetsOut Q) : ∀ (fuel : Nat) (L : Array Bool) (a : Act) (w : World),wpAny P md ops Q fuel L a w → wpAnyIn (Fence.wide.inRound l) n P md ops Q fuel L a w
 | 0,L,a,w,h => h
 | fuel + 1,L,a,w,h => ⟨h.1,fun i hi => by
   have h2 := h.2 i hi
   unfold wpOp at h2
   unfold wpOpIn
   cases ho : ops[i]? with
   | none => rw [ho] at h2;exact wpAny_inRound hd hL fuel _ a w h2
   | some o =>
    rw [ho] at h2
    dsimp only at h2 ⊢
    by_cases hw : Region.wanted o (yielded ops a.tmps) = true
    ·rw [if_pos hw] at h2 ⊢
     rcases h2 with h2 | h2
     ·exact Oper.wpIn_mono (fun a w => wpAny_inRound hd hL fuel _ a w) (oper_inRound (hd i o ho) h2)
     ·exact absurd h2.2 hL
    ·rw [if_neg hw] at h2 ⊢
     exact ⟨fun _ _ => trivial,wpAny_inRound hd hL fuel _ _ w h2⟩⟩
end Go.Pb
namespace Go.Pb

open Go Go.RowKit
def marks (ds : List Nat) : List Deferred := ds.map fun D => { target := .collected D,args := #[] }
def Waits (ds : List Nat) (W : World) : Prop := ds.Nodup ∧ ∀ D ∈ ds,W.heap[D]? = some (.deferred (some []))
structure Closed (ds : List Nat) (W W' : World) : Prop where
 os : W'.os = W.os
 tape : W'.tape = W.tape
 output : W'.output = W.output
 size : W'.heap.size = W.heap.size
 block : ∀ k,k ∉ ds → W'.heap[k]? = W.heap[k]?
theorem Waits.nil {W : World} : Waits [] W := ⟨List.nodup_nil,fun D h => by cases h⟩
theorem Waits.kept {ds : List Nat} {W W' : World} (h : Waits ds W) (hk : KeepsOthers W W') : Waits ds W' := ⟨h.1,fun D hD => hk.same D _ (h.2 D hD) rfl⟩
theorem Waits.below {ds : List Nat} {W W' : World} (h : Waits ds W) (hb : Below W.heap.size W W') : Waits ds W' := ⟨h.1,fun D hD => by
 rw [hb.block D (Array.getElem?_eq_some_iff.1 (h.2 D hD)).1];exact h.2 D hD⟩
theorem Waits.lt {ds : List Nat} {W : World} (h : Waits ds W) {D : Nat} (hD : D ∈ ds) : D < W.heap.size := (Array.getElem?_eq_some_iff.1 (h.2 D hD)).1
theorem Waits.cons {ds : List Nat} {D : Nat} {W : World} (h : Waits ds W) (hD : W.heap[D]? = some (.deferred (some []))) (hn : D ∉ ds) : Waits (D :: ds) W := by
 refine ⟨List.nodup_cons.2 ⟨hn,h.1⟩,fun D' h' => ?_⟩
 rcases List.mem_cons.1 h' with e | h'
 ·rw [e];exact hD
 ·exact h.2 D' h'
theorem Closed.cell {ds : List Nat} {W W' : World} (h : Closed ds W W') (hw : Waits ds W) {a : Addr} {v : Value} (hc : W.cell? a = some v) : W'.cell? a = some v := by
 have hn : a.block ∉ ds := fun hm => by
  have := hw.2 _ hm
  simp [World.cell?,this] at hc
 rw [World.cell?_of_block (w := W) (h.block _ hn)];exact hc
theorem Closed.below {ds : List Nat} {W W' : World} (h : Closed ds W W') {B : Nat} (hd : ∀ D ∈ ds,B ≤ D) : Below B W W' :=
 ⟨h.os,h.tape,h.output,Nat.le_of_eq h.size.symm,fun k hk => h.block k fun hm => by have := hd k hm;omega⟩
theorem leaves_marks {P : Program} {F : Fence} {n : Nat} {fn : Func} {tmps : Array Value} {R : Ending → World → Prop} {u : FrameMode} (hu : u ≠ .run) : ∀ (ds : List Nat) (W : World),Waits ds W →
  (∀ W',Closed ds W W' → LeavesIn F n P fn tmps R [] u W') → LeavesInM F n P fn tmps R (marks ds) u W
 | [],W,_,h => h W ⟨rfl,rfl,rfl,rfl,fun _ _ => rfl⟩
 | D :: ds,W,hw,h => by
  have hD := hw.2 D (List.mem_cons_self ..)
  have hnd := List.nodup_cons.1 hw.1
  refine ⟨hu, .inl ⟨D,_,rfl,run_takeDeferred hD, ?_⟩⟩
  refine leaves_marks hu ds _ ⟨hnd.2,fun D' h' => ?_⟩ (fun W' hs => h W' ⟨hs.os,hs.tape,hs.output, ?_,fun k hk => ?_⟩)
  ·rw [World.putObj_heap_other (fun (e : D' = D) => hnd.1 (e ▸ h'))];exact hw.2 D' (List.mem_cons_of_mem _ h')
  ·rw [hs.size];simp
  ·rw [hs.block k (fun hm => hk (List.mem_cons_of_mem _ hm))]
   exact World.putObj_heap_other (fun e => hk (e ▸ List.mem_cons_self ..))
def noDefer (l : List Oper) : Bool := l.all fun o => match o.op with | .defer _ => false | _ => true
theorem noDefer_ne {l : List Oper} (h : noDefer l = true) {i : Nat} {o : Oper} (ho : l.toArray[i]? = some o) : ∀ c,o.op ≠ .defer c := by
 intro c hc
 have hm : o ∈ l := List.mem_of_getElem? (by simpa using ho)
 have := List.all_eq_true.1 h o hm
 rw [hc] at this
 simp at this
end Go.Pb
namespace Go.Pb.Sag
open Go Go.Pb Go.Pb.Ware Go.RowKit

structure OutOnly (w1 : World) (g i : Nat) (W : World) : Prop where
 below : Below g w1 W
 seg : ∀ k,g < k → k < w1.heap.size → W.heap[k]? = w1.heap[k]?
 cells : ∀ j u,j ≠ i → w1.cell? ⟨g,j,none⟩ = some u → W.cell? ⟨g,j,none⟩ = some u
 frz : ∀ j u,w1.cell? ⟨g,j,none⟩ = some u → w1.frozen? ⟨g,j,none⟩ = false → W.frozen? ⟨g,j,none⟩ = false
theorem OutOnly.refl {w1 : World} {g i : Nat} : OutOnly w1 g i w1 := ⟨Below.refl _ _,fun _ _ _ => rfl,fun _ _ _ h => h,fun _ _ _ h => h⟩
theorem OutOnly.grown {w1 W W' : World} {g i : Nat} {row : Option Nat} (h : OutOnly w1 g i W) (hg : W.grownBy W' row) (hlt : g < w1.heap.size) (hr : ∀ r,row = some r → w1.heap.size ≤ r) : OutOnly w1 g i W' := by
 have hs := h.below.size
 have hb : W'.heap[g]? = W.heap[g]? := hg.block g (by omega) (fun e => by have := hr g e.symm;omega)
 refine ⟨h.below.grown hg (by omega) (fun k e => by have := hr k e;omega),fun k h1 h2 => ?_,fun j u hj hu => ?_,fun j u hu hf => ?_⟩
 ·rw [hg.block k (by omega) (fun e => by have := hr k e.symm;omega)];exact h.seg k h1 h2
 ·rw [World.cell?_of_block (w := W) hb];exact h.cells j u hj hu
 ·rw [World.frozen?_of_block (a := ⟨g,j,none⟩) (w := W) hb];exact h.frz j u hu hf
theorem OutOnly.next {w1 W W' : World} {g i : Nat} (h : OutOnly w1 g i W) (hlt : g < w1.heap.size) (hb : Below W.heap.size W W') : OutOnly w1 g i W' := h.grown (grown_of_below hb) hlt (fun r e => by cases e)
theorem OutOnly.set {w1 W : World} {g i : Nat} (h : OutOnly w1 g i W) (v : Value) : OutOnly w1 g i (W.setCell ⟨g,i,none⟩ v) :=
 ⟨h.below.setCell (p := ⟨g,i,none⟩) (Nat.le_refl _) v,fun k h1 h2 => by rw [Below.heap_setCell _ _ _ _ (by show k ≠ g;omega)];exact h.seg k h1 h2,fun j u hj hu => setc_other (h.cells j u hj hu) hj,fun j u hu hf => by simp [go_sem,h.frz j u hu hf]⟩
theorem OutOnly.keepSeg {w1 W W' : World} {g i lo hi : Nat} (h : OutOnly w1 g i W) (h' : OutOnly w1 g i W') (hlo : g < lo) (hhi : hi ≤ w1.heap.size) (hs : W.heap.size ≤ W'.heap.size) : KeepSeg lo hi W W' :=
 ⟨hs,fun k h1 h2 => (h'.seg k (by omega) (by omega)).trans (h.seg k (by omega) (by omega)).symm⟩
theorem OutOnly.at {w1 W : World} {g i B o : Nat} {v : Value} (h : OutOnly w1 g i W) (hc : w1.cell? ⟨B,o,none⟩ = some v) (hB : B ≠ g) : W.cell? ⟨B,o,none⟩ = some v := by
 have hlt := World.block_lt_of_cell? w1 _ hc
 rcases Nat.lt_or_ge B g with h1 | h1
 ·rw [h.below.cell (p := ⟨B,o,none⟩) h1];exact hc
 ·rw [World.cell?_of_block (w := w1) (h.seg B (by omega) hlt)];exact hc
theorem OutOnly.free {w1 W : World} {g i B o : Nat} {v : Value} (h : OutOnly w1 g i W) (hc : w1.cell? ⟨B,o,none⟩ = some v) (hf : w1.frozen? ⟨B,o,none⟩ = false) : W.frozen? ⟨B,o,none⟩ = false := by
 have hlt := World.block_lt_of_cell? w1 _ hc
 rcases Nat.lt_trichotomy B g with h1 | h1 | h1
 ·rw [h.below.frozen (p := ⟨B,o,none⟩) h1];exact hf
 ·subst h1;exact h.frz o v hc hf
 ·rw [World.frozen?_of_block (a := ⟨B,o,none⟩) (w := w1) (h.seg B (by omega) hlt)];exact hf
theorem OutOnly.cellsAt {w1 W : World} {g i B : Nat} {vs : List Value} (h : OutOnly w1 g i W) (hc : CellsAt w1 B vs) (hB : B ≠ g) : CellsAt W B vs :=
 fun o v hv => ⟨h.at (hc o v hv).1 hB,h.free (hc o v hv).1 (hc o v hv).2⟩
def Filling (w1 : World) (g i T : Nat) (l : List Sp) (W : World) : Prop := OutOnly w1 g i W ∧ ∃ v,(W.cell? ⟨g,i,none⟩ = some v ∧ W.frozen? ⟨g,i,none⟩ = false) ∧ W.ownsRow w1.heap.size T 4 v l.length (l.flatMap cellsA)
theorem filling_own {β : Type} {w1 : World} {g i T : Nat} (hlt : g < w1.heap.size) (f : β → List Sp) : OwnFrom w1.heap.size (fun s W => Filling w1 g i T (f s) W) := by
 rintro s X Y row ⟨ho,v,⟨h1,h2⟩,h3⟩ hg hr
 have hr2 : ∀ r,row = some r → ∃ o : Obj,X.heap[r]? = some o ∧ o.isCells = false := fun r e => (hr r e).2
 refine ⟨ho.grown hg hlt (fun r e => (hr r e).1),v,⟨cell_kept h1 hg hr2,(frozen_kept h1 hg hr2).trans h2⟩,h3.kept hg ?_⟩
 rcases h3.2 with ⟨rfl,_⟩ | ⟨b,cap,cur,rfl,_,hgb,_⟩
 ·exact .inl rfl
 ·refine .inr fun e' => ?_
  obtain ⟨o,ho,hc⟩ := hr2 b (by simpa [Value.ownBlock] using e'.symm)
  rw [hgb] at ho;cases ho;cases hc
theorem flat_get {α : Type} {n : Nat} (cs : α → List Value) (hc : ∀ x,(cs x).length = n) : ∀ {l : List α} {k j : Nat} {x : α},l[k]? = some x → j < n → (l.flatMap cs)[k * n + j]? = (cs x)[j]?
 | [],k,j,x,h,_ => by simp at h
 | y :: l,0,j,x,h,hj => by
  have e : y = x := by simpa using h
  rw [List.flatMap_cons,List.getElem?_append_left (by rw [hc];omega),e,Nat.zero_mul,Nat.zero_add]
 | y :: l,k + 1,j,x,h,hj => by
  have h2 : l[k]? = some x := by simpa using h
  rw [List.flatMap_cons,List.getElem?_append_right (by rw [hc,Nat.succ_mul];omega),hc,show (k + 1) * n + j - n = k * n + j by rw [Nat.succ_mul];omega]
  exact flat_get cs hc h2 hj
theorem owns_spots {W : World} {base T : Nat} {v : Value} {l : List Sp} (h : W.ownsRow base T 4 v l.length (l.flatMap cellsA)) : ∃ (a : Option Addr) (cap : Nat),v = .slice a l.length cap ∧
  ∀ k x,l[k]? = some x → ∃ b : Nat,(base ≤ b ∧ b < W.heap.size) ∧ a = some ⟨b,0,none⟩ ∧ ∀ j u,(cellsA x)[j]? = some u → W.cell? ⟨b,k * 4 + j,none⟩ = some u := by
 rcases h.2 with ⟨rfl,h0⟩ | ⟨b,cap,cur,rfl,hb,hgb,_⟩
 ·refine ⟨none,0,by rw [h0],fun k x hx => ?_⟩
  rw [List.length_eq_zero_iff.1 h0] at hx;simp at hx
 ·refine ⟨some ⟨b,0,none⟩,cap,rfl,fun k x hx => ⟨b,⟨hb,(Array.getElem?_eq_some_iff.1 hgb).1⟩,rfl,fun j u hu => ?_⟩⟩
  have hj : j < 4 := by have := (List.getElem?_eq_some_iff.1 hu).1;simpa [cellsA] using this
  have h2 := h.cells (g := b) rfl (k * 4 + j) u (by rw [flat_get (n := 4) cellsA (fun _ => rfl) hx hj];exact hu)
  rw [Go.WideShapes.add_plain,Nat.zero_add] at h2
  exact h2
theorem cell_len (s : Bx) (f : Ft) (y x k : Nat) : (cellL s f y x k).length ≤ 2 := by
 unfold cellL
 refine Nat.le_trans (List.length_filter_le ..) ?_
 rw [List.length_map,List.length_take]
 have := (ways_len f).2;omega
theorem row_len (s : Bx) (f : Ft) (y : Nat) : ∀ m,(rowL s f y m).length ≤ 2 * m
 | 0 => by simp [rowL]
 | m + 1 => by
  rw [rowL,List.length_append]
  have := row_len s f y m
  have := cell_len s f y m (ways f).length
  omega
theorem standsN_len (s : Bx) (f : Ft) {c : Nat} (hc : s.wide.toNat ≤ c) : ∀ n,(standsN s f n).length ≤ n * (2 * c)
 | 0 => by simp [standsN]
 | n + 1 => by
  rw [standsN,List.length_append,Nat.succ_mul]
  have := standsN_len s f hc n
  have := row_len s f n s.wide.toNat
  omega
theorem stands_len {s : Bx} (f : Ft) (hX : boxOk s = true) : (standsL s f).length ≤ 72 := by
 have h2 := boxOk_iff.1 hX
 have h1 := standsN_len s f (c := 6) (by omega) s.deep.toNat
 have h3 : s.deep.toNat * (2 * 6) ≤ 6 * (2 * 6) := Nat.mul_le_mul_right _ (by omega)
 unfold standsL;omega
def spotP (f : Ft) (p : St) : Sp := (p,maskOf f p)
theorem spots_is (s : Bx) (f : Ft) : spotsL s f = (standsL s f).map (spotP f) := rfl
theorem own_cells {W : World} {base size n : Nat} {e : TypeId} {v : Value} {xs : List Value} (h : W.ownsRow base e size v n xs) : ∀ j o,v.ownBlock = some j → W.heap[j]? = some o → o.isCells = true := by
 intro j o ej hj
 rcases h.2 with ⟨rfl,_⟩ | ⟨g,cap,cur,rfl,_,hgb,_⟩
 ·simp [Value.ownBlock] at ej
 ·obtain rfl : g = j := by simpa [Value.ownBlock] using ej
  rw [hgb] at hj;cases hj;rfl
theorem grown_setc (W : World) (a : Addr) (v : Value) : W.grownBy (W.setCell a v) (some a.block) :=
 ⟨rfl,rfl,rfl,by simp,fun k _ hk => Below.heap_setCell _ _ _ k (fun e => hk (by rw [e]))⟩
theorem Filling.slot {w1 Wb w2 w3 : World} {g i T n : Nat} {xs : List Value} {v c0 : Value} (hlt : g < w1.heap.size) (hc : w1.cell? ⟨g,i,none⟩ = some c0) (hf : w1.frozen? ⟨g,i,none⟩ = false) (hO : OutOnly w1 g i Wb) (c1 : Wb.cell? ⟨g,i,none⟩ = some v) (hb : Below Wb.heap.size Wb w2)
  (hown2 : w2.ownsRow w1.heap.size T 4 v n xs) (hg3 : w2.grownBy w3 v.ownBlock) : w3.cell? ⟨g,i,none⟩ = some v ∧ w3.frozen? ⟨g,i,none⟩ = false := by
 have hr : ∀ r,v.ownBlock = some r → w1.heap.size ≤ r := fun r e => (World.ownsRow.lt hown2 r e).1
 exact ⟨grown_kept hg3 (bkeep hb c1) (fun e => by have := hr g e.symm;omega),((hO.next hlt hb).grown hg3 hlt hr).frz i c0 hc hf⟩
theorem Filling.push {w1 Wb w2 w3 : World} {g i T n : Nat} {l : List Sp} {x : Sp} {v v' c0 : Value} (hn : l.length = n) (hlt : g < w1.heap.size) (hc : w1.cell? ⟨g,i,none⟩ = some c0) (hf : w1.frozen? ⟨g,i,none⟩ = false) (hO : OutOnly w1 g i Wb) (c1 : Wb.cell? ⟨g,i,none⟩ = some v) (hb : Below Wb.heap.size Wb w2)
  (hown2 : w2.ownsRow w1.heap.size T 4 v n (l.flatMap cellsA)) (hg3 : w2.grownBy w3 v.ownBlock) (ho3 : w3.ownsRow w1.heap.size T 4 v' (n + 1) (l.flatMap cellsA ++ cellsA x)) :
  Filling w1 g i T (l ++ [x]) (w3.setCell ⟨g,i,none⟩ v') ∧ KeepsOthers Wb (w3.setCell ⟨g,i,none⟩ v') ∧ Wb.heap.size ≤ (w3.setCell ⟨g,i,none⟩ v').heap.size := by
 have hr : ∀ r,v.ownBlock = some r → w1.heap.size ≤ r := fun r e => (World.ownsRow.lt hown2 r e).1
 have hO4 := ((hO.next hlt hb).grown hg3 hlt hr).set v'
 have c3 : w3.cell? ⟨g,i,none⟩ = some v := grown_kept hg3 (bkeep hb c1) (fun e => by have := hr g e.symm;omega)
 refine ⟨⟨hO4,v',⟨setc_same c3,hO4.frz i c0 hc hf⟩, ?_⟩,((keeps_of_below hb).trans (KeepsOthers.of_grownBy hg3 (own_cells hown2))).trans (KeepsOthers.setCell _ _ _), ?_⟩
 ·rw [List.length_append,List.length_singleton,hn,List.flatMap_append,show [x].flatMap cellsA = cellsA x by simp]
  exact ho3.kept (grown_setc w3 ⟨g,i,none⟩ v') (.inr fun e => by have := (World.ownsRow.lt ho3 g e).1;omega)
 ·have := hb.size;have := hg3.size;simp;omega
theorem OutOnly.waits {w1 W : World} {g i : Nat} {ds : List Nat} {u : Value} (h : OutOnly w1 g i W) (hw : Waits ds w1) (hc : w1.cell? ⟨g,i,none⟩ = some u) : Waits ds W := by
 refine ⟨hw.1,fun D hD => ?_⟩
 have h1 := hw.2 D hD
 have h2 := hw.lt hD
 rcases Nat.lt_trichotomy D g with h3 | h3 | h3
 ·rw [h.below.block D h3];exact h1
 ·subst h3;simp [World.cell?,h1] at hc
 ·rw [h.seg D h3 h2];exact h1
theorem SpotsIn.closed {lo hi : Nat} {v : Value} {sp : List (List Sp)} {ds : List Nat} {W W' : World} (h : SpotsIn lo hi v sp W) (hc : Closed ds W W') (hw : Waits ds W) : SpotsIn lo hi v sp W' := by
 obtain ⟨g,hg,e,h⟩ := h
 refine ⟨g,hg,e,fun i l hl => ?_⟩
 obtain ⟨a,cap,h1,h0,h2⟩ := h i l hl
 refine ⟨a,cap,hc.cell hw h1,h0,fun k x hx => ?_⟩
 obtain ⟨b,hb,e2,h3⟩ := h2 k x hx
 exact ⟨b,hb,e2,fun j u hu => hc.cell hw (h3 j u hu)⟩
end Go.Pb.Sag
namespace Go.Pb.Sag
open Go Go.Pb Go.Pb.Ware Go.RowKit

theorem packs_cons {l : List Sp} {ls : List (List Sp)} {u : Nat} : packsF (l :: ls) u ≠ [] ↔ ∃ a ∈ l,u &&& a.2 = 0 ∧ packsF ls (u ||| a.2) ≠ [] := by
 rw [packsF]
 constructor
 ·intro h
  obtain ⟨x,hx⟩ := List.exists_mem_of_ne_nil _ h
  obtain ⟨a,ha,hxa⟩ := List.mem_flatMap.1 hx
  refine ⟨a,ha, ?_⟩
  by_cases hm : (u &&& a.2 != 0) = true
  ·rw [if_pos hm] at hxa;cases hxa
  ·rw [if_neg hm] at hxa
   refine ⟨by simpa using hm,fun e => ?_⟩
   rw [e] at hxa;cases hxa
 ·rintro ⟨a,ha,h0,hne⟩ e
  obtain ⟨x,hx⟩ := List.exists_mem_of_ne_nil _ hne
  have h1 : a.1 :: x ∈ l.flatMap fun a => if (u &&& a.2 != 0) = true then [] else (packsF ls (u ||| a.2)).map (a.1 :: ·) := by
   refine List.mem_flatMap.2 ⟨a,ha, ?_⟩
   rw [if_neg (by simp [h0])]
   exact List.mem_map.2 ⟨x,hx,rfl⟩
  rw [e] at h1;cases h1
theorem or_and_zero {u a b : Nat} : (u ||| a) &&& b = 0 ↔ u &&& b = 0 ∧ a &&& b = 0 := by
 rw [Nat.and_or_distrib_right,Nat.or_eq_zero_iff]
theorem packs_swap {l1 l2 : List Sp} {ls : List (List Sp)} {u : Nat} (h : packsF (l1 :: l2 :: ls) u ≠ []) : packsF (l2 :: l1 :: ls) u ≠ [] := by
 obtain ⟨a,ha,h0,h1⟩ := packs_cons.1 h
 obtain ⟨b,hb,h2,h3⟩ := packs_cons.1 h1
 obtain ⟨h4,h5⟩ := or_and_zero.1 h2
 refine packs_cons.2 ⟨b,hb,h4,packs_cons.2 ⟨a,ha,or_and_zero.2 ⟨h0,by rw [Nat.and_comm];exact h5⟩, ?_⟩⟩
 have e : u ||| b.2 ||| a.2 = u ||| a.2 ||| b.2 := by rw [Nat.or_assoc,Nat.or_comm b.2, ← Nat.or_assoc]
 rw [e];exact h3
theorem packs_perm {l m : List (List Sp)} (h : l.Perm m) : ∀ u,packsF l u ≠ [] → packsF m u ≠ [] := by
 induction h with
 | nil => exact fun _ h => h
 | cons x _ ih =>
  intro u h
  obtain ⟨a,ha,h0,h1⟩ := packs_cons.1 h
  exact packs_cons.2 ⟨a,ha,h0,ih _ h1⟩
 | swap x y l => exact fun u h => packs_swap h
 | trans _ _ ih1 ih2 => exact fun u h => ih2 u (ih1 u h)
end Go.Pb.Sag
namespace Go.Pb.Sag
open Go Go.Pb Go.Pb.Ware Go.RowKit Go.Proofs Go.Sort

abbrev FtV := {f : Ft // FtOk f}
instance : Inhabited FtV := ⟨⟨⟨1,1,0,0⟩,by unfold FtOk;simp⟩⟩
def encF (f : FtV) : List Value := cellsF f.1
def cmpF (x y : FtV) : Int := y.1.wide * y.1.deep - x.1.wide * x.1.deep
theorem cmpF_swo : SWO (ltOf cmpF) where
 irrefl x := by unfold ltOf cmpF;simp
 trans x y z h1 h2 := by unfold ltOf cmpF at *;simp only [decide_eq_true_eq] at *;omega
 ntrans x y z h1 h2 := by unfold ltOf cmpF at *;simp only [decide_eq_false_iff_not] at *;omega
def valF (fs : List Ft) (hok : ∀ f ∈ fs,FtOk f) : Array FtV := (fs.attachWith FtOk hok).toArray
theorem valF_size (fs : List Ft) (hok : ∀ f ∈ fs,FtOk f) : (valF fs hok).size = fs.length := by simp [valF]
theorem valF_map (fs : List Ft) (hok : ∀ f ∈ fs,FtOk f) : (valF fs hok).toList.map (·.1) = fs := by unfold valF;simp
theorem owns_frozen {w : World} {base size n g : Nat} {e : TypeId} {v : Value} {xs : List Value} (h : w.ownsRow base e size v n xs) (hg : v.ownBlock = some g) (o : Nat) : w.frozen? ⟨g,o,none⟩ = false := by
 rcases h.2 with ⟨rfl,_⟩ | ⟨g',cap,cur,rfl,_,hgb,_⟩
 ·simp [Value.ownBlock] at hg
 ·obtain rfl : g' = g := by simpa [Value.ownBlock] using hg
  simp [World.frozen?,hgb]
theorem holdsF {w : World} {base b cap : Nat} {e : TypeId} {fs : List Ft} (hok : ∀ f ∈ fs,FtOk f) (h : w.ownsRow base e 4 (.slice (some ⟨b,0,none⟩) fs.length cap) fs.length (fs.flatMap cellsF)) : HoldsK encF 4 w b 0 (valF fs hok) := by
 intro t ht
 rw [size_flatK,valF_size] at ht
 refine ⟨?_,owns_frozen h rfl _⟩
 rw [get_flatK _ _ _ _ (by rw [valF_size];exact ht)]
 have hk : t / 4 < fs.length := by omega
 have hk2 : t / 4 < (valF fs hok).size := by rw [valF_size];exact hk
 have hf : ((valF fs hok)[t / 4]!).1 = fs[t / 4] := by
  rw [getElem!_pos (valF fs hok) (t / 4) hk2]
  have h1 : ((valF fs hok).toList.map (·.1))[t / 4]? = some fs[t / 4] := by rw [valF_map];exact List.getElem?_eq_getElem hk
  rw [List.getElem?_map,Array.getElem?_toList,Array.getElem?_eq_getElem hk2] at h1
  simpa using h1
 have hu : (cellsF fs[t / 4])[t % 4]? = some ((encF (valF fs hok)[t / 4]!)[t % 4]!) := by
  unfold encF;rw [hf]
  have hlt : t % 4 < (cellsF fs[t / 4]).length := by show t % 4 < 4;omega
  rw [getElem!_pos (cellsF fs[t / 4]) (t % 4) hlt,List.getElem?_eq_getElem hlt]
 have h2 := h.cells (g := b) rfl t _ (by
  have h3 := flat_get (n := 4) cellsF (fun _ => rfl) (List.getElem?_eq_getElem hk) (j := t % 4) (by omega)
  rw [show t / 4 * 4 + t % 4 = t by omega] at h3
  rw [h3];exact hu)
 rw [Go.WideShapes.add_plain] at h2
 exact h2
theorem feetAt_holds {w : World} {b n cap : Nat} {d : Array FtV} (hn : d.size = n) (hcap : n ≤ cap) (hcap2 : cap ≤ 9223372036854775807) (h : HoldsK encF 4 w b 0 d) : FeetAt w (.slice (some ⟨b,0,none⟩) n cap) (d.toList.map (·.1)) := by
 subst hn
 refine .inr ⟨⟨b,0,none⟩,cap,by simp,by simpa using hcap,hcap2,fun k r hr => ?_⟩
 rw [List.getElem?_map,List.getElem?_map,Array.getElem?_toList] at hr
 have hk : k < d.size := by
  rcases Nat.lt_or_ge k d.size with h1 | h1
  ·exact h1
  ·rw [Array.getElem?_eq_none h1] at hr;simp at hr
 rw [Array.getElem?_eq_getElem hk] at hr
 have hr2 : rowF d[k].1 = r := by simpa using hr
 subst hr2
 refine ⟨rfl,fun j z hz => ⟨?_,i64F d[k].2 z (List.mem_of_getElem? hz)⟩⟩
 have hj : j < 4 := (List.getElem?_eq_some_iff.1 hz).1
 have h1 := (h.cell hk hj).1
 rw [Go.WideShapes.add_plain,show 0 + (k * 4 + j) = 0 + k * 4 + j by omega,h1,getElem!_pos d k hk]
 unfold encF
 have h2 : (cellsF d[k].1)[j]? = some (.int .i64 z) := by
  have : cellsF d[k].1 = (rowF d[k].1).map (.int .i64) := rfl
  rw [this,List.getElem?_map,hz];rfl
 have hlt : j < (cellsF d[k].1).length := hj
 rw [getElem!_pos (cellsF d[k].1) j hlt, ← List.getElem?_eq_getElem hlt,h2]
theorem permF {fs : List Ft} {hok : ∀ f ∈ fs,FtOk f} {d : Array FtV} (h : PermIn 0 (valF fs hok).size (valF fs hok) d) : d.size = fs.length ∧ (d.toList.map (·.1)).Perm fs := by
 obtain ⟨h1,_,h3⟩ := h
 refine ⟨by rw [h1,valF_size], ?_⟩
 have e1 : d.extract 0 (valF fs hok).size = d := by rw [← h1];simp
 have e2 : (valF fs hok).extract 0 (valF fs hok).size = valF fs hok := by simp
 rw [e1,e2] at h3
 have h4 := h3.map (fun x : FtV => x.1)
 rw [valF_map] at h4
 exact h4
theorem below_sort {w : World} {B b m : Nat} {d : Array FtV} {os : Array Obj} (hb : B ≤ b) (hB : B ≤ w.heap.size) : Below B w (sortWorldK encF 4 w b 0 m d os) := by
 refine ⟨rfl,rfl,rfl,size_sortWorldK_c ..,fun k hk => ?_⟩
 unfold sortWorldK
 rw [heap_grow_old _ _ (by simp [putRowK];omega)]
 unfold putRowK putRow mapBlock
 rw [Array.getElem?_modify,if_neg (by omega)]
 rfl
end Go.Pb.Sag
namespace Go.Pb.Sag
open Go Go.Pb Go.Pb.Ware Go.RowKit
theorem sum_perm {l m : List Int} (h : l.Perm m) : l.sum = m.sum := by
 induction h with
 | nil => rfl
 | cons x _ ih => rw [List.sum_cons,List.sum_cons,ih]
 | swap x y l => simp only [List.sum_cons];omega
 | trans _ _ h1 h2 => exact h1.trans h2
def fitsB (s : Bx) (fs : List Ft) : Bool := !(shownL s fs).isEmpty
theorem plain_perm {s : Bx} {fs gs : List Ft} (h : gs.Perm fs) : plainB s gs = plainB s fs := by
 have h1 : ∀ p : Ft → Bool,gs.any p = fs.any p := fun p => by
  rw [Bool.eq_iff_iff,List.any_eq_true,List.any_eq_true]
  exact ⟨fun ⟨x,hx,e⟩ => ⟨x,h.mem_iff.1 hx,e⟩,fun ⟨x,hx,e⟩ => ⟨x,h.mem_iff.2 hx,e⟩⟩
 have h2 : weightL gs = weightL fs := sum_perm (h.map _)
 have h3 : areaL gs = areaL fs := sum_perm (h.map _)
 have h4 : ∀ k,troubleB s gs k = troubleB s fs k := fun k => by unfold troubleB;rw [h1,h1,h2,h3]
 unfold plainB;rw [h4,h4,h4,h4]
theorem fits_perm {s : Bx} {fs gs : List Ft} (h : gs.Perm fs) : fitsB s gs = fitsB s fs := by
 have key : ∀ {fs gs : List Ft},gs.Perm fs → shownL s gs ≠ [] → shownL s fs ≠ [] := by
  intro fs gs h h1
  unfold shownL at h1 ⊢
  rw [plain_perm h] at h1
  split at h1
  ·exact absurd rfl h1
  ·rename_i hp;rw [if_neg hp];exact packs_perm (h.map _) 0 h1
 unfold fitsB
 rw [Bool.eq_iff_iff]
 simp only [Bool.not_eq_true',List.isEmpty_eq_false_iff]
 exact ⟨key h,key h.symm⟩
theorem fits_none {s : Bx} {fs : List Ft} (h : (shownL s fs)[0]? = none) : fitsB s fs = false := by
 unfold fitsB;cases hs : shownL s fs with
 | nil => rfl
 | cons a l => rw [hs] at h;simp at h
theorem fits_some {s : Bx} {fs : List Ft} {q : List St} (h : (shownL s fs)[0]? = some q) : fitsB s fs = true := by
 unfold fitsB;cases hs : shownL s fs with
 | nil => rw [hs] at h;simp at h
 | cons a l => rfl
end Go.Pb.Sag
namespace Go.Pb
open Go Go.RowKit

structure LAt (n : Nat) (w : World) (v : Value) (m : Nat) (cs : List Value) : Prop where
 len : cs.length = m * n
 one : ∀ u ∈ cs,u.oneCell' = true
 at' : (v = .slice none 0 0 ∧ m = 0) ∨ ∃ (a : Addr) (cap : Nat),v = .slice (some a) m cap ∧ m ≤ cap ∧ cap ≤ 9223372036854775807 ∧ ∀ j u,cs[j]? = some u → w.cell? (a.add j) = some u
theorem LAt.below {n m : Nat} {w w' : World} {v : Value} {cs : List Value} (h : LAt n w v m cs) (hb : Below w.heap.size w w') : LAt n w' v m cs :=
 ⟨h.len,h.one,by
  rcases h.at' with h1 | ⟨a,cap,h1,h2,h3,h4⟩
  ·exact .inl h1
  ·exact .inr ⟨a,cap,h1,h2,h3,fun j u hu => bkeep hb (h4 j u hu)⟩⟩
theorem LAt.shape {n m : Nat} {w : World} {v : Value} {cs : List Value} (h : LAt n w v m cs) : ∃ (a : Option Addr) (cap : Nat),v = .slice a m cap ∧ m ≤ cap ∧ cap ≤ 9223372036854775807 ∧ (a = none → m = 0 ∧ cap = 0) := by
 rcases h.at' with ⟨h1,h2⟩ | ⟨a,cap,h1,h2,h3,h4⟩
 ·subst h2;exact ⟨none,0,h1,Nat.le_refl _,by omega,fun _ => ⟨rfl,rfl⟩⟩
 ·exact ⟨some a,cap,h1,h2,h3,fun e => by cases e⟩
theorem LAt.cells {n m cap : Nat} {w : World} {a : Addr} {cs : List Value} (h : LAt n w (.slice (some a) m cap) m cs) : ∀ j u,cs[j]? = some u → w.cell? (a.add j) = some u := by
 rcases h.at' with ⟨h1,_⟩ | ⟨a',cap',h1,_,_,h4⟩
 ·cases h1
 ·injection h1 with h1 _ _;injection h1 with h1;subst h1;exact h4
theorem LAt.nil {n cap : Nat} {w : World} {cs : List Value} {m : Nat} (h : LAt n w (.slice none m cap) m cs) : m = 0 ∧ cap = 0 ∧ cs = [] := by
 rcases h.at' with ⟨h1,h2⟩ | ⟨a',cap',h1,_,_,h4⟩
 ·injection h1 with _ _ h3;subst h2;exact ⟨rfl,h3,List.length_eq_zero_iff.1 (by rw [h.len];simp)⟩
 ·injection h1 with h1 _ _;cases h1
theorem LAt.head {n m cap k : Nat} {w : World} {a : Addr} {cs : List Value} (h : LAt n w (.slice (some a) m cap) m cs) (hk : k ≤ m) : LAt n w (.slice (some a) k cap) k (cs.take (k * n)) := by
 obtain ⟨_,cap',e,h2,h3,_⟩ := h.shape
 injection e with _ _ e;subst e
 refine ⟨by rw [List.length_take,h.len];exact Nat.min_eq_left (Nat.mul_le_mul_right n hk),fun u hu => h.one u (List.mem_of_mem_take hu), .inr ⟨a,cap,rfl,by omega,h3,fun j u hu => ?_⟩⟩
 rw [List.getElem?_take] at hu
 split at hu
 ·exact h.cells j u hu
 ·cases hu
theorem LAt.tail {n m cap k : Nat} {w : World} {a q : Addr} {cs : List Value} (h : LAt n w (.slice (some a) m cap) m cs) (hk : k ≤ m) (hq : k < m → q = a.add (k * n)) : LAt n w (.slice (some q) (m - k) (cap - k)) (m - k) (cs.drop (k * n)) := by
 obtain ⟨_,cap',e,h2,h3,_⟩ := h.shape
 injection e with _ _ e;subst e
 refine ⟨by rw [List.length_drop,h.len,Nat.sub_mul],fun u hu => h.one u (List.mem_of_mem_drop hu), .inr ⟨q,cap - k,rfl,by omega,by omega,fun j u hu => ?_⟩⟩
 have hkm : k < m := by
  rcases Nat.lt_or_ge k m with h5 | h5
  ·exact h5
  ·have h6 := (List.getElem?_eq_some_iff.1 hu).1
   rw [List.length_drop,h.len] at h6
   have := Nat.mul_le_mul_right n h5
   omega
 rw [hq hkm,Go.Deep.add_add]
 rw [List.getElem?_drop] at hu
 exact h.cells _ u hu
end Go.Pb
namespace Go.Pb.Sag
open Go Go.Pb Go.Pb.Ware Go.RowKit

end Go.Pb.Sag
namespace Go.Proofs
open Go.Shelf

def Tryz.lays169_ren : Go.Shelf.Ren := ⟨fun | 169 => 14 | n => n,fun | 70 => 32 | 9 => 9 | 0 => 0 | 72 => 35 | 37 => 33 | 127 => 84 | 3 => 3 | 5 => 5 | n => n,fun | n => n⟩
theorem Tryz.lays169 : Go.Proofs.Lays.n169 Tryz.prog Tryz.lays169_ren := {
 mixed := by kernel_rfl
 f169 := Tryz.func14.trans (congrArg some (by kernel_rfl))
 t0 := Tryz.underlying0
 a0 := Tryz.isAgg0
 z0 := Tryz.sizeOf0
 v0 := Tryz.zeroValue0
 t3 := Tryz.underlying3
 a3 := Tryz.isAgg3
 z3 := Tryz.sizeOf3
 v3 := Tryz.zeroValue3
 t9 := Tryz.underlying9
 a9 := Tryz.isAgg9
 z9 := Tryz.sizeOf9
 v9 := Tryz.zeroValue9
 t37 := Tryz.underlying33
 a37 := Tryz.isAgg33
 z37 := Tryz.sizeOf33
 v37 := Tryz.zeroValue33
 t70 := Tryz.underlying32
 a70 := Tryz.isAgg32
 z70 := Tryz.sizeOf32
 v70 := Tryz.zeroValue32
 t72 := Tryz.underlying35
 a72 := Tryz.isAgg35
 z72 := Tryz.sizeOf35
 v72 := Tryz.zeroValue35
 t127 := Tryz.underlying84
 a127 := Tryz.isAgg84
 z127 := Tryz.sizeOf84
 v127 := Tryz.zeroValue84 }
theorem Tryz.Builder_Extra_169 : Builder.Extra Tryz.prog Tryz.lays169_ren := {
 sizeBuilder := by kernel_rfl
 liesBuilder := by kernel_rfl
 t5 := Tryz.underlying5
 a5 := Tryz.isAgg5
 z5 := Tryz.sizeOf5
 v5 := Tryz.zeroValue5
 infoByte := by kernel_rfl
 cellsByte := by kernel_rfl
 sizeByte := by kernel_rfl
 neB5 := by decide }
open Go.RowKit in
theorem Tryz.Builder_String_any (B b : Nat) (l : List UInt8) (w : World) (h : Lib.IsBuilder 35 5 B b (Lib.byteCells l) w) (hBw : B ≤ w.heap.size) :
  Calls Tryz.prog 14 #[.pointer (some ⟨b,0,none⟩)] w fun e w' => e = .returned (.string ⟨l.toArray⟩) ∧ Below B w w' := Any.Builder_String_any Tryz.lays169 Tryz.Builder_Extra_169 B b l w h hBw
def Tryz.lays171_ren : Go.Shelf.Ren := ⟨fun | 171 => 12 | 243 => 32 | 246 => 50 | 283 => 79 | 284 => 80 | 285 => 81 | 286 => 82 | 129 => 106 | 317 => 105 | 318 => 107 | 319 => 108 | 320 => 109 | 337 => 122 | 338 => 123 | n => n,fun | 3 => 3 | 9 => 9 | 2 => 2 | 4 => 4 | 171 => 144 | 0 => 0 | 53 => 129 | 37 => 33 | 5 => 5 | 173 => 147 | 212 => 180 | 51 => 181 | 20 => 20 | 213 => 182 | 46 => 183 | 232 => 207 | 233 => 208 | n => n,fun | 17 => 0 | 18 => 2 | 19 => 3 | n => n⟩
theorem Tryz.lays171 : Go.Proofs.Lays.n171 Tryz.prog Tryz.lays171_ren := {
 mixed := by kernel_rfl
 f129 := Tryz.func106.trans (congrArg some (by kernel_rfl))
 f171 := Tryz.func12.trans (congrArg some (by kernel_rfl))
 f243 := Tryz.func32.trans (congrArg some (by kernel_rfl))
 f246 := Tryz.func50.trans (congrArg some (by kernel_rfl))
 f283 := Tryz.func79.trans (congrArg some (by kernel_rfl))
 f284 := Tryz.func80.trans (congrArg some (by kernel_rfl))
 f285 := Tryz.func81.trans (congrArg some (by kernel_rfl))
 f286 := Tryz.func82.trans (congrArg some (by kernel_rfl))
 f317 := Tryz.func105.trans (congrArg some (by kernel_rfl))
 f318 := Tryz.func107.trans (congrArg some (by kernel_rfl))
 f319 := Tryz.func108.trans (congrArg some (by kernel_rfl))
 f320 := Tryz.func109.trans (congrArg some (by kernel_rfl))
 f337 := Tryz.func122.trans (congrArg some (by kernel_rfl))
 f338 := Tryz.func123.trans (congrArg some (by kernel_rfl))
 t0 := Tryz.underlying0
 a0 := Tryz.isAgg0
 z0 := Tryz.sizeOf0
 v0 := Tryz.zeroValue0
 t2 := Tryz.underlying2
 a2 := Tryz.isAgg2
 z2 := Tryz.sizeOf2
 v2 := Tryz.zeroValue2
 t3 := Tryz.underlying3
 a3 := Tryz.isAgg3
 z3 := Tryz.sizeOf3
 v3 := Tryz.zeroValue3
 t4 := Tryz.underlying4
 a4 := Tryz.isAgg4
 z4 := Tryz.sizeOf4
 v4 := Tryz.zeroValue4
 t5 := Tryz.underlying5
 a5 := Tryz.isAgg5
 z5 := Tryz.sizeOf5
 v5 := Tryz.zeroValue5
 t9 := Tryz.underlying9
 a9 := Tryz.isAgg9
 z9 := Tryz.sizeOf9
 v9 := Tryz.zeroValue9
 t20 := Tryz.underlying20
 a20 := Tryz.isAgg20
 z20 := Tryz.sizeOf20
 v20 := Tryz.zeroValue20
 t37 := Tryz.underlying33
 a37 := Tryz.isAgg33
 z37 := Tryz.sizeOf33
 v37 := Tryz.zeroValue33
 t46 := Tryz.underlying183
 a46 := Tryz.isAgg183
 z46 := Tryz.sizeOf183
 v46 := Tryz.zeroValue183
 t51 := Tryz.underlying181
 a51 := Tryz.isAgg181
 z51 := Tryz.sizeOf181
 v51 := Tryz.zeroValue181
 t53 := Tryz.underlying129
 a53 := Tryz.isAgg129
 z53 := Tryz.sizeOf129
 v53 := Tryz.zeroValue129
 t171 := Tryz.underlying144
 a171 := Tryz.isAgg144
 z171 := Tryz.sizeOf144
 v171 := Tryz.zeroValue144
 t173 := Tryz.underlying147
 a173 := Tryz.isAgg147
 z173 := Tryz.sizeOf147
 v173 := Tryz.zeroValue147
 t212 := Tryz.underlying180
 a212 := Tryz.isAgg180
 z212 := Tryz.sizeOf180
 v212 := Tryz.zeroValue180
 t213 := Tryz.underlying182
 a213 := Tryz.isAgg182
 z213 := Tryz.sizeOf182
 t232 := Tryz.underlying207
 a232 := Tryz.isAgg207
 z232 := Tryz.sizeOf207
 v232 := Tryz.zeroValue207
 t233 := Tryz.underlying208
 a233 := Tryz.isAgg208
 z233 := Tryz.sizeOf208
 v233 := Tryz.zeroValue208
 g17 := by kernel_rfl
 g18 := by kernel_rfl
 g19 := by kernel_rfl }
open Go.RowKit Go.Sort Go.Lib in
theorem Tryz.strconv_Itoa_small (i : Nat) (hi : i < 100) (w : World) :
  Calls Tryz.prog 12 #[.int .i64 i] w fun e w' => e = .returned (.string ⟨(Lib.decDigits i).toArray⟩) ∧ w' = w := Any.strconv_Itoa_small Tryz.lays171 i hi w
def Tryz.lays99_ren : Go.Shelf.Ren := ⟨fun | 99 => 52 | 206 => 86 | n => n,fun | 9 => 9 | 4 => 4 | 3 => 3 | n => n,fun | n => n⟩
theorem Tryz.lays99 : Go.Proofs.Lays.n99 Tryz.prog Tryz.lays99_ren := {
 mixed := by kernel_rfl
 f99 := Tryz.func52.trans (congrArg some (by kernel_rfl))
 f206 := Tryz.func86.trans (congrArg some (by kernel_rfl))
 t3 := Tryz.underlying3
 a3 := Tryz.isAgg3
 z3 := Tryz.sizeOf3
 v3 := Tryz.zeroValue3
 t4 := Tryz.underlying4
 a4 := Tryz.isAgg4
 z4 := Tryz.sizeOf4
 v4 := Tryz.zeroValue4
 t9 := Tryz.underlying9
 a9 := Tryz.isAgg9
 z9 := Tryz.sizeOf9
 v9 := Tryz.zeroValue9 }
open Go.RowKit Go.Lib in
theorem Tryz.strings_HasPrefix (s p : ByteArray) (w : World) :
  Calls Tryz.prog 52 #[.string s, .string p] w fun e w' => e = .returned (.bool (Lib.hasPrefix s.data.toList p.data.toList)) ∧ w' = w := Any.strings_HasPrefix Tryz.lays99 s p w
def Tryz.lays146_ren : Go.Shelf.Ren := ⟨fun | 146 => 35 | 221 => 51 | 268 => 83 | 138 => 84 | 143 => 85 | 195 => 110 | 197 => 111 | 218 => 112 | 219 => 113 | 260 => 124 | 217 => 125 | 225 => 126 | 224 => 127 | 267 => 128 | 266 => 139 | 314 => 140 | n => n,fun | 9 => 9 | 31 => 48 | 3 => 3 | 4 => 4 | 0 => 0 | 105 => 186 | 21 => 21 | 5 => 5 | 46 => 183 | 119 => 209 | 139 => 212 | 138 => 211 | 146 => 213 | 51 => 181 | n => n,fun | 1 => 1 | 3 => 4 | 4 => 5 | n => n⟩
theorem Tryz.lays146 : Go.Proofs.Lays.n146 Tryz.prog Tryz.lays146_ren := {
 mixed := by kernel_rfl
 f138 := Tryz.func84.trans (congrArg some (by kernel_rfl))
 f143 := Tryz.func85.trans (congrArg some (by kernel_rfl))
 f146 := Tryz.func35.trans (congrArg some (by kernel_rfl))
 f195 := Tryz.func110.trans (congrArg some (by kernel_rfl))
 f197 := Tryz.func111.trans (congrArg some (by kernel_rfl))
 f217 := Tryz.func125.trans (congrArg some (by kernel_rfl))
 f218 := Tryz.func112.trans (congrArg some (by kernel_rfl))
 f219 := Tryz.func113.trans (congrArg some (by kernel_rfl))
 f221 := Tryz.func51.trans (congrArg some (by kernel_rfl))
 f224 := Tryz.func127.trans (congrArg some (by kernel_rfl))
 f225 := Tryz.func126.trans (congrArg some (by kernel_rfl))
 f260 := Tryz.func124.trans (congrArg some (by kernel_rfl))
 f266 := Tryz.func139.trans (congrArg some (by kernel_rfl))
 f267 := Tryz.func128.trans (congrArg some (by kernel_rfl))
 f268 := Tryz.func83.trans (congrArg some (by kernel_rfl))
 f314 := Tryz.func140.trans (congrArg some (by kernel_rfl))
 t0 := Tryz.underlying0
 a0 := Tryz.isAgg0
 z0 := Tryz.sizeOf0
 v0 := Tryz.zeroValue0
 t3 := Tryz.underlying3
 a3 := Tryz.isAgg3
 z3 := Tryz.sizeOf3
 v3 := Tryz.zeroValue3
 t4 := Tryz.underlying4
 a4 := Tryz.isAgg4
 z4 := Tryz.sizeOf4
 v4 := Tryz.zeroValue4
 t5 := Tryz.underlying5
 a5 := Tryz.isAgg5
 z5 := Tryz.sizeOf5
 v5 := Tryz.zeroValue5
 t9 := Tryz.underlying9
 a9 := Tryz.isAgg9
 z9 := Tryz.sizeOf9
 v9 := Tryz.zeroValue9
 t21 := Tryz.underlying21
 a21 := Tryz.isAgg21
 z21 := Tryz.sizeOf21
 v21 := Tryz.zeroValue21
 t31 := Tryz.underlying48
 a31 := Tryz.isAgg48
 z31 := Tryz.sizeOf48
 v31 := Tryz.zeroValue48
 t46 := Tryz.underlying183
 a46 := Tryz.isAgg183
 z46 := Tryz.sizeOf183
 v46 := Tryz.zeroValue183
 t51 := Tryz.underlying181
 a51 := Tryz.isAgg181
 z51 := Tryz.sizeOf181
 v51 := Tryz.zeroValue181
 t105 := Tryz.underlying186
 a105 := Tryz.isAgg186
 z105 := Tryz.sizeOf186
 v105 := Tryz.zeroValue186
 t119 := Tryz.underlying209
 a119 := Tryz.isAgg209
 z119 := Tryz.sizeOf209
 t138 := Tryz.underlying211
 a138 := Tryz.isAgg211
 z138 := Tryz.sizeOf211
 v138 := Tryz.zeroValue211
 t139 := Tryz.underlying212
 a139 := Tryz.isAgg212
 z139 := Tryz.sizeOf212
 v139 := Tryz.zeroValue212
 t146 := Tryz.underlying213
 a146 := Tryz.isAgg213
 z146 := Tryz.sizeOf213
 v146 := Tryz.zeroValue213
 g1 := by kernel_rfl
 g3 := by kernel_rfl
 g4 := by kernel_rfl }
open Go.RowKit Go.Lib in
theorem Tryz.strings_Split (s sep : ByteArray) (m : Int) (w : World) (hs : s.size < 4294967281) (hm : w.cell? ⟨1,0,none⟩ = some (.int .i64 m)) (h1 : 1 ≤ sep.size) :
  Calls Tryz.prog 35 #[.string s, .string sep] w fun e w' =>
   e = .returned (.slice (some ⟨w.heap.size,0,none⟩) (Lib.countB s sep + 1) (Lib.countB s sep + 1)) ∧ w' = w.alloc (.cells ((Lib.splitB sep 0 (Lib.countB s sep) s).map Value.string).toArray 9) := Any.strings_Split Tryz.lays146 (by kernel_rfl) s sep m w hs hm h1
def Tryz.laysM146_ren : Go.Shelf.Ren := ⟨fun | 146 => 35 | 221 => 51 | 268 => 83 | 138 => 84 | 143 => 85 | 195 => 110 | 197 => 111 | 218 => 112 | 219 => 113 | 260 => 124 | 217 => 125 | 225 => 126 | 224 => 127 | 267 => 128 | 266 => 139 | 314 => 140 | n => n,fun | 9 => 9 | 31 => 48 | 3 => 3 | 4 => 4 | 0 => 0 | 105 => 186 | 21 => 21 | 5 => 5 | 46 => 183 | 119 => 209 | 139 => 212 | 138 => 211 | 146 => 213 | 51 => 181 | n => n,fun | 1 => 1 | 3 => 4 | 4 => 5 | n => n⟩
theorem Tryz.laysM146 : Go.Proofs.LaysM.n146 Tryz.prog Tryz.laysM146_ren := {
 mixed := by kernel_rfl
 f138 := Tryz.func84.trans (congrArg some (by kernel_rfl))
 f143 := Tryz.func85.trans (congrArg some (by kernel_rfl))
 f146 := Tryz.func35.trans (congrArg some (by kernel_rfl))
 f195 := Tryz.func110.trans (congrArg some (by kernel_rfl))
 f197 := Tryz.func111.trans (congrArg some (by kernel_rfl))
 f217 := Tryz.func125.trans (congrArg some (by kernel_rfl))
 f218 := Tryz.func112.trans (congrArg some (by kernel_rfl))
 f219 := Tryz.func113.trans (congrArg some (by kernel_rfl))
 f221 := Tryz.func51.trans (congrArg some (by kernel_rfl))
 f224 := Tryz.func127.trans (congrArg some (by kernel_rfl))
 f225 := Tryz.func126.trans (congrArg some (by kernel_rfl))
 f260 := Tryz.func124.trans (congrArg some (by kernel_rfl))
 f266 := Tryz.func139.trans (congrArg some (by kernel_rfl))
 f267 := Tryz.func128.trans (congrArg some (by kernel_rfl))
 f268 := Tryz.func83.trans (congrArg some (by kernel_rfl))
 f314 := Tryz.func140.trans (congrArg some (by kernel_rfl))
 t0 := Tryz.underlying0
 a0 := Tryz.isAgg0
 z0 := Tryz.sizeOf0
 v0 := Tryz.zeroValue0
 t3 := Tryz.underlying3
 a3 := Tryz.isAgg3
 z3 := Tryz.sizeOf3
 v3 := Tryz.zeroValue3
 t4 := Tryz.underlying4
 a4 := Tryz.isAgg4
 z4 := Tryz.sizeOf4
 v4 := Tryz.zeroValue4
 t5 := Tryz.underlying5
 a5 := Tryz.isAgg5
 z5 := Tryz.sizeOf5
 v5 := Tryz.zeroValue5
 t9 := Tryz.underlying9
 a9 := Tryz.isAgg9
 z9 := Tryz.sizeOf9
 v9 := Tryz.zeroValue9
 t21 := Tryz.underlying21
 a21 := Tryz.isAgg21
 z21 := Tryz.sizeOf21
 v21 := Tryz.zeroValue21
 t31 := Tryz.underlying48
 a31 := Tryz.isAgg48
 z31 := Tryz.sizeOf48
 v31 := Tryz.zeroValue48
 t46 := Tryz.underlying183
 a46 := Tryz.isAgg183
 z46 := Tryz.sizeOf183
 v46 := Tryz.zeroValue183
 t51 := Tryz.underlying181
 a51 := Tryz.isAgg181
 z51 := Tryz.sizeOf181
 v51 := Tryz.zeroValue181
 t105 := Tryz.underlying186
 a105 := Tryz.isAgg186
 z105 := Tryz.sizeOf186
 v105 := Tryz.zeroValue186
 t119 := Tryz.underlying209
 a119 := Tryz.isAgg209
 z119 := Tryz.sizeOf209
 t138 := Tryz.underlying211
 a138 := Tryz.isAgg211
 z138 := Tryz.sizeOf211
 v138 := Tryz.zeroValue211
 t139 := Tryz.underlying212
 a139 := Tryz.isAgg212
 z139 := Tryz.sizeOf212
 v139 := Tryz.zeroValue212
 t146 := Tryz.underlying213
 a146 := Tryz.isAgg213
 z146 := Tryz.sizeOf213
 v146 := Tryz.zeroValue213
 g1 := by kernel_rfl
 g3 := by kernel_rfl
 g4 := by kernel_rfl
 i0 := by kernel_rfl
 i3 := by kernel_rfl
 i4 := by kernel_rfl
 i5 := by kernel_rfl
 i9 := by kernel_rfl
 i21 := by kernel_rfl
 i31 := by kernel_rfl
 i46 := by kernel_rfl
 i51 := by kernel_rfl
 i105 := by kernel_rfl
 i138 := by kernel_rfl
 i139 := by kernel_rfl
 i146 := by kernel_rfl
 m1 := by kernel_rfl
 s1_3 := fun w h => Go.Proofs.cell_of_shapedOpen_int (zero := #[.int .i64 0]) (t := 3) h (of_decide_eq_true (by kernel_rfl)) (by kernel_rfl) rfl (by kernel_rfl) (by kernel_rfl) Tryz.underlying3
 m3 := by kernel_rfl
 m4 := by kernel_rfl }
def Tryz.lays229_ren : Go.Shelf.Ren := ⟨fun | 229 => 53 | n => n,fun | 9 => 9 | 40 => 113 | 31 => 48 | 152 => 151 | 3 => 3 | 0 => 0 | 4 => 4 | 21 => 21 | 154 => 153 | n => n,fun | n => n⟩
theorem Tryz.lays229 : Go.Proofs.Lays.n229 Tryz.prog Tryz.lays229_ren := {
 mixed := by kernel_rfl
 f229 := Tryz.func53.trans (congrArg some (by kernel_rfl))
 t0 := Tryz.underlying0
 a0 := Tryz.isAgg0
 z0 := Tryz.sizeOf0
 v0 := Tryz.zeroValue0
 t3 := Tryz.underlying3
 a3 := Tryz.isAgg3
 z3 := Tryz.sizeOf3
 v3 := Tryz.zeroValue3
 t4 := Tryz.underlying4
 a4 := Tryz.isAgg4
 z4 := Tryz.sizeOf4
 v4 := Tryz.zeroValue4
 t9 := Tryz.underlying9
 a9 := Tryz.isAgg9
 z9 := Tryz.sizeOf9
 v9 := Tryz.zeroValue9
 t21 := Tryz.underlying21
 a21 := Tryz.isAgg21
 z21 := Tryz.sizeOf21
 v21 := Tryz.zeroValue21
 t31 := Tryz.underlying48
 a31 := Tryz.isAgg48
 z31 := Tryz.sizeOf48
 v31 := Tryz.zeroValue48
 t40 := Tryz.underlying113
 a40 := Tryz.isAgg113
 z40 := Tryz.sizeOf113
 v40 := Tryz.zeroValue113
 t152 := Tryz.underlying151
 a152 := Tryz.isAgg151
 z152 := Tryz.sizeOf151
 v152 := Tryz.zeroValue151
 t154 := Tryz.underlying153
 a154 := Tryz.isAgg153
 z154 := Tryz.sizeOf153
 v154 := Tryz.zeroValue153 }
open Go.RowKit Go.Lib in
theorem Tryz.strings_FieldsFunc_runes (g : Nat) (lb : Array Value) (eg : ∀ args w,(callFunc g args).run Tryz.prog w = .ok (.enter g args) w) (p : Nat → Bool) (s : ByteArray) (w : World) (hs : s.size ≤ 4294967296) (hp : PredAtRunes Tryz.prog g lb p w) :
  Calls Tryz.prog 53 #[.string s, .func (.func g) #[] lb] w fun e w' => ∃ A,e = .returned (.slice (some ⟨A,0,none⟩) (Lib.goFieldsP p s).length (Lib.goFieldsP p s).length) ∧ w.heap.size ≤ A ∧
   w'.ownsRow w.heap.size 9 1 (.slice (some ⟨A,0,none⟩) (Lib.goFieldsP p s).length (Lib.goFieldsP p s).length) (Lib.goFieldsP p s).length ((Lib.goFieldsP p s).map Value.string) ∧ Below w.heap.size w w' := Any.strings_FieldsFunc_runes Tryz.lays229 g lb eg p s w hs hp (by kernel_rfl) (by kernel_rfl)
end Go.Proofs