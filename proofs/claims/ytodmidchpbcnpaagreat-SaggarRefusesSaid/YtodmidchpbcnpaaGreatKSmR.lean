/- Part of a claim. -/
import Derived.Test.YtodmidchpbcnpaaGreatKScR
import Derived.Shelf.SlSortCmp.SmallK
import Derived.Test.YtodmidchpbcnpaaGreatKLibR
import Derived.Shelf.Small.Bits
import Derived.Ground.SlsfProg
import Derived.Test.YtodmidchpbcnpaaGreatProg
import Derived.Laws.CopyOwn
import Derived.Laws.CopyRow
set_option linter.unusedVariables false
set_option linter.unusedSimpArgs false
namespace Go.Pb.Sag
open Go Go.Pb Go.Pb.Ware Go.RowKit Go.Proofs Go.Sort

abbrev FtV := {f : Ft // FtOk f}
instance : Inhabited FtV := ⟨⟨⟨1, 1, 0, 0⟩, by unfold FtOk; simp⟩⟩
def encF (f : FtV) : List Value := cellsF f.1
def cmpF (x y : FtV) : Int := y.1.wide * y.1.deep - x.1.wide * x.1.deep
theorem cmpF_swo : SWO (ltOf cmpF) where
 irrefl x := by unfold ltOf cmpF; simp
 trans x y z h1 h2 := by unfold ltOf cmpF at *; simp only [decide_eq_true_eq] at *; omega
 ntrans x y z h1 h2 := by unfold ltOf cmpF at *; simp only [decide_eq_false_iff_not] at *; omega
def valF (fs : List Ft) (hok : ∀ f ∈ fs, FtOk f) : Array FtV := (fs.attachWith FtOk hok).toArray
theorem valF_size (fs : List Ft) (hok : ∀ f ∈ fs, FtOk f) : (valF fs hok).size = fs.length := by simp [valF]
theorem valF_map (fs : List Ft) (hok : ∀ f ∈ fs, FtOk f) : (valF fs hok).toList.map (·.1) = fs := by unfold valF; simp
theorem owns_frozen {w : World} {base size n g : Nat} {e : TypeId} {v : Value} {xs : List Value} (h : w.ownsRow base e size v n xs) (hg : v.ownBlock = some g) (o : Nat) : w.frozen? ⟨g, o, none⟩ = false := by
 rcases h.2 with ⟨rfl, _⟩ | ⟨g', cap, cur, rfl, _, hgb, _⟩
 ·simp [Value.ownBlock] at hg
 ·obtain rfl : g' = g := by simpa [Value.ownBlock] using hg
  simp [World.frozen?, hgb]
theorem holdsF {w : World} {base b cap : Nat} {e : TypeId} {fs : List Ft} (hok : ∀ f ∈ fs, FtOk f) (h : w.ownsRow base e 4 (.slice (some ⟨b, 0, none⟩) fs.length cap) fs.length (fs.flatMap cellsF)) : HoldsK encF 4 w b 0 (valF fs hok) := by
 intro t ht
 rw [size_flatK, valF_size] at ht
 refine ⟨?_, owns_frozen h rfl _⟩
 rw [get_flatK _ _ _ _ (by rw [valF_size]; exact ht)]
 have hk : t / 4 < fs.length := by omega
 have hk2 : t / 4 < (valF fs hok).size := by rw [valF_size]; exact hk
 have hf : ((valF fs hok)[t / 4]!).1 = fs[t / 4] := by
  rw [getElem!_pos (valF fs hok) (t / 4) hk2]
  have h1 : ((valF fs hok).toList.map (·.1))[t / 4]? = some fs[t / 4] := by rw [valF_map]; exact List.getElem?_eq_getElem hk
  rw [List.getElem?_map, Array.getElem?_toList, Array.getElem?_eq_getElem hk2] at h1
  simpa using h1
 have hu : (cellsF fs[t / 4])[t % 4]? = some ((encF (valF fs hok)[t / 4]!)[t % 4]!) := by
  unfold encF; rw [hf]
  have hlt : t % 4 < (cellsF fs[t / 4]).length := by show t % 4 < 4; omega
  rw [getElem!_pos (cellsF fs[t / 4]) (t % 4) hlt, List.getElem?_eq_getElem hlt]
 have h2 := h.cells (g := b) rfl t _ (by
  have h3 := flat_get (n := 4) cellsF (fun _ => rfl) (List.getElem?_eq_getElem hk) (j := t % 4) (by omega)
  rw [show t / 4 * 4 + t % 4 = t by omega] at h3
  rw [h3]; exact hu)
 rw [Go.WideShapes.add_plain] at h2
 exact h2
theorem feetAt_holds {w : World} {b n cap : Nat} {d : Array FtV} (hn : d.size = n) (hcap : n ≤ cap) (hcap2 : cap ≤ 9223372036854775807) (h : HoldsK encF 4 w b 0 d) : FeetAt w (.slice (some ⟨b, 0, none⟩) n cap) (d.toList.map (·.1)) := by
 subst hn
 refine .inr ⟨⟨b, 0, none⟩, cap, by simp, by simpa using hcap, hcap2, fun k r hr => ?_⟩
 rw [List.getElem?_map, List.getElem?_map, Array.getElem?_toList] at hr
 have hk : k < d.size := by
  rcases Nat.lt_or_ge k d.size with h1 | h1
  ·exact h1
  ·rw [Array.getElem?_eq_none h1] at hr; simp at hr
 rw [Array.getElem?_eq_getElem hk] at hr
 have hr2 : rowF d[k].1 = r := by simpa using hr
 subst hr2
 refine ⟨rfl, fun j z hz => ⟨?_, i64F d[k].2 z (List.mem_of_getElem? hz)⟩⟩
 have hj : j < 4 := (List.getElem?_eq_some_iff.1 hz).1
 have h1 := (h.cell hk hj).1
 rw [Go.WideShapes.add_plain, show 0 + (k * 4 + j) = 0 + k * 4 + j by omega, h1, getElem!_pos d k hk]
 unfold encF
 have h2 : (cellsF d[k].1)[j]? = some (.int .i64 z) := by
  have : cellsF d[k].1 = (rowF d[k].1).map (.int .i64) := rfl
  rw [this, List.getElem?_map, hz]; rfl
 have hlt : j < (cellsF d[k].1).length := hj
 rw [getElem!_pos (cellsF d[k].1) j hlt, ← List.getElem?_eq_getElem hlt, h2]
theorem permF {fs : List Ft} {hok : ∀ f ∈ fs, FtOk f} {d : Array FtV} (h : PermIn 0 (valF fs hok).size (valF fs hok) d) : d.size = fs.length ∧ (d.toList.map (·.1)).Perm fs := by
 obtain ⟨h1, _, h3⟩ := h
 refine ⟨by rw [h1, valF_size], ?_⟩
 have e1 : d.extract 0 (valF fs hok).size = d := by rw [← h1]; simp
 have e2 : (valF fs hok).extract 0 (valF fs hok).size = valF fs hok := by simp
 rw [e1, e2] at h3
 have h4 := h3.map (fun x : FtV => x.1)
 rw [valF_map] at h4
 exact h4
theorem below_sort {w : World} {B b m : Nat} {d : Array FtV} {os : Array Obj} (hb : B ≤ b) (hB : B ≤ w.heap.size) : Below B w (sortWorldK encF 4 w b 0 m d os) := by
 refine ⟨rfl, rfl, rfl, size_sortWorldK_c .., fun k hk => ?_⟩
 unfold sortWorldK
 rw [heap_grow_old _ _ (by simp [putRowK]; omega)]
 unfold putRowK putRow mapBlock
 rw [Array.getElem?_modify, if_neg (by omega)]
 rfl
end Go.Pb.Sag
namespace Go.Pb.Sag
open Go Go.Pb Go.Pb.Ware Go.RowKit
theorem sum_perm {l m : List Int} (h : l.Perm m) : l.sum = m.sum := by
 induction h with
 | nil => rfl
 | cons x _ ih => rw [List.sum_cons, List.sum_cons, ih]
 | swap x y l => simp only [List.sum_cons]; omega
 | trans _ _ h1 h2 => exact h1.trans h2
def fitsB (s : Bx) (fs : List Ft) : Bool := !(shownL s fs).isEmpty
theorem plain_perm {s : Bx} {fs gs : List Ft} (h : gs.Perm fs) : plainB s gs = plainB s fs := by
 have h1 : ∀ p : Ft → Bool, gs.any p = fs.any p := fun p => by
  rw [Bool.eq_iff_iff, List.any_eq_true, List.any_eq_true]
  exact ⟨fun ⟨x, hx, e⟩ => ⟨x, h.mem_iff.1 hx, e⟩, fun ⟨x, hx, e⟩ => ⟨x, h.mem_iff.2 hx, e⟩⟩
 have h2 : weightL gs = weightL fs := sum_perm (h.map _)
 have h3 : areaL gs = areaL fs := sum_perm (h.map _)
 have h4 : ∀ k, troubleB s gs k = troubleB s fs k := fun k => by unfold troubleB; rw [h1, h1, h2, h3]
 unfold plainB; rw [h4, h4, h4, h4]
theorem fits_perm {s : Bx} {fs gs : List Ft} (h : gs.Perm fs) : fitsB s gs = fitsB s fs := by
 have key : ∀ {fs gs : List Ft}, gs.Perm fs → shownL s gs ≠ [] → shownL s fs ≠ [] := by
  intro fs gs h h1
  unfold shownL at h1 ⊢
  rw [plain_perm h] at h1
  split at h1
  ·exact absurd rfl h1
  ·rename_i hp; rw [if_neg hp]; exact packs_perm (h.map _) 0 h1
 unfold fitsB
 rw [Bool.eq_iff_iff]
 simp only [Bool.not_eq_true', List.isEmpty_eq_false_iff]
 exact ⟨key h, key h.symm⟩
theorem fits_none {s : Bx} {fs : List Ft} (h : (shownL s fs)[0]? = none) : fitsB s fs = false := by
 unfold fitsB; cases hs : shownL s fs with
 | nil => rfl
 | cons a l => rw [hs] at h; simp at h
theorem fits_some {s : Bx} {fs : List Ft} {q : List St} (h : (shownL s fs)[0]? = some q) : fitsB s fs = true := by
 unfold fitsB; cases hs : shownL s fs with
 | nil => rw [hs] at h; simp at h
 | cons a l => rfl
end Go.Pb.Sag
namespace Go.Pb
open Go Go.RowKit

structure LAt (n : Nat) (w : World) (v : Value) (m : Nat) (cs : List Value) : Prop where
 len : cs.length = m * n
 one : ∀ u ∈ cs, u.oneCell' = true
 at' : (v = .slice none 0 0 ∧ m = 0) ∨ ∃ (a : Addr) (cap : Nat), v = .slice (some a) m cap ∧ m ≤ cap ∧ cap ≤ 9223372036854775807 ∧ ∀ j u, cs[j]? = some u → w.cell? (a.add j) = some u
theorem LAt.below {n m : Nat} {w w' : World} {v : Value} {cs : List Value} (h : LAt n w v m cs) (hb : Below w.heap.size w w') : LAt n w' v m cs :=
 ⟨h.len, h.one, by
  rcases h.at' with h1 | ⟨a, cap, h1, h2, h3, h4⟩
  ·exact .inl h1
  ·exact .inr ⟨a, cap, h1, h2, h3, fun j u hu => bkeep hb (h4 j u hu)⟩⟩
theorem LAt.shape {n m : Nat} {w : World} {v : Value} {cs : List Value} (h : LAt n w v m cs) : ∃ (a : Option Addr) (cap : Nat), v = .slice a m cap ∧ m ≤ cap ∧ cap ≤ 9223372036854775807 ∧ (a = none → m = 0 ∧ cap = 0) := by
 rcases h.at' with ⟨h1, h2⟩ | ⟨a, cap, h1, h2, h3, h4⟩
 ·subst h2; exact ⟨none, 0, h1, Nat.le_refl _, by omega, fun _ => ⟨rfl, rfl⟩⟩
 ·exact ⟨some a, cap, h1, h2, h3, fun e => by cases e⟩
theorem LAt.cells {n m cap : Nat} {w : World} {a : Addr} {cs : List Value} (h : LAt n w (.slice (some a) m cap) m cs) : ∀ j u, cs[j]? = some u → w.cell? (a.add j) = some u := by
 rcases h.at' with ⟨h1, _⟩ | ⟨a', cap', h1, _, _, h4⟩
 ·cases h1
 ·injection h1 with h1 _ _; injection h1 with h1; subst h1; exact h4
theorem LAt.nil {n cap : Nat} {w : World} {cs : List Value} {m : Nat} (h : LAt n w (.slice none m cap) m cs) : m = 0 ∧ cap = 0 ∧ cs = [] := by
 rcases h.at' with ⟨h1, h2⟩ | ⟨a', cap', h1, _, _, h4⟩
 ·injection h1 with _ _ h3; subst h2; exact ⟨rfl, h3, List.length_eq_zero_iff.1 (by rw [h.len]; simp)⟩
 ·injection h1 with h1 _ _; cases h1
theorem LAt.head {n m cap k : Nat} {w : World} {a : Addr} {cs : List Value} (h : LAt n w (.slice (some a) m cap) m cs) (hk : k ≤ m) : LAt n w (.slice (some a) k cap) k (cs.take (k * n)) := by
 obtain ⟨_, cap', e, h2, h3, _⟩ := h.shape
 injection e with _ _ e; subst e
 refine ⟨by rw [List.length_take, h.len]; exact Nat.min_eq_left (Nat.mul_le_mul_right n hk), fun u hu => h.one u (List.mem_of_mem_take hu), .inr ⟨a, cap, rfl, by omega, h3, fun j u hu => ?_⟩⟩
 rw [List.getElem?_take] at hu
 split at hu
 ·exact h.cells j u hu
 ·cases hu
theorem LAt.tail {n m cap k : Nat} {w : World} {a q : Addr} {cs : List Value} (h : LAt n w (.slice (some a) m cap) m cs) (hk : k ≤ m) (hq : k < m → q = a.add (k * n)) : LAt n w (.slice (some q) (m - k) (cap - k)) (m - k) (cs.drop (k * n)) := by
 obtain ⟨_, cap', e, h2, h3, _⟩ := h.shape
 injection e with _ _ e; subst e
 refine ⟨by rw [List.length_drop, h.len, Nat.sub_mul], fun u hu => h.one u (List.mem_of_mem_drop hu), .inr ⟨q, cap - k, rfl, by omega, by omega, fun j u hu => ?_⟩⟩
 have hkm : k < m := by
  rcases Nat.lt_or_ge k m with h5 | h5
  ·exact h5
  ·have h6 := (List.getElem?_eq_some_iff.1 hu).1
   rw [List.length_drop, h.len] at h6
   have := Nat.mul_le_mul_right n h5
   omega
 rw [hq hkm, Go.Deep.add_add]
 rw [List.getElem?_drop] at hu
 exact h.cells _ u hu
theorem drop_take_erase {n : Nat} {α : Type} {f : α → List Value} (hf : ∀ x, (f x).length = n) : ∀ {l : List α} {k : Nat}, (l.flatMap f).take (k * n) = (l.take k).flatMap f ∧ (l.flatMap f).drop (k * n) = (l.drop k).flatMap f
 | [], k => by simp
 | x :: l, 0 => by simp
 | x :: l, k + 1 => by
  obtain ⟨h1, h2⟩ := drop_take_erase hf (l := l) (k := k)
  rw [List.flatMap_cons, List.take_succ_cons, List.drop_succ_cons, List.flatMap_cons, Nat.succ_mul]
  have e : (f x).length ≤ k * n + n := by rw [hf]; omega
  refine ⟨?_, ?_⟩
  ·rw [List.take_append, List.take_of_length_le e, hf, show k * n + n - n = k * n by omega, h1]
  ·rw [List.drop_append, List.drop_of_length_le e, hf, show k * n + n - n = k * n by omega, h2, List.nil_append]
theorem flat_erase {n : Nat} {α : Type} {f : α → List Value} (hf : ∀ x, (f x).length = n) (l : List α) (k : Nat) : (l.flatMap f).take (k * n) ++ (l.flatMap f).drop ((k + 1) * n) = (l.eraseIdx k).flatMap f := by
 rw [(drop_take_erase hf).1, (drop_take_erase hf).2, ← List.flatMap_append, ← List.eraseIdx_eq_take_drop_succ]
end Go.Pb
namespace Go.Pb.Sag
open Go Go.Pb Go.Pb.Ware Go.RowKit

end Go.Pb.Sag
namespace Go.Pb.Sag
open Go Go.Pb Go.Pb.Ware Go.RowKit

def troubleA (s : Bx) (fs : List Ft) (kind : Int) : Bool := if kind = 5 then !fitsB s fs else troubleB s fs kind
theorem troubleA_5 (s : Bx) (fs : List Ft) : troubleA s fs 5 = !fitsB s fs := rfl
theorem troubleA_B {s : Bx} {fs : List Ft} {k : Int} (h : k ≠ 5) : troubleA s fs k = troubleB s fs k := if_neg h
def idxs (n : Nat) : List Int := (List.range n).map fun k : Nat => (k : Int)
theorem idxs_len (n : Nat) : (idxs n).length = n := by simp [idxs]
theorem idxs_at {n k : Nat} (h : k < n) : (idxs n)[k]? = some (k : Int) := by simp [idxs, h]
theorem idxs_mem {n : Nat} {z : Int} (h : z ∈ idxs n) : 0 ≤ z ∧ z < (n : Int) := by
 unfold idxs at h
 obtain ⟨k, hk, rfl⟩ := List.mem_map.1 h
 have := List.mem_range.1 hk
 omega
def needStep (s : Bx) (fs : List Ft) (kind : Int) (l : List Int) (i : Nat) : List Int := if troubleA s (chosenL fs (l.eraseIdx i)) kind = true then l.eraseIdx i else l
def needLoop (s : Bx) (fs : List Ft) (kind : Int) : Nat → List Int → List Int
 | 0, l => l
 | i + 1, l => needLoop s fs kind i (needStep s fs kind l i)
def neededL (s : Bx) (fs : List Ft) (kind : Int) : List Int := needLoop s fs kind fs.length (idxs fs.length)
theorem erase_mem {l : List Int} {i : Nat} {z : Int} (h : z ∈ l.eraseIdx i) : z ∈ l := List.mem_of_mem_eraseIdx h
theorem needStep_len {s : Bx} {fs : List Ft} {kind : Int} {l : List Int} {i : Nat} (h : i < l.length) : i ≤ (needStep s fs kind l i).length ∧ (needStep s fs kind l i).length ≤ l.length := by
 unfold needStep; split
 ·rw [List.length_eraseIdx_of_lt h]; omega
 ·omega
theorem made_any {w : World} {base n : Nat} {B e : Nat} {z : Value} (hz : z.cells = #[z]) (h : w.ownsRow base e 1 (.slice (some ⟨B, 0, none⟩) n n) n (madeCells z.cells (n * 1)).toList) : ∀ i, i < n → w.cell? ⟨B, i, none⟩ = some z ∧ w.frozen? ⟨B, i, none⟩ = false := by
 intro i hk
 refine ⟨?_, owns_frozen h rfl i⟩
 have h2 := h.cells (g := B) rfl i z (by
  rw [Array.getElem?_toList]
  unfold madeCells
  rw [Array.getElem?_map, Array.getElem?_range, if_pos (show i < n * 1 by omega), hz]
  show some (#[z] : Array Value)[i % 1]! = _
  rw [Nat.mod_one]; rfl)
 rw [Go.WideShapes.add_plain, Nat.zero_add] at h2
 exact h2
def IdxAt (B n k : Nat) (W : World) : Prop := ∀ j, j < n → W.cell? ⟨B, j, none⟩ = some (.int .i64 (if j < k then (j : Int) else 0)) ∧ W.frozen? ⟨B, j, none⟩ = false
theorem IdxAt.set {B n k : Nat} {W : World} (h : IdxAt B n k W) (hk : k < n) : IdxAt B n (k + 1) (W.setCell ⟨B, k, none⟩ (.int .i64 (k : Int))) := by
 intro j hj
 have h1 := h j hj
 refine ⟨?_, set_free h1.1 h1.2⟩
 by_cases e : j = k
 ·subst e; rw [if_pos (by omega)]; exact setc_same h1.1
 ·rw [setc_other h1.1 e]
  by_cases e2 : j < k
  ·rw [if_pos e2, if_pos (by omega)]
  ·rw [if_neg e2, if_neg (by omega)]
theorem IdxAt.nums {B n : Nat} {W : World} (h : IdxAt B n n W) (hn : n ≤ 1000) : NumsAt W (.slice (some ⟨B, 0, none⟩) n n) (idxs n) := by
 refine .inr ⟨⟨B, 0, none⟩, n, by rw [idxs_len], by rw [idxs_len]; exact Nat.le_refl _, by omega, fun k z hz => ?_⟩
 have hk : k < n := by have := (List.getElem?_eq_some_iff.1 hz).1; rwa [idxs_len] at this
 rw [idxs_at hk] at hz
 injection hz with hz
 subst hz
 have h1 := (h k hk).1
 rw [if_pos hk] at h1
 rw [Go.WideShapes.add_plain, Nat.zero_add]
 exact ⟨h1, I64.mk (by omega) (by omega)⟩
end Go.Pb.Sag
namespace Go.Pb.Sag
open Go Go.Pb Go.Pb.Ware Go.RowKit

theorem fits_open {s : Bx} {fs : List Ft} (h : fitsB s fs = true) : plainB s fs = false ∧ allPacks s fs ≠ [] := by
 unfold fitsB shownL at h
 split at h
 ·cases h
 ·rename_i hp
  exact ⟨by simpa using hp, by intro e; rw [e] at h; cases h⟩
theorem fits_close {s : Bx} {fs : List Ft} (h1 : plainB s fs = false) (h2 : allPacks s fs ≠ []) : fitsB s fs = true := by
 unfold fitsB shownL
 rw [if_neg (by rw [h1]; simp)]
 cases he : allPacks s fs with
 | nil => exact absurd he h2
 | cons a l => rfl
theorem plain_parts {s : Bx} {fs : List Ft} (h : plainB s fs = false) : ∀ k, troubleB s fs k = false := by
 unfold plainB at h
 rw [Bool.or_eq_false_iff, Bool.or_eq_false_iff, Bool.or_eq_false_iff] at h
 intro k
 by_cases h1 : k = 1
 ·subst h1; exact h.1
 by_cases h2 : k = 2
 ·subst h2; exact h.2.1
 by_cases h3 : k = 3
 ·subst h3; exact h.2.2.1
 by_cases h4 : k = 4
 ·subst h4; exact h.2.2.2
 unfold troubleB
 rw [if_neg h1, if_neg h2, if_neg h3, if_neg h4]
theorem idxs_succ (i : Nat) : idxs (i + 1) = idxs i ++ [(i : Int)] := by unfold idxs; rw [List.range_succ, List.map_append]; rfl
end Go.Pb.Sag
namespace Go.Pb.Sag
open Go Go.Pb Go.Pb.Ware Go.RowKit

theorem mem_cellL {s : Bx} {f : Ft} {y x : Nat} {p : St} : p ∈ cellL s f y x (ways f).length ↔ p.y = y ∧ p.x = x ∧ p.turned ∈ ways f ∧ okAt s f p = true := by
 unfold cellL
 rw [List.take_length, List.mem_filter, List.mem_map]
 constructor
 ·rintro ⟨⟨t, ht, rfl⟩, h⟩; exact ⟨rfl, rfl, ht, h⟩
 ·rintro ⟨rfl, rfl, h1, h2⟩; exact ⟨⟨p.turned, h1, rfl⟩, h2⟩
theorem mem_rowL {s : Bx} {f : Ft} {y : Nat} {p : St} : ∀ {m : Nat}, p ∈ rowL s f y m ↔ p.y = y ∧ p.x < m ∧ p.turned ∈ ways f ∧ okAt s f p = true
 | 0 => by simp [rowL]
 | m + 1 => by
  rw [rowL, List.mem_append, mem_rowL (m := m), mem_cellL]
  constructor
  ·rintro (⟨h1, h2, h3⟩ | ⟨h1, h2, h3⟩)
   ·exact ⟨h1, by omega, h3⟩
   ·exact ⟨h1, by omega, h3⟩
  ·rintro ⟨h1, h2, h3⟩
   by_cases e : p.x = m
   ·exact .inr ⟨h1, e, h3⟩
   ·exact .inl ⟨h1, by omega, h3⟩
theorem mem_standsN {s : Bx} {f : Ft} {p : St} : ∀ {n : Nat}, p ∈ standsN s f n ↔ p.y < n ∧ p.x < s.wide.toNat ∧ p.turned ∈ ways f ∧ okAt s f p = true
 | 0 => by simp [standsN]
 | n + 1 => by
  rw [standsN, List.mem_append, mem_standsN (n := n), mem_rowL]
  constructor
  ·rintro (⟨h1, h3⟩ | ⟨h1, h3⟩)
   ·exact ⟨by omega, h3⟩
   ·exact ⟨by omega, h3⟩
  ·rintro ⟨h1, h3⟩
   by_cases e : p.y = n
   ·exact .inr ⟨e, h3⟩
   ·exact .inl ⟨by omega, h3⟩
theorem mem_stands {s : Bx} {f : Ft} {p : St} : p ∈ standsL s f ↔ p.y < s.deep.toNat ∧ p.x < s.wide.toNat ∧ p.turned ∈ ways f ∧ okAt s f p = true := mem_standsN
theorem map_erase {α β : Type} {g : α → β} : ∀ {l : List α} {k : Nat}, (l.eraseIdx k).map g = (l.map g).eraseIdx k
 | [], _ => rfl
 | x :: l, 0 => rfl
 | x :: l, k + 1 => by rw [List.eraseIdx_cons_succ, List.map_cons, List.map_cons, List.eraseIdx_cons_succ, map_erase]
end Go.Pb.Sag
namespace Go.Pb.Sag
open Go Go.Pb Go.Pb.Ware Go.RowKit

def isStQ (s : Bx) (f : Ft) (q : Sq) : Bool := (!q.turned || !decide ((sideV f q.turned).1 = (sideV f q.turned).2)) && (decide (0 ≤ q.x) && (decide (0 ≤ q.y) && (decide (q.x ≤ s.wide - (sideV f q.turned).1) && decide (q.y ≤ s.deep - (sideV f q.turned).2))))
theorem isSt_iff {s : Bx} {f : Ft} {q : Sq} : isStQ s f q = true ↔ (q.turned = true → ¬ f.wide = f.deep) ∧ 0 ≤ q.x ∧ 0 ≤ q.y ∧ q.x ≤ s.wide - (sideV f q.turned).1 ∧ q.y ≤ s.deep - (sideV f q.turned).2 := by
 unfold isStQ
 simp only [Bool.and_eq_true, Bool.or_eq_true, Bool.not_eq_true', decide_eq_true_eq, decide_eq_false_iff_not]
 have h : (q.turned = false ∨ ¬ (sideV f q.turned).1 = (sideV f q.turned).2) ↔ (q.turned = true → ¬ f.wide = f.deep) := by
  unfold sideV
  cases q.turned with
  | false => simp
  | true => simp; exact ⟨fun h e => h e.symm, fun h e => h e.symm⟩
 rw [h]
theorem turned_ways {f : Ft} {t : Bool} : t ∈ ways f ↔ (t = true → ¬ f.wide = f.deep) := by
 unfold ways
 cases t with
 | false => split <;> simp
 | true => split <;> simp_all
theorem isSt_toSq {s : Bx} {f : Ft} {p : St} : isStQ s f (toSq p) = (decide (p.turned ∈ ways f) && okAt s f p) := by
 rw [Bool.eq_iff_iff, isSt_iff, Bool.and_eq_true, decide_eq_true_eq, turned_ways]
 unfold okAt toSq
 rw [Bool.and_eq_true, decide_eq_true_eq, decide_eq_true_eq]
 dsimp only
 constructor
 ·rintro ⟨h0, _, _, h4, h5⟩; exact ⟨h0, by omega, by omega⟩
 ·rintro ⟨h0, h4, h5⟩; exact ⟨h0, by omega, by omega, by omega, by omega⟩
def cellR (s : Bx) (f : Ft) (y x k : Nat) : List St := ((([false, true] : List Bool).take k).map fun t => (⟨y, x, t⟩ : St)).filter fun p => isStQ s f (toSq p)
theorem cellR_all {s : Bx} {f : Ft} {y x : Nat} : cellR s f y x 2 = cellL s f y x (ways f).length := by
 unfold cellR cellL
 rw [List.take_length]
 have e : (fun p => isStQ s f (toSq p)) = fun p : St => decide (p.turned ∈ ways f) && okAt s f p := funext fun p => isSt_toSq
 rw [e]
 unfold ways
 by_cases h : f.wide = f.deep
 ·simp only [h]
  simp [List.filter_cons]
 ·simp [h]
theorem cellR_yes {s : Bx} {f : Ft} {y x k : Nat} {t : Bool} (ht : ([false, true] : List Bool)[k]? = some t) (h : isStQ s f (toSq ⟨y, x, t⟩) = true) : cellR s f y x (k + 1) = cellR s f y x k ++ [⟨y, x, t⟩] := by
 obtain ⟨hk, rfl⟩ := List.getElem?_eq_some_iff.1 ht
 unfold cellR
 rw [List.take_succ_eq_append_getElem hk, List.map_append, List.filter_append]
 simp [h]
theorem cellR_no {s : Bx} {f : Ft} {y x k : Nat} {t : Bool} (ht : ([false, true] : List Bool)[k]? = some t) (h : isStQ s f (toSq ⟨y, x, t⟩) = false) : cellR s f y x (k + 1) = cellR s f y x k := by
 obtain ⟨hk, rfl⟩ := List.getElem?_eq_some_iff.1 ht
 unfold cellR
 rw [List.take_succ_eq_append_getElem hk, List.map_append, List.filter_append]
 simp [h]
def bitW (W y x : Nat) : Nat := 2 ^ (y * W + x)
def rowW (W y x : Nat) : Nat → Nat
 | 0 => 0
 | k + 1 => rowW W y x k ||| bitW W y (x + k)
def boxW (W y x wide : Nat) : Nat → Nat
 | 0 => 0
 | k + 1 => boxW W y x wide k ||| rowW W (y + k) x wide
def RelW (W a b : Nat) : Prop := (∀ y x, x < W → a.testBit (y * W + x) = b.testBit (y * 6 + x)) ∧ ∀ y x, x < 6 → W ≤ x → b.testBit (y * 6 + x) = false
theorem rel_zero {W : Nat} : RelW W 0 0 := ⟨fun _ _ _ => by simp, fun _ _ _ _ => by simp⟩
theorem rel_or {W a b c d : Nat} (h : RelW W a b) (k : RelW W c d) : RelW W (a ||| c) (b ||| d) :=
 ⟨fun y x hx => by rw [Nat.testBit_or, Nat.testBit_or, h.1 y x hx, k.1 y x hx], fun y x h1 h2 => by rw [Nat.testBit_or, h.2 y x h1 h2, k.2 y x h1 h2]; rfl⟩
theorem rel_bit {W y x : Nat} (h6 : W ≤ 6) (hx : x < W) : RelW W (bitW W y x) (bitAt y x) := by
 refine ⟨fun y' x' hx' => ?_, fun y' x' h1 h2 => ?_⟩
 ·unfold bitW bitAt
  rw [Nat.testBit_two_pow, Nat.testBit_two_pow]
  rw [decide_eq_decide]
  rcases (show W = 1 ∨ W = 2 ∨ W = 3 ∨ W = 4 ∨ W = 5 ∨ W = 6 by omega) with rfl | rfl | rfl | rfl | rfl | rfl <;> omega
 ·unfold bitAt
  rw [Nat.testBit_two_pow, decide_eq_false]
  omega
theorem rel_row {W y x : Nat} (h6 : W ≤ 6) : ∀ {k : Nat}, x + k ≤ W → RelW W (rowW W y x k) (rowM y x k)
 | 0, _ => rel_zero
 | k + 1, h => rel_or (rel_row h6 (by omega)) (rel_bit h6 (by omega))
theorem rel_box {W y x wide : Nat} (h6 : W ≤ 6) (hx : x + wide ≤ W) : ∀ {k : Nat}, RelW W (boxW W y x wide k) (boxM y x wide k)
 | 0 => rel_zero
 | k + 1 => rel_or (rel_box h6 hx) (rel_row h6 hx)
theorem rel_and {W a b c d : Nat} (hW : 1 ≤ W) (h6 : W ≤ 6) (h : RelW W a b) (k : RelW W c d) : a &&& c = 0 ↔ b &&& d = 0 := by
 constructor
 ·intro h0
  apply Nat.eq_of_testBit_eq
  intro i
  rw [Nat.zero_testBit, Nat.testBit_and]
  have e : i = i / 6 * 6 + i % 6 := by omega
  rw [e]
  rcases Nat.lt_or_ge (i % 6) W with hx | hx
  ·rw [← h.1 _ _ hx, ← k.1 _ _ hx, ← Nat.testBit_and, h0, Nat.zero_testBit]
  ·rw [h.2 _ _ (by omega) hx]; rfl
 ·intro h0
  apply Nat.eq_of_testBit_eq
  intro i
  rw [Nat.zero_testBit, Nat.testBit_and]
  have hx : i % W < W := Nat.mod_lt _ (by omega)
  have e : i = i / W * W + i % W := (Nat.div_add_mod' i W).symm
  rw [e, h.1 _ _ hx, k.1 _ _ hx, ← Nat.testBit_and, h0, Nat.zero_testBit]
theorem bitW_lt {W y x : Nat} (hW : W ≤ 6) (hy : y ≤ 5) (hx : x < W) : bitW W y x < 2 ^ 36 := by
 refine Nat.pow_lt_pow_right (by decide) ?_
 have := Nat.mul_le_mul hy hW
 omega
theorem rowW_lt {W y x : Nat} (hW : W ≤ 6) (hy : y ≤ 5) : ∀ {k : Nat}, x + k ≤ W → rowW W y x k < 2 ^ 36
 | 0, _ => by simp [rowW]
 | k + 1, h => Nat.or_lt_two_pow (rowW_lt hW hy (by omega)) (bitW_lt hW hy (by omega))
theorem boxW_lt {W y x wide : Nat} (hW : W ≤ 6) (hx : x + wide ≤ W) : ∀ {k : Nat}, y + k ≤ 6 → boxW W y x wide k < 2 ^ 36
 | 0, _ => by simp [boxW]
 | k + 1, h => Nat.or_lt_two_pow (boxW_lt hW hx (by omega)) (rowW_lt hW (by omega) hx)
def maskW (s : Bx) (f : Ft) (p : St) : Nat := boxW s.wide.toNat p.y p.x (sideV f p.turned).1.toNat (sideV f p.turned).2.toNat
theorem maskW_rel {s : Bx} {f : Ft} {p : St} (hX : boxOk s = true) (hF : FtOk f) (h : p ∈ standsL s f) : RelW s.wide.toNat (maskW s f p) (maskOf f p) ∧ maskW s f p < 2 ^ 36 := by
 have h1 := standsN_ok h
 have h2 := boxOk_iff.1 hX
 unfold FtOk at hF
 unfold okAt at h1
 rw [Bool.and_eq_true, decide_eq_true_eq, decide_eq_true_eq] at h1
 have h3 : (1 ≤ (sideV f p.turned).1) ∧ 1 ≤ (sideV f p.turned).2 := by unfold sideV; split <;> dsimp only <;> omega
 unfold maskW maskOf
 exact ⟨rel_box (by omega) (by omega), boxW_lt (by omega) (by omega) (by omega)⟩
end Go.Pb.Sag
namespace Go.Pb.Sag
open Go Go.Pb Go.Pb.Ware Go.RowKit

def putF (s : Bx) (fs : List Ft) (most : Nat) : Nat → Nat → List (List Int) → Option (List (List Int))
 | 0, _, gs => some gs
 | d + 1, i, gs =>
  match (List.range gs.length).findSome? (fun k => if fitsB s (chosenL fs (gs.getD k [] ++ [(i : Int)])) = true then putF s fs most d (i + 1) (gs.set k (gs.getD k [] ++ [(i : Int)])) else none) with
  | some r => some r
  | none => if gs.length = most then none else putF s fs most d (i + 1) (gs ++ [[(i : Int)]])
theorem find_here {α : Type} {f : Nat → Option α} {n k : Nat} {r : α} (hk : k < n) (h0 : ∀ j, j < k → f j = none) (h : f k = some r) : (List.range n).findSome? f = some r := by
 induction n generalizing k with
 | zero => omega
 | succ n ih =>
  rw [List.range_succ, List.findSome?_append]
  rcases Nat.lt_or_ge k n with h1 | h1
  ·rw [ih h1 h0 h]; rfl
  ·have e : k = n := by omega
   subst e
   rw [List.findSome?_eq_none_iff.2 (fun j hj => h0 j (List.mem_range.1 hj))]
   simp [h]
theorem find_no {α : Type} {f : Nat → Option α} {n : Nat} (h0 : ∀ j, j < n → f j = none) : (List.range n).findSome? f = none := List.findSome?_eq_none_iff.2 (fun j hj => h0 j (List.mem_range.1 hj))
structure Good (i : Nat) (gs : List (List Int)) : Prop where
 one : ∀ (k : Nat) (g : List Int), gs[k]? = some g → ∃ x, g[0]? = some x
 lt : ∀ g ∈ gs, ∀ z ∈ g, 0 ≤ z ∧ z < (i : Int)
 len : ∀ g ∈ gs, g.length ≤ i
 many : gs.length ≤ i
 apart : ∀ (j k : Nat) (g h : List Int) (x y : Int), j ≠ k → gs[j]? = some g → gs[k]? = some h → g[0]? = some x → h[0]? = some y → x ≠ y
theorem Good.nil : Good 0 [] := ⟨fun k g h => (by simp at h), fun g h => (by cases h), fun g h => (by cases h), Nat.le_refl _, fun j k g h x y _ h1 => (by simp at h1)⟩
theorem head_snoc {g : List Int} {x z : Int} (h : g[0]? = some x) : (g ++ [z])[0]? = some x := by
 cases g with
 | nil => simp at h
 | cons a l => simpa using h
theorem Good.push {i k : Nat} {gs : List (List Int)} {g : List Int} (h : Good i gs) (hg : gs[k]? = some g) : Good (i + 1) (gs.set k (g ++ [(i : Int)])) := by
 have hk : k < gs.length := (List.getElem?_eq_some_iff.1 hg).1
 have key : ∀ (j : Nat) (g' : List Int) (x : Int), (gs.set k (g ++ [(i : Int)]))[j]? = some g' → g'[0]? = some x → ∃ g0, gs[j]? = some g0 ∧ g0[0]? = some x := by
  intro j g' x h1 h2
  by_cases e : j = k
  ·subst e
   rw [List.getElem?_set_self hk] at h1
   obtain rfl : g ++ [(i : Int)] = g' := by simpa using h1
   obtain ⟨y, hy⟩ := h.one j g hg
   rw [head_snoc hy] at h2
   exact ⟨g, hg, by rw [hy]; exact h2⟩
  ·rw [List.getElem?_set_ne (Ne.symm e)] at h1
   exact ⟨g', h1, h2⟩
 refine ⟨fun j g' h1 => ?_, fun g' hm z hz => ?_, fun g' hm => ?_, by rw [List.length_set]; have := h.many; omega, fun j l g' h' x y hne h1 h2 h3 h4 => ?_⟩
 ·by_cases e : j = k
  ·subst e
   rw [List.getElem?_set_self hk] at h1
   obtain rfl : g ++ [(i : Int)] = g' := by simpa using h1
   obtain ⟨y, hy⟩ := h.one j g hg
   exact ⟨y, head_snoc hy⟩
  ·rw [List.getElem?_set_ne (Ne.symm e)] at h1
   exact h.one j g' h1
 ·rcases List.mem_or_eq_of_mem_set hm with h1 | rfl
  ·have := h.lt g' h1 z hz; omega
  ·rcases List.mem_append.1 hz with h1 | h1
   ·have := h.lt g (List.mem_of_getElem? hg) z h1; omega
   ·simp at h1; omega
 ·rcases List.mem_or_eq_of_mem_set hm with h1 | rfl
  ·have := h.len g' h1; omega
  ·have := h.len g (List.mem_of_getElem? hg); rw [List.length_append, List.length_singleton]; omega
 ·obtain ⟨a, ha, ha2⟩ := key j g' x h1 h3
  obtain ⟨b, hb, hb2⟩ := key l h' y h2 h4
  exact h.apart j l a b x y hne ha hb ha2 hb2
theorem Good.snoc {i : Nat} {gs : List (List Int)} (h : Good i gs) : Good (i + 1) (gs ++ [[(i : Int)]]) := by
 have key : ∀ (j : Nat) (g : List Int), (gs ++ [[(i : Int)]])[j]? = some g → (j < gs.length ∧ gs[j]? = some g) ∨ (j = gs.length ∧ g = [(i : Int)]) := by
  intro j g h1
  rcases Nat.lt_or_ge j gs.length with h2 | h2
  ·rw [List.getElem?_append_left h2] at h1; exact .inl ⟨h2, h1⟩
  ·rw [List.getElem?_append_right h2] at h1
   have h3 := (List.getElem?_eq_some_iff.1 h1).1
   simp at h3
   have e : j = gs.length := by omega
   subst e
   simp at h1
   exact .inr ⟨rfl, h1.symm⟩
 have low : ∀ (j : Nat) (g : List Int) (x : Int), gs[j]? = some g → g[0]? = some x → x < (i : Int) := fun j g x h1 h2 => (h.lt g (List.mem_of_getElem? h1) x (List.mem_of_getElem? h2)).2
 refine ⟨fun j g h1 => ?_, fun g hm z hz => ?_, fun g hm => ?_, by rw [List.length_append, List.length_singleton]; have := h.many; omega, fun j k g g' x y hne h1 h2 h3 h4 => ?_⟩
 ·rcases key j g h1 with ⟨_, h2⟩ | ⟨_, rfl⟩
  ·exact h.one j g h2
  ·exact ⟨_, rfl⟩
 ·rcases List.mem_append.1 hm with h1 | h1
  ·have := h.lt g h1 z hz; omega
  ·simp at h1; subst h1; simp at hz; omega
 ·rcases List.mem_append.1 hm with h1 | h1
  ·have := h.len g h1; omega
  ·simp at h1; subst h1; simp
 ·rcases key j g h1 with ⟨_, h5⟩ | ⟨e1, rfl⟩ <;> rcases key k g' h2 with ⟨_, h6⟩ | ⟨e2, rfl⟩
  ·exact h.apart j k g g' x y hne h5 h6 h3 h4
  ·have := low j g x h5 h3; simp at h4; omega
  ·have := low k g' y h6 h4; simp at h3; omega
  ·omega
theorem Good.mono {i j : Nat} {gs : List (List Int)} (h : Good i gs) (hij : i ≤ j) : Good j gs := ⟨h.one, fun g hm z hz => (by have := h.lt g hm z hz; omega), fun g hm => (by have := h.len g hm; omega), (by have := h.many; omega), h.apart⟩
theorem apart_heads {W : World} {b1 b2 T n1 n2 : Nat} {v u x y : Value} {xs ys : List Value} (h1 : W.ownsRow b1 T 1 v n1 xs) (h2 : W.ownsRow b2 T 1 u n2 ys) (hx : xs[0]? = some x) (hy : ys[0]? = some y) (hne : x ≠ y) : v.ownBlock = none ∨ v.ownBlock ≠ u.ownBlock := by
 rcases h1.2 with ⟨rfl, _⟩ | ⟨g, cap, cur, rfl, _, hg, _, _, _, ht⟩
 ·exact .inl rfl
 ·refine .inr fun e => ?_
  rcases h2.2 with ⟨rfl, _⟩ | ⟨g', cap', cur', rfl, _, hg', _, _, _, ht'⟩
  ·simp [Value.ownBlock] at e
  ·have e2 : g = g' := by simpa [Value.ownBlock] using e
   subst e2
   rw [hg] at hg'
   injection hg' with e3
   injection e3 with e3
   subst e3
   rw [← ht, List.getElem?_take] at hx
   rw [← ht', List.getElem?_take] at hy
   split at hx
   ·split at hy
    ·rw [hx] at hy; injection hy with hy; exact hne hy
    ·cases hy
   ·cases hx
theorem apart_types {W : World} {b1 b2 T1 T2 s1 s2 n1 n2 : Nat} {v u : Value} {xs ys : List Value} (h1 : W.ownsRow b1 T1 s1 v n1 xs) (h2 : W.ownsRow b2 T2 s2 u n2 ys) (hne : T1 ≠ T2) : v.ownBlock = none ∨ v.ownBlock ≠ u.ownBlock := by
 rcases h1.2 with ⟨rfl, _⟩ | ⟨g, cap, cur, rfl, _, hg, _⟩
 ·exact .inl rfl
 ·refine .inr fun e => ?_
  rcases h2.2 with ⟨rfl, _⟩ | ⟨g', cap', cur', rfl, _, hg', _⟩
  ·simp [Value.ownBlock] at e
  ·have e2 : g = g' := by simpa [Value.ownBlock] using e
   subst e2
   rw [hg] at hg'
   injection hg' with e3
   injection e3 with _ e4
   exact hne e4
theorem row_take {W : World} {lo T n m cap g : Nat} {xs : List Value} (h : W.ownsRow lo T 1 (.slice (some ⟨g, 0, none⟩) n cap) n xs) (hm : m ≤ n) : W.ownsRow lo T 1 (.slice (some ⟨g, 0, none⟩) m cap) m (xs.take m) := by
 refine ⟨by rw [List.length_take, h.1]; omega, ?_⟩
 rcases h.2 with ⟨h1, _⟩ | ⟨g', cap', cur, h1, h2, h3, h4, h5, h6, h7⟩
 ·cases h1
 ·injection h1 with e1 _ e2
  injection e1 with e1
  injection e1 with e1
  subst e1; subst e2
  refine .inr ⟨g, cap, cur, rfl, h2, h3, by omega, h5, h6, ?_⟩
  rw [← h7, List.take_take]
  congr 1; omega
theorem row_set {W : World} {lo T n cap g k : Nat} {xs : List Value} {v : Value} (h : W.ownsRow lo T 1 (.slice (some ⟨g, 0, none⟩) n cap) n xs) (hk : k < n) : (W.setCell ⟨g, k, none⟩ v).ownsRow lo T 1 (.slice (some ⟨g, 0, none⟩) n cap) n (xs.set k v) := by
 refine ⟨by rw [List.length_set]; exact h.1, ?_⟩
 rcases h.2 with ⟨h1, _⟩ | ⟨g', cap', cur, h1, h2, h3, h4, h5, h6, h7⟩
 ·cases h1
 ·injection h1 with e1 _ e2
  injection e1 with e1
  injection e1 with e1
  subst e1; subst e2
  refine .inr ⟨g, cap, cur.setIfInBounds k v, rfl, h2, ?_, h4, h5, by rw [Array.size_setIfInBounds]; exact h6, ?_⟩
  ·rw [Go.Sort.setCell_eq]
   unfold Go.Sort.mapBlock
   rw [Array.getElem?_modify, if_pos rfl, h3]; rfl
  ·rw [Array.toList_setIfInBounds, List.take_set, h7]
end Go.Pb.Sag
namespace Go.Pb.Sag
open Go Go.Pb Go.Pb.Ware Go.RowKit

theorem box_w {s : Bx} (hX : boxOk s = true) : 1 ≤ s.wide.toNat ∧ s.wide.toNat ≤ 6 := by
 have := boxOk_iff.1 hX
 omega
def roomB (s : Bx) (fs : List Ft) (t : Nat) : Bool := !(packsF (fs.map (spotsL s)) t).isEmpty
theorem room_iff {s : Bx} {fs : List Ft} {t : Nat} : roomB s fs t = true ↔ packsF (fs.map (spotsL s)) t ≠ [] := by unfold roomB; simp
theorem room_nil {s : Bx} {t : Nat} : roomB s [] t = true := rfl
theorem room_perm {s : Bx} {fs gs : List Ft} {t : Nat} (h : fs.Perm gs) : roomB s fs t = roomB s gs t := by
 rw [Bool.eq_iff_iff, room_iff, room_iff]
 exact ⟨packs_perm (h.map _) t, packs_perm (h.symm.map _) t⟩
theorem room_cons {s : Bx} {f : Ft} {fs : List Ft} {t : Nat} : roomB s (f :: fs) t = true ↔ ∃ p ∈ standsL s f, t &&& maskOf f p = 0 ∧ roomB s fs (t ||| maskOf f p) = true := by
 rw [room_iff, List.map_cons, packs_cons]
 constructor
 ·rintro ⟨a, ha, h1, h2⟩
  obtain ⟨p, hp, rfl⟩ := List.mem_map.1 ha
  exact ⟨p, hp, h1, room_iff.2 h2⟩
 ·rintro ⟨p, hp, h1, h2⟩
  exact ⟨(p, maskOf f p), List.mem_map.2 ⟨p, hp, rfl⟩, h1, room_iff.1 h2⟩
theorem perm_erase {α : Type} {l : List α} {k : Nat} {x : α} (h : l[k]? = some x) : l.Perm (x :: l.eraseIdx k) := by
 obtain ⟨hk, rfl⟩ := List.getElem?_eq_some_iff.1 h
 rw [List.eraseIdx_eq_take_drop_succ]
 refine List.Perm.trans (List.Perm.of_eq ?_) List.perm_middle
 rw [← List.drop_eq_getElem_cons, List.take_append_drop]
theorem room_at {s : Bx} {fs : List Ft} {k : Nat} {f : Ft} {t : Nat} (h : fs[k]? = some f) : roomB s fs t = (standsL s f).any fun p => decide (t &&& maskOf f p = 0) && roomB s (fs.eraseIdx k) (t ||| maskOf f p) := by
 rw [room_perm (perm_erase h), Bool.eq_iff_iff, room_cons, List.any_eq_true]
 simp
def lowB (s : Bx) (fs : List Ft) : Bool := !troubleB s fs 1 && !troubleB s fs 3
theorem packable_fits {s : Bx} {fs : List Ft} : (lowB s fs && (decide (areaL fs ≤ s.wide * s.deep) && roomB s fs 0)) = fitsB s fs := by
 have e4 : troubleB s fs 4 = decide (s.wide * s.deep < areaL fs) := rfl
 rw [Bool.eq_iff_iff, Bool.and_eq_true, Bool.and_eq_true, decide_eq_true_eq, room_iff]
 unfold lowB
 rw [Bool.and_eq_true, Bool.not_eq_true', Bool.not_eq_true']
 constructor
 ·rintro ⟨⟨h1, h3⟩, h4, h5⟩
  refine fits_close (plain_no fun j hj0 hj5 => ?_) h5
  rcases (show j = 1 ∨ j = 2 ∨ j = 3 ∨ j = 4 by omega) with rfl | rfl | rfl | rfl
  ·exact h1
  ·show fs.any (noStand s) = false
   rw [List.any_eq_false]
   intro f hf hn
   obtain ⟨k, hk⟩ := List.getElem?_of_mem hf
   have h6 := room_iff.2 h5
   rw [room_at hk, List.any_eq_true] at h6
   obtain ⟨p, hp, _⟩ := h6
   unfold noStand at hn
   rw [List.isEmpty_iff] at hn
   rw [hn] at hp; cases hp
  ·exact h3
  ·rw [e4, decide_eq_false_iff_not]; omega
 ·intro h
  obtain ⟨h1, h2⟩ := fits_open h
  have h3 := plain_parts h1
  refine ⟨⟨h3 1, h3 3⟩, ?_, h2⟩
  have h4 := h3 4
  rw [e4, decide_eq_false_iff_not] at h4
  omega
end Go.Pb.Sag
namespace Go.Pb.Sag
open Go Go.Pb Go.Pb.Ware Go.RowKit

def FillG (w1 : World) (g T n m : Nat) (cs : List Value) (W : World) : Prop := OutOnly w1 g 0 W ∧ ∃ v, (W.cell? ⟨g, 0, none⟩ = some v ∧ W.frozen? ⟨g, 0, none⟩ = false) ∧ W.ownsRow w1.heap.size T n v m cs
theorem FillG.slot {w1 Wb w2 w3 : World} {g T n m : Nat} {xs : List Value} {v c0 : Value} (hlt : g < w1.heap.size) (hc : w1.cell? ⟨g, 0, none⟩ = some c0) (hf : w1.frozen? ⟨g, 0, none⟩ = false) (hO : OutOnly w1 g 0 Wb) (c1 : Wb.cell? ⟨g, 0, none⟩ = some v) (hb : Below Wb.heap.size Wb w2)
  (hown2 : w2.ownsRow w1.heap.size T n v m xs) (hg3 : w2.grownBy w3 v.ownBlock) : w3.cell? ⟨g, 0, none⟩ = some v ∧ w3.frozen? ⟨g, 0, none⟩ = false := by
 have hr : ∀ r, v.ownBlock = some r → w1.heap.size ≤ r := fun r e => (World.ownsRow.lt hown2 r e).1
 exact ⟨grown_kept hg3 (bkeep hb c1) (fun e => by have := hr g e.symm; omega), ((hO.next hlt hb).grown hg3 hlt hr).frz 0 c0 hc hf⟩
theorem FillG.push {w1 Wb w2 w3 : World} {g T n m : Nat} {xs ys : List Value} {v v' c0 : Value} (hlt : g < w1.heap.size) (hc : w1.cell? ⟨g, 0, none⟩ = some c0) (hf : w1.frozen? ⟨g, 0, none⟩ = false) (hO : OutOnly w1 g 0 Wb) (c1 : Wb.cell? ⟨g, 0, none⟩ = some v) (hb : Below Wb.heap.size Wb w2)
  (hown2 : w2.ownsRow w1.heap.size T n v m xs) (hg3 : w2.grownBy w3 v.ownBlock) (ho3 : w3.ownsRow w1.heap.size T n v' (m + 1) ys) :
  FillG w1 g T n (m + 1) ys (w3.setCell ⟨g, 0, none⟩ v') ∧ KeepsOthers Wb (w3.setCell ⟨g, 0, none⟩ v') ∧ Wb.heap.size ≤ (w3.setCell ⟨g, 0, none⟩ v').heap.size := by
 have hr : ∀ r, v.ownBlock = some r → w1.heap.size ≤ r := fun r e => (World.ownsRow.lt hown2 r e).1
 have hO4 := ((hO.next hlt hb).grown hg3 hlt hr).set v'
 have c3 : w3.cell? ⟨g, 0, none⟩ = some v := grown_kept hg3 (bkeep hb c1) (fun e => by have := hr g e.symm; omega)
 refine ⟨⟨hO4, v', ⟨setc_same c3, hO4.frz 0 c0 hc hf⟩, ?_⟩, ((keeps_of_below hb).trans (KeepsOthers.of_grownBy hg3 (own_cells hown2))).trans (KeepsOthers.setCell _ _ _), ?_⟩
 ·exact ho3.kept (grown_setc w3 ⟨g, 0, none⟩ v') (.inr fun e => by have := (World.ownsRow.lt ho3 g e).1; omega)
 ·have := hb.size; have := hg3.size; simp; omega
end Go.Pb.Sag
namespace Go.Pb

open Go Go.RowKit
def NewEmpty (B0 : Nat) (e : TypeId) (v : Value) (W : World) : Prop := ∃ B, B0 ≤ B ∧ v = .slice (some ⟨B, 0, none⟩) 0 0 ∧ W.heap[B]? = some (.cells #[] e (0, 0))
theorem keeps_empty {B0 : Nat} {e : TypeId} : Keeps (NewEmpty B0 e) := fun _ _ _ ⟨B, h1, h2, h3⟩ hb => ⟨B, h1, h2, (hb.block B (Array.getElem?_eq_some_iff.1 h3).1).trans h3⟩
theorem empty_of {w w' : World} {e : TypeId} (hb : Below w.heap.size w w') :
  Below w'.heap.size w' (w'.alloc (.cells #[] e)) ∧ NewEmpty w.heap.size e (.slice (some ⟨w'.heap.size, 0, none⟩) 0 0) (w'.alloc (.cells #[] e)) :=
 ⟨(Below.refl _ _).alloc (Nat.le_refl _) _, w'.heap.size, hb.size, rfl, heap_alloc_new w' _⟩
def NewList (B0 n : Nat) (cs : List Value) (v : Value) (W : World) : Prop :=
 ∃ B, B0 ≤ B ∧ v = .slice (some ⟨B, 0, none⟩) n n ∧ ∀ o c, cs[o]? = some c → W.cell? ⟨B, o, none⟩ = some c ∧ W.frozen? ⟨B, o, none⟩ = false
theorem keeps_list {B0 n : Nat} {cs : List Value} : Keeps (NewList B0 n cs) := fun _ _ _ ⟨B, h1, h2, h3⟩ hb =>
 ⟨B, h1, h2, fun o c hc => ⟨bkeep hb (h3 o c hc).1, bfree hb (h3 o c hc).1 (h3 o c hc).2⟩⟩
theorem list_of {w w' : World} {n : Nat} {cs : List Value} {t : TypeId} (hb : Below w.heap.size w w') :
  Below w'.heap.size w' (w'.alloc (.cells cs.toArray t)) ∧ NewList w.heap.size n cs (.slice (some ⟨w'.heap.size, 0, none⟩) n n) (w'.alloc (.cells cs.toArray t)) :=
 ⟨(Below.refl _ _).alloc (Nat.le_refl _) _, w'.heap.size, hb.size, rfl, fun o c hc => by
  refine ⟨?_, World.frozen?_alloc_new w' cs.toArray t o⟩
  rw [World.cell?_alloc_new]; simpa using hc⟩
theorem keeps_owns {base size n : Nat} {e : TypeId} {xs : List Value} : Keeps (fun v w => w.ownsRow base e size v n xs) := fun _ _ _ h hb => owns_below h hb
theorem append_fresh {P : Program} (w : World) (base : Nat) (t ty e : TypeId) (i : TypeInfo) (z : Value) (size bytes : Nat) (ht : P.underlying t = some (.slice e)) (hi : P.info? e = some i) (hz : i.zero = some z)
  (hsize : i.size = size) (hby : i.bytes = bytes) (hzs : z.cells.size = size) (hsz : 0 < size) {B : Nat} (hB : base ≤ B) (hg : w.heap[B]? = some (.cells #[] e (0, 0)))
  (a : Addr) (m c : Nat) (news : List Value) (hl : news.length = m * size) (hnews : ∀ j u, news[j]? = some u → w.cell? (a.add j) = some u) (h1 : ∀ u ∈ news, u.oneCell' = true)
  (h63 : m ≤ maxLen) (hbytes : m * bytes ≤ 140737488355328) (hbase : base ≤ w.heap.size) :
  ∃ v' w', (Builtin.append_ #[t, t] ty #[.slice (some ⟨B, 0, none⟩) 0 0, .slice (some a) m c]).run P w = .ok v' w' ∧ Below w.heap.size w w' ∧ w'.ownsRow base e size v' m news := by
 have hown : w.ownsRow base e size (.slice (some ⟨B, 0, none⟩) 0 0) 0 [] := ⟨by simp, .inr ⟨B, 0, #[], rfl, hB, hg, Nat.le_refl _, by simp [maxLen], by simp, by simp⟩⟩
 obtain ⟨v', w', hr, h2, h3, -⟩ := run_append_own (P := P) w base t ty e i z size bytes ht hi hz hsize hby hzs hsz _ 0 [] hown a m c news hl hnews h1 (by omega) (by simpa using hbytes) hbase
 refine ⟨v', w', hr, ?_, by simpa using h2⟩
 subst hsize; subst hby
 by_cases hm : m = 0
 ·subst hm
  have hn : news = [] := List.eq_nil_of_length_eq_zero (by simpa using hl)
  subst hn
  have hr2 := run_append_room (P := P) w t ty e i ht hi B 0 0 #[] hg a 0 c [] (by simp) (by simp) (by simp) (by omega) (by simp)
  rw [hr2] at hr
  injection hr with _ hw
  subst hw
  refine ⟨rfl, rfl, rfl, by simp [World.setRow], fun k hk => ?_⟩
  by_cases hkB : k = B
  ·subst hkB
   rw [setRow_heap w k #[] _ e _ hg, hg]; simp
  ·exact setRow_other w B k _ hkB
 ·have hcap : Builtin.nextslicecap (0 + m) 0 * i.bytes ≤ 281474976710656 := growslice_fits (by omega) (by simpa using hbytes)
  have hr2 := run_append_grow (P := P) w t ty e i z ht hi hz ⟨B, 0, none⟩ 0 0 [] (by simp) (by simp) a m c news hl hnews (by omega) (by simp only [maxLen] at h63; omega) hcap
  rw [hr2] at hr
  injection hr with _ hw
  subst hw
  exact (Below.refl _ _).drew.alloc (Nat.le_refl _) _
theorem fresh_append {P : Program} {o : Oper} {a : Act} {w : World} (s x : Operand) (t : TypeId) (ho : o.op = .call { callee := .builtin .append, args := #[s, x], argTypes := #[t, t] })
  (base : Nat) (e : TypeId) (i : TypeInfo) (z : Value) (size bytes : Nat) (ht : P.underlying t = some (.slice e)) (hi : P.info? e = some i) (hz : i.zero = some z)
  (hsize : i.size = size) (hby : i.bytes = bytes) (hzs : z.cells.size = size) (hsz : 0 < size) (v : Value) (hs : a.eval s = v) (hv : NewEmpty base e v w)
  (ad : Addr) (m c : Nat) (news : List Value) (hx : a.eval x = .slice (some ad) m c) (hl : news.length = m * size) (hnews : ∀ j u, news[j]? = some u → w.cell? (ad.add j) = some u) (h1 : ∀ u ∈ news, u.oneCell' = true)
  (h63 : m ≤ maxLen) (hbytes : m * bytes ≤ 140737488355328) (hbase : base ≤ w.heap.size) :
  freshAt P o a (fun v w => w.ownsRow base e size v m news) w := by
 obtain ⟨B, hB, rfl, hg⟩ := hv
 obtain ⟨v', w', hr, h2, h3⟩ := append_fresh (P := P) w base t o.type e i z size bytes ht hi hz hsize hby hzs hsz hB hg ad m c news hl hnews h1 h63 hbytes hbase
 unfold freshAt execOp
 simp only [ho, resolve, invoke, builtin, Sem.run_bind, Sem.run_pure, Result.andThen_ok, List.map_toArray, List.map_cons, List.map_nil, hs, hx, hr]
 exact ⟨h2, h3⟩
end Go.Pb
namespace Go.Pb.Ware
open Go Go.Pb Go.RowKit
end Go.Pb.Ware
namespace Go.Pb
end Go.Pb
namespace Go.Pb.Ware
open Go Go.Pb Go.RowKit
end Go.Pb.Ware
namespace Go.Pb

open Go Go.RowKit
section
variable {P : Program} {md : Region.Mode} {ops : Array Oper} {Q : Exit → Act → World → Prop} {C : World → Prop}
def wpAnyC (P : Program) (md : Region.Mode) (ops : Array Oper) (Q : Exit → Act → World → Prop) (C : World → Prop) : Nat → Array Bool → Act → World → Prop
 | 0, L, a, w => C w ∧ Region.ready md ops L = [] ∧ Q .normal a w
 | n + 1, L, a, w => C w ∧ (Region.ready md ops L = [] → Q .normal a w) ∧ ∀ i ∈ Region.ready md ops L, wpOp P ops Q i (wpAnyC P md ops Q C n (L.setIfInBounds i true)) a w
theorem wpAnyC_any : ∀ {n : Nat} {L : Array Bool} {a : Act} {w : World}, wpAnyC P md ops Q C n L a w → wpAny P md ops Q n L a w
 | 0, _, _, _, h => h.2
 | n + 1, _, _, _, h => ⟨h.2.1, fun i hi => wpOp_mono (fun _ _ h => wpAnyC_any h) (h.2.2 i hi)⟩
theorem wpAnyC_ready {n r : Nat} {L : Array Bool} {a : Act} {w : World} (hC : C w) (hr : Region.ready md ops L = [r]) (h : wpOp P ops Q r (wpAnyC P md ops Q C n (L.setIfInBounds r true)) a w) : wpAnyC P md ops Q C (n + 1) L a w :=
 ⟨hC, fun h0 => (by rw [hr] at h0; cases h0), fun i hi => by rw [hr, List.mem_singleton] at hi; subst hi; exact h⟩
theorem wpAnyC_op {n r : Nat} {o : Oper} {L : Array Bool} {a : Act} {w : World} (hC : C w) (hr : Region.ready md ops L = [r]) (ho : ops[r]? = some o) (hw : Region.wanted o (yielded ops a.tmps) = true)
  (h : ∀ K : Act → World → Prop, (∀ a' w', wpAnyC P md ops Q C n (L.setIfInBounds r true) a' w' → K a' w') → o.wp P a w K Q) : wpAnyC P md ops Q C (n + 1) L a w := by
 refine wpAnyC_ready hC hr ?_
 unfold wpOp
 simp only [ho, hw, if_true]
 exact .inl (h _ fun _ _ h => h)
theorem wpAnyC_end {L : Array Bool} {a : Act} {w : World} (hC : C w) (hr : Region.ready md ops L = []) (h : Q .normal a w) : wpAnyC P md ops Q C 0 L a w := ⟨hC, hr, h⟩
theorem wpAnyC_at {n : Nat} {L : Array Bool} {a : Act} {w : World} (h : wpAnyC P md ops Q C n L a w) : C w := by cases n <;> exact h.1
def LoadsC (P : Program) (ops : Array Oper) (C : World → Prop) (o : Oper) (v : Value) (a : Act) : Prop := Region.wanted o (yielded ops a.tmps) = true ∧ ∀ w, C w → (execOp a.eval o).run P w = .ok (.value v) w
theorem wpOp_keep {R : Act → Prop} {j : Nat} {oj : Oper} (hj : ops[j]? = some oj) {K : Act → World → Prop} {a : Act} {w : World} (hk : ∀ u, R (a.put oj.dst u)) (hkD : ∀ d u, R (({ a with defers := d :: a.defers } : Act).put oj.dst u))
  (h : wpOp P ops Q j K a w) : wpOp P ops Q j (fun a' w' => R a' ∧ K a' w') a w := by
 unfold wpOp at *
 simp only [hj] at *
 split
 ·rename_i hw
  simp only [hw, if_true] at h
  rcases h with h | h
  ·left
   unfold Oper.wp at *
   generalize (execOp a.eval oj).run P w = r at *
   cases r with
   | ok n w' =>
    cases n <;> simp only [Oper.upon] at h ⊢
    case value u => exact ⟨hk u, h⟩
    case skip => exact ⟨hk _, h⟩
    case defer d => exact ⟨hkD d _, h⟩
    case enter f args =>
     refine Calls.mono h fun e w'' he => ?_
     cases e with
     | returned u => exact ⟨hk u, he⟩
     | panicked c => exact he
     | outgrown => exact he
    case row row args => exact Rows.mono h fun u w'' he => ⟨hk u, he⟩
   | halt x w' => cases x <;> exact h
  ·exact .inr h
 ·rename_i hw
  simp only [hw] at h
  exact ⟨hk _, h⟩
theorem wpOp_putC {j : Nat} {oi oj : Oper} {v : Value} (hj : ops[j]? = some oj) (hap : oi.apart ops oj = true) (hsi : ∀ cs b, oi.op ≠ .select cs b) (hsj : ∀ cs b, oj.op ≠ .select cs b) {K : Act → World → Prop} {a : Act} {w : World}
  (hy : LoadsC P ops C oi v a) (h : wpOp P ops (Only Q) j K (a.put oi.dst v) w) : wpOp P ops (Only Q) j (fun a' w' => LoadsC P ops C oi v a' ∧ K (a'.put oi.dst v) w') a w := by
 obtain ⟨h1, h2, h3⟩ := Oper.apart_spec hap
 refine wpOp_keep hj (fun u => ?_) (fun d u => ?_) ?_
 ·exact ⟨by rw [wanted_put oi a oj.dst u h3]; exact hy.1, fun w hC => by rw [execOp_put oi hsi a oj.dst u h3]; exact hy.2 w hC⟩
 ·exact ⟨by rw [wanted_put oi _ oj.dst u h3]; exact hy.1, fun w hC => by rw [execOp_put oi hsi _ oj.dst u h3]; exact hy.2 w hC⟩
 ·unfold wpOp at *
  simp only [hj] at *
  rw [wanted_put oj a oi.dst v h1] at h
  split
  ·rename_i hw
   simp only [hw, if_true] at h
   rcases h with h | ⟨_, hl⟩
   ·left
    unfold Oper.wp at *
    rw [execOp_put oj hsj a oi.dst v h1] at h
    generalize (execOp a.eval oj).run P w = r at *
    cases r with
    | ok n w' =>
     cases n <;> simp only [Oper.upon] at h ⊢
     case value u => rw [← Act.put_comm a v u h2]; exact h
     case skip => rw [← Act.put_comm a v undef h2]; exact h
     case defer d => rw [← Act.put_comm _ v undef h2, ← Act.put_defers]; exact h
     case enter f args =>
      refine Calls.mono h fun e w'' he => ?_
      cases e with
      | returned u => show K _ _; rw [← Act.put_comm a v u h2]; exact he
      | panicked c => exact absurd he.1 (by simp)
      | outgrown => exact absurd he only_lets
     case row row args => exact Rows.mono h fun u w'' he => by rw [← Act.put_comm a v u h2]; exact he
    | halt x w' =>
     cases x <;> simp only [Oper.upon] at h ⊢
     case panic u => exact absurd h.1 (by simp)
   ·exact absurd hl only_lets
  ·rename_i hw
   simp only [hw] at h
   rw [← Act.put_comm a v undef h2]; exact h
theorem LoadsC.op {i : Nat} {o : Oper} {v : Value} {a : Act} (hi : ops[i]? = some o) (hy : LoadsC P ops C o v a) {K : Act → World → Prop} {w : World} (hC : C w) (h : K (a.put o.dst v) w) : wpOp P ops Q i K a w := by
 unfold wpOp
 simp only [hi, hy.1, if_true]
 left
 unfold Oper.wp
 rw [hy.2 w hC]
 exact h
theorem wpAnyC_first {i : Nat} {oi : Oper} {v : Value} (hi : ops[i]? = some oi) (hsel : ∀ (j : Nat) (o : Oper) cs b, ops[j]? = some o → o.op ≠ .select cs b) :
  ∀ (n : Nat) (L : Array Bool) (a : Act) (w : World),
   (∀ j oj, ops[j]? = some oj → j ≠ i → L.getD j true = false → (∀ e ∈ oj.after, Region.binds md e = true → e.on ≠ i) → oi.apart ops oj = true) →
   i ∈ Region.ready md ops L → LoadsC P ops C oi v a → C w →
   wpAnyC P md ops (Only Q) C n (L.setIfInBounds i true) (a.put oi.dst v) w → wpAnyC P md ops (Only Q) C (n + 1) L a w := by
 intro n
 induction n with
 | zero =>
  intro L a w _ hr hy hC H
  refine ⟨hC, fun h => (by rw [h] at hr; cases hr), fun j hj => ?_⟩
  by_cases hji : j = i
  ·subst hji; exact hy.op hi hC H
  ·have := ready_mono hj hji
   rw [H.2.1] at this
   cases this
 | succ n ih =>
  intro L a w hfree hr hy hC H
  refine ⟨hC, fun h => (by rw [h] at hr; cases hr), fun j hj => ?_⟩
  by_cases hji : j = i
  ·subst hji; exact hy.op hi hC H
  ·have h1 := H.2.2 j (ready_mono hj hji)
   obtain ⟨hjun, oj, hoj, hall⟩ := mem_ready.1 hj
   have hnot : ∀ e ∈ oj.after, Region.binds md e = true → e.on ≠ i := fun e he hb heq => by
    have h2 := hall e he hb
    have h0 := (mem_ready.1 hr).1
    rw [heq] at h2
    rcases Nat.lt_or_ge i L.size with h' | h'
    ·simp [h'] at h0 h2; rw [h0] at h2; cases h2
    ·simp [Array.getElem?_eq_none h'] at h2
   have h2 := wpOp_putC hoj (hfree j oj hoj hji hjun hnot) (fun cs b => hsel i oi cs b hi) (fun cs b => hsel j oj cs b hoj) hy h1
   have hfree' : ∀ k ok, ops[k]? = some ok → k ≠ i → (L.setIfInBounds j true).getD k true = false → (∀ e ∈ ok.after, Region.binds md e = true → e.on ≠ i) → oi.apart ops ok = true := fun k ok hk hki hun hno => by
    refine hfree k ok hk hki ?_ hno
    by_cases hjk : j = k
    ·subst hjk; exact hjun
    ·rw [getD_set_ne true hjk] at hun; exact hun
   have key : ∀ a' w', LoadsC P ops C oi v a' → wpAnyC P md ops (Only Q) C n ((L.setIfInBounds i true).setIfInBounds j true) (a'.put oi.dst v) w' → wpAnyC P md ops (Only Q) C (n + 1) (L.setIfInBounds j true) a' w' := by
    intro a' w' hy' H'
    rw [Array.setIfInBounds_comm _ _ (Ne.symm hji)] at H'
    have hr' := ready_mono hr (Ne.symm hji)
    exact ih (L.setIfInBounds j true) a' w' hfree' hr' hy' (wpAnyC_at H') H'
   exact wpOp_mono (fun a' w' h3 => key a' w' h3.1 h3.2) h2
end
section
variable {P : Program} {md : Region.Mode} {ops : Array Oper} {w0 : World} {fr : Nat → Bool} {p : Nat → Value → World → Prop} {C : World → Prop}
theorem wpAnyC_of_wpR {Q : Exit → Act → World → Prop} (hC : ∀ w, Below w0.heap.size w0 w → C w) {g : Nat} {hs : List Nat} {L : Array Bool} (hsel : Region.noSelect ops = true) (hplain : ∀ h o, h ∈ hs → fr h = false → ops[h]? = some o → plainOp o.op = true)
  (hkeep : ∀ i v w1 w2, p i v w1 → Below w1.heap.size w1 w2 → p i v w2) (hL : L.size = ops.size) :
  ∀ (f : Nat) (M : Array Bool) (l : List Nat) (Γ : Known) (a : Act) (w : World), l.length = f → l.Nodup → l.Pairwise (Pair md ops fr) → (∀ j ∈ l, M.getD j true = false) →
   (∀ j ∈ hs, j ∈ l ∨ M.getD j true = true) → (∀ h ∈ l, Γ h = none) → Hered md ops hs f M → All w0 p Γ w → mark l M = mark hs L →
   wpR P md ops w0 fr p (fun Γ' a' => ∀ w', All w0 p Γ' w' → wpAnyC P md ops Q C g (mark hs L) a' w') l Γ a → wpAnyC P md ops Q C (f + g) M a w := by
 intro f
 induction f with
 | zero =>
  intro M l Γ a w hlen _ _ _ _ _ _ hall hmk H
  obtain rfl := List.length_eq_zero_iff.1 hlen
  rw [Nat.zero_add, show M = mark hs L from hmk]
  exact H w hall
 | succ f ih =>
  intro M l Γ a w hlen hnd hpw hun hcov hΓ hh hall hmk H
  rw [show f + 1 + g = (f + g) + 1 by omega]
  refine ⟨hC _ hall.1, fun h0 => absurd h0 hh.1, fun i hi => ?_⟩
  obtain ⟨hiu, oi, hoi, hdeps⟩ := mem_ready.1 hi
  have hil : i ∈ l := by
   rcases hcov i (hh.2.1 i hi) with h1 | h1
   ·exact h1
   ·rw [h1] at hiu; cases hiu
  have hiM : i < M.size := by
   rcases Nat.lt_or_ge i M.size with h' | h'
   ·exact h'
   ·simp [Array.getElem?_eq_none h'] at hiu
  have H1 := wpR_pull hsel hkeep hoi l Γ a hil hnd hpw (fun j hj => waits_dep hdeps (hun j hj)) hΓ ⟨w, hall⟩ H
  have hle : (l.erase i).length = f := by rw [List.length_erase_of_mem hil]; omega
  have next : ∀ Γ' a' w', (∀ h ∈ l.erase i, Γ' h = none) → All w0 p Γ' w' → wpR P md ops w0 fr p (fun Γ' a' => ∀ w', All w0 p Γ' w' → wpAnyC P md ops Q C g (mark hs L) a' w') (l.erase i) Γ' a' →
    wpAnyC P md ops Q C (f + g) (M.setIfInBounds i true) a' w' := fun Γ' a' w' hΓ' hall' H' =>
   ih (M.setIfInBounds i true) (l.erase i) Γ' a' w' hle (hnd.erase i) (hpw.sublist List.erase_sublist) (fun j hj => by
     have hne : j ≠ i := by rintro rfl; exact (List.Nodup.not_mem_erase hnd) hj
     rw [getD_set_ne true (Ne.symm hne)]; exact hun j (List.mem_of_mem_erase hj))
    (fun j hj => by
     by_cases hji : j = i
     ·subst hji; right; simp
     ·rcases hcov j hj with h1 | h1
      ·left; exact (List.mem_erase_of_ne hji).2 h1
      ·right; rw [getD_set_ne true (Ne.symm hji)]; exact h1)
    hΓ' (hh.2.2.2 i hi) hall' (by
     rw [← hmk]
     have key : ∀ (l : List Nat) (M : Array Bool), i ∈ l → mark l M = mark (l.erase i) (M.setIfInBounds i true) := by
      intro l
      induction l with
      | nil => intro M h; cases h
      | cons x l ihl =>
       intro M h
       by_cases hx : x = i
       ·subst hx; simp [mark]
       ·rw [List.erase_cons_tail (by simpa using hx)]
        simp only [mark, List.foldl_cons]
        have h2 := ihl (M.setIfInBounds x true) (by simpa [Ne.symm hx] using h)
        simp only [mark] at h2
        rw [h2, Array.setIfInBounds_comm _ _ hx]
     exact (key l M hil).symm) H'
  have hΓe : ∀ h ∈ l.erase i, Γ h = none := fun h hh' => hΓ h (List.mem_of_mem_erase hh')
  unfold wpR oneR at H1
  simp only [hoi] at H1
  unfold wpOp
  simp only [hoi]
  split
  ·rename_i hwant
   rw [if_pos hwant] at H1
   left
   split at H1
   ·rename_i hf
    obtain ⟨h1, h2⟩ := H1
    have h3 := h1 w (hall.cl oi)
    have go : ∀ u w'', Below w.heap.size w w'' → p i u w'' → wpAnyC P md ops Q C (f + g) (M.setIfInBounds i true) (a.put oi.dst u) w'' := by
     intro u w'' hb hq
     have hall' : All w0 p (upd Γ i u) w'' := ⟨hall.1.trans (hb.mono hall.1.size), fun k v hk => by
      unfold upd at hk
      by_cases hki : k = i
      ·subst hki; rw [if_pos rfl] at hk; cases hk; exact hq
      ·rw [if_neg hki] at hk; exact hkeep _ _ _ _ (hall.2 k v hk) hb⟩
     refine next _ _ _ (fun k hk => ?_) hall' (h2 u ⟨w'', hall'⟩)
     unfold upd
     rw [if_neg (by rintro rfl; exact (List.Nodup.not_mem_erase hnd) hk)]
     exact hΓe k hk
    unfold freshAt at h3
    unfold Oper.wp
    generalize (execOp a.eval oi).run P w = r at h3 ⊢
    cases r with
    | halt x w' => exact h3.elim
    | ok n w' =>
     cases n <;> simp only at h3
     case value u => exact go u w' h3.1 h3.2
     case enter fn args =>
      obtain ⟨rfl, hc⟩ := h3
      exact hc.mono fun e w'' ⟨u, he, hb, hq⟩ => by subst he; exact go u w'' hb hq
   ·rename_i hf
    obtain ⟨v, h1, h2⟩ := H1 ⟨w, hall.cl oi⟩
    have h3 := h1 w (hall.cl oi)
    unfold Oper.quietAt at h3
    unfold Oper.wp
    generalize hr : (execOp a.eval oi).run P w = r at h3 ⊢
    cases r with
    | halt x w' => simp only [Oper.quietUpon] at h3
    | ok n w' =>
     cases n <;> simp only [Oper.quietUpon] at h3
     case value u =>
      obtain ⟨rfl, rfl⟩ := h3
      exact next _ _ _ hΓe hall h2
     case skip =>
      obtain ⟨rfl, rfl⟩ := h3
      exact next _ _ _ hΓe hall h2
     case enter fn args => exact absurd hr (plain_ne (hplain i oi (hh.2.1 i hi) (by simpa using hf) hoi) _)
  ·rename_i hwant
   rw [if_neg hwant] at H1
   exact next _ _ _ hΓe hall H1
theorem wpAnyC_R {Q : Exit → Act → World → Prop} (hC : ∀ w, Below w0.heap.size w0 w → C w) {L : Array Bool} {a : Act} {w : World} (fs : List Nat) (hs : List Nat) (g : Nat)
  (hkeep : ∀ i v w1 w2, p i v w1 → Below w1.heap.size w1 w2 → p i v w2)
  (hB : (groupB md ops L hs && pairsB md ops (fs.contains ·) hs && plainsB ops (fs.contains ·) hs) = true) (hw : Below w0.heap.size w0 w)
  (h : wpR P md ops w0 (fs.contains ·) p (fun Γ' a' => ∀ w', All w0 p Γ' w' → wpAnyC P md ops Q C g (mark hs L) a' w') hs (fun _ => none) a) : wpAnyC P md ops Q C (hs.length + g) L a w := by
 simp only [Bool.and_eq_true] at hB
 obtain ⟨⟨hG, hP⟩, hPl⟩ := hB
 have hG' := hG
 simp only [groupB, Bool.and_eq_true, decide_eq_true_eq] at hG'
 obtain ⟨⟨⟨⟨hsz, hsel⟩, hcl⟩, hout⟩, hord⟩ := hG'
 obtain ⟨hnd, hmem, hpre⟩ := orderB_spec hord
 have hleft : left hs L = hs.length := by
  unfold left
  rw [List.filter_eq_self.2 (fun j hj => by rw [(hmem j hj).2.1]; rfl)]
 have hsh : Shut md ops L := by
  intro j o ho hj e he hb
  have hjo : j < ops.size := by
   rcases Nat.lt_or_ge j ops.size with h' | h'
   ·exact h'
   ·simp [Array.getElem?_eq_none h'] at ho
  have h1 := List.all_eq_true.1 hcl j (List.mem_range.2 hjo)
  simp only [hj, ho, Bool.not_true, Bool.false_or] at h1
  simpa [hb] using Array.all_eq_true'.1 h1 e he
 have hh := hered_of hG hs.length L hleft hsh hsz (fun j hj => .inl hj) (fun j hj => hj)
 refine wpAnyC_of_wpR hC (hs := hs) (L := L) hsel (fun k o hk hf ho => ?_) hkeep hsz hs.length L hs (fun _ => none) a w rfl hnd (pairs_of hP) (fun j hj => (hmem j hj).2.1)
  (fun j hj => .inl hj) (fun _ _ => rfl) hh ⟨hw, fun _ _ hg => by cases hg⟩ rfl h
 have := List.all_eq_true.1 hPl k hk
 simp only [show (fs.contains k) = false from hf, ho, Bool.false_or] at this
 exact this
end
section
variable {P : Program} {md : Region.Mode} {ops : Array Oper} {C : World → Prop}
def wpFirstC (P : Program) (ops : Array Oper) (C : World → Prop) : List Nat → (Act → Prop) → Act → Prop
 | [], H, a => H a
 | i :: is, H, a => ∃ o v, ops[i]? = some o ∧ LoadsC P ops C o v a ∧ wpFirstC P ops C is H (a.put o.dst v)
theorem wpFirstC_any {Q : Exit → Act → World → Prop} (hsel : Region.noSelect ops = true) {w : World} (hC : C w) {n : Nat} {H : Act → Prop} : ∀ (fs : List Nat) (L : Array Bool) (a : Act), firstB md ops fs L = true →
  (∀ a, H a → wpAnyC P md ops (Only Q) C n (mark fs L) a w) → wpFirstC P ops C fs H a → wpAnyC P md ops (Only Q) C (fs.length + n) L a w
 | [], L, a, _, hH, h => by simpa using hH a h
 | i :: is, L, a, hb, hH, h => by
  obtain ⟨o, v, ho, hy, h⟩ := h
  simp only [firstB, Bool.and_eq_true, ho] at hb
  obtain ⟨⟨hr, hf⟩, hb⟩ := hb
  have hr2 : i ∈ Region.ready md ops L := by simpa using hr
  have ih := wpFirstC_any hsel hC is (L.setIfInBounds i true) _ hb hH h
  rw [List.length_cons, show is.length + 1 + n = is.length + n + 1 by omega]
  exact wpAnyC_first ho (Region.noSelect_spec hsel) _ L a w (fun j oj hj hne hun hno => freeB_spec ho hf hr2 j oj hj hne hun hno) hr2 hy hC ih
end
theorem wpAny_G {P : Program} {Q : Exit → Act → World → Prop} {a : Act} {w : World} {l : List Oper} (C : World → Prop) (hC : ∀ w', Below w.heap.size w w' → C w') (fs : List Nat)
  (hF : (Region.noSelect l.toArray && firstB .any l.toArray fs (Array.replicate l.length false)) = true)
  (ps : List (Nat × (Value → World → Prop))) (hs : List Nat) (g : Nat)
  (hn : fs.length + (hs.length + g) = l.length) (hkeep : ∀ x ∈ ps, Keeps x.2)
  (hB : (groupB .any l.toArray (mark fs (Array.replicate l.length false)) hs && pairsB .any l.toArray ((ps.map (·.1)).contains ·) hs && plainsB l.toArray ((ps.map (·.1)).contains ·) hs) = true)
  (h : wpFirstC P l.toArray C fs (fun a => wpS P .any l.toArray w ((ps.map (·.1)).contains ·) (pOf ps) (fun Γ' a' => ∀ w', All w (pOf ps) Γ' w' → wpAnyC P .any l.toArray (Only Q) C g (mark hs (mark fs (Array.replicate l.length false))) a' w') (numbered l.toArray hs) (fun _ => none) a) a) :
  wpAny P .any l.toArray (Only Q) l.toArray.size (Array.replicate l.toArray.size false) a w.drew := by
 simp only [Bool.and_eq_true] at hF
 have h1 := wpFirstC_any (P := P) (Q := Q) (md := .any) (C := C) hF.1 (w := w.drew) (hC _ (Below.refl _ w).drew) (n := hs.length + g) fs (Array.replicate l.length false) a hF.2 (fun a h => ?_) h
 ·rw [hn] at h1
  simpa using wpAnyC_any h1
 ·have h2 := wpR_of_wpS (fun k hk => by
   simp only [groupB, Bool.and_eq_true] at hB
   obtain ⟨_, hmem, _⟩ := orderB_spec hB.1.1.2
   exact (hmem k hk).2.2) h
  exact wpAnyC_R (P := P) (Q := Only Q) (w0 := w) (w := w.drew) (a := a) hC (ps.map (·.1)) hs g (pOf_keeps hkeep) hB (Below.refl _ w).drew h2
theorem wp_region_G {P : Program} {id : Nat} {Q : Exit → Act → World → Prop} {a : Act} {w : World} {l : List Oper} (C : World → Prop) (hC : ∀ w', Below w.heap.size w w' → C w') (fs : List Nat)
  (hF : (Region.noSelect l.toArray && firstB .any l.toArray fs (Array.replicate l.length false)) = true)
  (ps : List (Nat × (Value → World → Prop))) (hs : List Nat) (g : Nat) (hm : P.follows .mixedOrders = true)
  (hn : fs.length + (hs.length + g) = l.length) (hkeep : ∀ x ∈ ps, Keeps x.2)
  (hB : (groupB .any l.toArray (mark fs (Array.replicate l.length false)) hs && pairsB .any l.toArray ((ps.map (·.1)).contains ·) hs && plainsB l.toArray ((ps.map (·.1)).contains ·) hs) = true)
  (h : wpFirstC P l.toArray C fs (fun a => wpS P .any l.toArray w ((ps.map (·.1)).contains ·) (pOf ps) (fun Γ' a' => ∀ w', All w (pOf ps) Γ' w' → wpAnyC P .any l.toArray (Only Q) C g (mark hs (mark fs (Array.replicate l.length false))) a' w') (numbered l.toArray hs) (fun _ => none) a) a) :
  (Code.region id l.toArray true).wp P Q a w := wp_region_any hm (wpAny_only (wpAny_G C hC fs hF ps hs g hn hkeep hB h))
theorem wpIn_region_G {P : Program} {id : Nat} {Q : Exit → Act → World → Prop} {a : Act} {w : World} {l : List Oper} {lv n : Nat} (hd : noDefer l = true) (C : World → Prop) (hC : ∀ w', Below w.heap.size w w' → C w') (fs : List Nat)
  (hF : (Region.noSelect l.toArray && firstB .any l.toArray fs (Array.replicate l.length false)) = true)
  (ps : List (Nat × (Value → World → Prop))) (hs : List Nat) (g : Nat) (hm : P.follows .mixedOrders = true)
  (hn : fs.length + (hs.length + g) = l.length) (hkeep : ∀ x ∈ ps, Keeps x.2)
  (hB : (groupB .any l.toArray (mark fs (Array.replicate l.length false)) hs && pairsB .any l.toArray ((ps.map (·.1)).contains ·) hs && plainsB l.toArray ((ps.map (·.1)).contains ·) hs) = true)
  (h : wpFirstC P l.toArray C fs (fun a => wpS P .any l.toArray w ((ps.map (·.1)).contains ·) (pOf ps) (fun Γ' a' => ∀ w', All w (pOf ps) Γ' w' → wpAnyC P .any l.toArray (Only Q) C g (mark hs (mark fs (Array.replicate l.length false))) a' w') (numbered l.toArray hs) (fun _ => none) a) a) :
  (Code.region id l.toArray true).wpIn (Fence.wide.inRound lv) n P Q a w :=
 Go.wpIn_mono (Q := Only Q) (wpIn_region_any hm (wpAny_inRound (fun i o ho => noDefer_ne hd ho) (fun h => only_lets h) _ _ _ _ (wpAny_G C hC fs hF ps hs g hn hkeep hB h))) (fun e a w h => by obtain ⟨rfl, h⟩ := h; exact h)
end Go.Pb
namespace Go.Proofs
open Go.Shelf
def Tryz.lays125_ren : Go.Shelf.Ren := ⟨fun | 125 => 162 | 128 => 178 | 129 => 179 | n => n, fun | 46 => 193 | 3 => 3 | 51 => 205 | 53 => 175 | 4 => 4 | 5 => 5 | 9 => 9 | n => n, fun | n => n⟩
theorem Tryz.lays125 : Go.Proofs.Lays.n125 Tryz.prog Tryz.lays125_ren := {
 mixed := by kernel_rfl
 f125 := Tryz.func162.trans (congrArg some (by kernel_rfl))
 f128 := Tryz.func178.trans (congrArg some (by kernel_rfl))
 f129 := Tryz.func179.trans (congrArg some (by kernel_rfl))
 t3 := Tryz.underlying3
 a3 := Tryz.isAgg3
 z3 := Tryz.sizeOf3
 v3 := Tryz.zeroValue3
 t4 := Tryz.underlying4
 a4 := Tryz.isAgg4
 z4 := Tryz.sizeOf4
 v4 := Tryz.zeroValue4
 t5 := Tryz.underlying5
 a5 := Tryz.isAgg5
 z5 := Tryz.sizeOf5
 v5 := Tryz.zeroValue5
 t9 := Tryz.underlying9
 a9 := Tryz.isAgg9
 z9 := Tryz.sizeOf9
 v9 := Tryz.zeroValue9
 t46 := Tryz.underlying193
 a46 := Tryz.isAgg193
 z46 := Tryz.sizeOf193
 v46 := Tryz.zeroValue193
 t51 := Tryz.underlying205
 a51 := Tryz.isAgg205
 z51 := Tryz.sizeOf205
 v51 := Tryz.zeroValue205
 t53 := Tryz.underlying175
 a53 := Tryz.isAgg175
 z53 := Tryz.sizeOf175
 v53 := Tryz.zeroValue175 }
theorem Tryz.bits_Len (x : Int) (w : World) (h0 : 0 ≤ x) (h1 : x ≤ 18446744073709551615) :
  Calls Tryz.prog 162 #[.int .u64 x] w fun e w' => e = .returned (.int .i64 (Lib.bitLen x.toNat)) ∧ w' = w := Any.bits_Len Tryz.lays125 x w h0 h1
def Tryz.sortFeet_ren : Go.Shelf.Ren := ⟨fun | 6 => 145 | 15 => 162 | 14 => 161 | 28 => 178 | 29 => 179 | 20 => 170 | 21 => 171 | 22 => 172 | 23 => 173 | 24 => 174 | 25 => 175 | 26 => 176 | 27 => 177 | 46 => 181 | 47 => 182 | 48 => 183 | 49 => 184 | 50 => 185 | 57 => 186 | n => n, fun | 22 => 38 | 24 => 34 | 25 => 192 | 3 => 3 | 39 => 193 | 0 => 0 | 53 => 205 | 55 => 175 | 4 => 4 | 46 => 216 | 45 => 215 | 50 => 184 | 5 => 5 | 9 => 9 | 66 => 223 | 70 => 227 | 76 => 229 | 77 => 154 | n => n, fun | n => n⟩
theorem Tryz.sortFeet : Go.Proofs.SlLaysF0.n6 Tryz.prog Tryz.sortFeet_ren := {
 mixed := by kernel_rfl
 f6 := ⟨Tryz.f145.name, by decide, Tryz.func145.trans (congrArg some (by kernel_rfl))⟩
 f14 := ⟨Tryz.f161.name, by decide, Tryz.func161.trans (congrArg some (by kernel_rfl))⟩
 f15 := Tryz.func162.trans (congrArg some (by kernel_rfl))
 f20 := ⟨Tryz.f170.name, by decide, Tryz.func170.trans (congrArg some (by kernel_rfl))⟩
 f21 := ⟨Tryz.f171.name, by decide, Tryz.func171.trans (congrArg some (by kernel_rfl))⟩
 f22 := ⟨Tryz.f172.name, by decide, Tryz.func172.trans (congrArg some (by kernel_rfl))⟩
 f23 := ⟨Tryz.f173.name, by decide, Tryz.func173.trans (congrArg some (by kernel_rfl))⟩
 f24 := ⟨Tryz.f174.name, by decide, Tryz.func174.trans (congrArg some (by kernel_rfl))⟩
 f25 := ⟨Tryz.f175.name, by decide, Tryz.func175.trans (congrArg some (by kernel_rfl))⟩
 f26 := ⟨Tryz.f176.name, by decide, Tryz.func176.trans (congrArg some (by kernel_rfl))⟩
 f27 := ⟨Tryz.f177.name, by decide, Tryz.func177.trans (congrArg some (by kernel_rfl))⟩
 f28 := Tryz.func178.trans (congrArg some (by kernel_rfl))
 f29 := Tryz.func179.trans (congrArg some (by kernel_rfl))
 f46 := ⟨Tryz.f181.name, by decide, Tryz.func181.trans (congrArg some (by kernel_rfl))⟩
 f47 := Tryz.func182.trans (congrArg some (by kernel_rfl))
 f48 := Tryz.func183.trans (congrArg some (by kernel_rfl))
 f49 := ⟨Tryz.f184.name, by decide, Tryz.func184.trans (congrArg some (by kernel_rfl))⟩
 f50 := ⟨Tryz.f185.name, by decide, Tryz.func185.trans (congrArg some (by kernel_rfl))⟩
 f57 := ⟨Tryz.f186.name, by decide, Tryz.func186.trans (congrArg some (by kernel_rfl))⟩
 t0 := Tryz.underlying0
 a0 := Tryz.isAgg0
 z0 := Tryz.sizeOf0
 v0 := Tryz.zeroValue0
 t3 := Tryz.underlying3
 a3 := Tryz.isAgg3
 z3 := Tryz.sizeOf3
 v3 := Tryz.zeroValue3
 t4 := Tryz.underlying4
 a4 := Tryz.isAgg4
 z4 := Tryz.sizeOf4
 v4 := Tryz.zeroValue4
 t5 := Tryz.underlying5
 a5 := Tryz.isAgg5
 z5 := Tryz.sizeOf5
 v5 := Tryz.zeroValue5
 t9 := Tryz.underlying9
 a9 := Tryz.isAgg9
 z9 := Tryz.sizeOf9
 v9 := Tryz.zeroValue9
 t22 := Tryz.underlying38
 a22 := Tryz.isAgg38
 z22 := Tryz.sizeOf38
 v22 := Tryz.zeroValue38
 t25 := Tryz.underlying192
 a25 := Tryz.isAgg192
 z25 := Tryz.sizeOf192
 v25 := Tryz.zeroValue192
 t39 := Tryz.underlying193
 a39 := Tryz.isAgg193
 z39 := Tryz.sizeOf193
 v39 := Tryz.zeroValue193
 t45 := Tryz.underlying215
 a45 := Tryz.isAgg215
 z45 := Tryz.sizeOf215
 v45 := Tryz.zeroValue215
 t46 := Tryz.underlying216
 a46 := Tryz.isAgg216
 z46 := Tryz.sizeOf216
 v46 := Tryz.zeroValue216
 t50 := Tryz.underlying184
 a50 := Tryz.isAgg184
 z50 := Tryz.sizeOf184
 v50 := Tryz.zeroValue184
 t53 := Tryz.underlying205
 a53 := Tryz.isAgg205
 z53 := Tryz.sizeOf205
 v53 := Tryz.zeroValue205
 t55 := Tryz.underlying175
 a55 := Tryz.isAgg175
 z55 := Tryz.sizeOf175
 v55 := Tryz.zeroValue175
 t66 := Tryz.underlying223
 a66 := Tryz.isAgg223
 z66 := Tryz.sizeOf223
 v66 := Tryz.zeroValue223
 t70 := Tryz.underlying227
 a70 := Tryz.isAgg227
 z70 := Tryz.sizeOf227
 v70 := Tryz.zeroValue227
 t76 := Tryz.underlying229
 a76 := Tryz.isAgg229
 z76 := Tryz.sizeOf229
 v76 := Tryz.zeroValue229
 t77 := Tryz.underlying154
 a77 := Tryz.isAgg154
 z77 := Tryz.sizeOf154
 v77 := Tryz.zeroValue154 }
end Go.Proofs
namespace Go.Pb

open Go Go.RowKit
theorem run_copy_rowK {P : Program} (w : World) (dT sT ty elem : TypeId) (g o dLen dCap : Nat) (a : Addr) (sLen sCap : Nat) (cur : Array Value) (t : TypeId) (cs : List Value) (k n : Nat)
  (hu : P.underlying dT = some (.slice elem)) (hs : (P.info? elem).map (·.size) = some k)
  (hg : w.heap[g]? = some (.cells cur t (0, 0))) (hn : n = Nat.min sLen dLen) (hcl : cs.length = n * k)
  (hsrc : ∀ j v, cs[j]? = some v → w.cell? (a.add j) = some v) (hfit : o + cs.length ≤ cur.size) (h1 : ∀ v ∈ cs, v.oneCell' = true) :
  (Builtin.copy_ #[dT, sT] ty #[.slice (some ⟨g, o, none⟩) dLen dCap, .slice (some a) sLen sCap]).run P w =
   .ok (goInt n) (w.setRow g (cur.toList.take o ++ cs ++ cur.toList.drop (o + cs.length)).toArray) := by
 have hl := run_loadCells_list (P := P) w a cs hsrc
 have hst := run_storeCells_at P g o t cs 0 cur w hg (by simpa using hfit) h1
 cases hq : P.info? elem with
 | none => simp [hq] at hs
 | some i =>
  have hi : i.size = k := by simpa [hq] using hs
  have hm : Nat.min sLen dLen = n := hn.symm
  rw [hcl] at hl
  simp [Builtin.copy_, run_underlying hu, Builtin.lenOf, Builtin.firstCells, sizeOf, typeInfo, hq, hi, hm, hl, hst]
theorem wpList_copy_K {P : Program} {w : World} {ops : Array Oper} {rest : List Oper} {o : Oper} {a : Act} {Q : Exit → Act → World → Prop} (hgd : o.guard = none) (d s : Operand) (dT sT : TypeId)
  (ho : o.op = .call { callee := .builtin .copy, args := #[d, s], argTypes := #[dT, sT] }) (elem : TypeId) (hu : P.underlying dT = some (.slice elem)) (k n : Nat) (hsz : (P.info? elem).map (·.size) = some k)
  (g off dLen dCap : Nat) (ad : Addr) (sLen sCap : Nat) (hd : a.eval d = .slice (some ⟨g, off, none⟩) dLen dCap) (hs : a.eval s = .slice (some ad) sLen sCap)
  (cur : Array Value) (t : TypeId) (hg : w.heap[g]? = some (.cells cur t (0, 0))) (cs : List Value) (hn : n = Nat.min sLen dLen) (hcl : cs.length = n * k)
  (hsrc : ∀ j v, cs[j]? = some v → w.cell? (ad.add j) = some v) (hfit : off + cs.length ≤ cur.size) (h1 : ∀ v ∈ cs, v.oneCell' = true)
  (h : wpList P ops Q rest (a.put o.dst (goInt n)) (w.setRow g (cur.toList.take off ++ cs ++ cur.toList.drop (off + cs.length)).toArray)) : wpList P ops Q (o :: rest) a w := by
 refine wpList_plain hgd fun K hK => ?_
 have hrun := run_copy_rowK (P := P) w dT sT o.type elem g off dLen dCap ad sLen sCap cur t cs k n hu hsz hg hn hcl hsrc hfit h1
 unfold Oper.wp
 simp only [execOp, ho, resolve, invoke, builtin, Sem.run_bind, Sem.run_pure, Result.andThen_ok, List.map_toArray, List.map_cons, List.map_nil, hd, hs, hrun]
 exact hK _ _ h
theorem wp_copy_K {P : Program} {o : Oper} {a : Act} {w : World} {K : Act → World → Prop} {Q : Exit → Act → World → Prop} (d s : Operand) (dT sT : TypeId)
  (ho : o.op = .call { callee := .builtin .copy, args := #[d, s], argTypes := #[dT, sT] }) (elem : TypeId) (hu : P.underlying dT = some (.slice elem)) (k n : Nat) (hsz : (P.info? elem).map (·.size) = some k)
  (g off dLen dCap : Nat) (ad : Addr) (sLen sCap : Nat) (hd : a.eval d = .slice (some ⟨g, off, none⟩) dLen dCap) (hs : a.eval s = .slice (some ad) sLen sCap)
  (cur : Array Value) (t : TypeId) (hg : w.heap[g]? = some (.cells cur t (0, 0))) (cs : List Value) (hn : n = Nat.min sLen dLen) (hcl : cs.length = n * k)
  (hsrc : ∀ j v, cs[j]? = some v → w.cell? (ad.add j) = some v) (hfit : off + cs.length ≤ cur.size) (h1 : ∀ v ∈ cs, v.oneCell' = true)
  (h : K (a.put o.dst (goInt n)) (w.setRow g (cur.toList.take off ++ cs ++ cur.toList.drop (off + cs.length)).toArray)) :
  Oper.wp P o a w K Q := by
 have hrun := run_copy_rowK (P := P) w dT sT o.type elem g off dLen dCap ad sLen sCap cur t cs k n hu hsz hg hn hcl hsrc hfit h1
 unfold Oper.wp
 simp only [execOp, ho, resolve, invoke, builtin, Sem.run_bind, Sem.run_pure, Result.andThen_ok, List.map_toArray, List.map_cons, List.map_nil, hd, hs, hrun]
 exact h
end Go.Pb
namespace Go.Pb.Sag
open Go Go.Pb Go.Pb.Ware Go.RowKit

def RowsIn (lo T : Nat) (W : World) (vs : List Value) (gs : List (List Int)) : Prop := ∀ (k : Nat) (v : Value) (g : List Int), vs[k]? = some v → gs[k]? = some g → W.ownsRow lo T 1 v g.length (g.map (Value.int .i64))
def PutAt (G TO TI : Nat) (gs : List (List Int)) (W : World) : Prop := ∃ (gv : Value) (vs : List Value), (W.cell? ⟨G, 8, none⟩ = some gv ∧ W.frozen? ⟨G, 8, none⟩ = false) ∧ W.ownsRow (G + 1) TO 1 gv gs.length vs ∧ RowsIn (G + 1) TI W vs gs
theorem PutAt.next {G TO TI : Nat} {gs : List (List Int)} {W W' : World} (h : PutAt G TO TI gs W) (hb : Below W.heap.size W W') : PutAt G TO TI gs W' := by
 obtain ⟨gv, vs, ⟨c1, c2⟩, ho, hr⟩ := h
 exact ⟨gv, vs, ⟨bkeep hb c1, bfree hb c1 c2⟩, owns_below ho hb, fun k v g h1 h2 => owns_below (hr k v g h1 h2) hb⟩
theorem own_ge {W : World} {lo T s n : Nat} {v : Value} {xs : List Value} (h : W.ownsRow lo T s v n xs) : ∀ b, v.ownBlock = some b → lo ≤ b := fun b e => (World.ownsRow.lt h b e).1
theorem set_own {W : World} {lo T s n B o : Nat} {v u : Value} {xs : List Value} (h : W.ownsRow lo T s v n xs) (hne : v.ownBlock = none ∨ v.ownBlock ≠ some B) : (W.setCell ⟨B, o, none⟩ u).ownsRow lo T s v n xs := h.kept (grown_setc W ⟨B, o, none⟩ u) hne
theorem PutAt.push {G TO TI i k : Nat} (hT : TO ≠ TI) {gs : List (List Int)} {g : List Int} {W w2 w3 : World} {v v' : Value} {vs : List Value} {gb cap : Nat} (hG : Good i gs) (hg : gs[k]? = some g) (hv : vs[k]? = some v)
  (c8 : W.cell? ⟨G, 8, none⟩ = some (.slice (some ⟨gb, 0, none⟩) gs.length cap) ∧ W.frozen? ⟨G, 8, none⟩ = false) (ho : W.ownsRow (G + 1) TO 1 (.slice (some ⟨gb, 0, none⟩) gs.length cap) gs.length vs) (hr : RowsIn (G + 1) TI W vs gs)
  (hb : Below W.heap.size W w2) (hg3 : w2.grownBy w3 v.ownBlock) (ho3 : w3.ownsRow (G + 1) TI 1 v' (g.length + 1) (g.map (Value.int .i64) ++ [.int .i64 (i : Int)])) :
  (w3.cell? ⟨gb, k, none⟩ = some v ∧ w3.frozen? ⟨gb, k, none⟩ = false) ∧ PutAt G TO TI (gs.set k (g ++ [(i : Int)])) (w3.setCell ⟨gb, k, none⟩ v') ∧ Below (G + 1) W (w3.setCell ⟨gb, k, none⟩ v') := by
 have hk : k < gs.length := (List.getElem?_eq_some_iff.1 hg).1
 have hGW : G < W.heap.size := World.block_lt_of_cell? W _ c8.1
 have hrow := hr k v g hv hg
 have ho2 := owns_below ho hb
 have hrow2 := owns_below hrow hb
 have hgb : G + 1 ≤ gb := own_ge ho gb rfl
 have a1 : (Value.slice (some ⟨gb, 0, none⟩) gs.length cap).ownBlock = none ∨ (Value.slice (some ⟨gb, 0, none⟩) gs.length cap).ownBlock ≠ v.ownBlock := apart_types ho2 hrow2 hT
 have ho4 : w3.ownsRow (G + 1) TO 1 (.slice (some ⟨gb, 0, none⟩) gs.length cap) gs.length vs := ho2.kept hg3 a1
 have hlo : ∀ r, v.ownBlock = some r → G + 1 ≤ r := own_ge hrow
 have hbw : Below (G + 1) W w3 := (hb.mono (by omega)).grown hg3 (by have := hb.size; omega) hlo
 have a2 : some gb ≠ v.ownBlock := by rcases a1 with h | h; cases h; exact h
 have hcell : w3.cell? ⟨gb, k, none⟩ = some v := by
  have h1 := ho4.cells (g := gb) rfl k v hv
  rw [Go.WideShapes.add_plain, Nat.zero_add] at h1
  exact h1
 refine ⟨⟨hcell, owns_frozen ho4 rfl k⟩, ⟨.slice (some ⟨gb, 0, none⟩) gs.length cap, vs.set k v', ⟨?_, ?_⟩, ?_, ?_⟩, hbw.setCell (p := ⟨gb, k, none⟩) hgb v'⟩
 ·exact setc_block ((hbw.cell (p := ⟨G, 8, none⟩) (by simp)).trans c8.1) (by omega)
 ·exact set_free ((hbw.cell (p := ⟨G, 8, none⟩) (by simp)).trans c8.1) ((hbw.frozen (p := ⟨G, 8, none⟩) (by simp)).trans c8.2)
 ·rw [List.length_set]; exact row_set ho4 hk
 ·intro j u g' hu hg'
  have hts : ∀ {u : Value} {n : Nat} {xs : List Value}, w3.ownsRow (G + 1) TI 1 u n xs → u.ownBlock = none ∨ u.ownBlock ≠ some gb := fun h => apart_types h ho4 (Ne.symm hT)
  by_cases e : j = k
  ·subst e
   have hvl : j < vs.length := (List.getElem?_eq_some_iff.1 hv).1
   rw [List.getElem?_set_self hvl] at hu
   rw [List.getElem?_set_self hk] at hg'
   obtain rfl : v' = u := by simpa using hu
   obtain rfl : g ++ [(i : Int)] = g' := by simpa using hg'
   have h1 := set_own (o := j) (u := v') ho3 (hts ho3)
   simpa using h1
  ·rw [List.getElem?_set_ne (Ne.symm e)] at hu hg'
   have hj := hr j u g' hu hg'
   obtain ⟨x, hx⟩ := hG.one j g' hg'
   obtain ⟨y, hy⟩ := hG.one k g hg
   have hxy := hG.apart j k g' g x y e hg' hg hx hy
   have h1 : (g'.map (Value.int .i64))[0]? = some (.int .i64 x) := by rw [List.getElem?_map, hx]; rfl
   have h2 : (g.map (Value.int .i64))[0]? = some (.int .i64 y) := by rw [List.getElem?_map, hy]; rfl
   have h3 := (owns_below hj hb).kept hg3 (apart_heads (owns_below hj hb) hrow2 h1 h2 (fun h => hxy (by injection h)))
   exact set_own h3 (hts h3)
theorem PutAt.pop {G TO TI i k : Nat} (hT : TO ≠ TI) {gs : List (List Int)} {g : List Int} {W : World} {gb gcap b cap n : Nat} {vs : List Value} (hgs : gs[k]? = some g) (hn : gs.length = n)
  (c8 : W.cell? ⟨G, 8, none⟩ = some (.slice (some ⟨gb, 0, none⟩) n gcap) ∧ W.frozen? ⟨G, 8, none⟩ = false) (ho : W.ownsRow (G + 1) TO 1 (.slice (some ⟨gb, 0, none⟩) n gcap) n vs) (hr : RowsIn (G + 1) TI W vs (gs.set k (g ++ [(i : Int)])))
  (hv : vs[k]? = some (.slice (some ⟨b, 0, none⟩) (g.length + 1) cap)) :
  PutAt G TO TI gs (W.setCell ⟨gb, k, none⟩ (.slice (some ⟨b, 0, none⟩) g.length cap)) ∧ Below (G + 1) W (W.setCell ⟨gb, k, none⟩ (.slice (some ⟨b, 0, none⟩) g.length cap)) := by
 subst hn
 have hk : k < gs.length := (List.getElem?_eq_some_iff.1 hgs).1
 have hgb : G + 1 ≤ gb := own_ge ho gb rfl
 have hts : ∀ {u : Value} {n : Nat} {xs : List Value}, W.ownsRow (G + 1) TI 1 u n xs → u.ownBlock = none ∨ u.ownBlock ≠ some gb := fun h => apart_types h ho (Ne.symm hT)
 refine ⟨⟨.slice (some ⟨gb, 0, none⟩) gs.length gcap, vs.set k (.slice (some ⟨b, 0, none⟩) g.length cap), ⟨setc_block c8.1 (by omega), set_free c8.1 c8.2⟩, row_set ho hk, ?_⟩, (Below.refl _ _).setCell (p := ⟨gb, k, none⟩) hgb _⟩
 intro j u g' hu hg'
 by_cases e : j = k
 ·subst e
  have hvl : j < vs.length := (List.getElem?_eq_some_iff.1 hv).1
  rw [List.getElem?_set_self hvl] at hu
  rw [hgs] at hg'
  obtain rfl : Value.slice (some ⟨b, 0, none⟩) g.length cap = u := by simpa using hu
  obtain rfl : g = g' := by simpa using hg'
  have h1 := hr j _ _ hv (List.getElem?_set_self hk)
  rw [List.length_append, List.length_singleton] at h1
  have h2 := row_take (m := g.length) h1 (by omega)
  rw [List.map_append, List.take_append_of_le_length (by simp), List.take_of_length_le (by simp)] at h2
  exact set_own h2 (hts h2)
 ·rw [List.getElem?_set_ne (Ne.symm e)] at hu
  have h1 := hr j u g' hu (by rw [List.getElem?_set_ne (Ne.symm e)]; exact hg')
  exact set_own h1 (hts h1)
theorem PutAt.grow {G TO TI i n : Nat} (hT : TO ≠ TI) {gs : List (List Int)} {W w3 : World} {gv gv' : Value} {vs : List Value} (hG : Good i gs) (hn : gs.length = n)
  (c8 : W.cell? ⟨G, 8, none⟩ = some gv ∧ W.frozen? ⟨G, 8, none⟩ = false) (ho : W.ownsRow (G + 1) TO 1 gv n vs) (hr : RowsIn (G + 1) TI W vs gs)
  (hg3 : ((W.alloc (.cells #[.int .i64 (i : Int)] TI)).alloc (.cells #[.slice (some ⟨W.heap.size, 0, none⟩) 1 1] TO)).grownBy w3 gv.ownBlock) (ho3 : w3.ownsRow (G + 1) TO 1 gv' (n + 1) (vs ++ [.slice (some ⟨W.heap.size, 0, none⟩) 1 1])) :
  (w3.cell? ⟨G, 8, none⟩ = some gv ∧ w3.frozen? ⟨G, 8, none⟩ = false) ∧ PutAt G TO TI (gs ++ [[(i : Int)]]) (w3.setCell ⟨G, 8, none⟩ gv') ∧ Below (G + 1) W w3 := by
 subst hn
 have hGW : G < W.heap.size := World.block_lt_of_cell? W _ c8.1
 have hb : Below W.heap.size W ((W.alloc (.cells #[.int .i64 (i : Int)] TI)).alloc (.cells #[.slice (some ⟨W.heap.size, 0, none⟩) 1 1] TO)) := ((Below.refl _ W).alloc (Nat.le_refl _) _).alloc (by simp) _
 have hbw : Below (G + 1) W w3 := (hb.mono (by omega)).grown hg3 (by simp; omega) (own_ge ho)
 have hG8 : w3.cell? ⟨G, 8, none⟩ = some gv ∧ w3.frozen? ⟨G, 8, none⟩ = false := ⟨(hbw.cell (p := ⟨G, 8, none⟩) (by simp)).trans c8.1, (hbw.frozen (p := ⟨G, 8, none⟩) (by simp)).trans c8.2⟩
 have far : ∀ {T n : Nat} {v : Value} {xs : List Value}, w3.ownsRow (G + 1) T 1 v n xs → v.ownBlock = none ∨ v.ownBlock ≠ some G := fun h => .inr fun e => by have := own_ge h G e; omega
 have hvl : vs.length = gs.length := by have := ho.1; omega
 refine ⟨hG8, ⟨gv', vs ++ [.slice (some ⟨W.heap.size, 0, none⟩) 1 1], ⟨setc_same hG8.1, set_free hG8.1 hG8.2⟩, ?_, ?_⟩, hbw⟩
 ·rw [List.length_append, List.length_singleton]; exact set_own ho3 (far ho3)
 ·intro k v g hv hg
  rcases Nat.lt_or_ge k gs.length with h1 | h1
  ·rw [List.getElem?_append_left (by omega)] at hv
   rw [List.getElem?_append_left h1] at hg
   have h2 := owns_below (hr k v g hv hg) hb
   have h3 := h2.kept hg3 (apart_types h2 (owns_below ho hb) (Ne.symm hT))
   exact set_own h3 (far h3)
  ·rw [List.getElem?_append_right (by omega), hvl] at hv
   rw [List.getElem?_append_right h1] at hg
   have h4 := (List.getElem?_eq_some_iff.1 hg).1
   simp at h4
   have e : k = gs.length := by omega
   subst e
   simp at hv hg
   subst hv; subst hg
   have h2 : ((W.alloc (.cells #[.int .i64 (i : Int)] TI)).alloc (.cells #[.slice (some ⟨W.heap.size, 0, none⟩) 1 1] TO)).ownsRow (G + 1) TI 1 (.slice (some ⟨W.heap.size, 0, none⟩) 1 1) 1 [.int .i64 (i : Int)] := by
    refine ⟨rfl, .inr ⟨W.heap.size, 1, #[.int .i64 (i : Int)], rfl, by omega, ?_, Nat.le_refl _, by unfold maxLen; omega, rfl, rfl⟩⟩
    rw [Below.heap_alloc _ _ _ (by simp)]
    exact World.alloc_heap_new W _
   have h3 := h2.kept hg3 (apart_types h2 (owns_below ho hb) (Ne.symm hT))
   exact set_own h3 (far h3)
theorem PutAt.shrink {G TO TI n gb cap : Nat} {gs : List (List Int)} {g : List Int} {W : World} {vs : List Value} (hn : gs.length = n)
  (c8 : W.cell? ⟨G, 8, none⟩ = some (.slice (some ⟨gb, 0, none⟩) (n + 1) cap) ∧ W.frozen? ⟨G, 8, none⟩ = false) (ho : W.ownsRow (G + 1) TO 1 (.slice (some ⟨gb, 0, none⟩) (n + 1) cap) (n + 1) vs) (hr : RowsIn (G + 1) TI W vs (gs ++ [g])) :
  PutAt G TO TI gs (W.setCell ⟨G, 8, none⟩ (.slice (some ⟨gb, 0, none⟩) n cap)) := by
 subst hn
 have far : ∀ {T n : Nat} {v : Value} {xs : List Value}, W.ownsRow (G + 1) T 1 v n xs → v.ownBlock = none ∨ v.ownBlock ≠ some G := fun h => .inr fun e => by have := own_ge h G e; omega
 have h1 := row_take (m := gs.length) ho (by omega)
 refine ⟨.slice (some ⟨gb, 0, none⟩) gs.length cap, vs.take gs.length, ⟨setc_same c8.1, set_free c8.1 c8.2⟩, set_own h1 (far h1), ?_⟩
 intro k v g' hv hg
 have hk : k < gs.length := (List.getElem?_eq_some_iff.1 hg).1
 rw [List.getElem?_take, if_pos hk] at hv
 have h2 := hr k v g' hv (by rw [List.getElem?_append_left hk]; exact hg)
 exact set_own h2 (far h2)
def GAt (G : Nat) (gc : List Value) (W : World) : Prop := ∀ o u, gc[o]? = some u → W.cell? ⟨G, o, none⟩ = some u ∧ W.frozen? ⟨G, o, none⟩ = false
theorem GAt.below {G : Nat} {gc : List Value} {W W' : World} (h : GAt G gc W) (hb : Below (G + 1) W W') : GAt G gc W' := fun o u hu => ⟨(hb.cell (p := ⟨G, o, none⟩) (by simp)).trans (h o u hu).1, (hb.frozen (p := ⟨G, o, none⟩) (by simp)).trans (h o u hu).2⟩
theorem GAt.set {G : Nat} {gc : List Value} {W : World} {v : Value} (h : GAt G gc W) (hl : gc.length ≤ 8) : GAt G gc (W.setCell ⟨G, 8, none⟩ v) := fun o u hu => ⟨setc_other (h o u hu).1 (by have := (List.getElem?_eq_some_iff.1 hu).1; omega), set_free (h o u hu).1 (h o u hu).2⟩
theorem own_some {W : World} {lo T s n : Nat} {v : Value} {xs : List Value} (h : W.ownsRow lo T s v n xs) (hn : 0 < n) : ∃ g cap, v = .slice (some ⟨g, 0, none⟩) n cap ∧ n ≤ cap ∧ cap ≤ 9223372036854775807 := by
 rcases h.2 with ⟨_, h0⟩ | ⟨g, cap, _, rfl, _, _, h4, h5, _⟩
 ·omega
 ·exact ⟨g, cap, rfl, h4, by unfold maxLen at h5; omega⟩
end Go.Pb.Sag
namespace Go.Pb.Sag
open Go Go.Pb Go.Pb.Ware Go.RowKit

theorem copy_owns {w : World} {lo T B m : Nat} {cur : Array Value} {cs : List Value} (hg : w.heap[B]? = some (.cells cur T (0, 0))) (hlo : lo ≤ B) (hs : cur.size = m) (hm : m ≤ maxLen) (hc : cs.length = m) :
  (w.setRow B (cur.toList.take 0 ++ (cs ++ cur.toList.drop (0 + cs.length))).toArray).ownsRow lo T 1 (.slice (some ⟨B, 0, none⟩) m m) m cs := by
 have e : cur.toList.take 0 ++ (cs ++ cur.toList.drop (0 + cs.length)) = cs := by
  rw [List.take_zero, List.nil_append, Nat.zero_add, List.drop_of_length_le (by rw [Array.length_toList]; omega), List.append_nil]
 rw [e]
 refine ⟨by omega, .inr ⟨B, m, cs.toArray, rfl, hlo, setRow_heap w B cur _ T (0, 0) hg, Nat.le_refl _, hm, by simp; omega, ?_⟩⟩
 rw [Nat.mul_one, List.take_of_length_le (by simp; omega)]
def groupsF (s : Bx) (fs : List Ft) : Option (List (List Int)) := (List.range (fs.length + 1)).findSome? fun m => putF s fs m fs.length 0 []
def groupsA (ss bs : List (List Int)) (s : Bx) (xs : List It) : List (List Int) × Int :=
 if ckL ss bs s xs = 0 then (if (feetV ss bs s xs).all (fun f => fitsB s [f]) = true then ((groupsF s (feetV ss bs s xs)).getD [], 0) else ([], 24)) else ([], ckL ss bs s xs)
theorem find_some {α : Type} {f : Nat → Option α} {n : Nat} {r : α} (h : (List.range n).findSome? f = some r) : ∃ k, k < n ∧ f k = some r := by
 obtain ⟨k, hk, h2⟩ := List.exists_of_findSome?_eq_some h
 exact ⟨k, List.mem_range.1 hk, h2⟩
end Go.Pb.Sag