/- Part of a claim. -/
import Derived.Test.YtodmidchpbcnpaaGreatKScV
import Derived.Shelf.SlSortCmp.SmallK
import Derived.Test.YtodmidchpbcnpaaGreatKLibV
import Derived.Laws.CopyOwn
set_option linter.unusedVariables false
set_option linter.unusedSimpArgs false
namespace Go.Pb.Sag
open Go Go.Pb Go.Pb.Ware Go.RowKit Go.Proofs Go.Sort

abbrev FtV := {f : Ft // FtOk f}
instance : Inhabited FtV := ⟨⟨⟨1, 1, 0, 0⟩, by unfold FtOk; simp⟩⟩
def encF (f : FtV) : List Value := cellsF f.1
def cmpF (x y : FtV) : Int := y.1.wide * y.1.deep - x.1.wide * x.1.deep
theorem cmpF_swo : SWO (ltOf cmpF) where
 irrefl x := by unfold ltOf cmpF; simp
 trans x y z h1 h2 := by unfold ltOf cmpF at *; simp only [decide_eq_true_eq] at *; omega
 ntrans x y z h1 h2 := by unfold ltOf cmpF at *; simp only [decide_eq_false_iff_not] at *; omega
def valF (fs : List Ft) (hok : ∀ f ∈ fs, FtOk f) : Array FtV := (fs.attachWith FtOk hok).toArray
theorem valF_size (fs : List Ft) (hok : ∀ f ∈ fs, FtOk f) : (valF fs hok).size = fs.length := by simp [valF]
theorem valF_map (fs : List Ft) (hok : ∀ f ∈ fs, FtOk f) : (valF fs hok).toList.map (·.1) = fs := by unfold valF; simp
theorem owns_frozen {w : World} {base size n g : Nat} {e : TypeId} {v : Value} {xs : List Value} (h : w.ownsRow base e size v n xs) (hg : v.ownBlock = some g) (o : Nat) : w.frozen? ⟨g, o, none⟩ = false := by
 rcases h.2 with ⟨rfl, _⟩ | ⟨g', cap, cur, rfl, _, hgb, _⟩
 ·simp [Value.ownBlock] at hg
 ·obtain rfl : g' = g := by simpa [Value.ownBlock] using hg
  simp [World.frozen?, hgb]
theorem holdsF {w : World} {base b cap : Nat} {e : TypeId} {fs : List Ft} (hok : ∀ f ∈ fs, FtOk f) (h : w.ownsRow base e 4 (.slice (some ⟨b, 0, none⟩) fs.length cap) fs.length (fs.flatMap cellsF)) : HoldsK encF 4 w b 0 (valF fs hok) := by
 intro t ht
 rw [size_flatK, valF_size] at ht
 refine ⟨?_, owns_frozen h rfl _⟩
 rw [get_flatK _ _ _ _ (by rw [valF_size]; exact ht)]
 have hk : t / 4 < fs.length := by omega
 have hk2 : t / 4 < (valF fs hok).size := by rw [valF_size]; exact hk
 have hf : ((valF fs hok)[t / 4]!).1 = fs[t / 4] := by
  rw [getElem!_pos (valF fs hok) (t / 4) hk2]
  have h1 : ((valF fs hok).toList.map (·.1))[t / 4]? = some fs[t / 4] := by rw [valF_map]; exact List.getElem?_eq_getElem hk
  rw [List.getElem?_map, Array.getElem?_toList, Array.getElem?_eq_getElem hk2] at h1
  simpa using h1
 have hu : (cellsF fs[t / 4])[t % 4]? = some ((encF (valF fs hok)[t / 4]!)[t % 4]!) := by
  unfold encF; rw [hf]
  have hlt : t % 4 < (cellsF fs[t / 4]).length := by show t % 4 < 4; omega
  rw [getElem!_pos (cellsF fs[t / 4]) (t % 4) hlt, List.getElem?_eq_getElem hlt]
 have h2 := h.cells (g := b) rfl t _ (by
  have h3 := flat_get (n := 4) cellsF (fun _ => rfl) (List.getElem?_eq_getElem hk) (j := t % 4) (by omega)
  rw [show t / 4 * 4 + t % 4 = t by omega] at h3
  rw [h3]; exact hu)
 rw [Go.WideShapes.add_plain] at h2
 exact h2
theorem feetAt_holds {w : World} {b n cap : Nat} {d : Array FtV} (hn : d.size = n) (hcap : n ≤ cap) (hcap2 : cap ≤ 9223372036854775807) (h : HoldsK encF 4 w b 0 d) : FeetAt w (.slice (some ⟨b, 0, none⟩) n cap) (d.toList.map (·.1)) := by
 subst hn
 refine .inr ⟨⟨b, 0, none⟩, cap, by simp, by simpa using hcap, hcap2, fun k r hr => ?_⟩
 rw [List.getElem?_map, List.getElem?_map, Array.getElem?_toList] at hr
 have hk : k < d.size := by
  rcases Nat.lt_or_ge k d.size with h1 | h1
  ·exact h1
  ·rw [Array.getElem?_eq_none h1] at hr; simp at hr
 rw [Array.getElem?_eq_getElem hk] at hr
 have hr2 : rowF d[k].1 = r := by simpa using hr
 subst hr2
 refine ⟨rfl, fun j z hz => ⟨?_, i64F d[k].2 z (List.mem_of_getElem? hz)⟩⟩
 have hj : j < 4 := (List.getElem?_eq_some_iff.1 hz).1
 have h1 := (h.cell hk hj).1
 rw [Go.WideShapes.add_plain, show 0 + (k * 4 + j) = 0 + k * 4 + j by omega, h1, getElem!_pos d k hk]
 unfold encF
 have h2 : (cellsF d[k].1)[j]? = some (.int .i64 z) := by
  have : cellsF d[k].1 = (rowF d[k].1).map (.int .i64) := rfl
  rw [this, List.getElem?_map, hz]; rfl
 have hlt : j < (cellsF d[k].1).length := hj
 rw [getElem!_pos (cellsF d[k].1) j hlt, ← List.getElem?_eq_getElem hlt, h2]
theorem permF {fs : List Ft} {hok : ∀ f ∈ fs, FtOk f} {d : Array FtV} (h : PermIn 0 (valF fs hok).size (valF fs hok) d) : d.size = fs.length ∧ (d.toList.map (·.1)).Perm fs := by
 obtain ⟨h1, _, h3⟩ := h
 refine ⟨by rw [h1, valF_size], ?_⟩
 have e1 : d.extract 0 (valF fs hok).size = d := by rw [← h1]; simp
 have e2 : (valF fs hok).extract 0 (valF fs hok).size = valF fs hok := by simp
 rw [e1, e2] at h3
 have h4 := h3.map (fun x : FtV => x.1)
 rw [valF_map] at h4
 exact h4
theorem below_sort {w : World} {B b m : Nat} {d : Array FtV} {os : Array Obj} (hb : B ≤ b) (hB : B ≤ w.heap.size) : Below B w (sortWorldK encF 4 w b 0 m d os) := by
 refine ⟨rfl, rfl, rfl, size_sortWorldK_c .., fun k hk => ?_⟩
 unfold sortWorldK
 rw [heap_grow_old _ _ (by simp [putRowK]; omega)]
 unfold putRowK putRow mapBlock
 rw [Array.getElem?_modify, if_neg (by omega)]
 rfl
end Go.Pb.Sag
namespace Go.Pb.Sag
open Go Go.Pb Go.Pb.Ware Go.RowKit
theorem sum_perm {l m : List Int} (h : l.Perm m) : l.sum = m.sum := by
 induction h with
 | nil => rfl
 | cons x _ ih => rw [List.sum_cons, List.sum_cons, ih]
 | swap x y l => simp only [List.sum_cons]; omega
 | trans _ _ h1 h2 => exact h1.trans h2
def fitsB (s : Bx) (fs : List Ft) : Bool := !(shownL s fs).isEmpty
theorem plain_perm {s : Bx} {fs gs : List Ft} (h : gs.Perm fs) : plainB s gs = plainB s fs := by
 have h1 : ∀ p : Ft → Bool, gs.any p = fs.any p := fun p => by
  rw [Bool.eq_iff_iff, List.any_eq_true, List.any_eq_true]
  exact ⟨fun ⟨x, hx, e⟩ => ⟨x, h.mem_iff.1 hx, e⟩, fun ⟨x, hx, e⟩ => ⟨x, h.mem_iff.2 hx, e⟩⟩
 have h2 : weightL gs = weightL fs := sum_perm (h.map _)
 have h3 : areaL gs = areaL fs := sum_perm (h.map _)
 have h4 : ∀ k, troubleB s gs k = troubleB s fs k := fun k => by unfold troubleB; rw [h1, h1, h2, h3]
 unfold plainB; rw [h4, h4, h4, h4]
theorem fits_perm {s : Bx} {fs gs : List Ft} (h : gs.Perm fs) : fitsB s gs = fitsB s fs := by
 have key : ∀ {fs gs : List Ft}, gs.Perm fs → shownL s gs ≠ [] → shownL s fs ≠ [] := by
  intro fs gs h h1
  unfold shownL at h1 ⊢
  rw [plain_perm h] at h1
  split at h1
  ·exact absurd rfl h1
  ·rename_i hp; rw [if_neg hp]; exact packs_perm (h.map _) 0 h1
 unfold fitsB
 rw [Bool.eq_iff_iff]
 simp only [Bool.not_eq_true', List.isEmpty_eq_false_iff]
 exact ⟨key h, key h.symm⟩
theorem fits_none {s : Bx} {fs : List Ft} (h : (shownL s fs)[0]? = none) : fitsB s fs = false := by
 unfold fitsB; cases hs : shownL s fs with
 | nil => rfl
 | cons a l => rw [hs] at h; simp at h
theorem fits_some {s : Bx} {fs : List Ft} {q : List St} (h : (shownL s fs)[0]? = some q) : fitsB s fs = true := by
 unfold fitsB; cases hs : shownL s fs with
 | nil => rw [hs] at h; simp at h
 | cons a l => rfl
end Go.Pb.Sag
namespace Go.Pb
open Go Go.RowKit

structure LAt (n : Nat) (w : World) (v : Value) (m : Nat) (cs : List Value) : Prop where
 len : cs.length = m * n
 one : ∀ u ∈ cs, u.oneCell' = true
 at' : (v = .slice none 0 0 ∧ m = 0) ∨ ∃ (a : Addr) (cap : Nat), v = .slice (some a) m cap ∧ m ≤ cap ∧ cap ≤ 9223372036854775807 ∧ ∀ j u, cs[j]? = some u → w.cell? (a.add j) = some u
theorem LAt.below {n m : Nat} {w w' : World} {v : Value} {cs : List Value} (h : LAt n w v m cs) (hb : Below w.heap.size w w') : LAt n w' v m cs :=
 ⟨h.len, h.one, by
  rcases h.at' with h1 | ⟨a, cap, h1, h2, h3, h4⟩
  ·exact .inl h1
  ·exact .inr ⟨a, cap, h1, h2, h3, fun j u hu => bkeep hb (h4 j u hu)⟩⟩
theorem LAt.shape {n m : Nat} {w : World} {v : Value} {cs : List Value} (h : LAt n w v m cs) : ∃ (a : Option Addr) (cap : Nat), v = .slice a m cap ∧ m ≤ cap ∧ cap ≤ 9223372036854775807 ∧ (a = none → m = 0 ∧ cap = 0) := by
 rcases h.at' with ⟨h1, h2⟩ | ⟨a, cap, h1, h2, h3, h4⟩
 ·subst h2; exact ⟨none, 0, h1, Nat.le_refl _, by omega, fun _ => ⟨rfl, rfl⟩⟩
 ·exact ⟨some a, cap, h1, h2, h3, fun e => by cases e⟩
theorem LAt.cells {n m cap : Nat} {w : World} {a : Addr} {cs : List Value} (h : LAt n w (.slice (some a) m cap) m cs) : ∀ j u, cs[j]? = some u → w.cell? (a.add j) = some u := by
 rcases h.at' with ⟨h1, _⟩ | ⟨a', cap', h1, _, _, h4⟩
 ·cases h1
 ·injection h1 with h1 _ _; injection h1 with h1; subst h1; exact h4
theorem LAt.nil {n cap : Nat} {w : World} {cs : List Value} {m : Nat} (h : LAt n w (.slice none m cap) m cs) : m = 0 ∧ cap = 0 ∧ cs = [] := by
 rcases h.at' with ⟨h1, h2⟩ | ⟨a', cap', h1, _, _, h4⟩
 ·injection h1 with _ _ h3; subst h2; exact ⟨rfl, h3, List.length_eq_zero_iff.1 (by rw [h.len]; simp)⟩
 ·injection h1 with h1 _ _; cases h1
theorem LAt.head {n m cap k : Nat} {w : World} {a : Addr} {cs : List Value} (h : LAt n w (.slice (some a) m cap) m cs) (hk : k ≤ m) : LAt n w (.slice (some a) k cap) k (cs.take (k * n)) := by
 obtain ⟨_, cap', e, h2, h3, _⟩ := h.shape
 injection e with _ _ e; subst e
 refine ⟨by rw [List.length_take, h.len]; exact Nat.min_eq_left (Nat.mul_le_mul_right n hk), fun u hu => h.one u (List.mem_of_mem_take hu), .inr ⟨a, cap, rfl, by omega, h3, fun j u hu => ?_⟩⟩
 rw [List.getElem?_take] at hu
 split at hu
 ·exact h.cells j u hu
 ·cases hu
theorem LAt.tail {n m cap k : Nat} {w : World} {a q : Addr} {cs : List Value} (h : LAt n w (.slice (some a) m cap) m cs) (hk : k ≤ m) (hq : k < m → q = a.add (k * n)) : LAt n w (.slice (some q) (m - k) (cap - k)) (m - k) (cs.drop (k * n)) := by
 obtain ⟨_, cap', e, h2, h3, _⟩ := h.shape
 injection e with _ _ e; subst e
 refine ⟨by rw [List.length_drop, h.len, Nat.sub_mul], fun u hu => h.one u (List.mem_of_mem_drop hu), .inr ⟨q, cap - k, rfl, by omega, by omega, fun j u hu => ?_⟩⟩
 have hkm : k < m := by
  rcases Nat.lt_or_ge k m with h5 | h5
  ·exact h5
  ·have h6 := (List.getElem?_eq_some_iff.1 hu).1
   rw [List.length_drop, h.len] at h6
   have := Nat.mul_le_mul_right n h5
   omega
 rw [hq hkm, Go.Deep.add_add]
 rw [List.getElem?_drop] at hu
 exact h.cells _ u hu
theorem drop_take_erase {n : Nat} {α : Type} {f : α → List Value} (hf : ∀ x, (f x).length = n) : ∀ {l : List α} {k : Nat}, (l.flatMap f).take (k * n) = (l.take k).flatMap f ∧ (l.flatMap f).drop (k * n) = (l.drop k).flatMap f
 | [], k => by simp
 | x :: l, 0 => by simp
 | x :: l, k + 1 => by
  obtain ⟨h1, h2⟩ := drop_take_erase hf (l := l) (k := k)
  rw [List.flatMap_cons, List.take_succ_cons, List.drop_succ_cons, List.flatMap_cons, Nat.succ_mul]
  have e : (f x).length ≤ k * n + n := by rw [hf]; omega
  refine ⟨?_, ?_⟩
  ·rw [List.take_append, List.take_of_length_le e, hf, show k * n + n - n = k * n by omega, h1]
  ·rw [List.drop_append, List.drop_of_length_le e, hf, show k * n + n - n = k * n by omega, h2, List.nil_append]
theorem flat_erase {n : Nat} {α : Type} {f : α → List Value} (hf : ∀ x, (f x).length = n) (l : List α) (k : Nat) : (l.flatMap f).take (k * n) ++ (l.flatMap f).drop ((k + 1) * n) = (l.eraseIdx k).flatMap f := by
 rw [(drop_take_erase hf).1, (drop_take_erase hf).2, ← List.flatMap_append, ← List.eraseIdx_eq_take_drop_succ]
end Go.Pb
namespace Go.Pb.Sag
open Go Go.Pb Go.Pb.Ware Go.RowKit

theorem lenQ' (q : Sq) : (cellsQ q).length = 3 := rfl
theorem st_len (qs : List Sq) : (qs.flatMap cellsQ).length = qs.length * 3 := by
 induction qs with
 | nil => rfl
 | cons x xs ih => rw [List.flatMap_cons, List.length_append, ih, List.length_cons, lenQ']; omega
theorem st_one {qs : List Sq} : ∀ u ∈ qs.flatMap cellsQ, u.oneCell' = true := fun u hu => by
 obtain ⟨x, _, h⟩ := List.mem_flatMap.1 hu
 simp only [cellsQ, List.mem_cons, List.not_mem_nil, or_false] at h
 rcases h with rfl | rfl | rfl <;> rfl
theorem st_lat {w : World} {v : Value} {qs : List Sq} (h : StAt w v qs) : LAt 3 w v qs.length (qs.flatMap cellsQ) := by
 refine ⟨st_len qs, st_one, ?_⟩
 rcases h with ⟨h1, h2⟩ | ⟨a, cap, h1, h2, h3, h4⟩
 ·subst h2; exact .inl ⟨h1, rfl⟩
 ·refine .inr ⟨a, cap, h1, h2, h3, fun j u hu => ?_⟩
  have hj := (List.getElem?_eq_some_iff.1 hu).1
  rw [st_len] at hj
  have hx : qs[j / 3]? = some qs[j / 3] := List.getElem?_eq_getElem (by omega)
  have e := flat_get cellsQ lenQ' hx (show j % 3 < 3 by omega)
  rw [show j / 3 * 3 + j % 3 = j by omega] at e
  have := h4 (j / 3) _ hx (j % 3) u (by rw [← e]; exact hu)
  rwa [show j / 3 * 3 + j % 3 = j by omega] at this
end Go.Pb.Sag
namespace Go.Pb.Sag
open Go Go.Pb Go.Pb.Ware Go.RowKit

def troubleA (s : Bx) (fs : List Ft) (kind : Int) : Bool := if kind = 5 then !fitsB s fs else troubleB s fs kind
theorem troubleA_5 (s : Bx) (fs : List Ft) : troubleA s fs 5 = !fitsB s fs := rfl
theorem troubleA_B {s : Bx} {fs : List Ft} {k : Int} (h : k ≠ 5) : troubleA s fs k = troubleB s fs k := if_neg h
def idxs (n : Nat) : List Int := (List.range n).map fun k : Nat => (k : Int)
theorem idxs_len (n : Nat) : (idxs n).length = n := by simp [idxs]
theorem idxs_at {n k : Nat} (h : k < n) : (idxs n)[k]? = some (k : Int) := by simp [idxs, h]
theorem idxs_mem {n : Nat} {z : Int} (h : z ∈ idxs n) : 0 ≤ z ∧ z < (n : Int) := by
 unfold idxs at h
 obtain ⟨k, hk, rfl⟩ := List.mem_map.1 h
 have := List.mem_range.1 hk
 omega
def needStep (s : Bx) (fs : List Ft) (kind : Int) (l : List Int) (i : Nat) : List Int := if troubleA s (chosenL fs (l.eraseIdx i)) kind = true then l.eraseIdx i else l
def needLoop (s : Bx) (fs : List Ft) (kind : Int) : Nat → List Int → List Int
 | 0, l => l
 | i + 1, l => needLoop s fs kind i (needStep s fs kind l i)
def neededL (s : Bx) (fs : List Ft) (kind : Int) : List Int := needLoop s fs kind fs.length (idxs fs.length)
theorem erase_mem {l : List Int} {i : Nat} {z : Int} (h : z ∈ l.eraseIdx i) : z ∈ l := List.mem_of_mem_eraseIdx h
theorem made_any {w : World} {base n : Nat} {B e : Nat} {z : Value} (hz : z.cells = #[z]) (h : w.ownsRow base e 1 (.slice (some ⟨B, 0, none⟩) n n) n (madeCells z.cells (n * 1)).toList) : ∀ i, i < n → w.cell? ⟨B, i, none⟩ = some z ∧ w.frozen? ⟨B, i, none⟩ = false := by
 intro i hk
 refine ⟨?_, owns_frozen h rfl i⟩
 have h2 := h.cells (g := B) rfl i z (by
  rw [Array.getElem?_toList]
  unfold madeCells
  rw [Array.getElem?_map, Array.getElem?_range, if_pos (show i < n * 1 by omega), hz]
  show some (#[z] : Array Value)[i % 1]! = _
  rw [Nat.mod_one]; rfl)
 rw [Go.WideShapes.add_plain, Nat.zero_add] at h2
 exact h2
def IdxAt (B n k : Nat) (W : World) : Prop := ∀ j, j < n → W.cell? ⟨B, j, none⟩ = some (.int .i64 (if j < k then (j : Int) else 0)) ∧ W.frozen? ⟨B, j, none⟩ = false
theorem IdxAt.set {B n k : Nat} {W : World} (h : IdxAt B n k W) (hk : k < n) : IdxAt B n (k + 1) (W.setCell ⟨B, k, none⟩ (.int .i64 (k : Int))) := by
 intro j hj
 have h1 := h j hj
 refine ⟨?_, set_free h1.1 h1.2⟩
 by_cases e : j = k
 ·subst e; rw [if_pos (by omega)]; exact setc_same h1.1
 ·rw [setc_other h1.1 e]
  by_cases e2 : j < k
  ·rw [if_pos e2, if_pos (by omega)]
  ·rw [if_neg e2, if_neg (by omega)]
theorem IdxAt.nums {B n : Nat} {W : World} (h : IdxAt B n n W) (hn : n ≤ 1000) : NumsAt W (.slice (some ⟨B, 0, none⟩) n n) (idxs n) := by
 refine .inr ⟨⟨B, 0, none⟩, n, by rw [idxs_len], by rw [idxs_len]; exact Nat.le_refl _, by omega, fun k z hz => ?_⟩
 have hk : k < n := by have := (List.getElem?_eq_some_iff.1 hz).1; rwa [idxs_len] at this
 rw [idxs_at hk] at hz
 injection hz with hz
 subst hz
 have h1 := (h k hk).1
 rw [if_pos hk] at h1
 rw [Go.WideShapes.add_plain, Nat.zero_add]
 exact ⟨h1, I64.mk (by omega) (by omega)⟩
end Go.Pb.Sag
namespace Go.Pb.Sag
open Go Go.Pb Go.Pb.Ware Go.RowKit

theorem fits_open {s : Bx} {fs : List Ft} (h : fitsB s fs = true) : plainB s fs = false ∧ allPacks s fs ≠ [] := by
 unfold fitsB shownL at h
 split at h
 ·cases h
 ·rename_i hp
  exact ⟨by simpa using hp, by intro e; rw [e] at h; cases h⟩
theorem fits_close {s : Bx} {fs : List Ft} (h1 : plainB s fs = false) (h2 : allPacks s fs ≠ []) : fitsB s fs = true := by
 unfold fitsB shownL
 rw [if_neg (by rw [h1]; simp)]
 cases he : allPacks s fs with
 | nil => exact absurd he h2
 | cons a l => rfl
theorem plain_parts {s : Bx} {fs : List Ft} (h : plainB s fs = false) : ∀ k, troubleB s fs k = false := by
 unfold plainB at h
 rw [Bool.or_eq_false_iff, Bool.or_eq_false_iff, Bool.or_eq_false_iff] at h
 intro k
 by_cases h1 : k = 1
 ·subst h1; exact h.1
 by_cases h2 : k = 2
 ·subst h2; exact h.2.1
 by_cases h3 : k = 3
 ·subst h3; exact h.2.2.1
 by_cases h4 : k = 4
 ·subst h4; exact h.2.2.2
 unfold troubleB
 rw [if_neg h1, if_neg h2, if_neg h3, if_neg h4]
end Go.Pb.Sag
namespace Go.Pb.Sag
open Go Go.Pb Go.Pb.Ware Go.RowKit

theorem mem_cellL {s : Bx} {f : Ft} {y x : Nat} {p : St} : p ∈ cellL s f y x (ways f).length ↔ p.y = y ∧ p.x = x ∧ p.turned ∈ ways f ∧ okAt s f p = true := by
 unfold cellL
 rw [List.take_length, List.mem_filter, List.mem_map]
 constructor
 ·rintro ⟨⟨t, ht, rfl⟩, h⟩; exact ⟨rfl, rfl, ht, h⟩
 ·rintro ⟨rfl, rfl, h1, h2⟩; exact ⟨⟨p.turned, h1, rfl⟩, h2⟩
theorem mem_rowL {s : Bx} {f : Ft} {y : Nat} {p : St} : ∀ {m : Nat}, p ∈ rowL s f y m ↔ p.y = y ∧ p.x < m ∧ p.turned ∈ ways f ∧ okAt s f p = true
 | 0 => by simp [rowL]
 | m + 1 => by
  rw [rowL, List.mem_append, mem_rowL (m := m), mem_cellL]
  constructor
  ·rintro (⟨h1, h2, h3⟩ | ⟨h1, h2, h3⟩)
   ·exact ⟨h1, by omega, h3⟩
   ·exact ⟨h1, by omega, h3⟩
  ·rintro ⟨h1, h2, h3⟩
   by_cases e : p.x = m
   ·exact .inr ⟨h1, e, h3⟩
   ·exact .inl ⟨h1, by omega, h3⟩
theorem mem_standsN {s : Bx} {f : Ft} {p : St} : ∀ {n : Nat}, p ∈ standsN s f n ↔ p.y < n ∧ p.x < s.wide.toNat ∧ p.turned ∈ ways f ∧ okAt s f p = true
 | 0 => by simp [standsN]
 | n + 1 => by
  rw [standsN, List.mem_append, mem_standsN (n := n), mem_rowL]
  constructor
  ·rintro (⟨h1, h3⟩ | ⟨h1, h3⟩)
   ·exact ⟨by omega, h3⟩
   ·exact ⟨by omega, h3⟩
  ·rintro ⟨h1, h3⟩
   by_cases e : p.y = n
   ·exact .inr ⟨e, h3⟩
   ·exact .inl ⟨by omega, h3⟩
theorem mem_stands {s : Bx} {f : Ft} {p : St} : p ∈ standsL s f ↔ p.y < s.deep.toNat ∧ p.x < s.wide.toNat ∧ p.turned ∈ ways f ∧ okAt s f p = true := mem_standsN
end Go.Pb.Sag
namespace Go.Pb.Sag
open Go Go.Pb Go.Pb.Ware Go.RowKit

def isStQ (s : Bx) (f : Ft) (q : Sq) : Bool := (!q.turned || !decide ((sideV f q.turned).1 = (sideV f q.turned).2)) && (decide (0 ≤ q.x) && (decide (0 ≤ q.y) && (decide (q.x ≤ s.wide - (sideV f q.turned).1) && decide (q.y ≤ s.deep - (sideV f q.turned).2))))
theorem isSt_iff {s : Bx} {f : Ft} {q : Sq} : isStQ s f q = true ↔ (q.turned = true → ¬ f.wide = f.deep) ∧ 0 ≤ q.x ∧ 0 ≤ q.y ∧ q.x ≤ s.wide - (sideV f q.turned).1 ∧ q.y ≤ s.deep - (sideV f q.turned).2 := by
 unfold isStQ
 simp only [Bool.and_eq_true, Bool.or_eq_true, Bool.not_eq_true', decide_eq_true_eq, decide_eq_false_iff_not]
 have h : (q.turned = false ∨ ¬ (sideV f q.turned).1 = (sideV f q.turned).2) ↔ (q.turned = true → ¬ f.wide = f.deep) := by
  unfold sideV
  cases q.turned with
  | false => simp
  | true => simp; exact ⟨fun h e => h e.symm, fun h e => h e.symm⟩
 rw [h]
theorem turned_ways {f : Ft} {t : Bool} : t ∈ ways f ↔ (t = true → ¬ f.wide = f.deep) := by
 unfold ways
 cases t with
 | false => split <;> simp
 | true => split <;> simp_all
theorem isSt_toSq {s : Bx} {f : Ft} {p : St} : isStQ s f (toSq p) = (decide (p.turned ∈ ways f) && okAt s f p) := by
 rw [Bool.eq_iff_iff, isSt_iff, Bool.and_eq_true, decide_eq_true_eq, turned_ways]
 unfold okAt toSq
 rw [Bool.and_eq_true, decide_eq_true_eq, decide_eq_true_eq]
 dsimp only
 constructor
 ·rintro ⟨h0, _, _, h4, h5⟩; exact ⟨h0, by omega, by omega⟩
 ·rintro ⟨h0, h4, h5⟩; exact ⟨h0, by omega, by omega, by omega, by omega⟩
def cellR (s : Bx) (f : Ft) (y x k : Nat) : List St := ((([false, true] : List Bool).take k).map fun t => (⟨y, x, t⟩ : St)).filter fun p => isStQ s f (toSq p)
theorem cellR_all {s : Bx} {f : Ft} {y x : Nat} : cellR s f y x 2 = cellL s f y x (ways f).length := by
 unfold cellR cellL
 rw [List.take_length]
 have e : (fun p => isStQ s f (toSq p)) = fun p : St => decide (p.turned ∈ ways f) && okAt s f p := funext fun p => isSt_toSq
 rw [e]
 unfold ways
 by_cases h : f.wide = f.deep
 ·simp only [h]
  simp [List.filter_cons]
 ·simp [h]
theorem cellR_yes {s : Bx} {f : Ft} {y x k : Nat} {t : Bool} (ht : ([false, true] : List Bool)[k]? = some t) (h : isStQ s f (toSq ⟨y, x, t⟩) = true) : cellR s f y x (k + 1) = cellR s f y x k ++ [⟨y, x, t⟩] := by
 obtain ⟨hk, rfl⟩ := List.getElem?_eq_some_iff.1 ht
 unfold cellR
 rw [List.take_succ_eq_append_getElem hk, List.map_append, List.filter_append]
 simp [h]
theorem cellR_no {s : Bx} {f : Ft} {y x k : Nat} {t : Bool} (ht : ([false, true] : List Bool)[k]? = some t) (h : isStQ s f (toSq ⟨y, x, t⟩) = false) : cellR s f y x (k + 1) = cellR s f y x k := by
 obtain ⟨hk, rfl⟩ := List.getElem?_eq_some_iff.1 ht
 unfold cellR
 rw [List.take_succ_eq_append_getElem hk, List.map_append, List.filter_append]
 simp [h]
def bitW (W y x : Nat) : Nat := 2 ^ (y * W + x)
def rowW (W y x : Nat) : Nat → Nat
 | 0 => 0
 | k + 1 => rowW W y x k ||| bitW W y (x + k)
def boxW (W y x wide : Nat) : Nat → Nat
 | 0 => 0
 | k + 1 => boxW W y x wide k ||| rowW W (y + k) x wide
def RelW (W a b : Nat) : Prop := (∀ y x, x < W → a.testBit (y * W + x) = b.testBit (y * 6 + x)) ∧ ∀ y x, x < 6 → W ≤ x → b.testBit (y * 6 + x) = false
theorem rel_zero {W : Nat} : RelW W 0 0 := ⟨fun _ _ _ => by simp, fun _ _ _ _ => by simp⟩
theorem rel_or {W a b c d : Nat} (h : RelW W a b) (k : RelW W c d) : RelW W (a ||| c) (b ||| d) :=
 ⟨fun y x hx => by rw [Nat.testBit_or, Nat.testBit_or, h.1 y x hx, k.1 y x hx], fun y x h1 h2 => by rw [Nat.testBit_or, h.2 y x h1 h2, k.2 y x h1 h2]; rfl⟩
theorem rel_bit {W y x : Nat} (h6 : W ≤ 6) (hx : x < W) : RelW W (bitW W y x) (bitAt y x) := by
 refine ⟨fun y' x' hx' => ?_, fun y' x' h1 h2 => ?_⟩
 ·unfold bitW bitAt
  rw [Nat.testBit_two_pow, Nat.testBit_two_pow]
  rw [decide_eq_decide]
  rcases (show W = 1 ∨ W = 2 ∨ W = 3 ∨ W = 4 ∨ W = 5 ∨ W = 6 by omega) with rfl | rfl | rfl | rfl | rfl | rfl <;> omega
 ·unfold bitAt
  rw [Nat.testBit_two_pow, decide_eq_false]
  omega
theorem rel_row {W y x : Nat} (h6 : W ≤ 6) : ∀ {k : Nat}, x + k ≤ W → RelW W (rowW W y x k) (rowM y x k)
 | 0, _ => rel_zero
 | k + 1, h => rel_or (rel_row h6 (by omega)) (rel_bit h6 (by omega))
theorem rel_box {W y x wide : Nat} (h6 : W ≤ 6) (hx : x + wide ≤ W) : ∀ {k : Nat}, RelW W (boxW W y x wide k) (boxM y x wide k)
 | 0 => rel_zero
 | k + 1 => rel_or (rel_box h6 hx) (rel_row h6 hx)
theorem rel_and {W a b c d : Nat} (hW : 1 ≤ W) (h6 : W ≤ 6) (h : RelW W a b) (k : RelW W c d) : a &&& c = 0 ↔ b &&& d = 0 := by
 constructor
 ·intro h0
  apply Nat.eq_of_testBit_eq
  intro i
  rw [Nat.zero_testBit, Nat.testBit_and]
  have e : i = i / 6 * 6 + i % 6 := by omega
  rw [e]
  rcases Nat.lt_or_ge (i % 6) W with hx | hx
  ·rw [← h.1 _ _ hx, ← k.1 _ _ hx, ← Nat.testBit_and, h0, Nat.zero_testBit]
  ·rw [h.2 _ _ (by omega) hx]; rfl
 ·intro h0
  apply Nat.eq_of_testBit_eq
  intro i
  rw [Nat.zero_testBit, Nat.testBit_and]
  have hx : i % W < W := Nat.mod_lt _ (by omega)
  have e : i = i / W * W + i % W := (Nat.div_add_mod' i W).symm
  rw [e, h.1 _ _ hx, k.1 _ _ hx, ← Nat.testBit_and, h0, Nat.zero_testBit]
theorem bitW_lt {W y x : Nat} (hW : W ≤ 6) (hy : y ≤ 5) (hx : x < W) : bitW W y x < 2 ^ 36 := by
 refine Nat.pow_lt_pow_right (by decide) ?_
 have := Nat.mul_le_mul hy hW
 omega
theorem rowW_lt {W y x : Nat} (hW : W ≤ 6) (hy : y ≤ 5) : ∀ {k : Nat}, x + k ≤ W → rowW W y x k < 2 ^ 36
 | 0, _ => by simp [rowW]
 | k + 1, h => Nat.or_lt_two_pow (rowW_lt hW hy (by omega)) (bitW_lt hW hy (by omega))
theorem boxW_lt {W y x wide : Nat} (hW : W ≤ 6) (hx : x + wide ≤ W) : ∀ {k : Nat}, y + k ≤ 6 → boxW W y x wide k < 2 ^ 36
 | 0, _ => by simp [boxW]
 | k + 1, h => Nat.or_lt_two_pow (boxW_lt hW hx (by omega)) (rowW_lt hW (by omega) hx)
def maskW (s : Bx) (f : Ft) (p : St) : Nat := boxW s.wide.toNat p.y p.x (sideV f p.turned).1.toNat (sideV f p.turned).2.toNat
theorem maskW_rel {s : Bx} {f : Ft} {p : St} (hX : boxOk s = true) (hF : FtOk f) (h : p ∈ standsL s f) : RelW s.wide.toNat (maskW s f p) (maskOf f p) ∧ maskW s f p < 2 ^ 36 := by
 have h1 := standsN_ok h
 have h2 := boxOk_iff.1 hX
 unfold FtOk at hF
 unfold okAt at h1
 rw [Bool.and_eq_true, decide_eq_true_eq, decide_eq_true_eq] at h1
 have h3 : (1 ≤ (sideV f p.turned).1) ∧ 1 ≤ (sideV f p.turned).2 := by unfold sideV; split <;> dsimp only <;> omega
 unfold maskW maskOf
 exact ⟨rel_box (by omega) (by omega), boxW_lt (by omega) (by omega) (by omega)⟩
end Go.Pb.Sag
namespace Go.Pb.Sag
open Go Go.Pb Go.Pb.Ware Go.RowKit

def putF (s : Bx) (fs : List Ft) (most : Nat) : Nat → Nat → List (List Int) → Option (List (List Int))
 | 0, _, gs => some gs
 | d + 1, i, gs =>
  match (List.range gs.length).findSome? (fun k => if fitsB s (chosenL fs (gs.getD k [] ++ [(i : Int)])) = true then putF s fs most d (i + 1) (gs.set k (gs.getD k [] ++ [(i : Int)])) else none) with
  | some r => some r
  | none => if gs.length = most then none else putF s fs most d (i + 1) (gs ++ [[(i : Int)]])
theorem find_here {α : Type} {f : Nat → Option α} {n k : Nat} {r : α} (hk : k < n) (h0 : ∀ j, j < k → f j = none) (h : f k = some r) : (List.range n).findSome? f = some r := by
 induction n generalizing k with
 | zero => omega
 | succ n ih =>
  rw [List.range_succ, List.findSome?_append]
  rcases Nat.lt_or_ge k n with h1 | h1
  ·rw [ih h1 h0 h]; rfl
  ·have e : k = n := by omega
   subst e
   rw [List.findSome?_eq_none_iff.2 (fun j hj => h0 j (List.mem_range.1 hj))]
   simp [h]
theorem find_no {α : Type} {f : Nat → Option α} {n : Nat} (h0 : ∀ j, j < n → f j = none) : (List.range n).findSome? f = none := List.findSome?_eq_none_iff.2 (fun j hj => h0 j (List.mem_range.1 hj))
structure Good (i : Nat) (gs : List (List Int)) : Prop where
 one : ∀ (k : Nat) (g : List Int), gs[k]? = some g → ∃ x, g[0]? = some x
 lt : ∀ g ∈ gs, ∀ z ∈ g, 0 ≤ z ∧ z < (i : Int)
 len : ∀ g ∈ gs, g.length ≤ i
 many : gs.length ≤ i
 apart : ∀ (j k : Nat) (g h : List Int) (x y : Int), j ≠ k → gs[j]? = some g → gs[k]? = some h → g[0]? = some x → h[0]? = some y → x ≠ y
theorem Good.nil : Good 0 [] := ⟨fun k g h => (by simp at h), fun g h => (by cases h), fun g h => (by cases h), Nat.le_refl _, fun j k g h x y _ h1 => (by simp at h1)⟩
theorem head_snoc {g : List Int} {x z : Int} (h : g[0]? = some x) : (g ++ [z])[0]? = some x := by
 cases g with
 | nil => simp at h
 | cons a l => simpa using h
theorem Good.push {i k : Nat} {gs : List (List Int)} {g : List Int} (h : Good i gs) (hg : gs[k]? = some g) : Good (i + 1) (gs.set k (g ++ [(i : Int)])) := by
 have hk : k < gs.length := (List.getElem?_eq_some_iff.1 hg).1
 have key : ∀ (j : Nat) (g' : List Int) (x : Int), (gs.set k (g ++ [(i : Int)]))[j]? = some g' → g'[0]? = some x → ∃ g0, gs[j]? = some g0 ∧ g0[0]? = some x := by
  intro j g' x h1 h2
  by_cases e : j = k
  ·subst e
   rw [List.getElem?_set_self hk] at h1
   obtain rfl : g ++ [(i : Int)] = g' := by simpa using h1
   obtain ⟨y, hy⟩ := h.one j g hg
   rw [head_snoc hy] at h2
   exact ⟨g, hg, by rw [hy]; exact h2⟩
  ·rw [List.getElem?_set_ne (Ne.symm e)] at h1
   exact ⟨g', h1, h2⟩
 refine ⟨fun j g' h1 => ?_, fun g' hm z hz => ?_, fun g' hm => ?_, by rw [List.length_set]; have := h.many; omega, fun j l g' h' x y hne h1 h2 h3 h4 => ?_⟩
 ·by_cases e : j = k
  ·subst e
   rw [List.getElem?_set_self hk] at h1
   obtain rfl : g ++ [(i : Int)] = g' := by simpa using h1
   obtain ⟨y, hy⟩ := h.one j g hg
   exact ⟨y, head_snoc hy⟩
  ·rw [List.getElem?_set_ne (Ne.symm e)] at h1
   exact h.one j g' h1
 ·rcases List.mem_or_eq_of_mem_set hm with h1 | rfl
  ·have := h.lt g' h1 z hz; omega
  ·rcases List.mem_append.1 hz with h1 | h1
   ·have := h.lt g (List.mem_of_getElem? hg) z h1; omega
   ·simp at h1; omega
 ·rcases List.mem_or_eq_of_mem_set hm with h1 | rfl
  ·have := h.len g' h1; omega
  ·have := h.len g (List.mem_of_getElem? hg); rw [List.length_append, List.length_singleton]; omega
 ·obtain ⟨a, ha, ha2⟩ := key j g' x h1 h3
  obtain ⟨b, hb, hb2⟩ := key l h' y h2 h4
  exact h.apart j l a b x y hne ha hb ha2 hb2
theorem Good.snoc {i : Nat} {gs : List (List Int)} (h : Good i gs) : Good (i + 1) (gs ++ [[(i : Int)]]) := by
 have key : ∀ (j : Nat) (g : List Int), (gs ++ [[(i : Int)]])[j]? = some g → (j < gs.length ∧ gs[j]? = some g) ∨ (j = gs.length ∧ g = [(i : Int)]) := by
  intro j g h1
  rcases Nat.lt_or_ge j gs.length with h2 | h2
  ·rw [List.getElem?_append_left h2] at h1; exact .inl ⟨h2, h1⟩
  ·rw [List.getElem?_append_right h2] at h1
   have h3 := (List.getElem?_eq_some_iff.1 h1).1
   simp at h3
   have e : j = gs.length := by omega
   subst e
   simp at h1
   exact .inr ⟨rfl, h1.symm⟩
 have low : ∀ (j : Nat) (g : List Int) (x : Int), gs[j]? = some g → g[0]? = some x → x < (i : Int) := fun j g x h1 h2 => (h.lt g (List.mem_of_getElem? h1) x (List.mem_of_getElem? h2)).2
 refine ⟨fun j g h1 => ?_, fun g hm z hz => ?_, fun g hm => ?_, by rw [List.length_append, List.length_singleton]; have := h.many; omega, fun j k g g' x y hne h1 h2 h3 h4 => ?_⟩
 ·rcases key j g h1 with ⟨_, h2⟩ | ⟨_, rfl⟩
  ·exact h.one j g h2
  ·exact ⟨_, rfl⟩
 ·rcases List.mem_append.1 hm with h1 | h1
  ·have := h.lt g h1 z hz; omega
  ·simp at h1; subst h1; simp at hz; omega
 ·rcases List.mem_append.1 hm with h1 | h1
  ·have := h.len g h1; omega
  ·simp at h1; subst h1; simp
 ·rcases key j g h1 with ⟨_, h5⟩ | ⟨e1, rfl⟩ <;> rcases key k g' h2 with ⟨_, h6⟩ | ⟨e2, rfl⟩
  ·exact h.apart j k g g' x y hne h5 h6 h3 h4
  ·have := low j g x h5 h3; simp at h4; omega
  ·have := low k g' y h6 h4; simp at h3; omega
  ·omega
theorem Good.mono {i j : Nat} {gs : List (List Int)} (h : Good i gs) (hij : i ≤ j) : Good j gs := ⟨h.one, fun g hm z hz => (by have := h.lt g hm z hz; omega), fun g hm => (by have := h.len g hm; omega), (by have := h.many; omega), h.apart⟩
theorem apart_heads {W : World} {b1 b2 T n1 n2 : Nat} {v u x y : Value} {xs ys : List Value} (h1 : W.ownsRow b1 T 1 v n1 xs) (h2 : W.ownsRow b2 T 1 u n2 ys) (hx : xs[0]? = some x) (hy : ys[0]? = some y) (hne : x ≠ y) : v.ownBlock = none ∨ v.ownBlock ≠ u.ownBlock := by
 rcases h1.2 with ⟨rfl, _⟩ | ⟨g, cap, cur, rfl, _, hg, _, _, _, ht⟩
 ·exact .inl rfl
 ·refine .inr fun e => ?_
  rcases h2.2 with ⟨rfl, _⟩ | ⟨g', cap', cur', rfl, _, hg', _, _, _, ht'⟩
  ·simp [Value.ownBlock] at e
  ·have e2 : g = g' := by simpa [Value.ownBlock] using e
   subst e2
   rw [hg] at hg'
   injection hg' with e3
   injection e3 with e3
   subst e3
   rw [← ht, List.getElem?_take] at hx
   rw [← ht', List.getElem?_take] at hy
   split at hx
   ·split at hy
    ·rw [hx] at hy; injection hy with hy; exact hne hy
    ·cases hy
   ·cases hx
theorem apart_types {W : World} {b1 b2 T1 T2 s1 s2 n1 n2 : Nat} {v u : Value} {xs ys : List Value} (h1 : W.ownsRow b1 T1 s1 v n1 xs) (h2 : W.ownsRow b2 T2 s2 u n2 ys) (hne : T1 ≠ T2) : v.ownBlock = none ∨ v.ownBlock ≠ u.ownBlock := by
 rcases h1.2 with ⟨rfl, _⟩ | ⟨g, cap, cur, rfl, _, hg, _⟩
 ·exact .inl rfl
 ·refine .inr fun e => ?_
  rcases h2.2 with ⟨rfl, _⟩ | ⟨g', cap', cur', rfl, _, hg', _⟩
  ·simp [Value.ownBlock] at e
  ·have e2 : g = g' := by simpa [Value.ownBlock] using e
   subst e2
   rw [hg] at hg'
   injection hg' with e3
   injection e3 with _ e4
   exact hne e4
theorem row_take {W : World} {lo T n m cap g : Nat} {xs : List Value} (h : W.ownsRow lo T 1 (.slice (some ⟨g, 0, none⟩) n cap) n xs) (hm : m ≤ n) : W.ownsRow lo T 1 (.slice (some ⟨g, 0, none⟩) m cap) m (xs.take m) := by
 refine ⟨by rw [List.length_take, h.1]; omega, ?_⟩
 rcases h.2 with ⟨h1, _⟩ | ⟨g', cap', cur, h1, h2, h3, h4, h5, h6, h7⟩
 ·cases h1
 ·injection h1 with e1 _ e2
  injection e1 with e1
  injection e1 with e1
  subst e1; subst e2
  refine .inr ⟨g, cap, cur, rfl, h2, h3, by omega, h5, h6, ?_⟩
  rw [← h7, List.take_take]
  congr 1; omega
theorem row_set {W : World} {lo T n cap g k : Nat} {xs : List Value} {v : Value} (h : W.ownsRow lo T 1 (.slice (some ⟨g, 0, none⟩) n cap) n xs) (hk : k < n) : (W.setCell ⟨g, k, none⟩ v).ownsRow lo T 1 (.slice (some ⟨g, 0, none⟩) n cap) n (xs.set k v) := by
 refine ⟨by rw [List.length_set]; exact h.1, ?_⟩
 rcases h.2 with ⟨h1, _⟩ | ⟨g', cap', cur, h1, h2, h3, h4, h5, h6, h7⟩
 ·cases h1
 ·injection h1 with e1 _ e2
  injection e1 with e1
  injection e1 with e1
  subst e1; subst e2
  refine .inr ⟨g, cap, cur.setIfInBounds k v, rfl, h2, ?_, h4, h5, by rw [Array.size_setIfInBounds]; exact h6, ?_⟩
  ·rw [Go.Sort.setCell_eq]
   unfold Go.Sort.mapBlock
   rw [Array.getElem?_modify, if_pos rfl, h3]; rfl
  ·rw [Array.toList_setIfInBounds, List.take_set, h7]
end Go.Pb.Sag
namespace Go.Pb.Sag
open Go Go.Pb Go.Pb.Ware Go.RowKit

theorem box_w {s : Bx} (hX : boxOk s = true) : 1 ≤ s.wide.toNat ∧ s.wide.toNat ≤ 6 := by
 have := boxOk_iff.1 hX
 omega
def roomB (s : Bx) (fs : List Ft) (t : Nat) : Bool := !(packsF (fs.map (spotsL s)) t).isEmpty
theorem room_iff {s : Bx} {fs : List Ft} {t : Nat} : roomB s fs t = true ↔ packsF (fs.map (spotsL s)) t ≠ [] := by unfold roomB; simp
theorem room_perm {s : Bx} {fs gs : List Ft} {t : Nat} (h : fs.Perm gs) : roomB s fs t = roomB s gs t := by
 rw [Bool.eq_iff_iff, room_iff, room_iff]
 exact ⟨packs_perm (h.map _) t, packs_perm (h.symm.map _) t⟩
theorem room_cons {s : Bx} {f : Ft} {fs : List Ft} {t : Nat} : roomB s (f :: fs) t = true ↔ ∃ p ∈ standsL s f, t &&& maskOf f p = 0 ∧ roomB s fs (t ||| maskOf f p) = true := by
 rw [room_iff, List.map_cons, packs_cons]
 constructor
 ·rintro ⟨a, ha, h1, h2⟩
  obtain ⟨p, hp, rfl⟩ := List.mem_map.1 ha
  exact ⟨p, hp, h1, room_iff.2 h2⟩
 ·rintro ⟨p, hp, h1, h2⟩
  exact ⟨(p, maskOf f p), List.mem_map.2 ⟨p, hp, rfl⟩, h1, room_iff.1 h2⟩
theorem perm_erase {α : Type} {l : List α} {k : Nat} {x : α} (h : l[k]? = some x) : l.Perm (x :: l.eraseIdx k) := by
 obtain ⟨hk, rfl⟩ := List.getElem?_eq_some_iff.1 h
 rw [List.eraseIdx_eq_take_drop_succ]
 refine List.Perm.trans (List.Perm.of_eq ?_) List.perm_middle
 rw [← List.drop_eq_getElem_cons, List.take_append_drop]
theorem room_at {s : Bx} {fs : List Ft} {k : Nat} {f : Ft} {t : Nat} (h : fs[k]? = some f) : roomB s fs t = (standsL s f).any fun p => decide (t &&& maskOf f p = 0) && roomB s (fs.eraseIdx k) (t ||| maskOf f p) := by
 rw [room_perm (perm_erase h), Bool.eq_iff_iff, room_cons, List.any_eq_true]
 simp
def lowB (s : Bx) (fs : List Ft) : Bool := !troubleB s fs 1 && !troubleB s fs 3
theorem packable_fits {s : Bx} {fs : List Ft} : (lowB s fs && (decide (areaL fs ≤ s.wide * s.deep) && roomB s fs 0)) = fitsB s fs := by
 have e4 : troubleB s fs 4 = decide (s.wide * s.deep < areaL fs) := rfl
 rw [Bool.eq_iff_iff, Bool.and_eq_true, Bool.and_eq_true, decide_eq_true_eq, room_iff]
 unfold lowB
 rw [Bool.and_eq_true, Bool.not_eq_true', Bool.not_eq_true']
 constructor
 ·rintro ⟨⟨h1, h3⟩, h4, h5⟩
  refine fits_close (plain_no fun j hj0 hj5 => ?_) h5
  rcases (show j = 1 ∨ j = 2 ∨ j = 3 ∨ j = 4 by omega) with rfl | rfl | rfl | rfl
  ·exact h1
  ·show fs.any (noStand s) = false
   rw [List.any_eq_false]
   intro f hf hn
   obtain ⟨k, hk⟩ := List.getElem?_of_mem hf
   have h6 := room_iff.2 h5
   rw [room_at hk, List.any_eq_true] at h6
   obtain ⟨p, hp, _⟩ := h6
   unfold noStand at hn
   rw [List.isEmpty_iff] at hn
   rw [hn] at hp; cases hp
  ·exact h3
  ·rw [e4, decide_eq_false_iff_not]; omega
 ·intro h
  obtain ⟨h1, h2⟩ := fits_open h
  have h3 := plain_parts h1
  refine ⟨⟨h3 1, h3 3⟩, ?_, h2⟩
  have h4 := h3 4
  rw [e4, decide_eq_false_iff_not] at h4
  omega
end Go.Pb.Sag
namespace Go.Pb.Sag
open Go Go.Pb Go.Pb.Ware Go.RowKit

def FillG (w1 : World) (g T n m : Nat) (cs : List Value) (W : World) : Prop := OutOnly w1 g 0 W ∧ ∃ v, (W.cell? ⟨g, 0, none⟩ = some v ∧ W.frozen? ⟨g, 0, none⟩ = false) ∧ W.ownsRow w1.heap.size T n v m cs
theorem FillG.slot {w1 Wb w2 w3 : World} {g T n m : Nat} {xs : List Value} {v c0 : Value} (hlt : g < w1.heap.size) (hc : w1.cell? ⟨g, 0, none⟩ = some c0) (hf : w1.frozen? ⟨g, 0, none⟩ = false) (hO : OutOnly w1 g 0 Wb) (c1 : Wb.cell? ⟨g, 0, none⟩ = some v) (hb : Below Wb.heap.size Wb w2)
  (hown2 : w2.ownsRow w1.heap.size T n v m xs) (hg3 : w2.grownBy w3 v.ownBlock) : w3.cell? ⟨g, 0, none⟩ = some v ∧ w3.frozen? ⟨g, 0, none⟩ = false := by
 have hr : ∀ r, v.ownBlock = some r → w1.heap.size ≤ r := fun r e => (World.ownsRow.lt hown2 r e).1
 exact ⟨grown_kept hg3 (bkeep hb c1) (fun e => by have := hr g e.symm; omega), ((hO.next hlt hb).grown hg3 hlt hr).frz 0 c0 hc hf⟩
theorem FillG.push {w1 Wb w2 w3 : World} {g T n m : Nat} {xs ys : List Value} {v v' c0 : Value} (hlt : g < w1.heap.size) (hc : w1.cell? ⟨g, 0, none⟩ = some c0) (hf : w1.frozen? ⟨g, 0, none⟩ = false) (hO : OutOnly w1 g 0 Wb) (c1 : Wb.cell? ⟨g, 0, none⟩ = some v) (hb : Below Wb.heap.size Wb w2)
  (hown2 : w2.ownsRow w1.heap.size T n v m xs) (hg3 : w2.grownBy w3 v.ownBlock) (ho3 : w3.ownsRow w1.heap.size T n v' (m + 1) ys) :
  FillG w1 g T n (m + 1) ys (w3.setCell ⟨g, 0, none⟩ v') ∧ KeepsOthers Wb (w3.setCell ⟨g, 0, none⟩ v') ∧ Wb.heap.size ≤ (w3.setCell ⟨g, 0, none⟩ v').heap.size := by
 have hr : ∀ r, v.ownBlock = some r → w1.heap.size ≤ r := fun r e => (World.ownsRow.lt hown2 r e).1
 have hO4 := ((hO.next hlt hb).grown hg3 hlt hr).set v'
 have c3 : w3.cell? ⟨g, 0, none⟩ = some v := grown_kept hg3 (bkeep hb c1) (fun e => by have := hr g e.symm; omega)
 refine ⟨⟨hO4, v', ⟨setc_same c3, hO4.frz 0 c0 hc hf⟩, ?_⟩, ((keeps_of_below hb).trans (KeepsOthers.of_grownBy hg3 (own_cells hown2))).trans (KeepsOthers.setCell _ _ _), ?_⟩
 ·exact ho3.kept (grown_setc w3 ⟨g, 0, none⟩ v') (.inr fun e => by have := (World.ownsRow.lt ho3 g e).1; omega)
 ·have := hb.size; have := hg3.size; simp; omega
end Go.Pb.Sag
namespace Go.Pb

open Go Go.RowKit
def NewEmpty (B0 : Nat) (e : TypeId) (v : Value) (W : World) : Prop := ∃ B, B0 ≤ B ∧ v = .slice (some ⟨B, 0, none⟩) 0 0 ∧ W.heap[B]? = some (.cells #[] e (0, 0))
theorem keeps_empty {B0 : Nat} {e : TypeId} : Keeps (NewEmpty B0 e) := fun _ _ _ ⟨B, h1, h2, h3⟩ hb => ⟨B, h1, h2, (hb.block B (Array.getElem?_eq_some_iff.1 h3).1).trans h3⟩
theorem empty_of {w w' : World} {e : TypeId} (hb : Below w.heap.size w w') :
  Below w'.heap.size w' (w'.alloc (.cells #[] e)) ∧ NewEmpty w.heap.size e (.slice (some ⟨w'.heap.size, 0, none⟩) 0 0) (w'.alloc (.cells #[] e)) :=
 ⟨(Below.refl _ _).alloc (Nat.le_refl _) _, w'.heap.size, hb.size, rfl, heap_alloc_new w' _⟩
def NewList (B0 n : Nat) (cs : List Value) (v : Value) (W : World) : Prop :=
 ∃ B, B0 ≤ B ∧ v = .slice (some ⟨B, 0, none⟩) n n ∧ ∀ o c, cs[o]? = some c → W.cell? ⟨B, o, none⟩ = some c ∧ W.frozen? ⟨B, o, none⟩ = false
theorem keeps_list {B0 n : Nat} {cs : List Value} : Keeps (NewList B0 n cs) := fun _ _ _ ⟨B, h1, h2, h3⟩ hb =>
 ⟨B, h1, h2, fun o c hc => ⟨bkeep hb (h3 o c hc).1, bfree hb (h3 o c hc).1 (h3 o c hc).2⟩⟩
theorem list_of {w w' : World} {n : Nat} {cs : List Value} {t : TypeId} (hb : Below w.heap.size w w') :
  Below w'.heap.size w' (w'.alloc (.cells cs.toArray t)) ∧ NewList w.heap.size n cs (.slice (some ⟨w'.heap.size, 0, none⟩) n n) (w'.alloc (.cells cs.toArray t)) :=
 ⟨(Below.refl _ _).alloc (Nat.le_refl _) _, w'.heap.size, hb.size, rfl, fun o c hc => by
  refine ⟨?_, World.frozen?_alloc_new w' cs.toArray t o⟩
  rw [World.cell?_alloc_new]; simpa using hc⟩
theorem keeps_owns {base size n : Nat} {e : TypeId} {xs : List Value} : Keeps (fun v w => w.ownsRow base e size v n xs) := fun _ _ _ h hb => owns_below h hb
theorem append_fresh {P : Program} (w : World) (base : Nat) (t ty e : TypeId) (i : TypeInfo) (z : Value) (size bytes : Nat) (ht : P.underlying t = some (.slice e)) (hi : P.info? e = some i) (hz : i.zero = some z)
  (hsize : i.size = size) (hby : i.bytes = bytes) (hzs : z.cells.size = size) (hsz : 0 < size) {B : Nat} (hB : base ≤ B) (hg : w.heap[B]? = some (.cells #[] e (0, 0)))
  (a : Addr) (m c : Nat) (news : List Value) (hl : news.length = m * size) (hnews : ∀ j u, news[j]? = some u → w.cell? (a.add j) = some u) (h1 : ∀ u ∈ news, u.oneCell' = true)
  (h63 : m ≤ maxLen) (hbytes : m * bytes ≤ 140737488355328) (hbase : base ≤ w.heap.size) :
  ∃ v' w', (Builtin.append_ #[t, t] ty #[.slice (some ⟨B, 0, none⟩) 0 0, .slice (some a) m c]).run P w = .ok v' w' ∧ Below w.heap.size w w' ∧ w'.ownsRow base e size v' m news := by
 have hown : w.ownsRow base e size (.slice (some ⟨B, 0, none⟩) 0 0) 0 [] := ⟨by simp, .inr ⟨B, 0, #[], rfl, hB, hg, Nat.le_refl _, by simp [maxLen], by simp, by simp⟩⟩
 obtain ⟨v', w', hr, h2, h3, -⟩ := run_append_own (P := P) w base t ty e i z size bytes ht hi hz hsize hby hzs hsz _ 0 [] hown a m c news hl hnews h1 (by omega) (by simpa using hbytes) hbase
 refine ⟨v', w', hr, ?_, by simpa using h2⟩
 subst hsize; subst hby
 by_cases hm : m = 0
 ·subst hm
  have hn : news = [] := List.eq_nil_of_length_eq_zero (by simpa using hl)
  subst hn
  have hr2 := run_append_room (P := P) w t ty e i ht hi B 0 0 #[] hg a 0 c [] (by simp) (by simp) (by simp) (by omega) (by simp)
  rw [hr2] at hr
  injection hr with _ hw
  subst hw
  refine ⟨rfl, rfl, rfl, by simp [World.setRow], fun k hk => ?_⟩
  by_cases hkB : k = B
  ·subst hkB
   rw [setRow_heap w k #[] _ e _ hg, hg]; simp
  ·exact setRow_other w B k _ hkB
 ·have hcap : Builtin.nextslicecap (0 + m) 0 * i.bytes ≤ 281474976710656 := growslice_fits (by omega) (by simpa using hbytes)
  have hr2 := run_append_grow (P := P) w t ty e i z ht hi hz ⟨B, 0, none⟩ 0 0 [] (by simp) (by simp) a m c news hl hnews (by omega) (by simp only [maxLen] at h63; omega) hcap
  rw [hr2] at hr
  injection hr with _ hw
  subst hw
  exact (Below.refl _ _).drew.alloc (Nat.le_refl _) _
theorem fresh_append {P : Program} {o : Oper} {a : Act} {w : World} (s x : Operand) (t : TypeId) (ho : o.op = .call { callee := .builtin .append, args := #[s, x], argTypes := #[t, t] })
  (base : Nat) (e : TypeId) (i : TypeInfo) (z : Value) (size bytes : Nat) (ht : P.underlying t = some (.slice e)) (hi : P.info? e = some i) (hz : i.zero = some z)
  (hsize : i.size = size) (hby : i.bytes = bytes) (hzs : z.cells.size = size) (hsz : 0 < size) (v : Value) (hs : a.eval s = v) (hv : NewEmpty base e v w)
  (ad : Addr) (m c : Nat) (news : List Value) (hx : a.eval x = .slice (some ad) m c) (hl : news.length = m * size) (hnews : ∀ j u, news[j]? = some u → w.cell? (ad.add j) = some u) (h1 : ∀ u ∈ news, u.oneCell' = true)
  (h63 : m ≤ maxLen) (hbytes : m * bytes ≤ 140737488355328) (hbase : base ≤ w.heap.size) :
  freshAt P o a (fun v w => w.ownsRow base e size v m news) w := by
 obtain ⟨B, hB, rfl, hg⟩ := hv
 obtain ⟨v', w', hr, h2, h3⟩ := append_fresh (P := P) w base t o.type e i z size bytes ht hi hz hsize hby hzs hsz hB hg ad m c news hl hnews h1 h63 hbytes hbase
 unfold freshAt execOp
 simp only [ho, resolve, invoke, builtin, Sem.run_bind, Sem.run_pure, Result.andThen_ok, List.map_toArray, List.map_cons, List.map_nil, hs, hx, hr]
 exact ⟨h2, h3⟩
end Go.Pb
namespace Go.Pb.Ware
open Go Go.Pb Go.RowKit
end Go.Pb.Ware
namespace Go.Pb
end Go.Pb
namespace Go.Pb.Ware
open Go Go.Pb Go.RowKit
end Go.Pb.Ware
namespace Go.Pb.Sag
open Go Go.Pb Go.Pb.Ware Go.RowKit

def RowsIn (lo T : Nat) (W : World) (vs : List Value) (gs : List (List Int)) : Prop := ∀ (k : Nat) (v : Value) (g : List Int), vs[k]? = some v → gs[k]? = some g → W.ownsRow lo T 1 v g.length (g.map (Value.int .i64))
def PutAt (G TO TI : Nat) (gs : List (List Int)) (W : World) : Prop := ∃ (gv : Value) (vs : List Value), (W.cell? ⟨G, 8, none⟩ = some gv ∧ W.frozen? ⟨G, 8, none⟩ = false) ∧ W.ownsRow (G + 1) TO 1 gv gs.length vs ∧ RowsIn (G + 1) TI W vs gs
theorem PutAt.next {G TO TI : Nat} {gs : List (List Int)} {W W' : World} (h : PutAt G TO TI gs W) (hb : Below W.heap.size W W') : PutAt G TO TI gs W' := by
 obtain ⟨gv, vs, ⟨c1, c2⟩, ho, hr⟩ := h
 exact ⟨gv, vs, ⟨bkeep hb c1, bfree hb c1 c2⟩, owns_below ho hb, fun k v g h1 h2 => owns_below (hr k v g h1 h2) hb⟩
theorem own_ge {W : World} {lo T s n : Nat} {v : Value} {xs : List Value} (h : W.ownsRow lo T s v n xs) : ∀ b, v.ownBlock = some b → lo ≤ b := fun b e => (World.ownsRow.lt h b e).1
theorem set_own {W : World} {lo T s n B o : Nat} {v u : Value} {xs : List Value} (h : W.ownsRow lo T s v n xs) (hne : v.ownBlock = none ∨ v.ownBlock ≠ some B) : (W.setCell ⟨B, o, none⟩ u).ownsRow lo T s v n xs := h.kept (grown_setc W ⟨B, o, none⟩ u) hne
theorem PutAt.push {G TO TI i k : Nat} (hT : TO ≠ TI) {gs : List (List Int)} {g : List Int} {W w2 w3 : World} {v v' : Value} {vs : List Value} {gb cap : Nat} (hG : Good i gs) (hg : gs[k]? = some g) (hv : vs[k]? = some v)
  (c8 : W.cell? ⟨G, 8, none⟩ = some (.slice (some ⟨gb, 0, none⟩) gs.length cap) ∧ W.frozen? ⟨G, 8, none⟩ = false) (ho : W.ownsRow (G + 1) TO 1 (.slice (some ⟨gb, 0, none⟩) gs.length cap) gs.length vs) (hr : RowsIn (G + 1) TI W vs gs)
  (hb : Below W.heap.size W w2) (hg3 : w2.grownBy w3 v.ownBlock) (ho3 : w3.ownsRow (G + 1) TI 1 v' (g.length + 1) (g.map (Value.int .i64) ++ [.int .i64 (i : Int)])) :
  (w3.cell? ⟨gb, k, none⟩ = some v ∧ w3.frozen? ⟨gb, k, none⟩ = false) ∧ PutAt G TO TI (gs.set k (g ++ [(i : Int)])) (w3.setCell ⟨gb, k, none⟩ v') ∧ Below (G + 1) W (w3.setCell ⟨gb, k, none⟩ v') := by
 have hk : k < gs.length := (List.getElem?_eq_some_iff.1 hg).1
 have hGW : G < W.heap.size := World.block_lt_of_cell? W _ c8.1
 have hrow := hr k v g hv hg
 have ho2 := owns_below ho hb
 have hrow2 := owns_below hrow hb
 have hgb : G + 1 ≤ gb := own_ge ho gb rfl
 have a1 : (Value.slice (some ⟨gb, 0, none⟩) gs.length cap).ownBlock = none ∨ (Value.slice (some ⟨gb, 0, none⟩) gs.length cap).ownBlock ≠ v.ownBlock := apart_types ho2 hrow2 hT
 have ho4 : w3.ownsRow (G + 1) TO 1 (.slice (some ⟨gb, 0, none⟩) gs.length cap) gs.length vs := ho2.kept hg3 a1
 have hlo : ∀ r, v.ownBlock = some r → G + 1 ≤ r := own_ge hrow
 have hbw : Below (G + 1) W w3 := (hb.mono (by omega)).grown hg3 (by have := hb.size; omega) hlo
 have a2 : some gb ≠ v.ownBlock := by rcases a1 with h | h; cases h; exact h
 have hcell : w3.cell? ⟨gb, k, none⟩ = some v := by
  have h1 := ho4.cells (g := gb) rfl k v hv
  rw [Go.WideShapes.add_plain, Nat.zero_add] at h1
  exact h1
 refine ⟨⟨hcell, owns_frozen ho4 rfl k⟩, ⟨.slice (some ⟨gb, 0, none⟩) gs.length cap, vs.set k v', ⟨?_, ?_⟩, ?_, ?_⟩, hbw.setCell (p := ⟨gb, k, none⟩) hgb v'⟩
 ·exact setc_block ((hbw.cell (p := ⟨G, 8, none⟩) (by simp)).trans c8.1) (by omega)
 ·exact set_free ((hbw.cell (p := ⟨G, 8, none⟩) (by simp)).trans c8.1) ((hbw.frozen (p := ⟨G, 8, none⟩) (by simp)).trans c8.2)
 ·rw [List.length_set]; exact row_set ho4 hk
 ·intro j u g' hu hg'
  have hts : ∀ {u : Value} {n : Nat} {xs : List Value}, w3.ownsRow (G + 1) TI 1 u n xs → u.ownBlock = none ∨ u.ownBlock ≠ some gb := fun h => apart_types h ho4 (Ne.symm hT)
  by_cases e : j = k
  ·subst e
   have hvl : j < vs.length := (List.getElem?_eq_some_iff.1 hv).1
   rw [List.getElem?_set_self hvl] at hu
   rw [List.getElem?_set_self hk] at hg'
   obtain rfl : v' = u := by simpa using hu
   obtain rfl : g ++ [(i : Int)] = g' := by simpa using hg'
   have h1 := set_own (o := j) (u := v') ho3 (hts ho3)
   simpa using h1
  ·rw [List.getElem?_set_ne (Ne.symm e)] at hu hg'
   have hj := hr j u g' hu hg'
   obtain ⟨x, hx⟩ := hG.one j g' hg'
   obtain ⟨y, hy⟩ := hG.one k g hg
   have hxy := hG.apart j k g' g x y e hg' hg hx hy
   have h1 : (g'.map (Value.int .i64))[0]? = some (.int .i64 x) := by rw [List.getElem?_map, hx]; rfl
   have h2 : (g.map (Value.int .i64))[0]? = some (.int .i64 y) := by rw [List.getElem?_map, hy]; rfl
   have h3 := (owns_below hj hb).kept hg3 (apart_heads (owns_below hj hb) hrow2 h1 h2 (fun h => hxy (by injection h)))
   exact set_own h3 (hts h3)
theorem PutAt.pop {G TO TI i k : Nat} (hT : TO ≠ TI) {gs : List (List Int)} {g : List Int} {W : World} {gb gcap b cap n : Nat} {vs : List Value} (hgs : gs[k]? = some g) (hn : gs.length = n)
  (c8 : W.cell? ⟨G, 8, none⟩ = some (.slice (some ⟨gb, 0, none⟩) n gcap) ∧ W.frozen? ⟨G, 8, none⟩ = false) (ho : W.ownsRow (G + 1) TO 1 (.slice (some ⟨gb, 0, none⟩) n gcap) n vs) (hr : RowsIn (G + 1) TI W vs (gs.set k (g ++ [(i : Int)])))
  (hv : vs[k]? = some (.slice (some ⟨b, 0, none⟩) (g.length + 1) cap)) :
  PutAt G TO TI gs (W.setCell ⟨gb, k, none⟩ (.slice (some ⟨b, 0, none⟩) g.length cap)) ∧ Below (G + 1) W (W.setCell ⟨gb, k, none⟩ (.slice (some ⟨b, 0, none⟩) g.length cap)) := by
 subst hn
 have hk : k < gs.length := (List.getElem?_eq_some_iff.1 hgs).1
 have hgb : G + 1 ≤ gb := own_ge ho gb rfl
 have hts : ∀ {u : Value} {n : Nat} {xs : List Value}, W.ownsRow (G + 1) TI 1 u n xs → u.ownBlock = none ∨ u.ownBlock ≠ some gb := fun h => apart_types h ho (Ne.symm hT)
 refine ⟨⟨.slice (some ⟨gb, 0, none⟩) gs.length gcap, vs.set k (.slice (some ⟨b, 0, none⟩) g.length cap), ⟨setc_block c8.1 (by omega), set_free c8.1 c8.2⟩, row_set ho hk, ?_⟩, (Below.refl _ _).setCell (p := ⟨gb, k, none⟩) hgb _⟩
 intro j u g' hu hg'
 by_cases e : j = k
 ·subst e
  have hvl : j < vs.length := (List.getElem?_eq_some_iff.1 hv).1
  rw [List.getElem?_set_self hvl] at hu
  rw [hgs] at hg'
  obtain rfl : Value.slice (some ⟨b, 0, none⟩) g.length cap = u := by simpa using hu
  obtain rfl : g = g' := by simpa using hg'
  have h1 := hr j _ _ hv (List.getElem?_set_self hk)
  rw [List.length_append, List.length_singleton] at h1
  have h2 := row_take (m := g.length) h1 (by omega)
  rw [List.map_append, List.take_append_of_le_length (by simp), List.take_of_length_le (by simp)] at h2
  exact set_own h2 (hts h2)
 ·rw [List.getElem?_set_ne (Ne.symm e)] at hu
  have h1 := hr j u g' hu (by rw [List.getElem?_set_ne (Ne.symm e)]; exact hg')
  exact set_own h1 (hts h1)
theorem PutAt.grow {G TO TI i n : Nat} (hT : TO ≠ TI) {gs : List (List Int)} {W w3 : World} {gv gv' : Value} {vs : List Value} (hG : Good i gs) (hn : gs.length = n)
  (c8 : W.cell? ⟨G, 8, none⟩ = some gv ∧ W.frozen? ⟨G, 8, none⟩ = false) (ho : W.ownsRow (G + 1) TO 1 gv n vs) (hr : RowsIn (G + 1) TI W vs gs)
  (hg3 : ((W.alloc (.cells #[.int .i64 (i : Int)] TI)).alloc (.cells #[.slice (some ⟨W.heap.size, 0, none⟩) 1 1] TO)).grownBy w3 gv.ownBlock) (ho3 : w3.ownsRow (G + 1) TO 1 gv' (n + 1) (vs ++ [.slice (some ⟨W.heap.size, 0, none⟩) 1 1])) :
  (w3.cell? ⟨G, 8, none⟩ = some gv ∧ w3.frozen? ⟨G, 8, none⟩ = false) ∧ PutAt G TO TI (gs ++ [[(i : Int)]]) (w3.setCell ⟨G, 8, none⟩ gv') ∧ Below (G + 1) W w3 := by
 subst hn
 have hGW : G < W.heap.size := World.block_lt_of_cell? W _ c8.1
 have hb : Below W.heap.size W ((W.alloc (.cells #[.int .i64 (i : Int)] TI)).alloc (.cells #[.slice (some ⟨W.heap.size, 0, none⟩) 1 1] TO)) := ((Below.refl _ W).alloc (Nat.le_refl _) _).alloc (by simp) _
 have hbw : Below (G + 1) W w3 := (hb.mono (by omega)).grown hg3 (by simp; omega) (own_ge ho)
 have hG8 : w3.cell? ⟨G, 8, none⟩ = some gv ∧ w3.frozen? ⟨G, 8, none⟩ = false := ⟨(hbw.cell (p := ⟨G, 8, none⟩) (by simp)).trans c8.1, (hbw.frozen (p := ⟨G, 8, none⟩) (by simp)).trans c8.2⟩
 have far : ∀ {T n : Nat} {v : Value} {xs : List Value}, w3.ownsRow (G + 1) T 1 v n xs → v.ownBlock = none ∨ v.ownBlock ≠ some G := fun h => .inr fun e => by have := own_ge h G e; omega
 have hvl : vs.length = gs.length := by have := ho.1; omega
 refine ⟨hG8, ⟨gv', vs ++ [.slice (some ⟨W.heap.size, 0, none⟩) 1 1], ⟨setc_same hG8.1, set_free hG8.1 hG8.2⟩, ?_, ?_⟩, hbw⟩
 ·rw [List.length_append, List.length_singleton]; exact set_own ho3 (far ho3)
 ·intro k v g hv hg
  rcases Nat.lt_or_ge k gs.length with h1 | h1
  ·rw [List.getElem?_append_left (by omega)] at hv
   rw [List.getElem?_append_left h1] at hg
   have h2 := owns_below (hr k v g hv hg) hb
   have h3 := h2.kept hg3 (apart_types h2 (owns_below ho hb) (Ne.symm hT))
   exact set_own h3 (far h3)
  ·rw [List.getElem?_append_right (by omega), hvl] at hv
   rw [List.getElem?_append_right h1] at hg
   have h4 := (List.getElem?_eq_some_iff.1 hg).1
   simp at h4
   have e : k = gs.length := by omega
   subst e
   simp at hv hg
   subst hv; subst hg
   have h2 : ((W.alloc (.cells #[.int .i64 (i : Int)] TI)).alloc (.cells #[.slice (some ⟨W.heap.size, 0, none⟩) 1 1] TO)).ownsRow (G + 1) TI 1 (.slice (some ⟨W.heap.size, 0, none⟩) 1 1) 1 [.int .i64 (i : Int)] := by
    refine ⟨rfl, .inr ⟨W.heap.size, 1, #[.int .i64 (i : Int)], rfl, by omega, ?_, Nat.le_refl _, by unfold maxLen; omega, rfl, rfl⟩⟩
    rw [Below.heap_alloc _ _ _ (by simp)]
    exact World.alloc_heap_new W _
   have h3 := h2.kept hg3 (apart_types h2 (owns_below ho hb) (Ne.symm hT))
   exact set_own h3 (far h3)
theorem PutAt.shrink {G TO TI n gb cap : Nat} {gs : List (List Int)} {g : List Int} {W : World} {vs : List Value} (hn : gs.length = n)
  (c8 : W.cell? ⟨G, 8, none⟩ = some (.slice (some ⟨gb, 0, none⟩) (n + 1) cap) ∧ W.frozen? ⟨G, 8, none⟩ = false) (ho : W.ownsRow (G + 1) TO 1 (.slice (some ⟨gb, 0, none⟩) (n + 1) cap) (n + 1) vs) (hr : RowsIn (G + 1) TI W vs (gs ++ [g])) :
  PutAt G TO TI gs (W.setCell ⟨G, 8, none⟩ (.slice (some ⟨gb, 0, none⟩) n cap)) := by
 subst hn
 have far : ∀ {T n : Nat} {v : Value} {xs : List Value}, W.ownsRow (G + 1) T 1 v n xs → v.ownBlock = none ∨ v.ownBlock ≠ some G := fun h => .inr fun e => by have := own_ge h G e; omega
 have h1 := row_take (m := gs.length) ho (by omega)
 refine ⟨.slice (some ⟨gb, 0, none⟩) gs.length cap, vs.take gs.length, ⟨setc_same c8.1, set_free c8.1 c8.2⟩, set_own h1 (far h1), ?_⟩
 intro k v g' hv hg
 have hk : k < gs.length := (List.getElem?_eq_some_iff.1 hg).1
 rw [List.getElem?_take, if_pos hk] at hv
 have h2 := hr k v g' hv (by rw [List.getElem?_append_left hk]; exact hg)
 exact set_own h2 (far h2)
def GAt (G : Nat) (gc : List Value) (W : World) : Prop := ∀ o u, gc[o]? = some u → W.cell? ⟨G, o, none⟩ = some u ∧ W.frozen? ⟨G, o, none⟩ = false
theorem GAt.below {G : Nat} {gc : List Value} {W W' : World} (h : GAt G gc W) (hb : Below (G + 1) W W') : GAt G gc W' := fun o u hu => ⟨(hb.cell (p := ⟨G, o, none⟩) (by simp)).trans (h o u hu).1, (hb.frozen (p := ⟨G, o, none⟩) (by simp)).trans (h o u hu).2⟩
theorem GAt.set {G : Nat} {gc : List Value} {W : World} {v : Value} (h : GAt G gc W) (hl : gc.length ≤ 8) : GAt G gc (W.setCell ⟨G, 8, none⟩ v) := fun o u hu => ⟨setc_other (h o u hu).1 (by have := (List.getElem?_eq_some_iff.1 hu).1; omega), set_free (h o u hu).1 (h o u hu).2⟩
theorem own_some {W : World} {lo T s n : Nat} {v : Value} {xs : List Value} (h : W.ownsRow lo T s v n xs) (hn : 0 < n) : ∃ g cap, v = .slice (some ⟨g, 0, none⟩) n cap ∧ n ≤ cap ∧ cap ≤ 9223372036854775807 := by
 rcases h.2 with ⟨_, h0⟩ | ⟨g, cap, _, rfl, _, _, h4, h5, _⟩
 ·omega
 ·exact ⟨g, cap, rfl, h4, by unfold maxLen at h5; omega⟩
end Go.Pb.Sag
namespace Go.Pb.Sag
open Go Go.Pb Go.Pb.Ware Go.RowKit

theorem copy_owns {w : World} {lo T B m : Nat} {cur : Array Value} {cs : List Value} (hg : w.heap[B]? = some (.cells cur T (0, 0))) (hlo : lo ≤ B) (hs : cur.size = m) (hm : m ≤ maxLen) (hc : cs.length = m) :
  (w.setRow B (cur.toList.take 0 ++ (cs ++ cur.toList.drop (0 + cs.length))).toArray).ownsRow lo T 1 (.slice (some ⟨B, 0, none⟩) m m) m cs := by
 have e : cur.toList.take 0 ++ (cs ++ cur.toList.drop (0 + cs.length)) = cs := by
  rw [List.take_zero, List.nil_append, Nat.zero_add, List.drop_of_length_le (by rw [Array.length_toList]; omega), List.append_nil]
 rw [e]
 refine ⟨by omega, .inr ⟨B, m, cs.toArray, rfl, hlo, setRow_heap w B cur _ T (0, 0) hg, Nat.le_refl _, hm, by simp; omega, ?_⟩⟩
 rw [Nat.mul_one, List.take_of_length_le (by simp; omega)]
def groupsF (s : Bx) (fs : List Ft) : Option (List (List Int)) := (List.range (fs.length + 1)).findSome? fun m => putF s fs m fs.length 0 []
def groupsA (ss bs : List (List Int)) (s : Bx) (xs : List It) : List (List Int) × Int :=
 if ckL ss bs s xs = 0 then (if (feetV ss bs s xs).all (fun f => fitsB s [f]) = true then ((groupsF s (feetV ss bs s xs)).getD [], 0) else ([], 24)) else ([], ckL ss bs s xs)
theorem find_some {α : Type} {f : Nat → Option α} {n : Nat} {r : α} (h : (List.range n).findSome? f = some r) : ∃ k, k < n ∧ f k = some r := by
 obtain ⟨k, hk, h2⟩ := List.exists_of_findSome?_eq_some h
 exact ⟨k, List.mem_range.1 hk, h2⟩
end Go.Pb.Sag
namespace Go.Pb.Sag
open Go Go.Pb Go.Pb.Ware Go.RowKit

def below (i : Nat) (g : List Int) : List Int := g.filter fun z => decide (z < (i : Int))
end Go.Pb.Sag
namespace Go.Pb.Sag
open Go Go.Pb Go.Pb.Ware Go.RowKit

def whereL (g : Nat) : Nat → List Nat → List Int
 | _, [] => []
 | i, a :: l => if a = g then (i : Int) :: whereL g (i + 1) l else whereL g (i + 1) l
def groupedL (of : List Nat) (many : Nat) : List (List Int) := (List.range many).map fun g => whereL g 0 of
theorem grouped_len {of : List Nat} {many : Nat} : (groupedL of many).length = many := by unfold groupedL; simp
theorem grouped_at {of : List Nat} {many k : Nat} (h : k < many) : (groupedL of many)[k]? = some (whereL k 0 of) := by unfold groupedL; simp [h]
end Go.Pb.Sag
namespace Go.Pb.Sag
open Go Go.Pb Go.Pb.Ware Go.RowKit

def putG (does : List Int → Bool) (most : Nat) : Nat → Nat → List (List Int) → Option (List (List Int))
 | 0, _, gs => some gs
 | d + 1, i, gs =>
  match (List.range gs.length).findSome? (fun k => if does (gs.getD k [] ++ [(i : Int)]) = true then putG does most d (i + 1) (gs.set k (gs.getD k [] ++ [(i : Int)])) else none) with
  | some r => some r
  | none => if gs.length = most then none else (if does [(i : Int)] = true then putG does most d (i + 1) (gs ++ [[(i : Int)]]) else none)
def tryG (does : List Int → Bool) (most d i : Nat) (gs : List (List Int)) (k : Nat) : Option (List (List Int)) := if does (gs.getD k [] ++ [(i : Int)]) = true then putG does most d (i + 1) (gs.set k (gs.getD k [] ++ [(i : Int)])) else none
theorem tryG_last (does : List Int → Bool) (most d i : Nat) (gs : List (List Int)) : tryG does most d i (gs ++ [[]]) gs.length = if does [(i : Int)] = true then putG does most d (i + 1) (gs ++ [[(i : Int)]]) else none := by
 unfold tryG
 rw [List.getD_eq_getElem?_getD, List.getElem?_append_right (Nat.le_refl _), Nat.sub_self, List.set_append_right _ _ (Nat.le_refl _), Nat.sub_self]
 rfl
theorem putG_succ (does : List Int → Bool) (most d i : Nat) (gs : List (List Int)) : putG does most (d + 1) i gs = match (List.range gs.length).findSome? (tryG does most d i gs) with
  | some r => some r
  | none => if gs.length = most then none else tryG does most d i (gs ++ [[]]) gs.length := by rw [tryG_last, putG]; rfl
theorem putG_F {s : Bx} {fs : List Ft} {most : Nat} : ∀ (d i : Nat) (gs : List (List Int)), (∀ j, i ≤ j → j < i + d → fitsB s (chosenL fs [(j : Int)]) = true) → putG (fun g => fitsB s (chosenL fs g)) most d i gs = putF s fs most d i gs
 | 0, i, gs, _ => by rw [putG, putF]
 | d + 1, i, gs, h => by
  have ih : ∀ gs, putG (fun g => fitsB s (chosenL fs g)) most d (i + 1) gs = putF s fs most d (i + 1) gs := fun gs => putG_F d (i + 1) gs fun j h1 h2 => h j (by omega) (by omega)
  rw [putG, putF]
  simp only [ih, h i (Nat.le_refl _) (by omega), if_true]
  try (generalize (List.range gs.length).findSome? _ = r; cases r <;> rfl)
theorem putG_some {does : List Int → Bool} {most : Nat} : ∀ (d i : Nat) (gs : List (List Int)), (∀ j, i ≤ j → j < i + d → does [(j : Int)] = true) → i + d ≤ most → gs.length ≤ i → ∃ r, putG does most d i gs = some r
 | 0, i, gs, _, _, _ => ⟨gs, rfl⟩
 | d + 1, i, gs, h, h1, h2 => by
  rw [putG_succ]
  cases hf : (List.range gs.length).findSome? (tryG does most d i gs) with
  | some r => exact ⟨r, rfl⟩
  | none =>
   dsimp only
   rw [if_neg (by omega), tryG_last, if_pos (h i (Nat.le_refl _) (by omega))]
   exact putG_some d (i + 1) _ (fun j h3 h4 => h j (by omega) (by omega)) (by omega) (by rw [List.length_append, List.length_singleton]; omega)
def GoodR (i : Nat) (gs : List (List Int)) : Prop := Good i gs ∧ ∀ g ∈ gs, g.Pairwise (· < ·)
theorem GoodR.nil : GoodR 0 [] := ⟨Good.nil, fun g h => by cases h⟩
theorem rise_snoc {i : Nat} {g : List Int} (h : g.Pairwise (· < ·)) (hl : ∀ z ∈ g, 0 ≤ z ∧ z < (i : Int)) : (g ++ [(i : Int)]).Pairwise (· < ·) := by
 rw [List.pairwise_append]
 exact ⟨h, List.pairwise_singleton _ _, fun a ha b hb => by rw [List.mem_singleton.1 hb]; exact (hl a ha).2⟩
theorem GoodR.push {i k : Nat} {gs : List (List Int)} {g : List Int} (h : GoodR i gs) (hg : gs[k]? = some g) : GoodR (i + 1) (gs.set k (g ++ [(i : Int)])) := by
 refine ⟨h.1.push hg, fun g' hm => ?_⟩
 have hgm := List.mem_of_getElem? hg
 rcases List.mem_or_eq_of_mem_set hm with h1 | rfl
 ·exact h.2 g' h1
 ·exact rise_snoc (h.2 g hgm) (h.1.lt g hgm)
theorem GoodR.snoc {i : Nat} {gs : List (List Int)} (h : GoodR i gs) : GoodR (i + 1) (gs ++ [[(i : Int)]]) := by
 refine ⟨h.1.snoc, fun g hm => ?_⟩
 rcases List.mem_append.1 hm with h1 | h1
 ·exact h.2 g h1
 ·simp at h1; subst h1; exact List.pairwise_singleton _ _
theorem set_last (gs : List (List Int)) (g : List Int) : (gs ++ [[]]).set gs.length g = gs ++ [g] := by
 rw [List.set_append_right _ _ (Nat.le_refl _), Nat.sub_self]; rfl
theorem putG_good {does : List Int → Bool} {most : Nat} : ∀ (d i : Nat) (gs rs : List (List Int)), GoodR i gs → gs.length ≤ most → putG does most d i gs = some rs → GoodR (i + d) rs ∧ rs.length ≤ most
 | 0, i, gs, rs, hG, hm, h => by
  rw [putG] at h; injection h with h; subst h; exact ⟨hG, hm⟩
 | d + 1, i, gs, rs, hG, hm, h => by
  rw [putG_succ] at h
  cases hf : (List.range gs.length).findSome? (tryG does most d i gs) with
  | some r =>
   rw [hf] at h
   injection h with h
   subst h
   obtain ⟨k, hk, h2⟩ := find_some hf
   unfold tryG at h2
   split at h2
   ·have hg : gs[k]? = some gs[k] := List.getElem?_eq_getElem hk
    rw [List.getD_eq_getElem?_getD, hg, Option.getD_some] at h2
    have := putG_good d (i + 1) _ _ (hG.push hg) (by rw [List.length_set]; exact hm) h2
    rw [show i + 1 + d = i + (d + 1) by omega] at this
    exact this
   ·cases h2
  | none =>
   rw [hf] at h
   dsimp only at h
   split at h
   ·cases h
   ·rw [tryG_last] at h
    split at h
    ·have := putG_good d (i + 1) _ _ hG.snoc (by rw [List.length_append, List.length_singleton]; omega) h
     rw [show i + 1 + d = i + (d + 1) by omega] at this
     exact this
    ·cases h
def fewG (does : List Int → Bool) (n : Nat) : Option (List (List Int)) :=
 if (List.range n).all (fun j => does [(j : Int)]) = true then (List.range (n + 1)).findSome? (fun m => putG does m n 0 []) else none
structure Above (B : Nat) (W W' : World) : Prop where
 size : W.heap.size ≤ W'.heap.size
 block : ∀ b, B ≤ b → b < W.heap.size → W'.heap[b]? = W.heap[b]?
theorem Above.of_below {B : Nat} {W W' : World} (h : Below W.heap.size W W') : Above B W W' := ⟨h.size, fun b _ h1 => h.block b h1⟩
theorem Above.cell {B b o : Nat} {W W' : World} {v : Value} (h : Above B W W') (hb : B ≤ b) (hc : W.cell? ⟨b, o, none⟩ = some v) : W'.cell? ⟨b, o, none⟩ = some v :=
 (World.cell?_of_block (a := ⟨b, o, none⟩) (h.block b hb (World.block_lt_of_cell? W _ hc))).trans hc
theorem Above.free {B b o : Nat} {W W' : World} {v : Value} (h : Above B W W') (hb : B ≤ b) (hc : W.cell? ⟨b, o, none⟩ = some v) (hf : W.frozen? ⟨b, o, none⟩ = false) : W'.frozen? ⟨b, o, none⟩ = false :=
 (World.frozen?_of_block (a := ⟨b, o, none⟩) (h.block b hb (World.block_lt_of_cell? W _ hc))).trans hf
theorem owns_above {B lo e s n : Nat} {W W' : World} {v : Value} {xs : List Value} (h : W.ownsRow lo e s v n xs) (hB : B ≤ lo) (ha : Above B W W') : W'.ownsRow lo e s v n xs := by
 refine ⟨h.1, ?_⟩
 rcases h.2 with hn | ⟨g, cap, cur, h1, h2, h3, h4⟩
 ·exact .inl hn
 ·exact .inr ⟨g, cap, cur, h1, h2, (ha.block g (by omega) (Array.getElem?_eq_some_iff.1 h3).1).trans h3, h4⟩
def Apart (vs : List Value) : Prop := ∀ (j k : Nat) (u v : Value), j ≠ k → vs[j]? = some u → vs[k]? = some v → u.ownBlock = none ∨ u.ownBlock ≠ v.ownBlock
def PartsAt (B TO TI : Nat) (gs : List (List Int)) (W : World) : Prop := ∃ (gv : Value) (vs : List Value), (W.cell? ⟨B + 3, 0, none⟩ = some gv ∧ W.frozen? ⟨B + 3, 0, none⟩ = false) ∧ W.ownsRow (B + 6) TO 1 gv gs.length vs ∧ RowsIn (B + 6) TI W vs gs ∧ Apart vs ∧ B + 6 ≤ W.heap.size
theorem PartsAt.keep {B TO TI : Nat} {gs : List (List Int)} {W W' : World} (h : PartsAt B TO TI gs W) (ha : Above B W W') : PartsAt B TO TI gs W' := by
 obtain ⟨gv, vs, ⟨c1, c2⟩, ho, hr, hA, hs⟩ := h
 exact ⟨gv, vs, ⟨ha.cell (by omega) c1, ha.free (by omega) c1 c2⟩, owns_above ho (by omega) ha, fun k v g h1 h2 => owns_above (hr k v g h1 h2) (by omega) ha, hA, by have := ha.size; omega⟩
def BoxesAt (B : Nat) (a0 a1 a2 a4 a5 : Value) (W : World) : Prop := W.cell? ⟨B, 0, none⟩ = some a0 ∧ W.cell? ⟨B + 1, 0, none⟩ = some a1 ∧ W.cell? ⟨B + 2, 0, none⟩ = some a2 ∧ W.cell? ⟨B + 4, 0, none⟩ = some a4 ∧ W.cell? ⟨B + 5, 0, none⟩ = some a5
theorem BoxesAt.keep {B : Nat} {a0 a1 a2 a4 a5 : Value} {W W' : World} (h : BoxesAt B a0 a1 a2 a4 a5 W) (hb : ∀ b, B ≤ b → b < B + 6 → b ≠ B + 3 → W'.heap[b]? = W.heap[b]?) : BoxesAt B a0 a1 a2 a4 a5 W' := by
 obtain ⟨h0, h1, h2, h4, h5⟩ := h
 have key : ∀ {b : Nat} {v : Value}, B ≤ b → b < B + 6 → b ≠ B + 3 → W.cell? ⟨b, 0, none⟩ = some v → W'.cell? ⟨b, 0, none⟩ = some v := fun h1 h2 h3 h4 => (World.cell?_of_block (a := ⟨_, 0, none⟩) (hb _ h1 h2 h3)).trans h4
 exact ⟨key (by omega) (by omega) (by omega) h0, key (by omega) (by omega) (by omega) h1, key (by omega) (by omega) (by omega) h2, key (by omega) (by omega) (by omega) h4, key (by omega) (by omega) (by omega) h5⟩
theorem BoxesAt.above {B : Nat} {a0 a1 a2 a4 a5 : Value} {W W' : World} (h : BoxesAt B a0 a1 a2 a4 a5 W) (hs : B + 6 ≤ W.heap.size) (ha : Above B W W') : BoxesAt B a0 a1 a2 a4 a5 W' := h.keep fun b h1 h2 _ => ha.block b h1 (by omega)
theorem BoxesAt.below {B : Nat} {a0 a1 a2 a4 a5 : Value} {W W' : World} (h : BoxesAt B a0 a1 a2 a4 a5 W) (hb : Below (B + 6) W W') : BoxesAt B a0 a1 a2 a4 a5 W' := h.keep fun b h1 h2 _ => hb.block b h2
theorem BoxesAt.set {B : Nat} {a0 a1 a2 a4 a5 v : Value} {W : World} (h : BoxesAt B a0 a1 a2 a4 a5 W) : BoxesAt B a0 a1 a2 a4 a5 (W.setCell ⟨B + 3, 0, none⟩ v) := h.keep fun b h1 h2 h3 => Below.heap_setCell _ _ _ _ h3
theorem PartsAt.push {B TO TI i k : Nat} (hT : TO ≠ TI) {gs : List (List Int)} {g : List Int} {W w2 w3 : World} {v v' : Value} {vs : List Value} {gb cap : Nat} (hG : Good (i + 1) (gs.set k (g ++ [(i : Int)]))) (hg : gs[k]? = some g) (hv : vs[k]? = some v)
  (c8 : W.cell? ⟨B + 3, 0, none⟩ = some (.slice (some ⟨gb, 0, none⟩) gs.length cap) ∧ W.frozen? ⟨B + 3, 0, none⟩ = false) (ho : W.ownsRow (B + 6) TO 1 (.slice (some ⟨gb, 0, none⟩) gs.length cap) gs.length vs) (hr : RowsIn (B + 6) TI W vs gs) (hA : Apart vs) (hsz : B + 6 ≤ W.heap.size)
  (hb : Below W.heap.size W w2) (hg3 : w2.grownBy w3 v.ownBlock) (ho3 : w3.ownsRow (B + 6) TI 1 v' (g.length + 1) (g.map (Value.int .i64) ++ [.int .i64 (i : Int)])) :
  (w3.cell? ⟨gb, k, none⟩ = some v ∧ w3.frozen? ⟨gb, k, none⟩ = false) ∧ PartsAt B TO TI (gs.set k (g ++ [(i : Int)])) (w3.setCell ⟨gb, k, none⟩ v') ∧ Below (B + 6) W (w3.setCell ⟨gb, k, none⟩ v') := by
 have hk : k < gs.length := (List.getElem?_eq_some_iff.1 hg).1
 have hrow := hr k v g hv hg
 have ho2 := owns_below ho hb
 have hrow2 := owns_below hrow hb
 have hgb : B + 6 ≤ gb := own_ge ho gb rfl
 have a1 : (Value.slice (some ⟨gb, 0, none⟩) gs.length cap).ownBlock = none ∨ (Value.slice (some ⟨gb, 0, none⟩) gs.length cap).ownBlock ≠ v.ownBlock := apart_types ho2 hrow2 hT
 have ho4 : w3.ownsRow (B + 6) TO 1 (.slice (some ⟨gb, 0, none⟩) gs.length cap) gs.length vs := ho2.kept hg3 a1
 have hbw : Below (B + 6) W w3 := (hb.mono hsz).grown hg3 (by have := hb.size; omega) (own_ge hrow)
 have a2 : some gb ≠ v.ownBlock := by rcases a1 with h | h; cases h; exact h
 have hcell : w3.cell? ⟨gb, k, none⟩ = some v := by
  have h1 := ho4.cells (g := gb) rfl k v hv
  rw [Go.WideShapes.add_plain, Nat.zero_add] at h1
  exact h1
 have hvl : k < vs.length := (List.getElem?_eq_some_iff.1 hv).1
 have hts : ∀ {u : Value} {n : Nat} {xs : List Value}, w3.ownsRow (B + 6) TI 1 u n xs → u.ownBlock = none ∨ u.ownBlock ≠ some gb := fun h => apart_types h ho4 (Ne.symm hT)
 have hrj : ∀ (j : Nat) (u : Value) (g' : List Int), j ≠ k → vs[j]? = some u → gs[j]? = some g' → w3.ownsRow (B + 6) TI 1 u g'.length (g'.map (Value.int .i64)) := fun j u g' e hu hg' =>
  (owns_below (hr j u g' hu hg') hb).kept hg3 (hA j k u v e hu hv)
 have hkey : ∀ (j : Nat) (u : Value), j ≠ k → vs[j]? = some u → (v'.ownBlock = none ∨ v'.ownBlock ≠ u.ownBlock) ∧ (u.ownBlock = none ∨ u.ownBlock ≠ v'.ownBlock) := fun j u e hu => by
  have hjl : j < gs.length := by have h1 := ho.1; have h2 := (List.getElem?_eq_some_iff.1 hu).1; omega
  have hg' : gs[j]? = some gs[j] := List.getElem?_eq_getElem hjl
  have hj := hrj j u _ e hu hg'
  obtain ⟨x, hx⟩ := hG.one j gs[j] (by rw [List.getElem?_set_ne (Ne.symm e)]; exact hg')
  obtain ⟨y, hy⟩ := hG.one k (g ++ [(i : Int)]) (List.getElem?_set_self hk)
  have hxy := hG.apart j k gs[j] (g ++ [(i : Int)]) x y e (by rw [List.getElem?_set_ne (Ne.symm e)]; exact hg') (List.getElem?_set_self hk) hx hy
  have h1 : (gs[j].map (Value.int .i64))[0]? = some (.int .i64 x) := by rw [List.getElem?_map, hx]; rfl
  have h2 : (g.map (Value.int .i64) ++ [.int .i64 (i : Int)])[0]? = some (.int .i64 y) := by
   have h3 : ((g ++ [(i : Int)]).map (Value.int .i64))[0]? = some (.int .i64 y) := by rw [List.getElem?_map, hy]; rfl
   simpa using h3
  exact ⟨apart_heads ho3 hj h2 h1 (fun h => hxy (by injection h with _ h; exact h.symm)), apart_heads hj ho3 h1 h2 (fun h => hxy (by injection h))⟩
 refine ⟨⟨hcell, owns_frozen ho4 rfl k⟩, ⟨.slice (some ⟨gb, 0, none⟩) gs.length cap, vs.set k v', ⟨?_, ?_⟩, ?_, ?_, ?_, ?_⟩, hbw.setCell (p := ⟨gb, k, none⟩) hgb v'⟩
 ·exact setc_block ((hbw.cell (p := ⟨B + 3, 0, none⟩) (by simp)).trans c8.1) (by omega)
 ·exact set_free ((hbw.cell (p := ⟨B + 3, 0, none⟩) (by simp)).trans c8.1) ((hbw.frozen (p := ⟨B + 3, 0, none⟩) (by simp)).trans c8.2)
 ·rw [List.length_set]; exact row_set ho4 hk
 ·intro j u g' hu hg'
  by_cases e : j = k
  ·subst e
   rw [List.getElem?_set_self hvl] at hu
   rw [List.getElem?_set_self hk] at hg'
   obtain rfl : v' = u := by simpa using hu
   obtain rfl : g ++ [(i : Int)] = g' := by simpa using hg'
   have h1 := set_own (o := j) (u := v') ho3 (hts ho3)
   simpa using h1
  ·rw [List.getElem?_set_ne (Ne.symm e)] at hu hg'
   have h3 := hrj j u g' e hu hg'
   exact set_own h3 (hts h3)
 ·intro j l u x hne hu hx
  by_cases e : j = k
  ·subst e
   rw [List.getElem?_set_self hvl] at hu
   rw [List.getElem?_set_ne hne] at hx
   obtain rfl : v' = u := by simpa using hu
   exact (hkey l x (Ne.symm hne) hx).1
  ·rw [List.getElem?_set_ne (Ne.symm e)] at hu
   by_cases e2 : l = k
   ·subst e2
    rw [List.getElem?_set_self hvl] at hx
    obtain rfl : v' = x := by simpa using hx
    exact (hkey j u e hu).2
   ·rw [List.getElem?_set_ne (Ne.symm e2)] at hx
    exact hA j l u x hne hu hx
 ·have := hbw.size; show B + 6 ≤ (w3.setCell _ _).heap.size; simp; omega
theorem PartsAt.pop {B TO TI i k : Nat} (hT : TO ≠ TI) {gs : List (List Int)} {g : List Int} {W : World} {gb gcap b cap n : Nat} {vs : List Value} (hgs : gs[k]? = some g) (hn : gs.length = n)
  (c8 : W.cell? ⟨B + 3, 0, none⟩ = some (.slice (some ⟨gb, 0, none⟩) n gcap) ∧ W.frozen? ⟨B + 3, 0, none⟩ = false) (ho : W.ownsRow (B + 6) TO 1 (.slice (some ⟨gb, 0, none⟩) n gcap) n vs) (hr : RowsIn (B + 6) TI W vs (gs.set k (g ++ [(i : Int)]))) (hA : Apart vs) (hsz : B + 6 ≤ W.heap.size)
  (hv : vs[k]? = some (.slice (some ⟨b, 0, none⟩) (g.length + 1) cap)) :
  PartsAt B TO TI gs (W.setCell ⟨gb, k, none⟩ (.slice (some ⟨b, 0, none⟩) g.length cap)) ∧ Below (B + 6) W (W.setCell ⟨gb, k, none⟩ (.slice (some ⟨b, 0, none⟩) g.length cap)) := by
 subst hn
 have hk : k < gs.length := (List.getElem?_eq_some_iff.1 hgs).1
 have hvl : k < vs.length := (List.getElem?_eq_some_iff.1 hv).1
 have hgb : B + 6 ≤ gb := own_ge ho gb rfl
 have hts : ∀ {u : Value} {n : Nat} {xs : List Value}, W.ownsRow (B + 6) TI 1 u n xs → u.ownBlock = none ∨ u.ownBlock ≠ some gb := fun h => apart_types h ho (Ne.symm hT)
 refine ⟨⟨.slice (some ⟨gb, 0, none⟩) gs.length gcap, vs.set k (.slice (some ⟨b, 0, none⟩) g.length cap), ⟨setc_block c8.1 (by omega), set_free c8.1 c8.2⟩, row_set ho hk, ?_, ?_, by simpa using hsz⟩, (Below.refl _ _).setCell (p := ⟨gb, k, none⟩) hgb _⟩
 ·intro j u g' hu hg'
  by_cases e : j = k
  ·subst e
   rw [List.getElem?_set_self hvl] at hu
   rw [hgs] at hg'
   obtain rfl : Value.slice (some ⟨b, 0, none⟩) g.length cap = u := by simpa using hu
   obtain rfl : g = g' := by simpa using hg'
   have h1 := hr j _ _ hv (List.getElem?_set_self hk)
   rw [List.length_append, List.length_singleton] at h1
   have h2 := row_take (m := g.length) h1 (by omega)
   rw [List.map_append, List.take_append_of_le_length (by simp), List.take_of_length_le (by simp)] at h2
   exact set_own h2 (hts h2)
  ·rw [List.getElem?_set_ne (Ne.symm e)] at hu
   have h1 := hr j u g' hu (by rw [List.getElem?_set_ne (Ne.symm e)]; exact hg')
   exact set_own h1 (hts h1)
 ·have blk : ∀ (j : Nat) (u : Value), (vs.set k (.slice (some ⟨b, 0, none⟩) g.length cap))[j]? = some u → ∃ u0, vs[j]? = some u0 ∧ u0.ownBlock = u.ownBlock := fun j u hu => by
   by_cases e : j = k
   ·subst e
    rw [List.getElem?_set_self hvl] at hu
    injection hu with hu
    subst hu
    exact ⟨_, hv, rfl⟩
   ·rw [List.getElem?_set_ne (Ne.symm e)] at hu
    exact ⟨u, hu, rfl⟩
  intro j l u x hne hu hx
  obtain ⟨u0, h1, h2⟩ := blk j u hu
  obtain ⟨x0, h3, h4⟩ := blk l x hx
  rw [← h2, ← h4]
  exact hA j l u0 x0 hne h1 h3
theorem PartsAt.grow {B TO TI n : Nat} {gs : List (List Int)} {W w2 w3 : World} {gv gv' : Value} {vs : List Value} (hT : TO ≠ TI) (hn : gs.length = n)
  (c8 : W.cell? ⟨B + 3, 0, none⟩ = some gv ∧ W.frozen? ⟨B + 3, 0, none⟩ = false) (ho : W.ownsRow (B + 6) TO 1 gv n vs) (hr : RowsIn (B + 6) TI W vs gs) (hA : Apart vs) (hsz : B + 6 ≤ W.heap.size)
  (hb : Below W.heap.size W w2) (hg3 : w2.grownBy w3 gv.ownBlock) (ho3 : w3.ownsRow (B + 6) TO 1 gv' (n + 1) (vs ++ [.slice none 0 0])) :
  (w3.cell? ⟨B + 3, 0, none⟩ = some gv ∧ w3.frozen? ⟨B + 3, 0, none⟩ = false) ∧ PartsAt B TO TI (gs ++ [[]]) (w3.setCell ⟨B + 3, 0, none⟩ gv') ∧ Below (B + 6) W w3 := by
 subst hn
 have hbw : Below (B + 6) W w3 := (hb.mono hsz).grown hg3 (by have := hb.size; omega) (own_ge ho)
 have hG8 : w3.cell? ⟨B + 3, 0, none⟩ = some gv ∧ w3.frozen? ⟨B + 3, 0, none⟩ = false := ⟨(hbw.cell (p := ⟨B + 3, 0, none⟩) (by simp)).trans c8.1, (hbw.frozen (p := ⟨B + 3, 0, none⟩) (by simp)).trans c8.2⟩
 have far : ∀ {T n : Nat} {v : Value} {xs : List Value}, w3.ownsRow (B + 6) T 1 v n xs → v.ownBlock = none ∨ v.ownBlock ≠ some (B + 3) := fun h => .inr fun e => by have := own_ge h _ e; omega
 have hvl : vs.length = gs.length := by have := ho.1; omega
 refine ⟨hG8, ⟨gv', vs ++ [.slice none 0 0], ⟨setc_same hG8.1, set_free hG8.1 hG8.2⟩, ?_, ?_, ?_, ?_⟩, hbw⟩
 ·rw [List.length_append, List.length_singleton]; exact set_own ho3 (far ho3)
 ·intro k v g hv hg
  rcases Nat.lt_or_ge k gs.length with h1 | h1
  ·rw [List.getElem?_append_left (by omega)] at hv
   rw [List.getElem?_append_left h1] at hg
   have h2 := owns_below (hr k v g hv hg) hb
   have h3 := h2.kept hg3 (apart_types h2 (owns_below ho hb) (Ne.symm hT))
   exact set_own h3 (far h3)
  ·rw [List.getElem?_append_right (by omega), hvl] at hv
   rw [List.getElem?_append_right h1] at hg
   have h4 := (List.getElem?_eq_some_iff.1 hg).1
   simp at h4
   have e : k = gs.length := by omega
   subst e
   simp at hv hg
   subst hv; subst hg
   exact World.ownsRow_nil _ _ _ _
 ·intro j k u v hne hu hv
  rcases Nat.lt_or_ge j vs.length with h1 | h1
  ·rw [List.getElem?_append_left h1] at hu
   rcases Nat.lt_or_ge k vs.length with h2 | h2
   ·rw [List.getElem?_append_left h2] at hv
    exact hA j k u v hne hu hv
   ·rw [List.getElem?_append_right h2] at hv
    have h4 := (List.getElem?_eq_some_iff.1 hv).1
    simp at h4
    rw [show k - vs.length = 0 by omega] at hv
    simp at hv
    subst hv
    cases hob : u.ownBlock with
    | none => exact .inl rfl
    | some b => exact .inr (by simp [Value.ownBlock])
  ·rw [List.getElem?_append_right h1] at hu
   have h4 := (List.getElem?_eq_some_iff.1 hu).1
   simp at h4
   rw [show j - vs.length = 0 by omega] at hu
   simp at hu
   subst hu
   exact .inl rfl
 ·have := hbw.size; show B + 6 ≤ (w3.setCell _ _).heap.size; simp; omega
theorem PartsAt.shrink {B TO TI n gb cap : Nat} {gs : List (List Int)} {g : List Int} {W : World} {vs : List Value} (hn : gs.length = n)
  (c8 : W.cell? ⟨B + 3, 0, none⟩ = some (.slice (some ⟨gb, 0, none⟩) (n + 1) cap) ∧ W.frozen? ⟨B + 3, 0, none⟩ = false) (ho : W.ownsRow (B + 6) TO 1 (.slice (some ⟨gb, 0, none⟩) (n + 1) cap) (n + 1) vs) (hr : RowsIn (B + 6) TI W vs (gs ++ [g])) (hA : Apart vs) (hsz : B + 6 ≤ W.heap.size) :
  PartsAt B TO TI gs (W.setCell ⟨B + 3, 0, none⟩ (.slice (some ⟨gb, 0, none⟩) n cap)) := by
 subst hn
 have far : ∀ {T n : Nat} {v : Value} {xs : List Value}, W.ownsRow (B + 6) T 1 v n xs → v.ownBlock = none ∨ v.ownBlock ≠ some (B + 3) := fun h => .inr fun e => by have := own_ge h _ e; omega
 have h1 := row_take (m := gs.length) ho (by omega)
 refine ⟨.slice (some ⟨gb, 0, none⟩) gs.length cap, vs.take gs.length, ⟨setc_same c8.1, set_free c8.1 c8.2⟩, set_own h1 (far h1), ?_, ?_, by simpa using hsz⟩
 ·intro k v g' hv hg
  have hk : k < gs.length := (List.getElem?_eq_some_iff.1 hg).1
  rw [List.getElem?_take, if_pos hk] at hv
  have h2 := hr k v g' hv (by rw [List.getElem?_append_left hk]; exact hg)
  exact set_own h2 (far h2)
 ·intro j k u v hne hu hv
  rw [List.getElem?_take] at hu hv
  split at hu
  ·split at hv
   ·exact hA j k u v hne hu hv
   ·cases hv
  ·cases hu
def PutsRes (B TO TI : Nat) (a0 a1 a2 a4 a5 : Value) (Q : World → Prop) (gs : List (List Int)) (r : Option (List (List Int))) (e : Ending) (w' : World) : Prop :=
 Q w' ∧ BoxesAt B a0 a1 a2 a4 a5 w' ∧ ((∃ rs, r = some rs ∧ e = .returned (.bool true) ∧ PartsAt B TO TI rs w') ∨ (r = none ∧ e = .returned (.bool false) ∧ PartsAt B TO TI gs w'))
theorem PutsRes.yes {B TO TI : Nat} {a0 a1 a2 a4 a5 : Value} {Q : World → Prop} {gs rs : List (List Int)} {r : Option (List (List Int))} {e : Ending} {w' : World} (hq : Q w') (hB : BoxesAt B a0 a1 a2 a4 a5 w') (hr : r = some rs) (he : e = .returned (.bool true)) (hP : PartsAt B TO TI rs w') : PutsRes B TO TI a0 a1 a2 a4 a5 Q gs r e w' := ⟨hq, hB, .inl ⟨rs, hr, he, hP⟩⟩
theorem PutsRes.no {B TO TI : Nat} {a0 a1 a2 a4 a5 : Value} {Q : World → Prop} {gs : List (List Int)} {r : Option (List (List Int))} {e : Ending} {w' : World} (hq : Q w') (hB : BoxesAt B a0 a1 a2 a4 a5 w') (hr : r = none) (he : e = .returned (.bool false)) (hP : PartsAt B TO TI gs w') : PutsRes B TO TI a0 a1 a2 a4 a5 Q gs r e w' := ⟨hq, hB, .inr ⟨hr, he, hP⟩⟩
theorem Above.trans {B : Nat} {a b c : World} (h : Above B a b) (k : Above B b c) : Above B a c :=
 ⟨Nat.le_trans h.size k.size, fun i h1 h2 => (k.block i h1 (Nat.lt_of_lt_of_le h2 h.size)).trans (h.block i h1 h2)⟩
theorem Above.mono {B B' : Nat} {a b : World} (h : Above B a b) (hB : B ≤ B') : Above B' a b := ⟨h.size, fun i h1 h2 => h.block i (by omega) h2⟩
theorem wpAny_Rs {P : Program} {Q : Exit → Act → World → Prop} {a : Act} {w0 w : World} {l : List Oper} {L : Array Bool} {n : Nat} (ps : List (Nat × (Value → World → Prop))) (hs : List Nat) (g : Nat) (hn : hs.length + g = n) (hkeep : ∀ x ∈ ps, Keeps x.2)
  (hB : (groupB .any l.toArray L hs && pairsB .any l.toArray ((ps.map (·.1)).contains ·) hs && plainsB l.toArray ((ps.map (·.1)).contains ·) hs) = true) (hw : Below w0.heap.size w0 w)
  (h : wpS P .any l.toArray w0 ((ps.map (·.1)).contains ·) (pOf ps) (fun Γ' a' => ∀ w', All w0 (pOf ps) Γ' w' → wpAny P .any l.toArray Q g (mark hs L) a' w') (numbered l.toArray hs) (fun _ => none) a) :
  wpAny P .any l.toArray Q n L a w := by
 subst hn
 refine wpAny_R (ps.map (·.1)) hs g (pOf_keeps hkeep) hB hw (wpR_of_wpS (fun k hk => ?_) h)
 simp only [groupB, Bool.and_eq_true] at hB
 obtain ⟨_, hmem, _⟩ := orderB_spec hB.1.1.2
 exact (hmem k hk).2.2
end Go.Pb.Sag