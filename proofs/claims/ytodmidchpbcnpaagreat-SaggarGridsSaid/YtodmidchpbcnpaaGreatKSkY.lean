/- Part of a claim. -/
import Derived.Test.YtodmidchpbcnpaaGreatKScY
import Derived.Shelf.SlSortCmp.SmallK
import Derived.Test.YtodmidchpbcnpaaGreatKLibY
import Derived.OwnWalk
set_option linter.unusedVariables false
set_option linter.unusedSimpArgs false
namespace Go.Pb.Sag
open Go Go.Pb Go.Pb.Ware Go.RowKit

structure OutOnly (w1 : World) (g i : Nat) (W : World) : Prop where
 below : Below g w1 W
 seg : ∀ k,g < k → k < w1.heap.size → W.heap[k]? = w1.heap[k]?
 cells : ∀ j u,j ≠ i → w1.cell? ⟨g,j,none⟩ = some u → W.cell? ⟨g,j,none⟩ = some u
 frz : ∀ j u,w1.cell? ⟨g,j,none⟩ = some u → w1.frozen? ⟨g,j,none⟩ = false → W.frozen? ⟨g,j,none⟩ = false
theorem OutOnly.refl {w1 : World} {g i : Nat} : OutOnly w1 g i w1 := ⟨Below.refl _ _,fun _ _ _ => rfl,fun _ _ _ h => h,fun _ _ _ h => h⟩
theorem OutOnly.grown {w1 W W' : World} {g i : Nat} {row : Option Nat} (h : OutOnly w1 g i W) (hg : W.grownBy W' row) (hlt : g < w1.heap.size) (hr : ∀ r,row = some r → w1.heap.size ≤ r) : OutOnly w1 g i W' := by
 have hs := h.below.size
 have hb : W'.heap[g]? = W.heap[g]? := hg.block g (by omega) (fun e => by have := hr g e.symm;omega)
 refine ⟨h.below.grown hg (by omega) (fun k e => by have := hr k e;omega),fun k h1 h2 => ?_,fun j u hj hu => ?_,fun j u hu hf => ?_⟩
 ·rw [hg.block k (by omega) (fun e => by have := hr k e.symm;omega)];exact h.seg k h1 h2
 ·rw [World.cell?_of_block (w := W) hb];exact h.cells j u hj hu
 ·rw [World.frozen?_of_block (a := ⟨g,j,none⟩) (w := W) hb];exact h.frz j u hu hf
theorem OutOnly.next {w1 W W' : World} {g i : Nat} (h : OutOnly w1 g i W) (hlt : g < w1.heap.size) (hb : Below W.heap.size W W') : OutOnly w1 g i W' := h.grown (grown_of_below hb) hlt (fun r e => by cases e)
theorem OutOnly.set {w1 W : World} {g i : Nat} (h : OutOnly w1 g i W) (v : Value) : OutOnly w1 g i (W.setCell ⟨g,i,none⟩ v) :=
 ⟨h.below.setCell (p := ⟨g,i,none⟩) (Nat.le_refl _) v,fun k h1 h2 => by rw [Below.heap_setCell _ _ _ _ (by show k ≠ g;omega)];exact h.seg k h1 h2,fun j u hj hu => setc_other (h.cells j u hj hu) hj,fun j u hu hf => by simp [go_sem,h.frz j u hu hf]⟩
theorem OutOnly.keepSeg {w1 W W' : World} {g i lo hi : Nat} (h : OutOnly w1 g i W) (h' : OutOnly w1 g i W') (hlo : g < lo) (hhi : hi ≤ w1.heap.size) (hs : W.heap.size ≤ W'.heap.size) : KeepSeg lo hi W W' :=
 ⟨hs,fun k h1 h2 => (h'.seg k (by omega) (by omega)).trans (h.seg k (by omega) (by omega)).symm⟩
theorem OutOnly.at {w1 W : World} {g i B o : Nat} {v : Value} (h : OutOnly w1 g i W) (hc : w1.cell? ⟨B,o,none⟩ = some v) (hB : B ≠ g) : W.cell? ⟨B,o,none⟩ = some v := by
 have hlt := World.block_lt_of_cell? w1 _ hc
 rcases Nat.lt_or_ge B g with h1 | h1
 ·rw [h.below.cell (p := ⟨B,o,none⟩) h1];exact hc
 ·rw [World.cell?_of_block (w := w1) (h.seg B (by omega) hlt)];exact hc
theorem OutOnly.free {w1 W : World} {g i B o : Nat} {v : Value} (h : OutOnly w1 g i W) (hc : w1.cell? ⟨B,o,none⟩ = some v) (hf : w1.frozen? ⟨B,o,none⟩ = false) : W.frozen? ⟨B,o,none⟩ = false := by
 have hlt := World.block_lt_of_cell? w1 _ hc
 rcases Nat.lt_trichotomy B g with h1 | h1 | h1
 ·rw [h.below.frozen (p := ⟨B,o,none⟩) h1];exact hf
 ·subst h1;exact h.frz o v hc hf
 ·rw [World.frozen?_of_block (a := ⟨B,o,none⟩) (w := w1) (h.seg B (by omega) hlt)];exact hf
theorem OutOnly.cellsAt {w1 W : World} {g i B : Nat} {vs : List Value} (h : OutOnly w1 g i W) (hc : CellsAt w1 B vs) (hB : B ≠ g) : CellsAt W B vs :=
 fun o v hv => ⟨h.at (hc o v hv).1 hB,h.free (hc o v hv).1 (hc o v hv).2⟩
def Filling (w1 : World) (g i T : Nat) (l : List Sp) (W : World) : Prop := OutOnly w1 g i W ∧ ∃ v,(W.cell? ⟨g,i,none⟩ = some v ∧ W.frozen? ⟨g,i,none⟩ = false) ∧ W.ownsRow w1.heap.size T 4 v l.length (l.flatMap cellsA)
theorem filling_own {β : Type} {w1 : World} {g i T : Nat} (hlt : g < w1.heap.size) (f : β → List Sp) : OwnFrom w1.heap.size (fun s W => Filling w1 g i T (f s) W) := by
 rintro s X Y row ⟨ho,v,⟨h1,h2⟩,h3⟩ hg hr
 have hr2 : ∀ r,row = some r → ∃ o : Obj,X.heap[r]? = some o ∧ o.isCells = false := fun r e => (hr r e).2
 refine ⟨ho.grown hg hlt (fun r e => (hr r e).1),v,⟨cell_kept h1 hg hr2,(frozen_kept h1 hg hr2).trans h2⟩,h3.kept hg ?_⟩
 rcases h3.2 with ⟨rfl,_⟩ | ⟨b,cap,cur,rfl,_,hgb,_⟩
 ·exact .inl rfl
 ·refine .inr fun e' => ?_
  obtain ⟨o,ho,hc⟩ := hr2 b (by simpa [Value.ownBlock] using e'.symm)
  rw [hgb] at ho;cases ho;cases hc
theorem flat_get {α : Type} {n : Nat} (cs : α → List Value) (hc : ∀ x,(cs x).length = n) : ∀ {l : List α} {k j : Nat} {x : α},l[k]? = some x → j < n → (l.flatMap cs)[k * n + j]? = (cs x)[j]?
 | [],k,j,x,h,_ => by simp at h
 | y :: l,0,j,x,h,hj => by
  have e : y = x := by simpa using h
  rw [List.flatMap_cons,List.getElem?_append_left (by rw [hc];omega),e,Nat.zero_mul,Nat.zero_add]
 | y :: l,k + 1,j,x,h,hj => by
  have h2 : l[k]? = some x := by simpa using h
  rw [List.flatMap_cons,List.getElem?_append_right (by rw [hc,Nat.succ_mul];omega),hc,show (k + 1) * n + j - n = k * n + j by rw [Nat.succ_mul];omega]
  exact flat_get cs hc h2 hj
theorem owns_spots {W : World} {base T : Nat} {v : Value} {l : List Sp} (h : W.ownsRow base T 4 v l.length (l.flatMap cellsA)) : ∃ (a : Option Addr) (cap : Nat),v = .slice a l.length cap ∧
  ∀ k x,l[k]? = some x → ∃ b : Nat,(base ≤ b ∧ b < W.heap.size) ∧ a = some ⟨b,0,none⟩ ∧ ∀ j u,(cellsA x)[j]? = some u → W.cell? ⟨b,k * 4 + j,none⟩ = some u := by
 rcases h.2 with ⟨rfl,h0⟩ | ⟨b,cap,cur,rfl,hb,hgb,_⟩
 ·refine ⟨none,0,by rw [h0],fun k x hx => ?_⟩
  rw [List.length_eq_zero_iff.1 h0] at hx;simp at hx
 ·refine ⟨some ⟨b,0,none⟩,cap,rfl,fun k x hx => ⟨b,⟨hb,(Array.getElem?_eq_some_iff.1 hgb).1⟩,rfl,fun j u hu => ?_⟩⟩
  have hj : j < 4 := by have := (List.getElem?_eq_some_iff.1 hu).1;simpa [cellsA] using this
  have h2 := h.cells (g := b) rfl (k * 4 + j) u (by rw [flat_get (n := 4) cellsA (fun _ => rfl) hx hj];exact hu)
  rw [Go.WideShapes.add_plain,Nat.zero_add] at h2
  exact h2
theorem cell_len (s : Bx) (f : Ft) (y x k : Nat) : (cellL s f y x k).length ≤ 2 := by
 unfold cellL
 refine Nat.le_trans (List.length_filter_le ..) ?_
 rw [List.length_map,List.length_take]
 have := (ways_len f).2;omega
theorem row_len (s : Bx) (f : Ft) (y : Nat) : ∀ m,(rowL s f y m).length ≤ 2 * m
 | 0 => by simp [rowL]
 | m + 1 => by
  rw [rowL,List.length_append]
  have := row_len s f y m
  have := cell_len s f y m (ways f).length
  omega
theorem standsN_len (s : Bx) (f : Ft) {c : Nat} (hc : s.wide.toNat ≤ c) : ∀ n,(standsN s f n).length ≤ n * (2 * c)
 | 0 => by simp [standsN]
 | n + 1 => by
  rw [standsN,List.length_append,Nat.succ_mul]
  have := standsN_len s f hc n
  have := row_len s f n s.wide.toNat
  omega
theorem stands_len {s : Bx} (f : Ft) (hX : boxOk s = true) : (standsL s f).length ≤ 72 := by
 have h2 := boxOk_iff.1 hX
 have h1 := standsN_len s f (c := 6) (by omega) s.deep.toNat
 have h3 : s.deep.toNat * (2 * 6) ≤ 6 * (2 * 6) := Nat.mul_le_mul_right _ (by omega)
 unfold standsL;omega
def spotP (f : Ft) (p : St) : Sp := (p,maskOf f p)
theorem spots_is (s : Bx) (f : Ft) : spotsL s f = (standsL s f).map (spotP f) := rfl
theorem own_cells {W : World} {base size n : Nat} {e : TypeId} {v : Value} {xs : List Value} (h : W.ownsRow base e size v n xs) : ∀ j o,v.ownBlock = some j → W.heap[j]? = some o → o.isCells = true := by
 intro j o ej hj
 rcases h.2 with ⟨rfl,_⟩ | ⟨g,cap,cur,rfl,_,hgb,_⟩
 ·simp [Value.ownBlock] at ej
 ·obtain rfl : g = j := by simpa [Value.ownBlock] using ej
  rw [hgb] at hj;cases hj;rfl
theorem grown_setc (W : World) (a : Addr) (v : Value) : W.grownBy (W.setCell a v) (some a.block) :=
 ⟨rfl,rfl,rfl,by simp,fun k _ hk => Below.heap_setCell _ _ _ k (fun e => hk (by rw [e]))⟩
theorem Filling.slot {w1 Wb w2 w3 : World} {g i T n : Nat} {xs : List Value} {v c0 : Value} (hlt : g < w1.heap.size) (hc : w1.cell? ⟨g,i,none⟩ = some c0) (hf : w1.frozen? ⟨g,i,none⟩ = false) (hO : OutOnly w1 g i Wb) (c1 : Wb.cell? ⟨g,i,none⟩ = some v) (hb : Below Wb.heap.size Wb w2)
  (hown2 : w2.ownsRow w1.heap.size T 4 v n xs) (hg3 : w2.grownBy w3 v.ownBlock) : w3.cell? ⟨g,i,none⟩ = some v ∧ w3.frozen? ⟨g,i,none⟩ = false := by
 have hr : ∀ r,v.ownBlock = some r → w1.heap.size ≤ r := fun r e => (World.ownsRow.lt hown2 r e).1
 exact ⟨grown_kept hg3 (bkeep hb c1) (fun e => by have := hr g e.symm;omega),((hO.next hlt hb).grown hg3 hlt hr).frz i c0 hc hf⟩
theorem Filling.push {w1 Wb w2 w3 : World} {g i T n : Nat} {l : List Sp} {x : Sp} {v v' c0 : Value} (hn : l.length = n) (hlt : g < w1.heap.size) (hc : w1.cell? ⟨g,i,none⟩ = some c0) (hf : w1.frozen? ⟨g,i,none⟩ = false) (hO : OutOnly w1 g i Wb) (c1 : Wb.cell? ⟨g,i,none⟩ = some v) (hb : Below Wb.heap.size Wb w2)
  (hown2 : w2.ownsRow w1.heap.size T 4 v n (l.flatMap cellsA)) (hg3 : w2.grownBy w3 v.ownBlock) (ho3 : w3.ownsRow w1.heap.size T 4 v' (n + 1) (l.flatMap cellsA ++ cellsA x)) :
  Filling w1 g i T (l ++ [x]) (w3.setCell ⟨g,i,none⟩ v') ∧ KeepsOthers Wb (w3.setCell ⟨g,i,none⟩ v') ∧ Wb.heap.size ≤ (w3.setCell ⟨g,i,none⟩ v').heap.size := by
 have hr : ∀ r,v.ownBlock = some r → w1.heap.size ≤ r := fun r e => (World.ownsRow.lt hown2 r e).1
 have hO4 := ((hO.next hlt hb).grown hg3 hlt hr).set v'
 have c3 : w3.cell? ⟨g,i,none⟩ = some v := grown_kept hg3 (bkeep hb c1) (fun e => by have := hr g e.symm;omega)
 refine ⟨⟨hO4,v',⟨setc_same c3,hO4.frz i c0 hc hf⟩, ?_⟩,((keeps_of_below hb).trans (KeepsOthers.of_grownBy hg3 (own_cells hown2))).trans (KeepsOthers.setCell _ _ _), ?_⟩
 ·rw [List.length_append,List.length_singleton,hn,List.flatMap_append,show [x].flatMap cellsA = cellsA x by simp]
  exact ho3.kept (grown_setc w3 ⟨g,i,none⟩ v') (.inr fun e => by have := (World.ownsRow.lt ho3 g e).1;omega)
 ·have := hb.size;have := hg3.size;simp;omega
theorem OutOnly.waits {w1 W : World} {g i : Nat} {ds : List Nat} {u : Value} (h : OutOnly w1 g i W) (hw : Waits ds w1) (hc : w1.cell? ⟨g,i,none⟩ = some u) : Waits ds W := by
 refine ⟨hw.1,fun D hD => ?_⟩
 have h1 := hw.2 D hD
 have h2 := hw.lt hD
 rcases Nat.lt_trichotomy D g with h3 | h3 | h3
 ·rw [h.below.block D h3];exact h1
 ·subst h3;simp [World.cell?,h1] at hc
 ·rw [h.seg D h3 h2];exact h1
theorem SpotsIn.closed {lo hi : Nat} {v : Value} {sp : List (List Sp)} {ds : List Nat} {W W' : World} (h : SpotsIn lo hi v sp W) (hc : Closed ds W W') (hw : Waits ds W) : SpotsIn lo hi v sp W' := by
 obtain ⟨g,hg,e,h⟩ := h
 refine ⟨g,hg,e,fun i l hl => ?_⟩
 obtain ⟨a,cap,h1,h0,h2⟩ := h i l hl
 refine ⟨a,cap,hc.cell hw h1,h0,fun k x hx => ?_⟩
 obtain ⟨b,hb,e2,h3⟩ := h2 k x hx
 exact ⟨b,hb,e2,fun j u hu => hc.cell hw (h3 j u hu)⟩
end Go.Pb.Sag
namespace Go.Pb.Sag
open Go Go.Pb Go.Pb.Ware Go.RowKit Go.Proofs Go.Sort

abbrev FtV := {f : Ft // FtOk f}
instance : Inhabited FtV := ⟨⟨⟨1,1,0,0⟩,by unfold FtOk;simp⟩⟩
def encF (f : FtV) : List Value := cellsF f.1
def cmpF (x y : FtV) : Int := y.1.wide * y.1.deep - x.1.wide * x.1.deep
theorem cmpF_swo : SWO (ltOf cmpF) where
 irrefl x := by unfold ltOf cmpF;simp
 trans x y z h1 h2 := by unfold ltOf cmpF at *;simp only [decide_eq_true_eq] at *;omega
 ntrans x y z h1 h2 := by unfold ltOf cmpF at *;simp only [decide_eq_false_iff_not] at *;omega
def valF (fs : List Ft) (hok : ∀ f ∈ fs,FtOk f) : Array FtV := (fs.attachWith FtOk hok).toArray
theorem valF_size (fs : List Ft) (hok : ∀ f ∈ fs,FtOk f) : (valF fs hok).size = fs.length := by simp [valF]
theorem valF_map (fs : List Ft) (hok : ∀ f ∈ fs,FtOk f) : (valF fs hok).toList.map (·.1) = fs := by unfold valF;simp
theorem owns_frozen {w : World} {base size n g : Nat} {e : TypeId} {v : Value} {xs : List Value} (h : w.ownsRow base e size v n xs) (hg : v.ownBlock = some g) (o : Nat) : w.frozen? ⟨g,o,none⟩ = false := by
 rcases h.2 with ⟨rfl,_⟩ | ⟨g',cap,cur,rfl,_,hgb,_⟩
 ·simp [Value.ownBlock] at hg
 ·obtain rfl : g' = g := by simpa [Value.ownBlock] using hg
  simp [World.frozen?,hgb]
theorem holdsF {w : World} {base b cap : Nat} {e : TypeId} {fs : List Ft} (hok : ∀ f ∈ fs,FtOk f) (h : w.ownsRow base e 4 (.slice (some ⟨b,0,none⟩) fs.length cap) fs.length (fs.flatMap cellsF)) : HoldsK encF 4 w b 0 (valF fs hok) := by
 intro t ht
 rw [size_flatK,valF_size] at ht
 refine ⟨?_,owns_frozen h rfl _⟩
 rw [get_flatK _ _ _ _ (by rw [valF_size];exact ht)]
 have hk : t / 4 < fs.length := by omega
 have hk2 : t / 4 < (valF fs hok).size := by rw [valF_size];exact hk
 have hf : ((valF fs hok)[t / 4]!).1 = fs[t / 4] := by
  rw [getElem!_pos (valF fs hok) (t / 4) hk2]
  have h1 : ((valF fs hok).toList.map (·.1))[t / 4]? = some fs[t / 4] := by rw [valF_map];exact List.getElem?_eq_getElem hk
  rw [List.getElem?_map,Array.getElem?_toList,Array.getElem?_eq_getElem hk2] at h1
  simpa using h1
 have hu : (cellsF fs[t / 4])[t % 4]? = some ((encF (valF fs hok)[t / 4]!)[t % 4]!) := by
  unfold encF;rw [hf]
  have hlt : t % 4 < (cellsF fs[t / 4]).length := by show t % 4 < 4;omega
  rw [getElem!_pos (cellsF fs[t / 4]) (t % 4) hlt,List.getElem?_eq_getElem hlt]
 have h2 := h.cells (g := b) rfl t _ (by
  have h3 := flat_get (n := 4) cellsF (fun _ => rfl) (List.getElem?_eq_getElem hk) (j := t % 4) (by omega)
  rw [show t / 4 * 4 + t % 4 = t by omega] at h3
  rw [h3];exact hu)
 rw [Go.WideShapes.add_plain] at h2
 exact h2
theorem feetAt_holds {w : World} {b n cap : Nat} {d : Array FtV} (hn : d.size = n) (hcap : n ≤ cap) (hcap2 : cap ≤ 9223372036854775807) (h : HoldsK encF 4 w b 0 d) : FeetAt w (.slice (some ⟨b,0,none⟩) n cap) (d.toList.map (·.1)) := by
 subst hn
 refine .inr ⟨⟨b,0,none⟩,cap,by simp,by simpa using hcap,hcap2,fun k r hr => ?_⟩
 rw [List.getElem?_map,List.getElem?_map,Array.getElem?_toList] at hr
 have hk : k < d.size := by
  rcases Nat.lt_or_ge k d.size with h1 | h1
  ·exact h1
  ·rw [Array.getElem?_eq_none h1] at hr;simp at hr
 rw [Array.getElem?_eq_getElem hk] at hr
 have hr2 : rowF d[k].1 = r := by simpa using hr
 subst hr2
 refine ⟨rfl,fun j z hz => ⟨?_,i64F d[k].2 z (List.mem_of_getElem? hz)⟩⟩
 have hj : j < 4 := (List.getElem?_eq_some_iff.1 hz).1
 have h1 := (h.cell hk hj).1
 rw [Go.WideShapes.add_plain,show 0 + (k * 4 + j) = 0 + k * 4 + j by omega,h1,getElem!_pos d k hk]
 unfold encF
 have h2 : (cellsF d[k].1)[j]? = some (.int .i64 z) := by
  have : cellsF d[k].1 = (rowF d[k].1).map (.int .i64) := rfl
  rw [this,List.getElem?_map,hz];rfl
 have hlt : j < (cellsF d[k].1).length := hj
 rw [getElem!_pos (cellsF d[k].1) j hlt, ← List.getElem?_eq_getElem hlt,h2]
theorem permF {fs : List Ft} {hok : ∀ f ∈ fs,FtOk f} {d : Array FtV} (h : PermIn 0 (valF fs hok).size (valF fs hok) d) : d.size = fs.length ∧ (d.toList.map (·.1)).Perm fs := by
 obtain ⟨h1,_,h3⟩ := h
 refine ⟨by rw [h1,valF_size], ?_⟩
 have e1 : d.extract 0 (valF fs hok).size = d := by rw [← h1];simp
 have e2 : (valF fs hok).extract 0 (valF fs hok).size = valF fs hok := by simp
 rw [e1,e2] at h3
 have h4 := h3.map (fun x : FtV => x.1)
 rw [valF_map] at h4
 exact h4
theorem below_sort {w : World} {B b m : Nat} {d : Array FtV} {os : Array Obj} (hb : B ≤ b) (hB : B ≤ w.heap.size) : Below B w (sortWorldK encF 4 w b 0 m d os) := by
 refine ⟨rfl,rfl,rfl,size_sortWorldK_c ..,fun k hk => ?_⟩
 unfold sortWorldK
 rw [heap_grow_old _ _ (by simp [putRowK];omega)]
 unfold putRowK putRow mapBlock
 rw [Array.getElem?_modify,if_neg (by omega)]
 rfl
end Go.Pb.Sag
namespace Go.Pb.Sag
open Go Go.Pb Go.Pb.Ware Go.RowKit
theorem sum_perm {l m : List Int} (h : l.Perm m) : l.sum = m.sum := by
 induction h with
 | nil => rfl
 | cons x _ ih => rw [List.sum_cons,List.sum_cons,ih]
 | swap x y l => simp only [List.sum_cons];omega
 | trans _ _ h1 h2 => exact h1.trans h2
def fitsB (s : Bx) (fs : List Ft) : Bool := !(shownL s fs).isEmpty
theorem plain_perm {s : Bx} {fs gs : List Ft} (h : gs.Perm fs) : plainB s gs = plainB s fs := by
 have h1 : ∀ p : Ft → Bool,gs.any p = fs.any p := fun p => by
  rw [Bool.eq_iff_iff,List.any_eq_true,List.any_eq_true]
  exact ⟨fun ⟨x,hx,e⟩ => ⟨x,h.mem_iff.1 hx,e⟩,fun ⟨x,hx,e⟩ => ⟨x,h.mem_iff.2 hx,e⟩⟩
 have h2 : weightL gs = weightL fs := sum_perm (h.map _)
 have h3 : areaL gs = areaL fs := sum_perm (h.map _)
 have h4 : ∀ k,troubleB s gs k = troubleB s fs k := fun k => by unfold troubleB;rw [h1,h1,h2,h3]
 unfold plainB;rw [h4,h4,h4,h4]
theorem fits_perm {s : Bx} {fs gs : List Ft} (h : gs.Perm fs) : fitsB s gs = fitsB s fs := by
 have key : ∀ {fs gs : List Ft},gs.Perm fs → shownL s gs ≠ [] → shownL s fs ≠ [] := by
  intro fs gs h h1
  unfold shownL at h1 ⊢
  rw [plain_perm h] at h1
  split at h1
  ·exact absurd rfl h1
  ·rename_i hp;rw [if_neg hp];exact packs_perm (h.map _) 0 h1
 unfold fitsB
 rw [Bool.eq_iff_iff]
 simp only [Bool.not_eq_true',List.isEmpty_eq_false_iff]
 exact ⟨key h,key h.symm⟩
theorem fits_none {s : Bx} {fs : List Ft} (h : (shownL s fs)[0]? = none) : fitsB s fs = false := by
 unfold fitsB;cases hs : shownL s fs with
 | nil => rfl
 | cons a l => rw [hs] at h;simp at h
theorem fits_some {s : Bx} {fs : List Ft} {q : List St} (h : (shownL s fs)[0]? = some q) : fitsB s fs = true := by
 unfold fitsB;cases hs : shownL s fs with
 | nil => rw [hs] at h;simp at h
 | cons a l => rfl
end Go.Pb.Sag
namespace Go.Pb.Sag
open Go Go.Pb Go.Pb.Ware Go.RowKit

def troubleA (s : Bx) (fs : List Ft) (kind : Int) : Bool := if kind = 5 then !fitsB s fs else troubleB s fs kind
theorem troubleA_5 (s : Bx) (fs : List Ft) : troubleA s fs 5 = !fitsB s fs := rfl
theorem troubleA_B {s : Bx} {fs : List Ft} {k : Int} (h : k ≠ 5) : troubleA s fs k = troubleB s fs k := if_neg h
def idxs (n : Nat) : List Int := (List.range n).map fun k : Nat => (k : Int)
theorem idxs_len (n : Nat) : (idxs n).length = n := by simp [idxs]
theorem idxs_at {n k : Nat} (h : k < n) : (idxs n)[k]? = some (k : Int) := by simp [idxs,h]
theorem idxs_mem {n : Nat} {z : Int} (h : z ∈ idxs n) : 0 ≤ z ∧ z < (n : Int) := by
 unfold idxs at h
 obtain ⟨k,hk,rfl⟩ := List.mem_map.1 h
 have := List.mem_range.1 hk
 omega
def needStep (s : Bx) (fs : List Ft) (kind : Int) (l : List Int) (i : Nat) : List Int := if troubleA s (chosenL fs (l.eraseIdx i)) kind = true then l.eraseIdx i else l
def needLoop (s : Bx) (fs : List Ft) (kind : Int) : Nat → List Int → List Int
 | 0,l => l
 | i + 1,l => needLoop s fs kind i (needStep s fs kind l i)
def neededL (s : Bx) (fs : List Ft) (kind : Int) : List Int := needLoop s fs kind fs.length (idxs fs.length)
theorem erase_mem {l : List Int} {i : Nat} {z : Int} (h : z ∈ l.eraseIdx i) : z ∈ l := List.mem_of_mem_eraseIdx h
theorem made_any {w : World} {base n : Nat} {B e : Nat} {z : Value} (hz : z.cells = #[z]) (h : w.ownsRow base e 1 (.slice (some ⟨B,0,none⟩) n n) n (madeCells z.cells (n * 1)).toList) : ∀ i,i < n → w.cell? ⟨B,i,none⟩ = some z ∧ w.frozen? ⟨B,i,none⟩ = false := by
 intro i hk
 refine ⟨?_,owns_frozen h rfl i⟩
 have h2 := h.cells (g := B) rfl i z (by
  rw [Array.getElem?_toList]
  unfold madeCells
  rw [Array.getElem?_map,Array.getElem?_range,if_pos (show i < n * 1 by omega),hz]
  show some (#[z] : Array Value)[i % 1]! = _
  rw [Nat.mod_one];rfl)
 rw [Go.WideShapes.add_plain,Nat.zero_add] at h2
 exact h2
def IdxAt (B n k : Nat) (W : World) : Prop := ∀ j,j < n → W.cell? ⟨B,j,none⟩ = some (.int .i64 (if j < k then (j : Int) else 0)) ∧ W.frozen? ⟨B,j,none⟩ = false
theorem IdxAt.set {B n k : Nat} {W : World} (h : IdxAt B n k W) (hk : k < n) : IdxAt B n (k + 1) (W.setCell ⟨B,k,none⟩ (.int .i64 (k : Int))) := by
 intro j hj
 have h1 := h j hj
 refine ⟨?_,set_free h1.1 h1.2⟩
 by_cases e : j = k
 ·subst e;rw [if_pos (by omega)];exact setc_same h1.1
 ·rw [setc_other h1.1 e]
  by_cases e2 : j < k
  ·rw [if_pos e2,if_pos (by omega)]
  ·rw [if_neg e2,if_neg (by omega)]
theorem IdxAt.nums {B n : Nat} {W : World} (h : IdxAt B n n W) (hn : n ≤ 1000) : NumsAt W (.slice (some ⟨B,0,none⟩) n n) (idxs n) := by
 refine .inr ⟨⟨B,0,none⟩,n,by rw [idxs_len],by rw [idxs_len];exact Nat.le_refl _,by omega,fun k z hz => ?_⟩
 have hk : k < n := by have := (List.getElem?_eq_some_iff.1 hz).1;rwa [idxs_len] at this
 rw [idxs_at hk] at hz
 injection hz with hz
 subst hz
 have h1 := (h k hk).1
 rw [if_pos hk] at h1
 rw [Go.WideShapes.add_plain,Nat.zero_add]
 exact ⟨h1,I64.mk (by omega) (by omega)⟩
end Go.Pb.Sag
namespace Go.Pb.Sag
open Go Go.Pb Go.Pb.Ware Go.RowKit

theorem mem_cellL {s : Bx} {f : Ft} {y x : Nat} {p : St} : p ∈ cellL s f y x (ways f).length ↔ p.y = y ∧ p.x = x ∧ p.turned ∈ ways f ∧ okAt s f p = true := by
 unfold cellL
 rw [List.take_length,List.mem_filter,List.mem_map]
 constructor
 ·rintro ⟨⟨t,ht,rfl⟩,h⟩;exact ⟨rfl,rfl,ht,h⟩
 ·rintro ⟨rfl,rfl,h1,h2⟩;exact ⟨⟨p.turned,h1,rfl⟩,h2⟩
theorem mem_rowL {s : Bx} {f : Ft} {y : Nat} {p : St} : ∀ {m : Nat},p ∈ rowL s f y m ↔ p.y = y ∧ p.x < m ∧ p.turned ∈ ways f ∧ okAt s f p = true
 | 0 => by simp [rowL]
 | m + 1 => by
  rw [rowL,List.mem_append,mem_rowL (m := m),mem_cellL]
  constructor
  ·rintro (⟨h1,h2,h3⟩ | ⟨h1,h2,h3⟩)
   ·exact ⟨h1,by omega,h3⟩
   ·exact ⟨h1,by omega,h3⟩
  ·rintro ⟨h1,h2,h3⟩
   by_cases e : p.x = m
   ·exact .inr ⟨h1,e,h3⟩
   ·exact .inl ⟨h1,by omega,h3⟩
theorem mem_standsN {s : Bx} {f : Ft} {p : St} : ∀ {n : Nat},p ∈ standsN s f n ↔ p.y < n ∧ p.x < s.wide.toNat ∧ p.turned ∈ ways f ∧ okAt s f p = true
 | 0 => by simp [standsN]
 | n + 1 => by
  rw [standsN,List.mem_append,mem_standsN (n := n),mem_rowL]
  constructor
  ·rintro (⟨h1,h3⟩ | ⟨h1,h3⟩)
   ·exact ⟨by omega,h3⟩
   ·exact ⟨by omega,h3⟩
  ·rintro ⟨h1,h3⟩
   by_cases e : p.y = n
   ·exact .inr ⟨e,h3⟩
   ·exact .inl ⟨by omega,h3⟩
theorem mem_stands {s : Bx} {f : Ft} {p : St} : p ∈ standsL s f ↔ p.y < s.deep.toNat ∧ p.x < s.wide.toNat ∧ p.turned ∈ ways f ∧ okAt s f p = true := mem_standsN
theorem any_toSq {s : Bx} {f : Ft} {q : Sq} : anySt q.y q.x q.turned (standsL s f) = true ↔ ∃ p ∈ standsL s f,q = toSq p := by
 unfold anySt
 rw [List.any_eq_true]
 constructor
 ·rintro ⟨p,hp,h⟩;exact ⟨p,hp,same_toSq h⟩
 ·rintro ⟨p,hp,rfl⟩
  refine ⟨p,hp, ?_⟩
  unfold sameSt toSq;simp
def addF (s : Bx) (fs : List Ft) (qs : List Sq) (f : Ft) : Option St := (standsL s f).find? fun p => packB s (fs ++ [f]) (qs ++ [toSq p])
end Go.Pb.Sag
namespace Go.Pb.Sag
open Go Go.Pb Go.Pb.Ware Go.RowKit

def isStQ (s : Bx) (f : Ft) (q : Sq) : Bool := (!q.turned || !decide ((sideV f q.turned).1 = (sideV f q.turned).2)) && (decide (0 ≤ q.x) && (decide (0 ≤ q.y) && (decide (q.x ≤ s.wide - (sideV f q.turned).1) && decide (q.y ≤ s.deep - (sideV f q.turned).2))))
theorem isSt_iff {s : Bx} {f : Ft} {q : Sq} : isStQ s f q = true ↔ (q.turned = true → ¬ f.wide = f.deep) ∧ 0 ≤ q.x ∧ 0 ≤ q.y ∧ q.x ≤ s.wide - (sideV f q.turned).1 ∧ q.y ≤ s.deep - (sideV f q.turned).2 := by
 unfold isStQ
 simp only [Bool.and_eq_true,Bool.or_eq_true,Bool.not_eq_true',decide_eq_true_eq,decide_eq_false_iff_not]
 have h : (q.turned = false ∨ ¬ (sideV f q.turned).1 = (sideV f q.turned).2) ↔ (q.turned = true → ¬ f.wide = f.deep) := by
  unfold sideV
  cases q.turned with
  | false => simp
  | true => simp;exact ⟨fun h e => h e.symm,fun h e => h e.symm⟩
 rw [h]
theorem turned_ways {f : Ft} {t : Bool} : t ∈ ways f ↔ (t = true → ¬ f.wide = f.deep) := by
 unfold ways
 cases t with
 | false => split <;> simp
 | true => split <;> simp_all
theorem isSt_any {s : Bx} {f : Ft} {q : Sq} (hF : FtOk f) : isStQ s f q = anySt q.y q.x q.turned (standsL s f) := by
 have h3 : (1 ≤ (sideV f q.turned).1) ∧ 1 ≤ (sideV f q.turned).2 := by unfold FtOk at hF;unfold sideV;split <;> dsimp only <;> omega
 rw [Bool.eq_iff_iff,isSt_iff,any_toSq]
 constructor
 ·rintro ⟨h0,h1,h2,h4,h5⟩
  refine ⟨⟨q.y.toNat,q.x.toNat,q.turned⟩,mem_stands.2 ⟨by dsimp only;omega,by dsimp only;omega,turned_ways.2 h0, ?_⟩, ?_⟩
  ·unfold okAt
   rw [Bool.and_eq_true,decide_eq_true_eq,decide_eq_true_eq]
   dsimp only
   omega
  ·obtain ⟨y,x,t⟩ := q
   dsimp only at h1 h2
   unfold toSq
   dsimp only
   rw [Int.toNat_of_nonneg h1,Int.toNat_of_nonneg h2]
 ·rintro ⟨p,hp,rfl⟩
  obtain ⟨m1,m2,m3,m4⟩ := mem_stands.1 hp
  unfold okAt at m4
  rw [Bool.and_eq_true,decide_eq_true_eq,decide_eq_true_eq] at m4
  refine ⟨turned_ways.1 m3, ?_⟩
  unfold toSq
  dsimp only
  omega
theorem isSt_toSq {s : Bx} {f : Ft} {p : St} : isStQ s f (toSq p) = (decide (p.turned ∈ ways f) && okAt s f p) := by
 rw [Bool.eq_iff_iff,isSt_iff,Bool.and_eq_true,decide_eq_true_eq,turned_ways]
 unfold okAt toSq
 rw [Bool.and_eq_true,decide_eq_true_eq,decide_eq_true_eq]
 dsimp only
 constructor
 ·rintro ⟨h0,_,_,h4,h5⟩;exact ⟨h0,by omega,by omega⟩
 ·rintro ⟨h0,h4,h5⟩;exact ⟨h0,by omega,by omega,by omega,by omega⟩
def cellR (s : Bx) (f : Ft) (y x k : Nat) : List St := ((([false,true] : List Bool).take k).map fun t => (⟨y,x,t⟩ : St)).filter fun p => isStQ s f (toSq p)
theorem cellR_all {s : Bx} {f : Ft} {y x : Nat} : cellR s f y x 2 = cellL s f y x (ways f).length := by
 unfold cellR cellL
 rw [List.take_length]
 have e : (fun p => isStQ s f (toSq p)) = fun p : St => decide (p.turned ∈ ways f) && okAt s f p := funext fun p => isSt_toSq
 rw [e]
 unfold ways
 by_cases h : f.wide = f.deep
 ·simp only [h]
  simp [List.filter_cons]
 ·simp [h]
theorem cellR_yes {s : Bx} {f : Ft} {y x k : Nat} {t : Bool} (ht : ([false,true] : List Bool)[k]? = some t) (h : isStQ s f (toSq ⟨y,x,t⟩) = true) : cellR s f y x (k + 1) = cellR s f y x k ++ [⟨y,x,t⟩] := by
 obtain ⟨hk,rfl⟩ := List.getElem?_eq_some_iff.1 ht
 unfold cellR
 rw [List.take_succ_eq_append_getElem hk,List.map_append,List.filter_append]
 simp [h]
theorem cellR_no {s : Bx} {f : Ft} {y x k : Nat} {t : Bool} (ht : ([false,true] : List Bool)[k]? = some t) (h : isStQ s f (toSq ⟨y,x,t⟩) = false) : cellR s f y x (k + 1) = cellR s f y x k := by
 obtain ⟨hk,rfl⟩ := List.getElem?_eq_some_iff.1 ht
 unfold cellR
 rw [List.take_succ_eq_append_getElem hk,List.map_append,List.filter_append]
 simp [h]
def bitW (W y x : Nat) : Nat := 2 ^ (y * W + x)
def rowW (W y x : Nat) : Nat → Nat
 | 0 => 0
 | k + 1 => rowW W y x k ||| bitW W y (x + k)
def boxW (W y x wide : Nat) : Nat → Nat
 | 0 => 0
 | k + 1 => boxW W y x wide k ||| rowW W (y + k) x wide
def RelW (W a b : Nat) : Prop := (∀ y x,x < W → a.testBit (y * W + x) = b.testBit (y * 6 + x)) ∧ ∀ y x,x < 6 → W ≤ x → b.testBit (y * 6 + x) = false
theorem rel_zero {W : Nat} : RelW W 0 0 := ⟨fun _ _ _ => by simp,fun _ _ _ _ => by simp⟩
theorem rel_or {W a b c d : Nat} (h : RelW W a b) (k : RelW W c d) : RelW W (a ||| c) (b ||| d) :=
 ⟨fun y x hx => by rw [Nat.testBit_or,Nat.testBit_or,h.1 y x hx,k.1 y x hx],fun y x h1 h2 => by rw [Nat.testBit_or,h.2 y x h1 h2,k.2 y x h1 h2];rfl⟩
theorem rel_bit {W y x : Nat} (h6 : W ≤ 6) (hx : x < W) : RelW W (bitW W y x) (bitAt y x) := by
 refine ⟨fun y' x' hx' => ?_,fun y' x' h1 h2 => ?_⟩
 ·unfold bitW bitAt
  rw [Nat.testBit_two_pow,Nat.testBit_two_pow]
  rw [decide_eq_decide]
  rcases (show W = 1 ∨ W = 2 ∨ W = 3 ∨ W = 4 ∨ W = 5 ∨ W = 6 by omega) with rfl | rfl | rfl | rfl | rfl | rfl <;> omega
 ·unfold bitAt
  rw [Nat.testBit_two_pow,decide_eq_false]
  omega
theorem rel_row {W y x : Nat} (h6 : W ≤ 6) : ∀ {k : Nat},x + k ≤ W → RelW W (rowW W y x k) (rowM y x k)
 | 0,_ => rel_zero
 | k + 1,h => rel_or (rel_row h6 (by omega)) (rel_bit h6 (by omega))
theorem rel_box {W y x wide : Nat} (h6 : W ≤ 6) (hx : x + wide ≤ W) : ∀ {k : Nat},RelW W (boxW W y x wide k) (boxM y x wide k)
 | 0 => rel_zero
 | k + 1 => rel_or (rel_box h6 hx) (rel_row h6 hx)
theorem rel_and {W a b c d : Nat} (hW : 1 ≤ W) (h6 : W ≤ 6) (h : RelW W a b) (k : RelW W c d) : a &&& c = 0 ↔ b &&& d = 0 := by
 constructor
 ·intro h0
  apply Nat.eq_of_testBit_eq
  intro i
  rw [Nat.zero_testBit,Nat.testBit_and]
  have e : i = i / 6 * 6 + i % 6 := by omega
  rw [e]
  rcases Nat.lt_or_ge (i % 6) W with hx | hx
  ·rw [← h.1 _ _ hx, ← k.1 _ _ hx, ← Nat.testBit_and,h0,Nat.zero_testBit]
  ·rw [h.2 _ _ (by omega) hx];rfl
 ·intro h0
  apply Nat.eq_of_testBit_eq
  intro i
  rw [Nat.zero_testBit,Nat.testBit_and]
  have hx : i % W < W := Nat.mod_lt _ (by omega)
  have e : i = i / W * W + i % W := (Nat.div_add_mod' i W).symm
  rw [e,h.1 _ _ hx,k.1 _ _ hx, ← Nat.testBit_and,h0,Nat.zero_testBit]
theorem bitW_lt {W y x : Nat} (hW : W ≤ 6) (hy : y ≤ 5) (hx : x < W) : bitW W y x < 2 ^ 36 := by
 refine Nat.pow_lt_pow_right (by decide) ?_
 have := Nat.mul_le_mul hy hW
 omega
theorem rowW_lt {W y x : Nat} (hW : W ≤ 6) (hy : y ≤ 5) : ∀ {k : Nat},x + k ≤ W → rowW W y x k < 2 ^ 36
 | 0,_ => by simp [rowW]
 | k + 1,h => Nat.or_lt_two_pow (rowW_lt hW hy (by omega)) (bitW_lt hW hy (by omega))
theorem boxW_lt {W y x wide : Nat} (hW : W ≤ 6) (hx : x + wide ≤ W) : ∀ {k : Nat},y + k ≤ 6 → boxW W y x wide k < 2 ^ 36
 | 0,_ => by simp [boxW]
 | k + 1,h => Nat.or_lt_two_pow (boxW_lt hW hx (by omega)) (rowW_lt hW (by omega) hx)
def maskW (s : Bx) (f : Ft) (p : St) : Nat := boxW s.wide.toNat p.y p.x (sideV f p.turned).1.toNat (sideV f p.turned).2.toNat
theorem maskW_rel {s : Bx} {f : Ft} {p : St} (hX : boxOk s = true) (hF : FtOk f) (h : p ∈ standsL s f) : RelW s.wide.toNat (maskW s f p) (maskOf f p) ∧ maskW s f p < 2 ^ 36 := by
 have h1 := standsN_ok h
 have h2 := boxOk_iff.1 hX
 unfold FtOk at hF
 unfold okAt at h1
 rw [Bool.and_eq_true,decide_eq_true_eq,decide_eq_true_eq] at h1
 have h3 : (1 ≤ (sideV f p.turned).1) ∧ 1 ≤ (sideV f p.turned).2 := by unfold sideV;split <;> dsimp only <;> omega
 unfold maskW maskOf
 exact ⟨rel_box (by omega) (by omega),boxW_lt (by omega) (by omega) (by omega)⟩
end Go.Pb.Sag
namespace Go.Pb.Sag
open Go Go.Pb Go.Pb.Ware Go.RowKit

def maskWQ (s : Bx) (f : Ft) (q : Sq) : Nat := maskW s f ⟨q.y.toNat,q.x.toNat,q.turned⟩
def coverF (s : Bx) : List Ft → List Sq → Nat → Option Nat
 | [],_,u => some u
 | f :: fs,q :: qs,u => if isStQ s f q = true then (if (u &&& maskWQ s f q != 0) = true then none else coverF s fs qs (u ||| maskWQ s f q)) else none
 | _ :: _, [],_ => none
theorem maskWQ_rel {s : Bx} {f : Ft} {q : Sq} (hX : boxOk s = true) (hF : FtOk f) (h : isStQ s f q = true) : RelW s.wide.toNat (maskWQ s f q) (maskQ f q) ∧ maskWQ s f q < 2 ^ 36 := by
 rw [isSt_any hF,any_toSq] at h
 obtain ⟨p,hp,rfl⟩ := h
 exact maskW_rel hX hF hp
theorem box_w {s : Bx} (hX : boxOk s = true) : 1 ≤ s.wide.toNat ∧ s.wide.toNat ≤ 6 := by
 have := boxOk_iff.1 hX
 omega
theorem cover_place {s : Bx} (hX : boxOk s = true) : ∀ {fs : List Ft} {qs : List Sq} {u t : Nat},(∀ f ∈ fs,FtOk f) → qs.length = fs.length → RelW s.wide.toNat u t → (coverF s fs qs u).isSome = placeB s fs qs t
 | [], [],u,t,_,_,_ => rfl
 | [],q :: qs,u,t,_,hl,_ => by simp at hl
 | f :: fs, [],u,t,_,hl,_ => by simp at hl
 | f :: fs,q :: qs,u,t,hF,hl,hr => by
  have hf := hF f (by simp)
  rw [coverF,placeB, ← isSt_any hf]
  cases hs : isStQ s f q with
  | false => rfl
  | true =>
   obtain ⟨h1,_⟩ := maskWQ_rel hX hf hs
   have hW := box_w hX
   have h2 := rel_and hW.1 hW.2 hr h1
   rw [if_pos rfl,Bool.true_and]
   by_cases h0 : u &&& maskWQ s f q = 0
   ·have h3 := h2.1 h0
    rw [h0,h3,if_neg (by simp),cover_place hX (fun g hg => hF g (by simp [hg])) (by simpa using hl) (rel_or hr h1)]
    simp
   ·have h3 : ¬ t &&& maskQ f q = 0 := fun e => h0 (h2.2 e)
    rw [if_pos (by simpa using h0)]
    have h4 : (t &&& maskQ f q != 0) = true := by simpa using h3
    rw [h4];rfl
def lowB (s : Bx) (fs : List Ft) : Bool := !troubleB s fs 1 && !troubleB s fs 3
theorem pack_cover {s : Bx} {fs : List Ft} {qs : List Sq} (hX : boxOk s = true) (hF : ∀ f ∈ fs,FtOk f) : packB s fs qs = (decide (qs.length = fs.length) && (lowB s fs && (coverF s fs qs 0).isSome)) := by
 unfold packB lowB
 by_cases h : qs.length = fs.length
 ·rw [cover_place hX hF h rel_zero,Bool.and_assoc]
 ·rw [decide_eq_false h];rfl
end Go.Pb.Sag
namespace Go.Pb
open Go Go.RowKit

structure LAt (n : Nat) (w : World) (v : Value) (m : Nat) (cs : List Value) : Prop where
 len : cs.length = m * n
 one : ∀ u ∈ cs,u.oneCell' = true
 at' : (v = .slice none 0 0 ∧ m = 0) ∨ ∃ (a : Addr) (cap : Nat),v = .slice (some a) m cap ∧ m ≤ cap ∧ cap ≤ 9223372036854775807 ∧ ∀ j u,cs[j]? = some u → w.cell? (a.add j) = some u
theorem LAt.below {n m : Nat} {w w' : World} {v : Value} {cs : List Value} (h : LAt n w v m cs) (hb : Below w.heap.size w w') : LAt n w' v m cs :=
 ⟨h.len,h.one,by
  rcases h.at' with h1 | ⟨a,cap,h1,h2,h3,h4⟩
  ·exact .inl h1
  ·exact .inr ⟨a,cap,h1,h2,h3,fun j u hu => bkeep hb (h4 j u hu)⟩⟩
theorem LAt.shape {n m : Nat} {w : World} {v : Value} {cs : List Value} (h : LAt n w v m cs) : ∃ (a : Option Addr) (cap : Nat),v = .slice a m cap ∧ m ≤ cap ∧ cap ≤ 9223372036854775807 ∧ (a = none → m = 0 ∧ cap = 0) := by
 rcases h.at' with ⟨h1,h2⟩ | ⟨a,cap,h1,h2,h3,h4⟩
 ·subst h2;exact ⟨none,0,h1,Nat.le_refl _,by omega,fun _ => ⟨rfl,rfl⟩⟩
 ·exact ⟨some a,cap,h1,h2,h3,fun e => by cases e⟩
theorem LAt.cells {n m cap : Nat} {w : World} {a : Addr} {cs : List Value} (h : LAt n w (.slice (some a) m cap) m cs) : ∀ j u,cs[j]? = some u → w.cell? (a.add j) = some u := by
 rcases h.at' with ⟨h1,_⟩ | ⟨a',cap',h1,_,_,h4⟩
 ·cases h1
 ·injection h1 with h1 _ _;injection h1 with h1;subst h1;exact h4
theorem LAt.nil {n cap : Nat} {w : World} {cs : List Value} {m : Nat} (h : LAt n w (.slice none m cap) m cs) : m = 0 ∧ cap = 0 ∧ cs = [] := by
 rcases h.at' with ⟨h1,h2⟩ | ⟨a',cap',h1,_,_,h4⟩
 ·injection h1 with _ _ h3;subst h2;exact ⟨rfl,h3,List.length_eq_zero_iff.1 (by rw [h.len];simp)⟩
 ·injection h1 with h1 _ _;cases h1
theorem LAt.head {n m cap k : Nat} {w : World} {a : Addr} {cs : List Value} (h : LAt n w (.slice (some a) m cap) m cs) (hk : k ≤ m) : LAt n w (.slice (some a) k cap) k (cs.take (k * n)) := by
 obtain ⟨_,cap',e,h2,h3,_⟩ := h.shape
 injection e with _ _ e;subst e
 refine ⟨by rw [List.length_take,h.len];exact Nat.min_eq_left (Nat.mul_le_mul_right n hk),fun u hu => h.one u (List.mem_of_mem_take hu), .inr ⟨a,cap,rfl,by omega,h3,fun j u hu => ?_⟩⟩
 rw [List.getElem?_take] at hu
 split at hu
 ·exact h.cells j u hu
 ·cases hu
theorem LAt.tail {n m cap k : Nat} {w : World} {a q : Addr} {cs : List Value} (h : LAt n w (.slice (some a) m cap) m cs) (hk : k ≤ m) (hq : k < m → q = a.add (k * n)) : LAt n w (.slice (some q) (m - k) (cap - k)) (m - k) (cs.drop (k * n)) := by
 obtain ⟨_,cap',e,h2,h3,_⟩ := h.shape
 injection e with _ _ e;subst e
 refine ⟨by rw [List.length_drop,h.len,Nat.sub_mul],fun u hu => h.one u (List.mem_of_mem_drop hu), .inr ⟨q,cap - k,rfl,by omega,by omega,fun j u hu => ?_⟩⟩
 have hkm : k < m := by
  rcases Nat.lt_or_ge k m with h5 | h5
  ·exact h5
  ·have h6 := (List.getElem?_eq_some_iff.1 hu).1
   rw [List.length_drop,h.len] at h6
   have := Nat.mul_le_mul_right n h5
   omega
 rw [hq hkm,Go.Deep.add_add]
 rw [List.getElem?_drop] at hu
 exact h.cells _ u hu
theorem drop_take_erase {n : Nat} {α : Type} {f : α → List Value} (hf : ∀ x,(f x).length = n) : ∀ {l : List α} {k : Nat},(l.flatMap f).take (k * n) = (l.take k).flatMap f ∧ (l.flatMap f).drop (k * n) = (l.drop k).flatMap f
 | [],k => by simp
 | x :: l,0 => by simp
 | x :: l,k + 1 => by
  obtain ⟨h1,h2⟩ := drop_take_erase hf (l := l) (k := k)
  rw [List.flatMap_cons,List.take_succ_cons,List.drop_succ_cons,List.flatMap_cons,Nat.succ_mul]
  have e : (f x).length ≤ k * n + n := by rw [hf];omega
  refine ⟨?_, ?_⟩
  ·rw [List.take_append,List.take_of_length_le e,hf,show k * n + n - n = k * n by omega,h1]
  ·rw [List.drop_append,List.drop_of_length_le e,hf,show k * n + n - n = k * n by omega,h2,List.nil_append]
theorem flat_erase {n : Nat} {α : Type} {f : α → List Value} (hf : ∀ x,(f x).length = n) (l : List α) (k : Nat) : (l.flatMap f).take (k * n) ++ (l.flatMap f).drop ((k + 1) * n) = (l.eraseIdx k).flatMap f := by
 rw [(drop_take_erase hf).1,(drop_take_erase hf).2, ← List.flatMap_append, ← List.eraseIdx_eq_take_drop_succ]
end Go.Pb
namespace Go.Pb.Sag
open Go Go.Pb Go.Pb.Ware Go.RowKit

def cellsX (x : It) : List Value := [.int .i64 x.shape, .int .i64 x.many, .int .i64 x.clear]
def itCells (xs : List It) : List Value := xs.flatMap cellsX
theorem lenX (x : It) : (cellsX x).length = 3 := rfl
theorem it_len (xs : List It) : (itCells xs).length = xs.length * 3 := by
 unfold itCells
 induction xs with
 | nil => rfl
 | cons x xs ih => rw [List.flatMap_cons,List.length_append,ih,List.length_cons,lenX];omega
theorem it_one {xs : List It} : ∀ u ∈ itCells xs,u.oneCell' = true := fun u hu => by
 obtain ⟨x,_,h⟩ := List.mem_flatMap.1 hu
 simp only [cellsX,List.mem_cons,List.not_mem_nil,or_false] at h
 rcases h with rfl | rfl | rfl <;> rfl
theorem it_flat (xs : List It) : itCells xs = (xs.map rowX).flatten.map (Value.int .i64) := by
 unfold itCells
 induction xs with
 | nil => rfl
 | cons x xs ih => rw [List.flatMap_cons,ih,List.map_cons,List.flatten_cons,List.map_append];rfl
def I64X (x : It) : Prop := I64 x.shape ∧ I64 x.many ∧ I64 x.clear
theorem it_rows {w : World} {base : Nat} {T : TypeId} {v : Value} {xs : List It} (h : w.ownsRow base T 3 v xs.length (itCells xs)) (hi : ∀ x ∈ xs,I64X x) : RowsAt 3 w v (xs.map rowX) := by
 refine rowsAt_of_owns (e := T) (base := base) (fun r hr => ?_) (by rw [List.length_map, ← it_flat];exact h) (fun r hr z hz => ?_)
 ·obtain ⟨x,_,rfl⟩ := List.mem_map.1 hr;rfl
 ·obtain ⟨x,hx,rfl⟩ := List.mem_map.1 hr
  obtain ⟨h1,h2,h3⟩ := hi x hx
  simp only [rowX,List.mem_cons,List.not_mem_nil,or_false] at hz
  rcases hz with rfl | rfl | rfl
  ·exact h1
  ·exact h2
  ·exact h3
theorem it_i64 {w : World} {iv : Value} {xs : List It} (hi : RowsAt 3 w iv (xs.map rowX)) {k : Nat} {x : It} (hx : xs[k]? = some x) : I64X x := by
 rcases hi with ⟨_,h⟩ | ⟨a,cap,_,_,_,h⟩
 ·rw [List.map_eq_nil_iff] at h;subst h;simp at hx
 ·have h1 := (h k (rowX x) (by rw [List.getElem?_map,hx];rfl)).2
  exact ⟨(h1 0 _ rfl).2,(h1 1 _ rfl).2,(h1 2 _ rfl).2⟩
theorem it_lat {w : World} {v : Value} {xs : List It} (h : RowsAt 3 w v (xs.map rowX)) : LAt 3 w v xs.length (itCells xs) := by
 refine ⟨it_len xs,it_one, ?_⟩
 rcases h with ⟨h1,h2⟩ | ⟨a,cap,h1,h2,h3,h4⟩
 ·rw [List.map_eq_nil_iff] at h2;subst h2;exact .inl ⟨h1,rfl⟩
 ·rw [List.length_map] at h1 h2
  refine .inr ⟨a,cap,h1,h2,h3,fun j u hu => ?_⟩
  have hj := (List.getElem?_eq_some_iff.1 hu).1
  rw [it_len] at hj
  have hk : j / 3 < xs.length := by omega
  have hx : xs[j / 3]? = some xs[j / 3] := List.getElem?_eq_getElem hk
  have e := flat_get cellsX lenX hx (show j % 3 < 3 by omega)
  rw [show j / 3 * 3 + j % 3 = j by omega] at e
  have hu2 : (cellsX xs[j / 3])[j % 3]? = some u := by rw [← e];exact hu
  have h5 := (h4 (j / 3) (rowX xs[j / 3]) (by rw [List.getElem?_map,hx];rfl)).2
  have key : ∀ i,i < 3 → (cellsX xs[j / 3])[i]? = some u → w.cell? (a.add (j / 3 * 3 + i)) = some u := by
   intro i hi hu3
   match i,hi with
   | 0,_ => injection hu3 with e;rw [← e];exact (h5 0 _ rfl).1
   | 1,_ => injection hu3 with e;rw [← e];exact (h5 1 _ rfl).1
   | 2,_ => injection hu3 with e;rw [← e];exact (h5 2 _ rfl).1
  have := key (j % 3) (by omega) hu2
  rwa [show j / 3 * 3 + j % 3 = j by omega] at this
theorem lenQ' (q : Sq) : (cellsQ q).length = 3 := rfl
theorem st_len (qs : List Sq) : (qs.flatMap cellsQ).length = qs.length * 3 := by
 induction qs with
 | nil => rfl
 | cons x xs ih => rw [List.flatMap_cons,List.length_append,ih,List.length_cons,lenQ'];omega
theorem st_one {qs : List Sq} : ∀ u ∈ qs.flatMap cellsQ,u.oneCell' = true := fun u hu => by
 obtain ⟨x,_,h⟩ := List.mem_flatMap.1 hu
 simp only [cellsQ,List.mem_cons,List.not_mem_nil,or_false] at h
 rcases h with rfl | rfl | rfl <;> rfl
theorem st_lat {w : World} {v : Value} {qs : List Sq} (h : StAt w v qs) : LAt 3 w v qs.length (qs.flatMap cellsQ) := by
 refine ⟨st_len qs,st_one, ?_⟩
 rcases h with ⟨h1,h2⟩ | ⟨a,cap,h1,h2,h3,h4⟩
 ·subst h2;exact .inl ⟨h1,rfl⟩
 ·refine .inr ⟨a,cap,h1,h2,h3,fun j u hu => ?_⟩
  have hj := (List.getElem?_eq_some_iff.1 hu).1
  rw [st_len] at hj
  have hx : qs[j / 3]? = some qs[j / 3] := List.getElem?_eq_getElem (by omega)
  have e := flat_get cellsQ lenQ' hx (show j % 3 < 3 by omega)
  rw [show j / 3 * 3 + j % 3 = j by omega] at e
  have := h4 (j / 3) _ hx (j % 3) u (by rw [← e];exact hu)
  rwa [show j / 3 * 3 + j % 3 = j by omega] at this
end Go.Pb.Sag
namespace Go.Pb.Sag
open Go Go.Pb Go.Pb.Ware Go.RowKit
def exRows : List (List Int) := [[1,100,102,100,102,50,51,10,200,210,1000], [2,190,200,90,100,30,30,0,500,500,0]]
def exL : List It := [⟨2,1,5⟩,⟨2,1,5⟩,⟨1,2,4⟩]
end Go.Pb.Sag
namespace Go.Pb.Sag
open Go Go.Pb Go.Pb.Ware Go.RowKit

theorem and_bit {a b i : Nat} (h : a &&& b = 0) (h1 : a.testBit i = true) (h2 : b.testBit i = true) : False := by
 have : (a &&& b).testBit i = true := by rw [Nat.testBit_and,h1,h2];rfl
 rw [h,Nat.zero_testBit] at this
 cases this
theorem or_and_0 {a b c : Nat} (h : (a ||| b) &&& c = 0) : a &&& c = 0 ∧ b &&& c = 0 := by
 constructor
 ·apply Nat.eq_of_testBit_eq;intro i
  rw [Nat.testBit_and,Nat.zero_testBit]
  cases ha : a.testBit i with
  | false => rfl
  | true =>
   cases hc : c.testBit i with
   | false => rfl
   | true => exact (and_bit (i := i) h (by rw [Nat.testBit_or,ha];rfl) hc).elim
 ·apply Nat.eq_of_testBit_eq;intro i
  rw [Nat.testBit_and,Nat.zero_testBit]
  cases ha : b.testBit i with
  | false => rfl
  | true =>
   cases hc : c.testBit i with
   | false => rfl
   | true => exact (and_bit (i := i) h (by rw [Nat.testBit_or,ha,Bool.or_true]) hc).elim
theorem place_parts {s : Bx} : ∀ {fs : List Ft} {t : Nat} {qs : List Sq},placeB s fs qs t = true →
  (∀ (i : Nat) f q,fs[i]? = some f → qs[i]? = some q → anySt q.y q.x q.turned (standsL s f) = true ∧ t &&& maskQ f q = 0) ∧
  ∀ (i j : Nat) f q g r,i < j → fs[i]? = some f → qs[i]? = some q → fs[j]? = some g → qs[j]? = some r → maskQ f q &&& maskQ g r = 0
 | [],t, [],_ => ⟨fun i f q h => by simp at h,fun i j f q g r _ h => by simp at h⟩
 | [],t,_ :: _,h => by cases h
 | _ :: _,t, [],h => by cases h
 | f0 :: fs,t,q0 :: qs,h => by
  rw [placeB,Bool.and_eq_true,Bool.and_eq_true] at h
  obtain ⟨h1,h2,h3⟩ := h
  have h4 : t &&& maskQ f0 q0 = 0 := by simpa using h2
  obtain ⟨k1,k2⟩ := place_parts h3
  constructor
  ·intro i f q hf hq
   match i,hf,hq with
   | 0,hf,hq =>
    simp at hf hq;subst hf;subst hq;exact ⟨h1,h4⟩
   | i + 1,hf,hq =>
    have := k1 i f q (by simpa using hf) (by simpa using hq)
    exact ⟨this.1,(or_and_0 this.2).1⟩
  ·intro i j f q g r hij hf hq hg hr
   match i,j,hij,hf,hq,hg,hr with
   | 0,j + 1,_,hf,hq,hg,hr =>
    simp at hf hq;subst hf;subst hq
    exact (or_and_0 (k1 j g r (by simpa using hg) (by simpa using hr)).2).2
   | i + 1,j + 1,hij,hf,hq,hg,hr =>
    exact k2 i j f q g r (by omega) (by simpa using hf) (by simpa using hq) (by simpa using hg) (by simpa using hr)
def Placed (s : Bx) (f : Ft) (q : Sq) : Prop := (0 ≤ q.x ∧ q.x + (sideV f q.turned).1 ≤ s.wide) ∧ (0 ≤ q.y ∧ q.y + (sideV f q.turned).2 ≤ s.deep) ∧ 1 ≤ (sideV f q.turned).1 ∧ 1 ≤ (sideV f q.turned).2
def Off (f g : Ft) (q r : Sq) : Prop := (q.x + (sideV f q.turned).1 ≤ r.x ∨ r.x + (sideV g r.turned).1 ≤ q.x) ∨ (q.y + (sideV f q.turned).2 ≤ r.y ∨ r.y + (sideV g r.turned).2 ≤ q.y)
structure PileAt (s : Bx) (cl : Int) (f : Ft) (q : Sq) (m h : Int × Int) : Prop where
 m1 : m.1 = (2 * q.x + (sideV f q.turned).1) * s.cell
 m2 : m.2 = (2 * q.y + (sideV f q.turned).2) * s.cell
 h1 : 0 ≤ h.1 ∧ h.1 + 2 * cl ≤ (sideV f q.turned).1 * s.cell
 h2 : 0 ≤ h.2 ∧ h.2 + 2 * cl ≤ (sideV f q.turned).2 * s.cell
theorem cell_line {c x w W : Int} (hc : 1 ≤ c ∧ c ≤ 500) (hx : 0 ≤ x ∧ x + w ≤ W) (hw : 1 ≤ w) (hW : W ≤ 6) :
  (2 * x + w) * c = 2 * (x * c) + w * c ∧ 0 ≤ x * c ∧ 0 ≤ w * c ∧ x * c + w * c ≤ W * c ∧ W * c ≤ 3000 := by
 refine ⟨by rw [Int.add_mul,Int.mul_assoc],Int.mul_nonneg hx.1 (by omega),Int.mul_nonneg (by omega) (by omega), ?_, ?_⟩
 ·rw [← Int.add_mul];exact Int.mul_le_mul_of_nonneg_right hx.2 (by omega)
 ·have := (mul_bd W c 6 500 (by omega) hW (by omega) hc.2).2;omega
theorem PileAt.apart {s : Bx} {cl dl : Int} {f g : Ft} {q r : Sq} {m h n k : Int × Int} (hX : boxOk s = true) (hq : Placed s f q) (hr : Placed s g r) (p : PileAt s cl f q m h) (u : PileAt s dl g r n k) (ho : Off f g q r) :
  ((m.1 + h.1 + 2 * (cl + dl) ≤ n.1 - k.1) ∨ (n.1 + k.1 + 2 * (cl + dl) ≤ m.1 - h.1)) ∨ ((m.2 + h.2 + 2 * (cl + dl) ≤ n.2 - k.2) ∨ (n.2 + k.2 + 2 * (cl + dl) ≤ m.2 - h.2)) := by
 obtain ⟨m1,m2,h1,h2⟩ := p
 obtain ⟨n1,n2,k1,k2⟩ := u
 have hb := boxOk_iff.1 hX
 unfold Placed at hq hr
 unfold Off at ho
 have e1 := cell_line (c := s.cell) (by omega) hq.1 hq.2.2.1 (by omega)
 have e2 := cell_line (c := s.cell) (by omega) hq.2.1 hq.2.2.2 (by omega)
 have e3 := cell_line (c := s.cell) (by omega) hr.1 hr.2.2.1 (by omega)
 have e4 := cell_line (c := s.cell) (by omega) hr.2.1 hr.2.2.2 (by omega)
 rw [e1.1] at m1
 rw [e2.1] at m2
 rw [e3.1] at n1
 rw [e4.1] at n2
 have mono : ∀ {a b : Int},a ≤ b → a * s.cell ≤ b * s.cell := fun h => Int.mul_le_mul_of_nonneg_right h (by omega)
 rcases ho with (h0 | h0) | (h0 | h0)
 ·have := mono h0;rw [Int.add_mul] at this;left;left;omega
 ·have := mono h0;rw [Int.add_mul] at this;left;right;omega
 ·have := mono h0;rw [Int.add_mul] at this;right;left;omega
 ·have := mono h0;rw [Int.add_mul] at this;right;right;omega
end Go.Pb.Sag
namespace Go.Pb

open Go Go.RowKit
def NewEmpty (B0 : Nat) (e : TypeId) (v : Value) (W : World) : Prop := ∃ B,B0 ≤ B ∧ v = .slice (some ⟨B,0,none⟩) 0 0 ∧ W.heap[B]? = some (.cells #[] e (0,0))
theorem keeps_empty {B0 : Nat} {e : TypeId} : Keeps (NewEmpty B0 e) := fun _ _ _ ⟨B,h1,h2,h3⟩ hb => ⟨B,h1,h2,(hb.block B (Array.getElem?_eq_some_iff.1 h3).1).trans h3⟩
theorem empty_of {w w' : World} {e : TypeId} (hb : Below w.heap.size w w') :
  Below w'.heap.size w' (w'.alloc (.cells #[] e)) ∧ NewEmpty w.heap.size e (.slice (some ⟨w'.heap.size,0,none⟩) 0 0) (w'.alloc (.cells #[] e)) :=
 ⟨(Below.refl _ _).alloc (Nat.le_refl _) _,w'.heap.size,hb.size,rfl,heap_alloc_new w' _⟩
def NewList (B0 n : Nat) (cs : List Value) (v : Value) (W : World) : Prop :=
 ∃ B,B0 ≤ B ∧ v = .slice (some ⟨B,0,none⟩) n n ∧ ∀ o c,cs[o]? = some c → W.cell? ⟨B,o,none⟩ = some c ∧ W.frozen? ⟨B,o,none⟩ = false
theorem keeps_list {B0 n : Nat} {cs : List Value} : Keeps (NewList B0 n cs) := fun _ _ _ ⟨B,h1,h2,h3⟩ hb =>
 ⟨B,h1,h2,fun o c hc => ⟨bkeep hb (h3 o c hc).1,bfree hb (h3 o c hc).1 (h3 o c hc).2⟩⟩
theorem list_of {w w' : World} {n : Nat} {cs : List Value} {t : TypeId} (hb : Below w.heap.size w w') :
  Below w'.heap.size w' (w'.alloc (.cells cs.toArray t)) ∧ NewList w.heap.size n cs (.slice (some ⟨w'.heap.size,0,none⟩) n n) (w'.alloc (.cells cs.toArray t)) :=
 ⟨(Below.refl _ _).alloc (Nat.le_refl _) _,w'.heap.size,hb.size,rfl,fun o c hc => by
  refine ⟨?_,World.frozen?_alloc_new w' cs.toArray t o⟩
  rw [World.cell?_alloc_new];simpa using hc⟩
theorem keeps_owns {base size n : Nat} {e : TypeId} {xs : List Value} : Keeps (fun v w => w.ownsRow base e size v n xs) := fun _ _ _ h hb => owns_below h hb
theorem append_fresh {P : Program} (w : World) (base : Nat) (t ty e : TypeId) (i : TypeInfo) (z : Value) (size bytes : Nat) (ht : P.underlying t = some (.slice e)) (hi : P.info? e = some i) (hz : i.zero = some z)
  (hsize : i.size = size) (hby : i.bytes = bytes) (hzs : z.cells.size = size) (hsz : 0 < size) {B : Nat} (hB : base ≤ B) (hg : w.heap[B]? = some (.cells #[] e (0,0)))
  (a : Addr) (m c : Nat) (news : List Value) (hl : news.length = m * size) (hnews : ∀ j u,news[j]? = some u → w.cell? (a.add j) = some u) (h1 : ∀ u ∈ news,u.oneCell' = true)
  (h63 : m ≤ maxLen) (hbytes : m * bytes ≤ 140737488355328) (hbase : base ≤ w.heap.size) :
  ∃ v' w',(Builtin.append_ #[t,t] ty #[.slice (some ⟨B,0,none⟩) 0 0, .slice (some a) m c]).run P w = .ok v' w' ∧ Below w.heap.size w w' ∧ w'.ownsRow base e size v' m news := by
 have hown : w.ownsRow base e size (.slice (some ⟨B,0,none⟩) 0 0) 0 [] := ⟨by simp, .inr ⟨B,0,#[],rfl,hB,hg,Nat.le_refl _,by simp [maxLen],by simp,by simp⟩⟩
 obtain ⟨v',w',hr,h2,h3, -⟩ := run_append_own (P := P) w base t ty e i z size bytes ht hi hz hsize hby hzs hsz _ 0 [] hown a m c news hl hnews h1 (by omega) (by simpa using hbytes) hbase
 refine ⟨v',w',hr, ?_,by simpa using h2⟩
 subst hsize;subst hby
 by_cases hm : m = 0
 ·subst hm
  have hn : news = [] := List.eq_nil_of_length_eq_zero (by simpa using hl)
  subst hn
  have hr2 := run_append_room (P := P) w t ty e i ht hi B 0 0 #[] hg a 0 c [] (by simp) (by simp) (by simp) (by omega) (by simp)
  rw [hr2] at hr
  injection hr with _ hw
  subst hw
  refine ⟨rfl,rfl,rfl,by simp [World.setRow],fun k hk => ?_⟩
  by_cases hkB : k = B
  ·subst hkB
   rw [setRow_heap w k #[] _ e _ hg,hg];simp
  ·exact setRow_other w B k _ hkB
 ·have hcap : Builtin.nextslicecap (0 + m) 0 * i.bytes ≤ 281474976710656 := growslice_fits (by omega) (by simpa using hbytes)
  have hr2 := run_append_grow (P := P) w t ty e i z ht hi hz ⟨B,0,none⟩ 0 0 [] (by simp) (by simp) a m c news hl hnews (by omega) (by simp only [maxLen] at h63;omega) hcap
  rw [hr2] at hr
  injection hr with _ hw
  subst hw
  exact (Below.refl _ _).drew.alloc (Nat.le_refl _) _
theorem fresh_append {P : Program} {o : Oper} {a : Act} {w : World} (s x : Operand) (t : TypeId) (ho : o.op = .call { callee := .builtin .append,args := #[s,x],argTypes := #[t,t] })
  (base : Nat) (e : TypeId) (i : TypeInfo) (z : Value) (size bytes : Nat) (ht : P.underlying t = some (.slice e)) (hi : P.info? e = some i) (hz : i.zero = some z)
  (hsize : i.size = size) (hby : i.bytes = bytes) (hzs : z.cells.size = size) (hsz : 0 < size) (v : Value) (hs : a.eval s = v) (hv : NewEmpty base e v w)
  (ad : Addr) (m c : Nat) (news : List Value) (hx : a.eval x = .slice (some ad) m c) (hl : news.length = m * size) (hnews : ∀ j u,news[j]? = some u → w.cell? (ad.add j) = some u) (h1 : ∀ u ∈ news,u.oneCell' = true)
  (h63 : m ≤ maxLen) (hbytes : m * bytes ≤ 140737488355328) (hbase : base ≤ w.heap.size) :
  freshAt P o a (fun v w => w.ownsRow base e size v m news) w := by
 obtain ⟨B,hB,rfl,hg⟩ := hv
 obtain ⟨v',w',hr,h2,h3⟩ := append_fresh (P := P) w base t o.type e i z size bytes ht hi hz hsize hby hzs hsz hB hg ad m c news hl hnews h1 h63 hbytes hbase
 unfold freshAt execOp
 simp only [ho,resolve,invoke,builtin,Sem.run_bind,Sem.run_pure,Result.andThen_ok,List.map_toArray,List.map_cons,List.map_nil,hs,hx,hr]
 exact ⟨h2,h3⟩
end Go.Pb
namespace Go.Pb.Ware
open Go Go.Pb Go.RowKit
end Go.Pb.Ware
namespace Go.Pb
end Go.Pb
namespace Go.Pb.Ware
open Go Go.Pb Go.RowKit
end Go.Pb.Ware
namespace Go.Pb.Sag
open Go Go.Pb Go.Pb.Ware Go.RowKit


def covQ (f : Ft) (q : Sq) (y x : Nat) : Bool := decide (q.y ≤ (y : Int) ∧ (y : Int) < q.y + (sideV f q.turned).2 ∧ q.x ≤ (x : Int) ∧ (x : Int) < q.x + (sideV f q.turned).1)
def covK (fs : List Ft) (qs : List Sq) (k y x : Nat) : Bool := (fs[k]?).any fun f => (qs[k]?).any fun q => covQ f q y x
theorem covK_at {fs : List Ft} {qs : List Sq} {k y x : Nat} {f : Ft} {q : Sq} (hf : fs[k]? = some f) (hq : qs[k]? = some q) : covK fs qs k y x = covQ f q y x := by unfold covK;rw [hf,hq];rfl
def gridC (fs : List Ft) (qs : List Sq) (y x : Nat) : Nat → Int
 | 0 => 0
 | k + 1 => if covK fs qs k y x = true then (k : Int) + 1 else gridC fs qs y x k
def gridRow (fs : List Ft) (qs : List Sq) (W n y : Nat) : List Int := (List.range W).map fun x => gridC fs qs y x n
def gridL (s : Bx) (fs : List Ft) (qs : List Sq) : List (List Int) := (List.range s.deep.toNat).map fun y => gridRow fs qs s.wide.toNat fs.length y
theorem gridC_bd {fs : List Ft} {qs : List Sq} {y x : Nat} : ∀ k : Nat,0 ≤ gridC fs qs y x k ∧ gridC fs qs y x k ≤ k
 | 0 => by simp [gridC]
 | k + 1 => by
  have h := gridC_bd (fs := fs) (qs := qs) (y := y) (x := x) k
  unfold gridC
  split <;> omega
theorem gridRow_len {fs : List Ft} {qs : List Sq} {W n y : Nat} : (gridRow fs qs W n y).length = W := by unfold gridRow;simp
theorem gridL_len {s : Bx} {fs : List Ft} {qs : List Sq} : (gridL s fs qs).length = s.deep.toNat := by unfold gridL;simp
theorem gridRow_i64 {fs : List Ft} {qs : List Sq} {W n y : Nat} (hn : n ≤ 1000) : ∀ z ∈ gridRow fs qs W n y,I64 z := by
 intro z hz
 unfold gridRow at hz
 obtain ⟨x, -,rfl⟩ := List.mem_map.1 hz
 have := gridC_bd (fs := fs) (qs := qs) (y := y) (x := x) n
 exact I64.mk (by omega) (by omega)
theorem cell_eq {W y x y' x' : Nat} (hx : x < W) (hx' : x' < W) : y * W + x = y' * W + x' ↔ y' = y ∧ x' = x := by
 constructor
 ·intro h
  have h1 : (y * W + x) / W = y := by rw [Nat.add_comm,Nat.add_mul_div_right _ _ (by omega),Nat.div_eq_of_lt hx,Nat.zero_add]
  have h2 : (y' * W + x') / W = y' := by rw [Nat.add_comm,Nat.add_mul_div_right _ _ (by omega),Nat.div_eq_of_lt hx',Nat.zero_add]
  have h3 : y' = y := by rw [← h1, ← h2,h]
  subst h3
  exact ⟨rfl,by omega⟩
 ·rintro ⟨rfl,rfl⟩;rfl
theorem bitW_test {W y x y' x' : Nat} (hx : x < W) (hx' : x' < W) : (bitW W y x).testBit (y' * W + x') = decide (y' = y ∧ x' = x) := by
 unfold bitW
 rw [Nat.testBit_two_pow]
 exact decide_eq_decide.2 (cell_eq hx hx')
theorem rowW_test {W y x y' x' : Nat} (hx' : x' < W) : ∀ {k : Nat},x + k ≤ W → (rowW W y x k).testBit (y' * W + x') = decide (y' = y ∧ x ≤ x' ∧ x' < x + k)
 | 0,_ => by rw [rowW,Nat.zero_testBit];symm;rw [decide_eq_false_iff_not];omega
 | k + 1,h => by
  rw [rowW,Nat.testBit_or,rowW_test hx' (by omega),bitW_test (by omega) hx',Bool.eq_iff_iff,Bool.or_eq_true,decide_eq_true_eq,decide_eq_true_eq,decide_eq_true_eq]
  omega
theorem boxW_test {W y x wide y' x' : Nat} (hx : x + wide ≤ W) (hx' : x' < W) : ∀ {k : Nat},(boxW W y x wide k).testBit (y' * W + x') = decide (y ≤ y' ∧ y' < y + k ∧ x ≤ x' ∧ x' < x + wide)
 | 0 => by rw [boxW,Nat.zero_testBit];symm;rw [decide_eq_false_iff_not];omega
 | k + 1 => by
  rw [boxW,Nat.testBit_or,boxW_test hx hx',rowW_test hx' hx,Bool.eq_iff_iff,Bool.or_eq_true,decide_eq_true_eq,decide_eq_true_eq,decide_eq_true_eq]
  omega
theorem maskW_test {s : Bx} {f : Ft} {p : St} {y x : Nat} (hX : boxOk s = true) (hF : FtOk f) (h : p ∈ standsL s f) (hx : x < s.wide.toNat) : (maskW s f p).testBit (y * s.wide.toNat + x) = covQ f (toSq p) y x := by
 have h1 := standsN_ok h
 have h2 := boxOk_iff.1 hX
 unfold FtOk at hF
 unfold okAt at h1
 rw [Bool.and_eq_true,decide_eq_true_eq,decide_eq_true_eq] at h1
 have h3 : (1 ≤ (sideV f p.turned).1) ∧ 1 ≤ (sideV f p.turned).2 := by unfold sideV;split <;> dsimp only <;> omega
 unfold maskW covQ toSq
 rw [boxW_test (by omega) hx,decide_eq_decide]
 dsimp only
 omega
theorem pack_stand {s : Bx} {fs : List Ft} {qs : List Sq} {k : Nat} {f : Ft} {q : Sq} (h : packB s fs qs = true) (hf : fs[k]? = some f) (hq : qs[k]? = some q) : ∃ p : St,p ∈ standsL s f ∧ q = toSq p := by
 unfold packB at h
 rw [Bool.and_eq_true,Bool.and_eq_true,Bool.and_eq_true] at h
 obtain ⟨-, -, -,h4⟩ := h
 exact any_toSq.1 ((place_parts h4).1 k f q hf hq).1
def mixG (g : Nat → Nat → Int) (v : Int) (y0 x0 wi k j y x : Nat) : Int := if (y0 ≤ y ∧ y < y0 + k ∧ x0 ≤ x ∧ x < x0 + wi) ∨ (y = y0 + k ∧ x0 ≤ x ∧ x < x0 + j) then v else g y x
theorem mixG_zero {g : Nat → Nat → Int} {v : Int} {y0 x0 wi : Nat} : mixG g v y0 x0 wi 0 0 = g := by
 funext y x;unfold mixG;rw [if_neg (by omega)]
theorem mixG_row {g : Nat → Nat → Int} {v : Int} {y0 x0 wi k : Nat} : mixG g v y0 x0 wi k wi = mixG g v y0 x0 wi (k + 1) 0 := by
 funext y x;unfold mixG
 by_cases h : (y0 ≤ y ∧ y < y0 + k ∧ x0 ≤ x ∧ x < x0 + wi) ∨ (y = y0 + k ∧ x0 ≤ x ∧ x < x0 + wi)
 ·rw [if_pos h,if_pos (by omega)]
 ·rw [if_neg h,if_neg (by omega)]
theorem mixG_cell {g : Nat → Nat → Int} {v : Int} {y0 x0 wi k j : Nat} : mixG g v y0 x0 wi k (j + 1) = fun y x => if y = y0 + k ∧ x = x0 + j then v else mixG g v y0 x0 wi k j y x := by
 funext y x;unfold mixG
 by_cases h : y = y0 + k ∧ x = x0 + j
 ·rw [if_pos h,if_pos (by omega)]
 ·rw [if_neg h]
  by_cases h2 : (y0 ≤ y ∧ y < y0 + k ∧ x0 ≤ x ∧ x < x0 + wi) ∨ (y = y0 + k ∧ x0 ≤ x ∧ x < x0 + j)
  ·rw [if_pos h2,if_pos (by omega)]
  ·rw [if_neg h2,if_neg (by omega)]
theorem mixG_all {fs : List Ft} {qs : List Sq} {k : Nat} {f : Ft} {y0 x0 wi de : Nat} {t : Bool} (hf : fs[k]? = some f) (hq : qs[k]? = some ⟨(y0 : Int),(x0 : Int),t⟩) (hw : (sideV f t).1 = (wi : Int)) (hd : (sideV f t).2 = (de : Int)) :
  mixG (fun y x => gridC fs qs y x k) ((k : Int) + 1) y0 x0 wi de 0 = fun y x => gridC fs qs y x (k + 1) := by
 funext y x
 rw [gridC,covK_at hf hq]
 unfold mixG covQ
 dsimp only
 rw [hw,hd]
 by_cases h : (y0 ≤ y ∧ y < y0 + de ∧ x0 ≤ x ∧ x < x0 + wi) ∨ (y = y0 + de ∧ x0 ≤ x ∧ x < x0 + 0)
 ·rw [if_pos h,if_pos (decide_eq_true (by omega))]
 ·rw [if_neg h,if_neg (by rw [decide_eq_true_eq];omega)]
structure GridAt (B Bg G D Wd : Nat) (R : Nat → Nat) (K : Nat) (g : Nat → Nat → Int) (W : World) : Prop where
 var : W.cell? ⟨Bg,0,none⟩ = some (.slice (some ⟨G,0,none⟩) D D)
 room : ∀ y,y < D → (∃ u,W.cell? ⟨G,y,none⟩ = some u) ∧ W.frozen? ⟨G,y,none⟩ = false
 top : ∀ y,y < K → W.cell? ⟨G,y,none⟩ = some (.slice (some ⟨R y,0,none⟩) Wd Wd)
 cell : ∀ y x,y < K → x < Wd → W.cell? ⟨R y,x,none⟩ = some (.int .i64 (g y x)) ∧ W.frozen? ⟨R y,x,none⟩ = false
 off : ∀ y,y < K → R y ≠ G ∧ R y ≠ Bg ∧ B ≤ R y ∧ R y < W.heap.size
 inj : ∀ y z,y < K → z < K → R y = R z → y = z
 lo : B ≤ G ∧ B ≤ Bg ∧ G ≠ Bg
theorem GridAt.below {B Bg G D Wd K : Nat} {R : Nat → Nat} {g : Nat → Nat → Int} {W W' : World} (h : GridAt B Bg G D Wd R K g W) (hb : Below W.heap.size W W') : GridAt B Bg G D Wd R K g W' :=
 ⟨bkeep hb h.var,fun y hy => ⟨(h.room y hy).1.imp fun u hu => bkeep hb hu,(h.room y hy).1.elim fun u hu => bfree hb hu (h.room y hy).2⟩,fun y hy => bkeep hb (h.top y hy),
  fun y x hy hx => ⟨bkeep hb (h.cell y x hy hx).1,bfree hb (h.cell y x hy hx).1 (h.cell y x hy hx).2⟩,fun y hy => ⟨(h.off y hy).1,(h.off y hy).2.1,(h.off y hy).2.2.1,Nat.lt_of_lt_of_le (h.off y hy).2.2.2 hb.size⟩,h.inj,h.lo⟩
theorem cell_off {W : World} {b o c p : Nat} {v : Value} (h : ¬ (b = c ∧ o = p)) : (W.setCell ⟨c,p,none⟩ v).cell? ⟨b,o,none⟩ = W.cell? ⟨b,o,none⟩ := by
 by_cases hb : b = c
 ·subst hb
  have ho : ¬ o = p := fun e => h ⟨rfl,e⟩
  simp [go_sem,ho,Ne.symm ho]
 ·simp [go_sem,hb,Ne.symm hb]
theorem frozen_set {W : World} {b o c p : Nat} {v : Value} : (W.setCell ⟨c,p,none⟩ v).frozen? ⟨b,o,none⟩ = W.frozen? ⟨b,o,none⟩ := by simp [go_sem]
theorem cell_on {W : World} {c p : Nat} {v u : Value} (h : W.cell? ⟨c,p,none⟩ = some u) : (W.setCell ⟨c,p,none⟩ v).cell? ⟨c,p,none⟩ = some v := by simp [go_sem,h]
theorem GridAt.set {B Bg G D Wd K y0 x0 : Nat} {R : Nat → Nat} {g : Nat → Nat → Int} {W : World} {z : Int} (h : GridAt B Bg G D Wd R K g W) (hy : y0 < K) (hx : x0 < Wd) :
  GridAt B Bg G D Wd R K (fun y x => if y = y0 ∧ x = x0 then z else g y x) (W.setCell ⟨R y0,x0,none⟩ (.int .i64 z)) := by
 obtain ⟨o1,o2,o3,o4⟩ := h.off y0 hy
 refine ⟨by rw [cell_off (fun e => o2 e.1.symm)];exact h.var,fun y hy => ⟨by rw [cell_off (fun e => o1 e.1.symm)];exact (h.room y hy).1,by rw [frozen_set];exact (h.room y hy).2⟩,fun y hy => by rw [cell_off (fun e => o1 e.1.symm)];exact h.top y hy,
  fun y x hy' hx' => ⟨?_,by rw [frozen_set];exact (h.cell y x hy' hx').2⟩,fun y hy => by simpa using h.off y hy,h.inj,h.lo⟩
 by_cases e : y = y0 ∧ x = x0
 ·obtain ⟨rfl,rfl⟩ := e
  rw [if_pos ⟨rfl,rfl⟩]
  exact cell_on (h.cell y x hy' hx').1
 ·rw [if_neg e,cell_off (fun e2 => e ⟨h.inj y y0 hy' hy e2.1,e2.2⟩)]
  exact (h.cell y x hy' hx').1
theorem GridAt.row {B Bg G D Wd K b : Nat} {R : Nat → Nat} {g : Nat → Nat → Int} {W : World} (h : GridAt B Bg G D Wd R K g W) (hK : K < D) (hb : ∀ x,x < Wd → W.cell? ⟨b,x,none⟩ = some (.int .i64 0) ∧ W.frozen? ⟨b,x,none⟩ = false)
  (h1 : ∀ y,y < K → R y ≠ b) (h2 : b ≠ G ∧ b ≠ Bg ∧ B ≤ b ∧ b < W.heap.size) (hg : ∀ x,g K x = 0) : GridAt B Bg G D Wd (fun y => if y = K then b else R y) (K + 1) g (W.setCell ⟨G,K,none⟩ (.slice (some ⟨b,0,none⟩) Wd Wd)) := by
 obtain ⟨l1,l2,l3⟩ := h.lo
 have hu := (h.room K hK).1
 refine ⟨by rw [cell_off (fun e => l3 e.1.symm)];exact h.var,fun y hy => ⟨?_,by rw [frozen_set];exact (h.room y hy).2⟩,fun y hy => ?_,fun y x hy hx => ?_,fun y hy => ?_,fun y z hy hz e => ?_,h.lo⟩
 ·by_cases e : y = K
  ·subst e;obtain ⟨u,hu⟩ := hu;exact ⟨_,cell_on hu⟩
  ·rw [cell_off (fun e2 => e e2.2)];exact (h.room y hy).1
 ·by_cases e : y = K
  ·subst e;obtain ⟨u,hu⟩ := hu;rw [if_pos rfl];exact cell_on hu
  ·rw [if_neg e,cell_off (fun e2 => e e2.2)];exact h.top y (by omega)
 ·by_cases e : y = K
  ·subst e;rw [if_pos rfl,cell_off (fun e2 => h2.1 e2.1),frozen_set,hg];exact hb x hx
  ·rw [if_neg e,cell_off (fun e2 => (h.off y (by omega)).1 e2.1),frozen_set];exact h.cell y x (by omega) hx
 ·by_cases e : y = K
  ·subst e;rw [if_pos rfl];simpa using h2
  ·rw [if_neg e];simpa using h.off y (by omega)
 ·by_cases e1 : y = K <;> by_cases e2 : z = K
  ·omega
  ·rw [if_pos e1,if_neg e2] at e;exact absurd e.symm (h1 z (by omega))
  ·rw [if_neg e1,if_pos e2] at e;exact absurd e (h1 y (by omega))
  ·rw [if_neg e1,if_neg e2] at e;exact h.inj y z (by omega) (by omega) e
theorem GridAt.nums {B Bg G D Wd K : Nat} {R : Nat → Nat} {fs : List Ft} {qs : List Sq} {n : Nat} {W : World} (hn : n ≤ 1000) (hW : Wd ≤ 1000) (h : GridAt B Bg G D Wd R K (fun y x => gridC fs qs y x n) W) {y : Nat} (hy : y < K) :
  NumsAt W (.slice (some ⟨R y,0,none⟩) Wd Wd) (gridRow fs qs Wd n y) := by
 refine .inr ⟨⟨R y,0,none⟩,Wd,by rw [gridRow_len],by rw [gridRow_len];exact Nat.le_refl _,by omega,fun k z hz => ?_⟩
 have hk : k < Wd := by have := (List.getElem?_eq_some_iff.1 hz).1;rwa [gridRow_len] at this
 refine ⟨?_,gridRow_i64 hn z (List.mem_of_getElem? hz)⟩
 have e : z = gridC fs qs y k n := by
  unfold gridRow at hz
  rw [List.getElem?_map,List.getElem?_range hk] at hz
  exact (Option.some.inj hz).symm
 rw [e,Go.WideShapes.add_plain,Nat.zero_add]
 exact (h.cell y k hy hk).1
theorem fresh_make {P : Program} {o : Oper} {a : Act} {w : World} (l : Operand) (t : TypeId) (ho : o.op = .makeSlice t l l) (base : Nat) (e : TypeId) (i : TypeInfo) (z : Value) (h1 : P.underlying t = some (.slice e)) (h2 : P.info? e = some i) (h3 : i.zero = some z) (h4 : i.size = 1) (hz : z.cells = #[z])
  (n : Nat) (hl : a.eval l = .int .i64 (n : Int)) (b2 : i.bytes * n ≤ 281474976710656) (b3 : n ≤ maxLen) (b4 : base ≤ w.heap.size) : freshAt P o a (NewList base n (List.replicate n z)) w := by
 obtain ⟨w',hrun,r1,r2⟩ := run_make_full (P := P) w w.heap.size t e i z 1 h1 h2 h3 h4 .i64 .i64 n b2 b3 (Nat.le_refl _)
 unfold freshAt execOp
 simp only [ho,hl,Sem.run_bind,Sem.run_pure,Result.andThen_ok,hrun]
 refine ⟨(Below.refl _ w).grown r2 (Nat.le_refl _) (fun k h => by cases h),w.heap.size,b4,rfl,fun j c hc => ?_⟩
 have hj : j < n := by have := (List.getElem?_eq_some_iff.1 hc).1;simpa using this
 rw [List.getElem?_replicate,if_pos hj] at hc
 obtain rfl := Option.some.inj hc
 exact made_any hz r1 j hj
end Go.Pb.Sag
namespace Go.Pb.Sag
open Go Go.Pb Go.Pb.Ware Go.RowKit

def putF (s : Bx) (fs : List Ft) (most : Nat) : Nat → Nat → List (List Int) → Option (List (List Int))
 | 0,_,gs => some gs
 | d + 1,i,gs =>
  match (List.range gs.length).findSome? (fun k => if fitsB s (chosenL fs (gs.getD k [] ++ [(i : Int)])) = true then putF s fs most d (i + 1) (gs.set k (gs.getD k [] ++ [(i : Int)])) else none) with
  | some r => some r
  | none => if gs.length = most then none else putF s fs most d (i + 1) (gs ++ [[(i : Int)]])
theorem find_here {α : Type} {f : Nat → Option α} {n k : Nat} {r : α} (hk : k < n) (h0 : ∀ j,j < k → f j = none) (h : f k = some r) : (List.range n).findSome? f = some r := by
 induction n generalizing k with
 | zero => omega
 | succ n ih =>
  rw [List.range_succ,List.findSome?_append]
  rcases Nat.lt_or_ge k n with h1 | h1
  ·rw [ih h1 h0 h];rfl
  ·have e : k = n := by omega
   subst e
   rw [List.findSome?_eq_none_iff.2 (fun j hj => h0 j (List.mem_range.1 hj))]
   simp [h]
theorem find_no {α : Type} {f : Nat → Option α} {n : Nat} (h0 : ∀ j,j < n → f j = none) : (List.range n).findSome? f = none := List.findSome?_eq_none_iff.2 (fun j hj => h0 j (List.mem_range.1 hj))
structure Good (i : Nat) (gs : List (List Int)) : Prop where
 one : ∀ (k : Nat) (g : List Int),gs[k]? = some g → ∃ x,g[0]? = some x
 lt : ∀ g ∈ gs, ∀ z ∈ g,0 ≤ z ∧ z < (i : Int)
 len : ∀ g ∈ gs,g.length ≤ i
 many : gs.length ≤ i
 apart : ∀ (j k : Nat) (g h : List Int) (x y : Int),j ≠ k → gs[j]? = some g → gs[k]? = some h → g[0]? = some x → h[0]? = some y → x ≠ y
theorem Good.nil : Good 0 [] := ⟨fun k g h => (by simp at h),fun g h => (by cases h),fun g h => (by cases h),Nat.le_refl _,fun j k g h x y _ h1 => (by simp at h1)⟩
theorem head_snoc {g : List Int} {x z : Int} (h : g[0]? = some x) : (g ++ [z])[0]? = some x := by
 cases g with
 | nil => simp at h
 | cons a l => simpa using h
theorem Good.push {i k : Nat} {gs : List (List Int)} {g : List Int} (h : Good i gs) (hg : gs[k]? = some g) : Good (i + 1) (gs.set k (g ++ [(i : Int)])) := by
 have hk : k < gs.length := (List.getElem?_eq_some_iff.1 hg).1
 have key : ∀ (j : Nat) (g' : List Int) (x : Int),(gs.set k (g ++ [(i : Int)]))[j]? = some g' → g'[0]? = some x → ∃ g0,gs[j]? = some g0 ∧ g0[0]? = some x := by
  intro j g' x h1 h2
  by_cases e : j = k
  ·subst e
   rw [List.getElem?_set_self hk] at h1
   obtain rfl : g ++ [(i : Int)] = g' := by simpa using h1
   obtain ⟨y,hy⟩ := h.one j g hg
   rw [head_snoc hy] at h2
   exact ⟨g,hg,by rw [hy];exact h2⟩
  ·rw [List.getElem?_set_ne (Ne.symm e)] at h1
   exact ⟨g',h1,h2⟩
 refine ⟨fun j g' h1 => ?_,fun g' hm z hz => ?_,fun g' hm => ?_,by rw [List.length_set];have := h.many;omega,fun j l g' h' x y hne h1 h2 h3 h4 => ?_⟩
 ·by_cases e : j = k
  ·subst e
   rw [List.getElem?_set_self hk] at h1
   obtain rfl : g ++ [(i : Int)] = g' := by simpa using h1
   obtain ⟨y,hy⟩ := h.one j g hg
   exact ⟨y,head_snoc hy⟩
  ·rw [List.getElem?_set_ne (Ne.symm e)] at h1
   exact h.one j g' h1
 ·rcases List.mem_or_eq_of_mem_set hm with h1 | rfl
  ·have := h.lt g' h1 z hz;omega
  ·rcases List.mem_append.1 hz with h1 | h1
   ·have := h.lt g (List.mem_of_getElem? hg) z h1;omega
   ·simp at h1;omega
 ·rcases List.mem_or_eq_of_mem_set hm with h1 | rfl
  ·have := h.len g' h1;omega
  ·have := h.len g (List.mem_of_getElem? hg);rw [List.length_append,List.length_singleton];omega
 ·obtain ⟨a,ha,ha2⟩ := key j g' x h1 h3
  obtain ⟨b,hb,hb2⟩ := key l h' y h2 h4
  exact h.apart j l a b x y hne ha hb ha2 hb2
theorem Good.snoc {i : Nat} {gs : List (List Int)} (h : Good i gs) : Good (i + 1) (gs ++ [[(i : Int)]]) := by
 have key : ∀ (j : Nat) (g : List Int),(gs ++ [[(i : Int)]])[j]? = some g → (j < gs.length ∧ gs[j]? = some g) ∨ (j = gs.length ∧ g = [(i : Int)]) := by
  intro j g h1
  rcases Nat.lt_or_ge j gs.length with h2 | h2
  ·rw [List.getElem?_append_left h2] at h1;exact .inl ⟨h2,h1⟩
  ·rw [List.getElem?_append_right h2] at h1
   have h3 := (List.getElem?_eq_some_iff.1 h1).1
   simp at h3
   have e : j = gs.length := by omega
   subst e
   simp at h1
   exact .inr ⟨rfl,h1.symm⟩
 have low : ∀ (j : Nat) (g : List Int) (x : Int),gs[j]? = some g → g[0]? = some x → x < (i : Int) := fun j g x h1 h2 => (h.lt g (List.mem_of_getElem? h1) x (List.mem_of_getElem? h2)).2
 refine ⟨fun j g h1 => ?_,fun g hm z hz => ?_,fun g hm => ?_,by rw [List.length_append,List.length_singleton];have := h.many;omega,fun j k g g' x y hne h1 h2 h3 h4 => ?_⟩
 ·rcases key j g h1 with ⟨_,h2⟩ | ⟨_,rfl⟩
  ·exact h.one j g h2
  ·exact ⟨_,rfl⟩
 ·rcases List.mem_append.1 hm with h1 | h1
  ·have := h.lt g h1 z hz;omega
  ·simp at h1;subst h1;simp at hz;omega
 ·rcases List.mem_append.1 hm with h1 | h1
  ·have := h.len g h1;omega
  ·simp at h1;subst h1;simp
 ·rcases key j g h1 with ⟨_,h5⟩ | ⟨e1,rfl⟩ <;> rcases key k g' h2 with ⟨_,h6⟩ | ⟨e2,rfl⟩
  ·exact h.apart j k g g' x y hne h5 h6 h3 h4
  ·have := low j g x h5 h3;simp at h4;omega
  ·have := low k g' y h6 h4;simp at h3;omega
  ·omega
theorem Good.mono {i j : Nat} {gs : List (List Int)} (h : Good i gs) (hij : i ≤ j) : Good j gs := ⟨h.one,fun g hm z hz => (by have := h.lt g hm z hz;omega),fun g hm => (by have := h.len g hm;omega),(by have := h.many;omega),h.apart⟩
theorem apart_heads {W : World} {b1 b2 T n1 n2 : Nat} {v u x y : Value} {xs ys : List Value} (h1 : W.ownsRow b1 T 1 v n1 xs) (h2 : W.ownsRow b2 T 1 u n2 ys) (hx : xs[0]? = some x) (hy : ys[0]? = some y) (hne : x ≠ y) : v.ownBlock = none ∨ v.ownBlock ≠ u.ownBlock := by
 rcases h1.2 with ⟨rfl,_⟩ | ⟨g,cap,cur,rfl,_,hg,_,_,_,ht⟩
 ·exact .inl rfl
 ·refine .inr fun e => ?_
  rcases h2.2 with ⟨rfl,_⟩ | ⟨g',cap',cur',rfl,_,hg',_,_,_,ht'⟩
  ·simp [Value.ownBlock] at e
  ·have e2 : g = g' := by simpa [Value.ownBlock] using e
   subst e2
   rw [hg] at hg'
   injection hg' with e3
   injection e3 with e3
   subst e3
   rw [← ht,List.getElem?_take] at hx
   rw [← ht',List.getElem?_take] at hy
   split at hx
   ·split at hy
    ·rw [hx] at hy;injection hy with hy;exact hne hy
    ·cases hy
   ·cases hx
theorem apart_types {W : World} {b1 b2 T1 T2 s1 s2 n1 n2 : Nat} {v u : Value} {xs ys : List Value} (h1 : W.ownsRow b1 T1 s1 v n1 xs) (h2 : W.ownsRow b2 T2 s2 u n2 ys) (hne : T1 ≠ T2) : v.ownBlock = none ∨ v.ownBlock ≠ u.ownBlock := by
 rcases h1.2 with ⟨rfl,_⟩ | ⟨g,cap,cur,rfl,_,hg,_⟩
 ·exact .inl rfl
 ·refine .inr fun e => ?_
  rcases h2.2 with ⟨rfl,_⟩ | ⟨g',cap',cur',rfl,_,hg',_⟩
  ·simp [Value.ownBlock] at e
  ·have e2 : g = g' := by simpa [Value.ownBlock] using e
   subst e2
   rw [hg] at hg'
   injection hg' with e3
   injection e3 with _ e4
   exact hne e4
theorem row_take {W : World} {lo T n m cap g : Nat} {xs : List Value} (h : W.ownsRow lo T 1 (.slice (some ⟨g,0,none⟩) n cap) n xs) (hm : m ≤ n) : W.ownsRow lo T 1 (.slice (some ⟨g,0,none⟩) m cap) m (xs.take m) := by
 refine ⟨by rw [List.length_take,h.1];omega, ?_⟩
 rcases h.2 with ⟨h1,_⟩ | ⟨g',cap',cur,h1,h2,h3,h4,h5,h6,h7⟩
 ·cases h1
 ·injection h1 with e1 _ e2
  injection e1 with e1
  injection e1 with e1
  subst e1;subst e2
  refine .inr ⟨g,cap,cur,rfl,h2,h3,by omega,h5,h6, ?_⟩
  rw [← h7,List.take_take]
  congr 1;omega
theorem row_set {W : World} {lo T n cap g k : Nat} {xs : List Value} {v : Value} (h : W.ownsRow lo T 1 (.slice (some ⟨g,0,none⟩) n cap) n xs) (hk : k < n) : (W.setCell ⟨g,k,none⟩ v).ownsRow lo T 1 (.slice (some ⟨g,0,none⟩) n cap) n (xs.set k v) := by
 refine ⟨by rw [List.length_set];exact h.1, ?_⟩
 rcases h.2 with ⟨h1,_⟩ | ⟨g',cap',cur,h1,h2,h3,h4,h5,h6,h7⟩
 ·cases h1
 ·injection h1 with e1 _ e2
  injection e1 with e1
  injection e1 with e1
  subst e1;subst e2
  refine .inr ⟨g,cap,cur.setIfInBounds k v,rfl,h2, ?_,h4,h5,by rw [Array.size_setIfInBounds];exact h6, ?_⟩
  ·rw [Go.Sort.setCell_eq]
   unfold Go.Sort.mapBlock
   rw [Array.getElem?_modify,if_pos rfl,h3];rfl
  ·rw [Array.toList_setIfInBounds,List.take_set,h7]
end Go.Pb.Sag
namespace Go.Pb.Sag
open Go Go.Pb Go.Pb.Ware Go.RowKit

def FillG (w1 : World) (g T n m : Nat) (cs : List Value) (W : World) : Prop := OutOnly w1 g 0 W ∧ ∃ v,(W.cell? ⟨g,0,none⟩ = some v ∧ W.frozen? ⟨g,0,none⟩ = false) ∧ W.ownsRow w1.heap.size T n v m cs
theorem FillG.slot {w1 Wb w2 w3 : World} {g T n m : Nat} {xs : List Value} {v c0 : Value} (hlt : g < w1.heap.size) (hc : w1.cell? ⟨g,0,none⟩ = some c0) (hf : w1.frozen? ⟨g,0,none⟩ = false) (hO : OutOnly w1 g 0 Wb) (c1 : Wb.cell? ⟨g,0,none⟩ = some v) (hb : Below Wb.heap.size Wb w2)
  (hown2 : w2.ownsRow w1.heap.size T n v m xs) (hg3 : w2.grownBy w3 v.ownBlock) : w3.cell? ⟨g,0,none⟩ = some v ∧ w3.frozen? ⟨g,0,none⟩ = false := by
 have hr : ∀ r,v.ownBlock = some r → w1.heap.size ≤ r := fun r e => (World.ownsRow.lt hown2 r e).1
 exact ⟨grown_kept hg3 (bkeep hb c1) (fun e => by have := hr g e.symm;omega),((hO.next hlt hb).grown hg3 hlt hr).frz 0 c0 hc hf⟩
theorem FillG.push {w1 Wb w2 w3 : World} {g T n m : Nat} {xs ys : List Value} {v v' c0 : Value} (hlt : g < w1.heap.size) (hc : w1.cell? ⟨g,0,none⟩ = some c0) (hf : w1.frozen? ⟨g,0,none⟩ = false) (hO : OutOnly w1 g 0 Wb) (c1 : Wb.cell? ⟨g,0,none⟩ = some v) (hb : Below Wb.heap.size Wb w2)
  (hown2 : w2.ownsRow w1.heap.size T n v m xs) (hg3 : w2.grownBy w3 v.ownBlock) (ho3 : w3.ownsRow w1.heap.size T n v' (m + 1) ys) :
  FillG w1 g T n (m + 1) ys (w3.setCell ⟨g,0,none⟩ v') ∧ KeepsOthers Wb (w3.setCell ⟨g,0,none⟩ v') ∧ Wb.heap.size ≤ (w3.setCell ⟨g,0,none⟩ v').heap.size := by
 have hr : ∀ r,v.ownBlock = some r → w1.heap.size ≤ r := fun r e => (World.ownsRow.lt hown2 r e).1
 have hO4 := ((hO.next hlt hb).grown hg3 hlt hr).set v'
 have c3 : w3.cell? ⟨g,0,none⟩ = some v := grown_kept hg3 (bkeep hb c1) (fun e => by have := hr g e.symm;omega)
 refine ⟨⟨hO4,v',⟨setc_same c3,hO4.frz 0 c0 hc hf⟩, ?_⟩,((keeps_of_below hb).trans (KeepsOthers.of_grownBy hg3 (own_cells hown2))).trans (KeepsOthers.setCell _ _ _), ?_⟩
 ·exact ho3.kept (grown_setc w3 ⟨g,0,none⟩ v') (.inr fun e => by have := (World.ownsRow.lt ho3 g e).1;omega)
 ·have := hb.size;have := hg3.size;simp;omega
end Go.Pb.Sag
namespace Go.Pb.Sag
open Go Go.Pb Go.Pb.Ware Go.RowKit

def RowsIn (lo T : Nat) (W : World) (vs : List Value) (gs : List (List Int)) : Prop := ∀ (k : Nat) (v : Value) (g : List Int),vs[k]? = some v → gs[k]? = some g → W.ownsRow lo T 1 v g.length (g.map (Value.int .i64))
def PutAt (G TO TI : Nat) (gs : List (List Int)) (W : World) : Prop := ∃ (gv : Value) (vs : List Value),(W.cell? ⟨G,8,none⟩ = some gv ∧ W.frozen? ⟨G,8,none⟩ = false) ∧ W.ownsRow (G + 1) TO 1 gv gs.length vs ∧ RowsIn (G + 1) TI W vs gs
theorem PutAt.next {G TO TI : Nat} {gs : List (List Int)} {W W' : World} (h : PutAt G TO TI gs W) (hb : Below W.heap.size W W') : PutAt G TO TI gs W' := by
 obtain ⟨gv,vs,⟨c1,c2⟩,ho,hr⟩ := h
 exact ⟨gv,vs,⟨bkeep hb c1,bfree hb c1 c2⟩,owns_below ho hb,fun k v g h1 h2 => owns_below (hr k v g h1 h2) hb⟩
theorem own_ge {W : World} {lo T s n : Nat} {v : Value} {xs : List Value} (h : W.ownsRow lo T s v n xs) : ∀ b,v.ownBlock = some b → lo ≤ b := fun b e => (World.ownsRow.lt h b e).1
theorem set_own {W : World} {lo T s n B o : Nat} {v u : Value} {xs : List Value} (h : W.ownsRow lo T s v n xs) (hne : v.ownBlock = none ∨ v.ownBlock ≠ some B) : (W.setCell ⟨B,o,none⟩ u).ownsRow lo T s v n xs := h.kept (grown_setc W ⟨B,o,none⟩ u) hne
theorem PutAt.push {G TO TI i k : Nat} (hT : TO ≠ TI) {gs : List (List Int)} {g : List Int} {W w2 w3 : World} {v v' : Value} {vs : List Value} {gb cap : Nat} (hG : Good i gs) (hg : gs[k]? = some g) (hv : vs[k]? = some v)
  (c8 : W.cell? ⟨G,8,none⟩ = some (.slice (some ⟨gb,0,none⟩) gs.length cap) ∧ W.frozen? ⟨G,8,none⟩ = false) (ho : W.ownsRow (G + 1) TO 1 (.slice (some ⟨gb,0,none⟩) gs.length cap) gs.length vs) (hr : RowsIn (G + 1) TI W vs gs)
  (hb : Below W.heap.size W w2) (hg3 : w2.grownBy w3 v.ownBlock) (ho3 : w3.ownsRow (G + 1) TI 1 v' (g.length + 1) (g.map (Value.int .i64) ++ [.int .i64 (i : Int)])) :
  (w3.cell? ⟨gb,k,none⟩ = some v ∧ w3.frozen? ⟨gb,k,none⟩ = false) ∧ PutAt G TO TI (gs.set k (g ++ [(i : Int)])) (w3.setCell ⟨gb,k,none⟩ v') ∧ Below (G + 1) W (w3.setCell ⟨gb,k,none⟩ v') := by
 have hk : k < gs.length := (List.getElem?_eq_some_iff.1 hg).1
 have hGW : G < W.heap.size := World.block_lt_of_cell? W _ c8.1
 have hrow := hr k v g hv hg
 have ho2 := owns_below ho hb
 have hrow2 := owns_below hrow hb
 have hgb : G + 1 ≤ gb := own_ge ho gb rfl
 have a1 : (Value.slice (some ⟨gb,0,none⟩) gs.length cap).ownBlock = none ∨ (Value.slice (some ⟨gb,0,none⟩) gs.length cap).ownBlock ≠ v.ownBlock := apart_types ho2 hrow2 hT
 have ho4 : w3.ownsRow (G + 1) TO 1 (.slice (some ⟨gb,0,none⟩) gs.length cap) gs.length vs := ho2.kept hg3 a1
 have hlo : ∀ r,v.ownBlock = some r → G + 1 ≤ r := own_ge hrow
 have hbw : Below (G + 1) W w3 := (hb.mono (by omega)).grown hg3 (by have := hb.size;omega) hlo
 have a2 : some gb ≠ v.ownBlock := by rcases a1 with h | h;cases h;exact h
 have hcell : w3.cell? ⟨gb,k,none⟩ = some v := by
  have h1 := ho4.cells (g := gb) rfl k v hv
  rw [Go.WideShapes.add_plain,Nat.zero_add] at h1
  exact h1
 refine ⟨⟨hcell,owns_frozen ho4 rfl k⟩,⟨.slice (some ⟨gb,0,none⟩) gs.length cap,vs.set k v',⟨?_, ?_⟩, ?_, ?_⟩,hbw.setCell (p := ⟨gb,k,none⟩) hgb v'⟩
 ·exact setc_block ((hbw.cell (p := ⟨G,8,none⟩) (by simp)).trans c8.1) (by omega)
 ·exact set_free ((hbw.cell (p := ⟨G,8,none⟩) (by simp)).trans c8.1) ((hbw.frozen (p := ⟨G,8,none⟩) (by simp)).trans c8.2)
 ·rw [List.length_set];exact row_set ho4 hk
 ·intro j u g' hu hg'
  have hts : ∀ {u : Value} {n : Nat} {xs : List Value},w3.ownsRow (G + 1) TI 1 u n xs → u.ownBlock = none ∨ u.ownBlock ≠ some gb := fun h => apart_types h ho4 (Ne.symm hT)
  by_cases e : j = k
  ·subst e
   have hvl : j < vs.length := (List.getElem?_eq_some_iff.1 hv).1
   rw [List.getElem?_set_self hvl] at hu
   rw [List.getElem?_set_self hk] at hg'
   obtain rfl : v' = u := by simpa using hu
   obtain rfl : g ++ [(i : Int)] = g' := by simpa using hg'
   have h1 := set_own (o := j) (u := v') ho3 (hts ho3)
   simpa using h1
  ·rw [List.getElem?_set_ne (Ne.symm e)] at hu hg'
   have hj := hr j u g' hu hg'
   obtain ⟨x,hx⟩ := hG.one j g' hg'
   obtain ⟨y,hy⟩ := hG.one k g hg
   have hxy := hG.apart j k g' g x y e hg' hg hx hy
   have h1 : (g'.map (Value.int .i64))[0]? = some (.int .i64 x) := by rw [List.getElem?_map,hx];rfl
   have h2 : (g.map (Value.int .i64))[0]? = some (.int .i64 y) := by rw [List.getElem?_map,hy];rfl
   have h3 := (owns_below hj hb).kept hg3 (apart_heads (owns_below hj hb) hrow2 h1 h2 (fun h => hxy (by injection h)))
   exact set_own h3 (hts h3)
theorem PutAt.pop {G TO TI i k : Nat} (hT : TO ≠ TI) {gs : List (List Int)} {g : List Int} {W : World} {gb gcap b cap n : Nat} {vs : List Value} (hgs : gs[k]? = some g) (hn : gs.length = n)
  (c8 : W.cell? ⟨G,8,none⟩ = some (.slice (some ⟨gb,0,none⟩) n gcap) ∧ W.frozen? ⟨G,8,none⟩ = false) (ho : W.ownsRow (G + 1) TO 1 (.slice (some ⟨gb,0,none⟩) n gcap) n vs) (hr : RowsIn (G + 1) TI W vs (gs.set k (g ++ [(i : Int)])))
  (hv : vs[k]? = some (.slice (some ⟨b,0,none⟩) (g.length + 1) cap)) :
  PutAt G TO TI gs (W.setCell ⟨gb,k,none⟩ (.slice (some ⟨b,0,none⟩) g.length cap)) ∧ Below (G + 1) W (W.setCell ⟨gb,k,none⟩ (.slice (some ⟨b,0,none⟩) g.length cap)) := by
 subst hn
 have hk : k < gs.length := (List.getElem?_eq_some_iff.1 hgs).1
 have hgb : G + 1 ≤ gb := own_ge ho gb rfl
 have hts : ∀ {u : Value} {n : Nat} {xs : List Value},W.ownsRow (G + 1) TI 1 u n xs → u.ownBlock = none ∨ u.ownBlock ≠ some gb := fun h => apart_types h ho (Ne.symm hT)
 refine ⟨⟨.slice (some ⟨gb,0,none⟩) gs.length gcap,vs.set k (.slice (some ⟨b,0,none⟩) g.length cap),⟨setc_block c8.1 (by omega),set_free c8.1 c8.2⟩,row_set ho hk, ?_⟩,(Below.refl _ _).setCell (p := ⟨gb,k,none⟩) hgb _⟩
 intro j u g' hu hg'
 by_cases e : j = k
 ·subst e
  have hvl : j < vs.length := (List.getElem?_eq_some_iff.1 hv).1
  rw [List.getElem?_set_self hvl] at hu
  rw [hgs] at hg'
  obtain rfl : Value.slice (some ⟨b,0,none⟩) g.length cap = u := by simpa using hu
  obtain rfl : g = g' := by simpa using hg'
  have h1 := hr j _ _ hv (List.getElem?_set_self hk)
  rw [List.length_append,List.length_singleton] at h1
  have h2 := row_take (m := g.length) h1 (by omega)
  rw [List.map_append,List.take_append_of_le_length (by simp),List.take_of_length_le (by simp)] at h2
  exact set_own h2 (hts h2)
 ·rw [List.getElem?_set_ne (Ne.symm e)] at hu
  have h1 := hr j u g' hu (by rw [List.getElem?_set_ne (Ne.symm e)];exact hg')
  exact set_own h1 (hts h1)
theorem PutAt.grow {G TO TI i n : Nat} (hT : TO ≠ TI) {gs : List (List Int)} {W w3 : World} {gv gv' : Value} {vs : List Value} (hG : Good i gs) (hn : gs.length = n)
  (c8 : W.cell? ⟨G,8,none⟩ = some gv ∧ W.frozen? ⟨G,8,none⟩ = false) (ho : W.ownsRow (G + 1) TO 1 gv n vs) (hr : RowsIn (G + 1) TI W vs gs)
  (hg3 : ((W.alloc (.cells #[.int .i64 (i : Int)] TI)).alloc (.cells #[.slice (some ⟨W.heap.size,0,none⟩) 1 1] TO)).grownBy w3 gv.ownBlock) (ho3 : w3.ownsRow (G + 1) TO 1 gv' (n + 1) (vs ++ [.slice (some ⟨W.heap.size,0,none⟩) 1 1])) :
  (w3.cell? ⟨G,8,none⟩ = some gv ∧ w3.frozen? ⟨G,8,none⟩ = false) ∧ PutAt G TO TI (gs ++ [[(i : Int)]]) (w3.setCell ⟨G,8,none⟩ gv') ∧ Below (G + 1) W w3 := by
 subst hn
 have hGW : G < W.heap.size := World.block_lt_of_cell? W _ c8.1
 have hb : Below W.heap.size W ((W.alloc (.cells #[.int .i64 (i : Int)] TI)).alloc (.cells #[.slice (some ⟨W.heap.size,0,none⟩) 1 1] TO)) := ((Below.refl _ W).alloc (Nat.le_refl _) _).alloc (by simp) _
 have hbw : Below (G + 1) W w3 := (hb.mono (by omega)).grown hg3 (by simp;omega) (own_ge ho)
 have hG8 : w3.cell? ⟨G,8,none⟩ = some gv ∧ w3.frozen? ⟨G,8,none⟩ = false := ⟨(hbw.cell (p := ⟨G,8,none⟩) (by simp)).trans c8.1,(hbw.frozen (p := ⟨G,8,none⟩) (by simp)).trans c8.2⟩
 have far : ∀ {T n : Nat} {v : Value} {xs : List Value},w3.ownsRow (G + 1) T 1 v n xs → v.ownBlock = none ∨ v.ownBlock ≠ some G := fun h => .inr fun e => by have := own_ge h G e;omega
 have hvl : vs.length = gs.length := by have := ho.1;omega
 refine ⟨hG8,⟨gv',vs ++ [.slice (some ⟨W.heap.size,0,none⟩) 1 1],⟨setc_same hG8.1,set_free hG8.1 hG8.2⟩, ?_, ?_⟩,hbw⟩
 ·rw [List.length_append,List.length_singleton];exact set_own ho3 (far ho3)
 ·intro k v g hv hg
  rcases Nat.lt_or_ge k gs.length with h1 | h1
  ·rw [List.getElem?_append_left (by omega)] at hv
   rw [List.getElem?_append_left h1] at hg
   have h2 := owns_below (hr k v g hv hg) hb
   have h3 := h2.kept hg3 (apart_types h2 (owns_below ho hb) (Ne.symm hT))
   exact set_own h3 (far h3)
  ·rw [List.getElem?_append_right (by omega),hvl] at hv
   rw [List.getElem?_append_right h1] at hg
   have h4 := (List.getElem?_eq_some_iff.1 hg).1
   simp at h4
   have e : k = gs.length := by omega
   subst e
   simp at hv hg
   subst hv;subst hg
   have h2 : ((W.alloc (.cells #[.int .i64 (i : Int)] TI)).alloc (.cells #[.slice (some ⟨W.heap.size,0,none⟩) 1 1] TO)).ownsRow (G + 1) TI 1 (.slice (some ⟨W.heap.size,0,none⟩) 1 1) 1 [.int .i64 (i : Int)] := by
    refine ⟨rfl, .inr ⟨W.heap.size,1,#[.int .i64 (i : Int)],rfl,by omega, ?_,Nat.le_refl _,by unfold maxLen;omega,rfl,rfl⟩⟩
    rw [Below.heap_alloc _ _ _ (by simp)]
    exact World.alloc_heap_new W _
   have h3 := h2.kept hg3 (apart_types h2 (owns_below ho hb) (Ne.symm hT))
   exact set_own h3 (far h3)
theorem PutAt.shrink {G TO TI n gb cap : Nat} {gs : List (List Int)} {g : List Int} {W : World} {vs : List Value} (hn : gs.length = n)
  (c8 : W.cell? ⟨G,8,none⟩ = some (.slice (some ⟨gb,0,none⟩) (n + 1) cap) ∧ W.frozen? ⟨G,8,none⟩ = false) (ho : W.ownsRow (G + 1) TO 1 (.slice (some ⟨gb,0,none⟩) (n + 1) cap) (n + 1) vs) (hr : RowsIn (G + 1) TI W vs (gs ++ [g])) :
  PutAt G TO TI gs (W.setCell ⟨G,8,none⟩ (.slice (some ⟨gb,0,none⟩) n cap)) := by
 subst hn
 have far : ∀ {T n : Nat} {v : Value} {xs : List Value},W.ownsRow (G + 1) T 1 v n xs → v.ownBlock = none ∨ v.ownBlock ≠ some G := fun h => .inr fun e => by have := own_ge h G e;omega
 have h1 := row_take (m := gs.length) ho (by omega)
 refine ⟨.slice (some ⟨gb,0,none⟩) gs.length cap,vs.take gs.length,⟨setc_same c8.1,set_free c8.1 c8.2⟩,set_own h1 (far h1), ?_⟩
 intro k v g' hv hg
 have hk : k < gs.length := (List.getElem?_eq_some_iff.1 hg).1
 rw [List.getElem?_take,if_pos hk] at hv
 have h2 := hr k v g' hv (by rw [List.getElem?_append_left hk];exact hg)
 exact set_own h2 (far h2)
def GAt (G : Nat) (gc : List Value) (W : World) : Prop := ∀ o u,gc[o]? = some u → W.cell? ⟨G,o,none⟩ = some u ∧ W.frozen? ⟨G,o,none⟩ = false
theorem GAt.below {G : Nat} {gc : List Value} {W W' : World} (h : GAt G gc W) (hb : Below (G + 1) W W') : GAt G gc W' := fun o u hu => ⟨(hb.cell (p := ⟨G,o,none⟩) (by simp)).trans (h o u hu).1,(hb.frozen (p := ⟨G,o,none⟩) (by simp)).trans (h o u hu).2⟩
theorem GAt.set {G : Nat} {gc : List Value} {W : World} {v : Value} (h : GAt G gc W) (hl : gc.length ≤ 8) : GAt G gc (W.setCell ⟨G,8,none⟩ v) := fun o u hu => ⟨setc_other (h o u hu).1 (by have := (List.getElem?_eq_some_iff.1 hu).1;omega),set_free (h o u hu).1 (h o u hu).2⟩
theorem own_some {W : World} {lo T s n : Nat} {v : Value} {xs : List Value} (h : W.ownsRow lo T s v n xs) (hn : 0 < n) : ∃ g cap,v = .slice (some ⟨g,0,none⟩) n cap ∧ n ≤ cap ∧ cap ≤ 9223372036854775807 := by
 rcases h.2 with ⟨_,h0⟩ | ⟨g,cap,_,rfl,_,_,h4,h5,_⟩
 ·omega
 ·exact ⟨g,cap,rfl,h4,by unfold maxLen at h5;omega⟩
end Go.Pb.Sag