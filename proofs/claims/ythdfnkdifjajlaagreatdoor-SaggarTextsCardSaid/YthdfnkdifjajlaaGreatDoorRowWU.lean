/- Part of a claim. -/
import Derived.Test.YthdfnkdifjajlaaGreatDoorKXaU
import Derived.Test.YthdfnkdifjajlaaGreatDoorKSdU
set_option linter.unusedVariables false
set_option linter.unusedSimpArgs false
namespace Go.Pb
open Go.RowKit Go.ChangeShapes Go.WideShapes Go.ChangeAt Go.Deep
section
variable {H : Type} {enc : TypeId × Value → H} {P : Program} {w : World} {base : Nat} {spare : Nat → Bool} {held : Bool}
theorem open_stands {r : Reach} {b0 : Nat} {t e ti tb : TypeId} {f1 f2 f3 : Field} {v : Value} {d : DataW H} {p : List MemPlace} (ht : P.underlying t = some (.slice e)) (hu : P.underlying e = some (.struct #[f1,f2,f3])) (hC : P.cellsOf e = 3)
  (ho1 : f1.offset = 0) (ho2 : f2.offset = 1) (ho3 : f3.offset = 2) (ht1 : f1.type = ti) (ht2 : f2.type = ti) (ht3 : f3.type = tb) (ci : P.cellsOf ti = 1) (cb : P.cellsOf tb = 1) (ui : P.underlying ti = some (.int .i64)) (ub : P.underlying tb = some .bool)
  (hv : Value.okWide P w r b0 t v) (h : DataW.Trod enc P w base spare held t v d p) : ∃ qs,Go.Pb.Sag.StAt w v qs ∧ ∀ q ∈ qs,I64 q.y ∧ I64 q.x := by
 obtain ⟨a0,l0,c0,rfl⟩ := okWide_slice ht hv
 obtain ⟨fuel,hf⟩ := h
 rcases Go.Deep.open_slice ht hf with ⟨h1,_⟩ | ⟨a,len,cap,k,f,D,Pl,hcs,hb,hl,hm,hk,_,hx⟩
 ·simp [Value.cells] at h1
  obtain ⟨rfl,rfl,rfl⟩ := h1
  exact ⟨[], .inl ⟨rfl,rfl⟩,fun q hq => by cases hq⟩
 ·have hlk : len ≤ k := by rw [hk];split <;> omega
  have each : ∀ i,i < len → ∃ q : Go.Pb.Sag.Sq,(I64 q.y ∧ I64 q.x) ∧ ∀ j u,(Go.Pb.Sag.cellsQ q)[j]? = some u → w.cell? (a.add (i * 3 + j)) = some u := by
   intro i hi
   obtain ⟨cs',h1,h2⟩ := hx i (by omega)
   rw [hC] at h1
   obtain ⟨_,hcl,hat⟩ := World.cells?_some h1
   obtain ⟨xs,m,_,_,hlen,hxl,hg⟩ := DataW.trod_struct hu h2
   rw [hC] at hlen
   match cs',hlen with
   | [a1,a2,a3],_ =>
    have g1 := hg 0 f1 rfl
    have g2 := hg 1 f2 rfl
    have g3 := hg 2 f3 rfl
    rw [ho1,ht1,ci] at g1
    rw [ho2,ht2,ci] at g2
    rw [ho3,ht3,cb] at g3
    have x1 : xs[0]? = some (xs[0]'(by simp at hxl;omega)) := List.getElem?_eq_getElem _
    have x2 : xs[1]? = some (xs[1]'(by simp at hxl;omega)) := List.getElem?_eq_getElem _
    have x3 : xs[2]? = some (xs[2]'(by simp at hxl;omega)) := List.getElem?_eq_getElem _
    rw [x1] at g1
    rw [x2] at g2
    rw [x3] at g3
    obtain ⟨y1,e1,_,w1⟩ := DataW.trod_int ui g1
    obtain ⟨y2,e2,_,w2⟩ := DataW.trod_int ui g2
    obtain ⟨y3,e3,_⟩ := DataW.trod_bool ub g3
    simp at e1 e2 e3
    subst e1;subst e2;subst e3
    refine ⟨⟨y1,y2,y3⟩,⟨w1,w2⟩,fun j u hu => ?_⟩
    have hj : j < 3 := (List.getElem?_eq_some_iff.1 hu).1
    have h3 := hat j (by simpa using hj)
    rw [Go.Deep.add_add] at h3
    rw [h3]
    exact hu
  haveI : Inhabited Go.Pb.Sag.Sq := ⟨⟨0,0,false⟩⟩
  obtain ⟨R,hR⟩ := choose_lt each
  simp [Value.cells] at hcs
  obtain ⟨rfl,rfl,rfl⟩ := hcs
  refine ⟨(List.range l0).map R, .inr ⟨a,c0,by simp,by simpa using hl,by unfold maxLen at hm;omega,fun i q hq => ?_⟩,fun q hq => ?_⟩
  ·have hi : i < l0 := by
    have := (List.getElem?_eq_some_iff.1 hq).1
    simpa using this
   rw [List.getElem?_map,List.getElem?_range hi] at hq
   simp at hq
   subst hq
   exact (hR i hi).2
  ·obtain ⟨i,hi,rfl⟩ := List.mem_map.1 hq
   exact (hR i (List.mem_range.1 hi)).1
end
end Go.Pb