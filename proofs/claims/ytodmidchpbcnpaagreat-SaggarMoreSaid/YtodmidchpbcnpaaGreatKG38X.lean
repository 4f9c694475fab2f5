/- Part of a claim. -/
import Derived.Test.YtodmidchpbcnpaaGreatG34X
import Derived.Test.YtodmidchpbcnpaaGreatG35X
import Derived.Test.YtodmidchpbcnpaaGreatG12X
import Derived.Test.YtodmidchpbcnpaaGreatG37X
import Derived.Test.YtodmidchpbcnpaaGreatG27X
import Derived.Test.YtodmidchpbcnpaaGreatKSpX
import Derived.Test.YtodmidchpbcnpaaGreatKG14X
import Derived.Test.YtodmidchpbcnpaaGreatG1X
import Derived.OwnWalk
import Derived.Test.YtodmidchpbcnpaaGreatKG53X
import Derived.Test.YtodmidchpbcnpaaGreatG5X
import Derived.Deep.LoopGhost
import Derived.Test.YtodmidchpbcnpaaGreatKTgX
set_option linter.unusedVariables false
set_option linter.unusedSimpArgs false
namespace Go.Proofs.YtodmidchpbcnpaaGreat
open Go.RowKit Go.Pb Go.Pb.Ware Go.Pb.Sag


theorem no_bodies8 {w : World} : RowsAt 7 w (.slice none 0 0) [] := .inl ⟨rfl,rfl⟩
theorem pack_f {w : World} {sv iv : Value} {ss : List (List Int)} {xs : List It} {b2 b3 b4 b5 b6 : Int} (hs : RowsAt 11 w sv ss) (hi : RowsAt 3 w iv (xs.map rowX)) (hX : boxOk ⟨1,b2,b3,b4,b5,b6⟩ = true) (hk : ckL ss [] ⟨1,b2,b3,b4,b5,b6⟩ xs = 0) {q : List St} (hq : (shownL ⟨1,b2,b3,b4,b5,b6⟩ (feetV ss [] ⟨1,b2,b3,b4,b5,b6⟩ xs))[0]? = some q) : Calls Tryz.prog 25 #[.agg #[sv, .slice none 0 0], .agg #[.int .i64 1, .int .i64 b2, .int .i64 b3, .int .i64 b4, .int .i64 b5, .int .i64 b6],iv] w (fun e w' => ∃ v,e = .returned (.tuple #[v, .int .i64 0]) ∧ Below w.heap.size w w' ∧ StAt w' v (q.map toSq)) := by
 have h := Pack_any (bid := 1) (bwi := b2) (bde := b3) (bce := b4) (bhi := b5) (bbe := b6) hs no_bodies8 hi (fun W v h => spots_any hX feet_ok feet_len h)
 rw [show nthA ss [] ⟨1,b2,b3,b4,b5,b6⟩ xs 0 24 = (q,0) by unfold nthA;rw [if_pos hk,hq]] at h
 refine h.mono ?_
 rintro e w1 ⟨v,rfl,hb,ho⟩
 exact ⟨v,rfl,hb,stAt_of_owns (qs := q.map toSq) (by first | exact ho | (rw [List.length_map];exact ho))⟩
theorem pack_n {w : World} {sv iv : Value} {ss : List (List Int)} {xs : List It} {b2 b3 b4 b5 b6 : Int} (hs : RowsAt 11 w sv ss) (hi : RowsAt 3 w iv (xs.map rowX)) (hX : boxOk ⟨1,b2,b3,b4,b5,b6⟩ = true) (hk : ckL ss [] ⟨1,b2,b3,b4,b5,b6⟩ xs = 0) (hq : (shownL ⟨1,b2,b3,b4,b5,b6⟩ (feetV ss [] ⟨1,b2,b3,b4,b5,b6⟩ xs))[0]? = none) : Calls Tryz.prog 25 #[.agg #[sv, .slice none 0 0], .agg #[.int .i64 1, .int .i64 b2, .int .i64 b3, .int .i64 b4, .int .i64 b5, .int .i64 b6],iv] w (fun e w' => ∃ v,e = .returned (.tuple #[v, .int .i64 24]) ∧ Below w.heap.size w w' ∧ StAt w' v []) := by
 have h := Pack_any (bid := 1) (bwi := b2) (bde := b3) (bce := b4) (bhi := b5) (bbe := b6) hs no_bodies8 hi (fun W v h => spots_any hX feet_ok feet_len h)
 rw [show nthA ss [] ⟨1,b2,b3,b4,b5,b6⟩ xs 0 24 = ([],24) by unfold nthA;rw [if_pos hk,hq]] at h
 refine h.mono ?_
 rintro e w1 ⟨v,rfl,hb,ho⟩
 exact ⟨v,rfl,hb,stAt_of_owns (qs := ([] : List St).map toSq) (by first | exact ho | (rw [List.length_map];exact ho))⟩
theorem check_f {w : World} {sv iv : Value} {ss : List (List Int)} {xs : List It} {b2 b3 b4 b5 b6 : Int} (hs : RowsAt 11 w sv ss) (hi : RowsAt 3 w iv (xs.map rowX)) (hX : boxOk ⟨1,b2,b3,b4,b5,b6⟩ = true) (hk : ckL ss [] ⟨1,b2,b3,b4,b5,b6⟩ xs = 0) {pv : Value} {qs : List Sq} (hp : StAt w pv qs) {a : Bool} (ha : packB ⟨1,b2,b3,b4,b5,b6⟩ (feetV ss [] ⟨1,b2,b3,b4,b5,b6⟩ xs) qs = a) : Calls Tryz.prog 41 #[.agg #[sv, .slice none 0 0], .agg #[.int .i64 1, .int .i64 b2, .int .i64 b3, .int .i64 b4, .int .i64 b5, .int .i64 b6],iv,pv] w (Ret w (.int .i64 (if a = true then 0 else 23))) := by
 refine CheckPack_any (bid := 1) (bwi := b2) (bde := b3) (bce := b4) (bhi := b5) (bbe := b6) hs no_bodies8 hi hp ?_
 unfold ckK;rw [if_pos hk,ha]
end Go.Proofs.YtodmidchpbcnpaaGreat
namespace Go.Proofs.YtodmidchpbcnpaaGreat
open Go.RowKit Go.Pb Go.Pb.Ware Go.Pb.Sag


def takeC (ss bs : List (List Int)) (s : Bx) (xs : List It) (qs : List Sq) (i : Int) : Int := if ckK ss bs s xs qs = 0 then (if btw i 0 ((xs.length : Int) - 1) = true then 0 else 1) else ckK ss bs s xs qs
def TakeRes (xs : List It) (qs : List Sq) (i c : Int) (W : World) (e : Ending) (w' : World) : Prop := ∃ lv pv,e = .returned (.tuple #[lv,pv, .int .i64 c]) ∧ Below W.heap.size W w' ∧
 ((c ≠ 0 ∧ lv = .slice none 0 0 ∧ pv = .slice none 0 0) ∨ (c = 0 ∧ 0 ≤ i ∧ i.toNat < xs.length ∧ w'.ownsRow W.heap.size 32 3 lv (xs.length - 1) (itCells (xs.eraseIdx i.toNat)) ∧ w'.ownsRow W.heap.size 62 3 pv (xs.length - 1) ((qs.eraseIdx i.toNat).flatMap cellsQ)))
theorem pack_long {s : Bx} {fs : List Ft} {qs : List Sq} (h : packB s fs qs = true) : qs.length = fs.length := by
 unfold packB at h;rw [Bool.and_eq_true,decide_eq_true_eq] at h;exact h.1
theorem ckK_0 {ss bs : List (List Int)} {s : Bx} {xs : List It} {qs : List Sq} (h : ckK ss bs s xs qs = 0) : ckL ss bs s xs = 0 ∧ packB s (feetV ss bs s xs) qs = true := by
 unfold ckK at h
 split at h
 ·rename_i h1
  refine ⟨h1, ?_⟩
  split at h
  ·assumption
  ·cases h
 ·rename_i h1;exact absurd h h1
set_option maxRecDepth 100000 in
set_option maxHeartbeats 1000000 in
theorem Take_any {w : World} {vs vb : Value} {ss bs : List (List Int)} (h1 : RowsAt 11 w vs ss) (h2 : RowsAt 7 w vb bs) {lv pv : Value} {xs : List It} {qs : List Sq} {bid bwi bde bce bhi bbe i : Int} (hl : RowsAt 3 w lv (xs.map rowX)) (hp : StAt w pv qs) {c : Int} (hc : takeC ss bs ⟨bid,bwi,bde,bce,bhi,bbe⟩ xs qs i = c) :
  Calls Tryz.prog 38 #[.agg #[vs,vb], .agg #[.int .i64 bid, .int .i64 bwi, .int .i64 bde, .int .i64 bce, .int .i64 bhi, .int .i64 bbe],lv,pv, .int .i64 i] w (TakeRes xs qs i c w) := by
 have hlx := it_lat hl
 have hlq := st_lat hp
 obtain ⟨la,lc,rfl,hll⟩ := hl.shape
 rw [List.length_map] at hl hlx hll ⊢
 obtain ⟨pa,pc,rfl,hpl,hpc⟩ := hp.shape
 unfold TakeRes
 obtain ⟨d,hd⟩ : ∃ d,ckK ss bs ⟨bid,bwi,bde,bce,bhi,bbe⟩ xs qs = d := ⟨_,rfl⟩
 unfold takeC at hc
 rw [hd] at hc
 have HD := hid hd;clear hd
 by_cases hd0 : d = 0
 ·subst hd0
  rw [if_pos rfl] at hc
  obtain ⟨k0,kp⟩ := ckK_0 HD.out
  have hql : qs.length = xs.length := by rw [pack_long kp,feetV_0 k0];exact List.length_map ..
  obtain ⟨-, -,hx5, -⟩ := ckL_0 k0
  have HL := hid hql
  clear k0 kp hql
  have W1 : IntKind.i64.wrap ((xs.length : Int) - 1) = (xs.length : Int) - 1 := IntWalk.i64_in _ (by omega)
  cases ht : btw i 0 ((xs.length : Int) - 1)
  ·rw [ht] at hc
   have HT := hid ht;clear ht
   simp only [Bool.false_eq_true,if_false] at hc
   subst hc
   go_enter Tryz.func38,Tryz.ntmps38
   go_wp2_with fail
   refine (CheckPack_any (h1.below (by go_grown)) (h2.below (by go_grown)) (hl.below (by go_grown)) (hp.below (by go_grown)) HD.out).mono ?_
   rintro e w1 ⟨rfl,hb⟩
   replace hb0 := bnext (w := w) (by go_grown) hb
   clear hb
   go_wp2_with fail
   refine (sBetween HT.out).mono ?_
   rintro e w2 ⟨rfl,hb⟩
   replace hb0 := bnext (w := w) (by go_grown) hb
   clear hb
   go_wp2_with fail
   go_ret3
   exact ⟨_,_,rfl,by go_grown, .inl ⟨by decide,rfl,rfl⟩⟩
  ·rw [ht,if_pos rfl] at hc
   obtain ⟨k,rfl,hk⟩ : ∃ k : Nat,i = (k : Int) ∧ k < xs.length := by unfold btw at ht;simp at ht;exact ⟨i.toNat,by omega,by omega⟩
   have HT := hid ht;clear ht
   subst hc
   have hk2 : k < qs.length := by rw [HL.out];exact hk
   go_enter Tryz.func38,Tryz.ntmps38
   go_wp2_with fail
   refine (CheckPack_any (h1.below (by go_grown)) (h2.below (by go_grown)) (hl.below (by go_grown)) (hp.below (by go_grown)) HD.out).mono ?_
   rintro e w1 ⟨rfl,hb⟩
   replace hb0 := bnext (w := w) (by go_grown) hb
   clear hb
   go_wp2_with fail
   refine (sBetween HT.out).mono ?_
   rintro e w2 ⟨rfl,hb⟩
   replace hb0 := bnext (w := w) (by go_grown) hb
   clear hb
   go_wp2_with fail
   refine (withoutPX (hlx.below hb0) hk (by omega)).mono ?_
   rintro e w3 ⟨xv,rfl,hb3,ho3⟩
   have HZ3 := hid hb0.size
   replace hb0 := bnext (w := w) (by go_grown) hb3
   obtain ⟨xa,xc,rfl,hxl⟩ := owns_shape ho3
   go_wp2_with fail
   refine (withoutPS (hlq.below hb0) hk2 (by rw [HL.out];omega)).mono ?_
   rintro e w4 ⟨sv,rfl,hb4,ho4⟩
   have HZ4 := hid hb0.size
   replace hb0 := bnext (w := w) (by go_grown) hb4
   rw [flat_erase lenQ',HL.out] at ho4
   obtain ⟨sa,sc,rfl,hsl⟩ := owns_shape ho4
   have hk3 := owns_below ho3 hb4
   clear hb3 hb4
   go_wp2_with fail
   go_ret3
   rw [show itCells xs = xs.flatMap cellsX from rfl,flat_erase lenX] at hk3
   exact ⟨_,_,rfl,hb0, .inr ⟨by simp,by omega,by simpa using hk,owns_base HZ3.out hk3,owns_base HZ4.out ho4⟩⟩
 ·rw [if_neg hd0] at hc
  subst hc
  have hcn : (d != 0) = true := by simpa using hd0
  go_enter Tryz.func38,Tryz.ntmps38
  go_wp2_with fail
  refine (CheckPack_any (h1.below (by go_grown)) (h2.below (by go_grown)) (hl.below (by go_grown)) (hp.below (by go_grown)) HD.out).mono ?_
  rintro e w1 ⟨rfl,hb⟩
  replace hb0 := bnext (w := w) (by go_grown) hb
  clear hb
  go_wp2_with fail
  go_ret3
  exact ⟨_,_,rfl,by go_grown, .inl ⟨hd0,rfl,rfl⟩⟩
end Go.Proofs.YtodmidchpbcnpaaGreat
namespace Go.Proofs.YtodmidchpbcnpaaGreat
open Go.RowKit Go.Pb Go.Pb.Ware Go.Pb.Sag


theorem Tryz.infoX3 : (Tryz.prog.info? 32).map (fun i => (i.zero,i.size,i.bytes)) = some (some (.agg #[.int .i64 0, .int .i64 0, .int .i64 0]),3,24) := by kernel_rfl
def RowC (B : Nat) (T : TypeId) (x : Nat) (v : Nat → Value) (n : Nat → Nat) (cs : Nat → List Value) (W : World) : Prop := x = 0 ∨ W.ownsRow B T 3 (v x) (n x) (cs x)
theorem RowC.alloc {B x : Nat} {T : TypeId} {v : Nat → Value} {n : Nat → Nat} {cs : Nat → List Value} {W : World} (h : RowC B T x v n cs W) (o : Obj) : RowC B T x v n cs (W.alloc o) := h.imp id fun h => h.alloc o
theorem RowC.grown {B x T2 n2 : Nat} {T : TypeId} {v : Nat → Value} {n : Nat → Nat} {cs : Nat → List Value} {u : Value} {ys : List Value} {W W' : World} (h : RowC B T x v n cs W) (ho : W.ownsRow B T2 3 u n2 ys) (hT : T ≠ T2) (hg : W.grownBy W' u.ownBlock) : RowC B T x v n cs W' :=
 h.imp id fun h => h.kept hg (apart_types h ho hT)
end Go.Proofs.YtodmidchpbcnpaaGreat