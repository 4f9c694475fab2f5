/- Part of a claim. -/
import Derived.Test.YtodmidchpbcnpaaGreatG78Y
import Derived.Test.YtodmidchpbcnpaaGreatG75Y
import Derived.Test.YtodmidchpbcnpaaGreatKG53Y
import Derived.Test.YtodmidchpbcnpaaGreatKSqY
set_option linter.unusedVariables false
set_option linter.unusedSimpArgs false
namespace Go.Proofs.YtodmidchpbcnpaaGreat
open Go.RowKit Go.Pb Go.Pb.Ware Go.Pb.Sag


theorem it_snoc1 {w : World} {base : Nat} {T : TypeId} {v : Value} {xs : List It} {x : It} {m : Nat} (hm : xs.length = m) (hx : ∀ y ∈ xs ++ [x],I64X y) (h : w.ownsRow base T 3 v (m + 1) (itCells xs ++ cellsX x)) : RowsAt 3 w v ((xs ++ [x]).map rowX) := by
 refine it_rows (base := base) (T := T) ?_ hx
 rw [List.length_append,hm,show itCells (xs ++ [x]) = itCells xs ++ cellsX x by unfold itCells;rw [List.flatMap_append,List.flatMap_singleton]]
 exact h
theorem st_snoc1 {w : World} {base : Nat} {T : TypeId} {v : Value} {qs : List Sq} {q : Sq} {m : Nat} (hm : qs.length = m) (h : w.ownsRow base T 3 v (m + 1) (qs.flatMap cellsQ ++ cellsQ q)) : StAt w v (qs ++ [q]) := by
 refine stAt_of_owns (base := base) (e := T) ?_
 rw [List.length_append,hm,List.flatMap_append,List.flatMap_singleton]
 exact h
theorem ckL_snoc {ss bs : List (List Int)} {s : Bx} {xs : List It} {x : It} (h : ckL ss bs s xs = 0) (hx : itemB ss x = true) (hl : xs.length < 5) : ckL ss bs s (xs ++ [x]) = 0 ∧ feetV ss bs s (xs ++ [x]) = feetV ss bs s xs ++ [footR ss s.cell x] := by
 obtain ⟨h1,h2,h3,h4⟩ := ckL_0 h
 have h5 : ckL ss bs s (xs ++ [x]) = 0 := by
  unfold ckL ckG ckX
  rw [if_pos h1,h2,if_pos rfl,if_pos rfl,if_neg (by rw [List.length_append];simp;omega),if_pos]
  rw [List.all_eq_true]
  intro y hy
  rcases List.mem_append.1 hy with hy | hy
  ·exact h4 y hy
  ·rw [List.mem_singleton.1 hy];exact hx
 exact ⟨h5,by rw [feetV_0 h5,feetV_0 h,List.map_append];rfl⟩
set_option maxRecDepth 100000 in
set_option maxHeartbeats 2000000 in
theorem rAdd {w : World} {vs vb : Value} {ss bs : List (List Int)} (h1 : RowsAt 11 w vs ss) (h2 : RowsAt 7 w vb bs) {lv pv : Value} {xs : List It} {qs : List Sq} {bid bwi bde bce bhi bbe ish imn icl : Int} (hl : RowsAt 3 w lv (xs.map rowX)) (hp : StAt w pv qs) (hi6 : I64X ⟨ish,imn,icl⟩) {r : St × Int} (hr : addA ss bs ⟨bid,bwi,bde,bce,bhi,bbe⟩ xs qs ⟨ish,imn,icl⟩ = r) :
  Calls Tryz.prog 36 #[.agg #[vs,vb], .agg #[.int .i64 bid, .int .i64 bwi, .int .i64 bde, .int .i64 bce, .int .i64 bhi, .int .i64 bbe],lv,pv, .agg #[.int .i64 ish, .int .i64 imn, .int .i64 icl]] w (Ret w (.tuple #[.agg #[.int .i64 (r.1.y : Int), .int .i64 (r.1.x : Int), .bool r.1.turned], .int .i64 r.2])) := by
 obtain ⟨la,lc,rfl,hll⟩ := hl.shape
 rw [List.length_map] at hl hll ⊢
 obtain ⟨pa,pc,rfl,hpl,hpc⟩ := hp.shape
 obtain ⟨d,hd⟩ : ∃ d,ckK ss bs ⟨bid,bwi,bde,bce,bhi,bbe⟩ xs qs = d := ⟨_,rfl⟩
 unfold addA at hr
 rw [hd] at hr
 have HD := hid hd;clear hd
 unfold Ret
 by_cases hd0 : d = 0
 ·subst hd0
  rw [if_pos rfl] at hr
  obtain ⟨k0,kp⟩ := ckK_0 HD.out
  obtain ⟨hw,hX,hx5,hall⟩ := ckL_0 k0
  obtain ⟨fs,hfs⟩ : ∃ fs,feetV ss bs ⟨bid,bwi,bde,bce,bhi,bbe⟩ xs = fs := ⟨_,rfl⟩
  have hfn : fs.length = xs.length := by rw [← hfs,feetV_0 k0];exact List.length_map ..
  have hql : qs.length = fs.length := by rw [← hfs];exact pack_long kp
  have hok : ∀ f ∈ fs,FtOk f := by rw [← hfs];exact feet_ok
  rw [hfs] at hr
  have HFN := hid hfn;have HQL := hid hql;have HX := hid hX;have HW := hid hw;have HK0 := hid k0;have HFS := hid hfs;clear hfn hql kp k0 hfs hX hw hall
  obtain ⟨ib,hib⟩ : ∃ c,itemB ss ⟨ish,imn,icl⟩ = c := ⟨_,rfl⟩
  have hci : ckI ss bs ⟨ish,imn,icl⟩ = (if ib = true then 0 else 21) := by unfold ckI;rw [if_pos HW.out,hib]
  rw [hci] at hr
  have HIB := hid hib;clear hib hci
  skip
  cases ib
  ·have hr2 : r = (⟨0,0,false⟩,21) := by rw [← hr];rfl
   subst hr2
   clear hr
   go_enter Tryz.func36,Tryz.ntmps36
   go_wp2_with fail
   refine (rCheckPack (h1.below (by go_grown)) (h2.below (by go_grown)) (hl.below (by go_grown)) (hp.below (by go_grown)) HD.out).mono ?_
   rintro e w1 ⟨rfl,hb⟩
   replace hb0 := bnext (w := w) (by go_grown) hb;have hz := hb.size;(try simp only [World.size_alloc,World.size_setCell] at hz);replace q0 : w1.cell? ⟨w.heap.size,0,none⟩ = some (vs) := bkeep hb (by first|with_reducible exact q0|with_reducible exact akeep q0|simp[*,go_sem]);replace q1 : w1.cell? ⟨w.heap.size,1,none⟩ = some (vb) := bkeep hb (by first|with_reducible exact q1|with_reducible exact akeep q1|simp[*,go_sem]);replace q2 : w1.cell? ⟨w.heap.size + 1,0,none⟩ = some (.int .i64 bid) := bkeep hb (by first|with_reducible exact q2|with_reducible exact akeep q2|simp[*,go_sem]);replace q3 : w1.cell? ⟨w.heap.size + 1,1,none⟩ = some (.int .i64 bwi) := bkeep hb (by first|with_reducible exact q3|with_reducible exact akeep q3|simp[*,go_sem]);replace q4 : w1.cell? ⟨w.heap.size + 1,2,none⟩ = some (.int .i64 bde) := bkeep hb (by first|with_reducible exact q4|with_reducible exact akeep q4|simp[*,go_sem]);replace q5 : w1.cell? ⟨w.heap.size + 1,3,none⟩ = some (.int .i64 bce) := bkeep hb (by first|with_reducible exact q5|with_reducible exact akeep q5|simp[*,go_sem]);replace q6 : w1.cell? ⟨w.heap.size + 1,4,none⟩ = some (.int .i64 bhi) := bkeep hb (by first|with_reducible exact q6|with_reducible exact akeep q6|simp[*,go_sem]);replace q7 : w1.cell? ⟨w.heap.size + 1,5,none⟩ = some (.int .i64 bbe) := bkeep hb (by first|with_reducible exact q7|with_reducible exact akeep q7|simp[*,go_sem]);replace q8 : w1.cell? ⟨w.heap.size + 2,0,none⟩ = some (.int .i64 ish) := bkeep hb (by first|with_reducible exact q8|with_reducible exact akeep q8|simp[*,go_sem]);replace q9 : w1.cell? ⟨w.heap.size + 2,1,none⟩ = some (.int .i64 imn) := bkeep hb (by first|with_reducible exact q9|with_reducible exact akeep q9|simp[*,go_sem]);replace q10 : w1.cell? ⟨w.heap.size + 2,2,none⟩ = some (.int .i64 icl) := bkeep hb (by first|with_reducible exact q10|with_reducible exact akeep q10|simp[*,go_sem]);replace f11 : w1.frozen? ⟨w.heap.size + 3,0,none⟩ = false := bfree (v := .int .i64 0) hb (by first|with_reducible exact q11|with_reducible exact akeep q11|simp[*,go_sem]) (by first|with_reducible exact f11|with_reducible exact afree q11 f11|simp[*,go_sem]);replace q11 : w1.cell? ⟨w.heap.size + 3,0,none⟩ = some (.int .i64 0) := bkeep hb (by first|with_reducible exact q11|with_reducible exact akeep q11|simp[*,go_sem]);replace f12 : w1.frozen? ⟨w.heap.size + 3,1,none⟩ = false := bfree (v := .int .i64 0) hb (by first|with_reducible exact q12|with_reducible exact akeep q12|simp[*,go_sem]) (by first|with_reducible exact f12|with_reducible exact afree q12 f12|simp[*,go_sem]);replace q12 : w1.cell? ⟨w.heap.size + 3,1,none⟩ = some (.int .i64 0) := bkeep hb (by first|with_reducible exact q12|with_reducible exact akeep q12|simp[*,go_sem]);replace f13 : w1.frozen? ⟨w.heap.size + 3,2,none⟩ = false := bfree (v := .bool false) hb (by first|with_reducible exact q13|with_reducible exact akeep q13|simp[*,go_sem]) (by first|with_reducible exact f13|with_reducible exact afree q13 f13|simp[*,go_sem]);replace q13 : w1.cell? ⟨w.heap.size + 3,2,none⟩ = some (.bool false) := bkeep hb (by first|with_reducible exact q13|with_reducible exact akeep q13|simp[*,go_sem]);clear hb
   go_wp2_with fail
   refine (rIsItem (h1.below (by go_grown)) (h2.below (by go_grown)) HW.out HIB.out).mono ?_
   rintro e w1 ⟨rfl,hb⟩
   replace hb0 := bnext (w := w) (by go_grown) hb;have hz := hb.size;(try simp only [World.size_alloc,World.size_setCell] at hz);replace q0 : w1.cell? ⟨w.heap.size,0,none⟩ = some (vs) := bkeep hb (by first|with_reducible exact q0|with_reducible exact akeep q0|simp[*,go_sem]);replace q1 : w1.cell? ⟨w.heap.size,1,none⟩ = some (vb) := bkeep hb (by first|with_reducible exact q1|with_reducible exact akeep q1|simp[*,go_sem]);replace q2 : w1.cell? ⟨w.heap.size + 1,0,none⟩ = some (.int .i64 bid) := bkeep hb (by first|with_reducible exact q2|with_reducible exact akeep q2|simp[*,go_sem]);replace q3 : w1.cell? ⟨w.heap.size + 1,1,none⟩ = some (.int .i64 bwi) := bkeep hb (by first|with_reducible exact q3|with_reducible exact akeep q3|simp[*,go_sem]);replace q4 : w1.cell? ⟨w.heap.size + 1,2,none⟩ = some (.int .i64 bde) := bkeep hb (by first|with_reducible exact q4|with_reducible exact akeep q4|simp[*,go_sem]);replace q5 : w1.cell? ⟨w.heap.size + 1,3,none⟩ = some (.int .i64 bce) := bkeep hb (by first|with_reducible exact q5|with_reducible exact akeep q5|simp[*,go_sem]);replace q6 : w1.cell? ⟨w.heap.size + 1,4,none⟩ = some (.int .i64 bhi) := bkeep hb (by first|with_reducible exact q6|with_reducible exact akeep q6|simp[*,go_sem]);replace q7 : w1.cell? ⟨w.heap.size + 1,5,none⟩ = some (.int .i64 bbe) := bkeep hb (by first|with_reducible exact q7|with_reducible exact akeep q7|simp[*,go_sem]);replace q8 : w1.cell? ⟨w.heap.size + 2,0,none⟩ = some (.int .i64 ish) := bkeep hb (by first|with_reducible exact q8|with_reducible exact akeep q8|simp[*,go_sem]);replace q9 : w1.cell? ⟨w.heap.size + 2,1,none⟩ = some (.int .i64 imn) := bkeep hb (by first|with_reducible exact q9|with_reducible exact akeep q9|simp[*,go_sem]);replace q10 : w1.cell? ⟨w.heap.size + 2,2,none⟩ = some (.int .i64 icl) := bkeep hb (by first|with_reducible exact q10|with_reducible exact akeep q10|simp[*,go_sem]);replace f11 : w1.frozen? ⟨w.heap.size + 3,0,none⟩ = false := bfree (v := .int .i64 0) hb (by first|with_reducible exact q11|with_reducible exact akeep q11|simp[*,go_sem]) (by first|with_reducible exact f11|with_reducible exact afree q11 f11|simp[*,go_sem]);replace q11 : w1.cell? ⟨w.heap.size + 3,0,none⟩ = some (.int .i64 0) := bkeep hb (by first|with_reducible exact q11|with_reducible exact akeep q11|simp[*,go_sem]);replace f12 : w1.frozen? ⟨w.heap.size + 3,1,none⟩ = false := bfree (v := .int .i64 0) hb (by first|with_reducible exact q12|with_reducible exact akeep q12|simp[*,go_sem]) (by first|with_reducible exact f12|with_reducible exact afree q12 f12|simp[*,go_sem]);replace q12 : w1.cell? ⟨w.heap.size + 3,1,none⟩ = some (.int .i64 0) := bkeep hb (by first|with_reducible exact q12|with_reducible exact akeep q12|simp[*,go_sem]);replace f13 : w1.frozen? ⟨w.heap.size + 3,2,none⟩ = false := bfree (v := .bool false) hb (by first|with_reducible exact q13|with_reducible exact akeep q13|simp[*,go_sem]) (by first|with_reducible exact f13|with_reducible exact afree q13 f13|simp[*,go_sem]);replace q13 : w1.cell? ⟨w.heap.size + 3,2,none⟩ = some (.bool false) := bkeep hb (by first|with_reducible exact q13|with_reducible exact akeep q13|simp[*,go_sem]);clear hb
   go_wp2_with fail
   exact bodyPost_ret (v := .tuple #[.agg #[.int .i64 0, .int .i64 0, .bool false], .int .i64 21]) (by simp [results,Tryz.results36,go_sem, *]) rfl ⟨rfl,by go_grown⟩
  ·simp only [if_true] at hr
   by_cases h5 : xs.length = 5
   ·rw [if_pos h5] at hr
    subst hr
    have H5 : (xs.length : Int) = 5 := by omega
    clear h5
    go_enter Tryz.func36,Tryz.ntmps36
    go_wp2_with fail
    refine (rCheckPack (h1.below (by go_grown)) (h2.below (by go_grown)) (hl.below (by go_grown)) (hp.below (by go_grown)) HD.out).mono ?_
    rintro e w1 ⟨rfl,hb⟩
    replace hb0 := bnext (w := w) (by go_grown) hb;have hz := hb.size;(try simp only [World.size_alloc,World.size_setCell] at hz);replace q0 : w1.cell? ⟨w.heap.size,0,none⟩ = some (vs) := bkeep hb (by first|with_reducible exact q0|with_reducible exact akeep q0|simp[*,go_sem]);replace q1 : w1.cell? ⟨w.heap.size,1,none⟩ = some (vb) := bkeep hb (by first|with_reducible exact q1|with_reducible exact akeep q1|simp[*,go_sem]);replace q2 : w1.cell? ⟨w.heap.size + 1,0,none⟩ = some (.int .i64 bid) := bkeep hb (by first|with_reducible exact q2|with_reducible exact akeep q2|simp[*,go_sem]);replace q3 : w1.cell? ⟨w.heap.size + 1,1,none⟩ = some (.int .i64 bwi) := bkeep hb (by first|with_reducible exact q3|with_reducible exact akeep q3|simp[*,go_sem]);replace q4 : w1.cell? ⟨w.heap.size + 1,2,none⟩ = some (.int .i64 bde) := bkeep hb (by first|with_reducible exact q4|with_reducible exact akeep q4|simp[*,go_sem]);replace q5 : w1.cell? ⟨w.heap.size + 1,3,none⟩ = some (.int .i64 bce) := bkeep hb (by first|with_reducible exact q5|with_reducible exact akeep q5|simp[*,go_sem]);replace q6 : w1.cell? ⟨w.heap.size + 1,4,none⟩ = some (.int .i64 bhi) := bkeep hb (by first|with_reducible exact q6|with_reducible exact akeep q6|simp[*,go_sem]);replace q7 : w1.cell? ⟨w.heap.size + 1,5,none⟩ = some (.int .i64 bbe) := bkeep hb (by first|with_reducible exact q7|with_reducible exact akeep q7|simp[*,go_sem]);replace q8 : w1.cell? ⟨w.heap.size + 2,0,none⟩ = some (.int .i64 ish) := bkeep hb (by first|with_reducible exact q8|with_reducible exact akeep q8|simp[*,go_sem]);replace q9 : w1.cell? ⟨w.heap.size + 2,1,none⟩ = some (.int .i64 imn) := bkeep hb (by first|with_reducible exact q9|with_reducible exact akeep q9|simp[*,go_sem]);replace q10 : w1.cell? ⟨w.heap.size + 2,2,none⟩ = some (.int .i64 icl) := bkeep hb (by first|with_reducible exact q10|with_reducible exact akeep q10|simp[*,go_sem]);replace f11 : w1.frozen? ⟨w.heap.size + 3,0,none⟩ = false := bfree (v := .int .i64 0) hb (by first|with_reducible exact q11|with_reducible exact akeep q11|simp[*,go_sem]) (by first|with_reducible exact f11|with_reducible exact afree q11 f11|simp[*,go_sem]);replace q11 : w1.cell? ⟨w.heap.size + 3,0,none⟩ = some (.int .i64 0) := bkeep hb (by first|with_reducible exact q11|with_reducible exact akeep q11|simp[*,go_sem]);replace f12 : w1.frozen? ⟨w.heap.size + 3,1,none⟩ = false := bfree (v := .int .i64 0) hb (by first|with_reducible exact q12|with_reducible exact akeep q12|simp[*,go_sem]) (by first|with_reducible exact f12|with_reducible exact afree q12 f12|simp[*,go_sem]);replace q12 : w1.cell? ⟨w.heap.size + 3,1,none⟩ = some (.int .i64 0) := bkeep hb (by first|with_reducible exact q12|with_reducible exact akeep q12|simp[*,go_sem]);replace f13 : w1.frozen? ⟨w.heap.size + 3,2,none⟩ = false := bfree (v := .bool false) hb (by first|with_reducible exact q13|with_reducible exact akeep q13|simp[*,go_sem]) (by first|with_reducible exact f13|with_reducible exact afree q13 f13|simp[*,go_sem]);replace q13 : w1.cell? ⟨w.heap.size + 3,2,none⟩ = some (.bool false) := bkeep hb (by first|with_reducible exact q13|with_reducible exact akeep q13|simp[*,go_sem]);clear hb
    go_wp2_with fail
    refine (rIsItem (h1.below (by go_grown)) (h2.below (by go_grown)) HW.out HIB.out).mono ?_
    rintro e w1 ⟨rfl,hb⟩
    replace hb0 := bnext (w := w) (by go_grown) hb;have hz := hb.size;(try simp only [World.size_alloc,World.size_setCell] at hz);replace q0 : w1.cell? ⟨w.heap.size,0,none⟩ = some (vs) := bkeep hb (by first|with_reducible exact q0|with_reducible exact akeep q0|simp[*,go_sem]);replace q1 : w1.cell? ⟨w.heap.size,1,none⟩ = some (vb) := bkeep hb (by first|with_reducible exact q1|with_reducible exact akeep q1|simp[*,go_sem]);replace q2 : w1.cell? ⟨w.heap.size + 1,0,none⟩ = some (.int .i64 bid) := bkeep hb (by first|with_reducible exact q2|with_reducible exact akeep q2|simp[*,go_sem]);replace q3 : w1.cell? ⟨w.heap.size + 1,1,none⟩ = some (.int .i64 bwi) := bkeep hb (by first|with_reducible exact q3|with_reducible exact akeep q3|simp[*,go_sem]);replace q4 : w1.cell? ⟨w.heap.size + 1,2,none⟩ = some (.int .i64 bde) := bkeep hb (by first|with_reducible exact q4|with_reducible exact akeep q4|simp[*,go_sem]);replace q5 : w1.cell? ⟨w.heap.size + 1,3,none⟩ = some (.int .i64 bce) := bkeep hb (by first|with_reducible exact q5|with_reducible exact akeep q5|simp[*,go_sem]);replace q6 : w1.cell? ⟨w.heap.size + 1,4,none⟩ = some (.int .i64 bhi) := bkeep hb (by first|with_reducible exact q6|with_reducible exact akeep q6|simp[*,go_sem]);replace q7 : w1.cell? ⟨w.heap.size + 1,5,none⟩ = some (.int .i64 bbe) := bkeep hb (by first|with_reducible exact q7|with_reducible exact akeep q7|simp[*,go_sem]);replace q8 : w1.cell? ⟨w.heap.size + 2,0,none⟩ = some (.int .i64 ish) := bkeep hb (by first|with_reducible exact q8|with_reducible exact akeep q8|simp[*,go_sem]);replace q9 : w1.cell? ⟨w.heap.size + 2,1,none⟩ = some (.int .i64 imn) := bkeep hb (by first|with_reducible exact q9|with_reducible exact akeep q9|simp[*,go_sem]);replace q10 : w1.cell? ⟨w.heap.size + 2,2,none⟩ = some (.int .i64 icl) := bkeep hb (by first|with_reducible exact q10|with_reducible exact akeep q10|simp[*,go_sem]);replace f11 : w1.frozen? ⟨w.heap.size + 3,0,none⟩ = false := bfree (v := .int .i64 0) hb (by first|with_reducible exact q11|with_reducible exact akeep q11|simp[*,go_sem]) (by first|with_reducible exact f11|with_reducible exact afree q11 f11|simp[*,go_sem]);replace q11 : w1.cell? ⟨w.heap.size + 3,0,none⟩ = some (.int .i64 0) := bkeep hb (by first|with_reducible exact q11|with_reducible exact akeep q11|simp[*,go_sem]);replace f12 : w1.frozen? ⟨w.heap.size + 3,1,none⟩ = false := bfree (v := .int .i64 0) hb (by first|with_reducible exact q12|with_reducible exact akeep q12|simp[*,go_sem]) (by first|with_reducible exact f12|with_reducible exact afree q12 f12|simp[*,go_sem]);replace q12 : w1.cell? ⟨w.heap.size + 3,1,none⟩ = some (.int .i64 0) := bkeep hb (by first|with_reducible exact q12|with_reducible exact akeep q12|simp[*,go_sem]);replace f13 : w1.frozen? ⟨w.heap.size + 3,2,none⟩ = false := bfree (v := .bool false) hb (by first|with_reducible exact q13|with_reducible exact akeep q13|simp[*,go_sem]) (by first|with_reducible exact f13|with_reducible exact afree q13 f13|simp[*,go_sem]);replace q13 : w1.cell? ⟨w.heap.size + 3,2,none⟩ = some (.bool false) := bkeep hb (by first|with_reducible exact q13|with_reducible exact akeep q13|simp[*,go_sem]);clear hb
    go_wp2_with fail
    exact bodyPost_ret (v := .tuple #[.agg #[.int .i64 0, .int .i64 0, .bool false], .int .i64 2]) (by simp [results,Tryz.results36,go_sem, *]) rfl ⟨rfl,by go_grown⟩
   ·rw [if_neg h5] at hr
    have H5 : ((xs.length : Int) == 5) = false := by simp;omega
    have hx4 : xs.length < 5 := by omega
    clear h5
    go_enter Tryz.func36,Tryz.ntmps36
    go_wp2_with fail
    refine (rCheckPack (h1.below (by go_grown)) (h2.below (by go_grown)) (hl.below (by go_grown)) (hp.below (by go_grown)) HD.out).mono ?_
    rintro e w1 ⟨rfl,hb⟩
    replace hb0 := bnext (w := w) (by go_grown) hb;have hz := hb.size;(try simp only [World.size_alloc,World.size_setCell] at hz);replace q0 : w1.cell? ⟨w.heap.size,0,none⟩ = some (vs) := bkeep hb (by first|with_reducible exact q0|with_reducible exact akeep q0|simp[*,go_sem]);replace q1 : w1.cell? ⟨w.heap.size,1,none⟩ = some (vb) := bkeep hb (by first|with_reducible exact q1|with_reducible exact akeep q1|simp[*,go_sem]);replace q2 : w1.cell? ⟨w.heap.size + 1,0,none⟩ = some (.int .i64 bid) := bkeep hb (by first|with_reducible exact q2|with_reducible exact akeep q2|simp[*,go_sem]);replace q3 : w1.cell? ⟨w.heap.size + 1,1,none⟩ = some (.int .i64 bwi) := bkeep hb (by first|with_reducible exact q3|with_reducible exact akeep q3|simp[*,go_sem]);replace q4 : w1.cell? ⟨w.heap.size + 1,2,none⟩ = some (.int .i64 bde) := bkeep hb (by first|with_reducible exact q4|with_reducible exact akeep q4|simp[*,go_sem]);replace q5 : w1.cell? ⟨w.heap.size + 1,3,none⟩ = some (.int .i64 bce) := bkeep hb (by first|with_reducible exact q5|with_reducible exact akeep q5|simp[*,go_sem]);replace q6 : w1.cell? ⟨w.heap.size + 1,4,none⟩ = some (.int .i64 bhi) := bkeep hb (by first|with_reducible exact q6|with_reducible exact akeep q6|simp[*,go_sem]);replace q7 : w1.cell? ⟨w.heap.size + 1,5,none⟩ = some (.int .i64 bbe) := bkeep hb (by first|with_reducible exact q7|with_reducible exact akeep q7|simp[*,go_sem]);replace q8 : w1.cell? ⟨w.heap.size + 2,0,none⟩ = some (.int .i64 ish) := bkeep hb (by first|with_reducible exact q8|with_reducible exact akeep q8|simp[*,go_sem]);replace q9 : w1.cell? ⟨w.heap.size + 2,1,none⟩ = some (.int .i64 imn) := bkeep hb (by first|with_reducible exact q9|with_reducible exact akeep q9|simp[*,go_sem]);replace q10 : w1.cell? ⟨w.heap.size + 2,2,none⟩ = some (.int .i64 icl) := bkeep hb (by first|with_reducible exact q10|with_reducible exact akeep q10|simp[*,go_sem]);replace f11 : w1.frozen? ⟨w.heap.size + 3,0,none⟩ = false := bfree (v := .int .i64 0) hb (by first|with_reducible exact q11|with_reducible exact akeep q11|simp[*,go_sem]) (by first|with_reducible exact f11|with_reducible exact afree q11 f11|simp[*,go_sem]);replace q11 : w1.cell? ⟨w.heap.size + 3,0,none⟩ = some (.int .i64 0) := bkeep hb (by first|with_reducible exact q11|with_reducible exact akeep q11|simp[*,go_sem]);replace f12 : w1.frozen? ⟨w.heap.size + 3,1,none⟩ = false := bfree (v := .int .i64 0) hb (by first|with_reducible exact q12|with_reducible exact akeep q12|simp[*,go_sem]) (by first|with_reducible exact f12|with_reducible exact afree q12 f12|simp[*,go_sem]);replace q12 : w1.cell? ⟨w.heap.size + 3,1,none⟩ = some (.int .i64 0) := bkeep hb (by first|with_reducible exact q12|with_reducible exact akeep q12|simp[*,go_sem]);replace f13 : w1.frozen? ⟨w.heap.size + 3,2,none⟩ = false := bfree (v := .bool false) hb (by first|with_reducible exact q13|with_reducible exact akeep q13|simp[*,go_sem]) (by first|with_reducible exact f13|with_reducible exact afree q13 f13|simp[*,go_sem]);replace q13 : w1.cell? ⟨w.heap.size + 3,2,none⟩ = some (.bool false) := bkeep hb (by first|with_reducible exact q13|with_reducible exact akeep q13|simp[*,go_sem]);clear hb
    go_wp2_with fail
    refine (rIsItem (h1.below (by go_grown)) (h2.below (by go_grown)) HW.out HIB.out).mono ?_
    rintro e w1 ⟨rfl,hb⟩
    replace hb0 := bnext (w := w) (by go_grown) hb;have hz := hb.size;(try simp only [World.size_alloc,World.size_setCell] at hz);replace q0 : w1.cell? ⟨w.heap.size,0,none⟩ = some (vs) := bkeep hb (by first|with_reducible exact q0|with_reducible exact akeep q0|simp[*,go_sem]);replace q1 : w1.cell? ⟨w.heap.size,1,none⟩ = some (vb) := bkeep hb (by first|with_reducible exact q1|with_reducible exact akeep q1|simp[*,go_sem]);replace q2 : w1.cell? ⟨w.heap.size + 1,0,none⟩ = some (.int .i64 bid) := bkeep hb (by first|with_reducible exact q2|with_reducible exact akeep q2|simp[*,go_sem]);replace q3 : w1.cell? ⟨w.heap.size + 1,1,none⟩ = some (.int .i64 bwi) := bkeep hb (by first|with_reducible exact q3|with_reducible exact akeep q3|simp[*,go_sem]);replace q4 : w1.cell? ⟨w.heap.size + 1,2,none⟩ = some (.int .i64 bde) := bkeep hb (by first|with_reducible exact q4|with_reducible exact akeep q4|simp[*,go_sem]);replace q5 : w1.cell? ⟨w.heap.size + 1,3,none⟩ = some (.int .i64 bce) := bkeep hb (by first|with_reducible exact q5|with_reducible exact akeep q5|simp[*,go_sem]);replace q6 : w1.cell? ⟨w.heap.size + 1,4,none⟩ = some (.int .i64 bhi) := bkeep hb (by first|with_reducible exact q6|with_reducible exact akeep q6|simp[*,go_sem]);replace q7 : w1.cell? ⟨w.heap.size + 1,5,none⟩ = some (.int .i64 bbe) := bkeep hb (by first|with_reducible exact q7|with_reducible exact akeep q7|simp[*,go_sem]);replace q8 : w1.cell? ⟨w.heap.size + 2,0,none⟩ = some (.int .i64 ish) := bkeep hb (by first|with_reducible exact q8|with_reducible exact akeep q8|simp[*,go_sem]);replace q9 : w1.cell? ⟨w.heap.size + 2,1,none⟩ = some (.int .i64 imn) := bkeep hb (by first|with_reducible exact q9|with_reducible exact akeep q9|simp[*,go_sem]);replace q10 : w1.cell? ⟨w.heap.size + 2,2,none⟩ = some (.int .i64 icl) := bkeep hb (by first|with_reducible exact q10|with_reducible exact akeep q10|simp[*,go_sem]);replace f11 : w1.frozen? ⟨w.heap.size + 3,0,none⟩ = false := bfree (v := .int .i64 0) hb (by first|with_reducible exact q11|with_reducible exact akeep q11|simp[*,go_sem]) (by first|with_reducible exact f11|with_reducible exact afree q11 f11|simp[*,go_sem]);replace q11 : w1.cell? ⟨w.heap.size + 3,0,none⟩ = some (.int .i64 0) := bkeep hb (by first|with_reducible exact q11|with_reducible exact akeep q11|simp[*,go_sem]);replace f12 : w1.frozen? ⟨w.heap.size + 3,1,none⟩ = false := bfree (v := .int .i64 0) hb (by first|with_reducible exact q12|with_reducible exact akeep q12|simp[*,go_sem]) (by first|with_reducible exact f12|with_reducible exact afree q12 f12|simp[*,go_sem]);replace q12 : w1.cell? ⟨w.heap.size + 3,1,none⟩ = some (.int .i64 0) := bkeep hb (by first|with_reducible exact q12|with_reducible exact akeep q12|simp[*,go_sem]);replace f13 : w1.frozen? ⟨w.heap.size + 3,2,none⟩ = false := bfree (v := .bool false) hb (by first|with_reducible exact q13|with_reducible exact akeep q13|simp[*,go_sem]) (by first|with_reducible exact f13|with_reducible exact afree q13 f13|simp[*,go_sem]);replace q13 : w1.cell? ⟨w.heap.size + 3,2,none⟩ = some (.bool false) := bkeep hb (by first|with_reducible exact q13|with_reducible exact akeep q13|simp[*,go_sem]);clear hb
    obtain ⟨i0,hi,hz0,hz1,hz2⟩ := info_parts Tryz.infoX3
    obtain ⟨i1,hj,hy0,hy1,hy2⟩ := info_parts Tryz.infoS
    have hi64 : ∀ y ∈ xs ++ [(⟨ish,imn,icl⟩ : It)],I64X y := fun y hy => by (rcases List.mem_append.1 hy with h | h);(obtain ⟨k,hk⟩ := List.getElem?_of_mem h;exact it_i64 (show RowsAt 3 w (.slice la xs.length lc) (xs.map rowX) from hl) hk);(rw [List.mem_singleton.1 h];exact hi6)
    have hlat := (it_lat hl).below hb0
    have hplat := (st_lat hp).below hb0
    obtain ⟨hsn,hfs2⟩ := ckL_snoc HK0.out HIB.out hx4
    rw [HFS.out] at hfs2
    obtain ⟨-, -, -,hall2⟩ := ckL_0 hsn
    have hfo := foot_okR HW.out HX.out HIB.out
    obtain ⟨f,hf⟩ : ∃ f,footR ss bce ⟨ish,imn,icl⟩ = f := ⟨_,rfl⟩
    dsimp only at hr hfs2 hfo
    rw [hf] at hr hfs2 hfo
    obtain ⟨fw,fd,fh,fg⟩ := f
    have hfv := (feetV_0 hsn).symm
    rw [hfs2] at hfv
    dsimp only at hfv
    have h1b := h1.below hb0;have h2b := h2.below hb0
    have HLAT := hid hlat;have HPL := hid hplat;have H1 := hid h1b;have H2 := hid h2b;have HI64 := hid hi64;have HFV := hid hfv;have HALL := hid (show (xs ++ [(⟨ish,imn,icl⟩ : It)]).all (itemB ss) = true from List.all_eq_true.2 hall2);have HFO := hid hfo;have HF := hid hf;clear hlat hplat h1b h2b h1 h2 hl hi64 hsn hfs2 hall2 hf hfv hfo
    obtain ⟨n,hn⟩ : ∃ n,xs.length = n := ⟨_,rfl⟩
    have HN := hid hn
    rw [hn] at hx4 hx5 hll H5 HLAT ⊢
    clear hn
    obtain ⟨v6,hv6⟩ : ∃ v,v = w1 := ⟨_,rfl⟩
    subst hv6
    go_upto_region 8 with fail
    refine wp_region_G (fun V => Below v6.heap.size v6 V) (fun V hV => hV) [0,1,3,5] (by kernel_rfl) [(2,NewEmpty v6.heap.size 32),(4,fun v W9 => W9.ownsRow v6.heap.size 32 3 v n (itCells xs)),(6,NewList v6.heap.size 1 [.int .i64 ish, .int .i64 imn, .int .i64 icl])] [2,4,6] 3 (by kernel_rfl) rfl (by simp only [List.forall_mem_cons];exact ⟨keeps_empty,keeps_owns,keeps_list,fun _ h => by cases h⟩) (by kernel_rfl) ?_
    refine ⟨_, .agg #[vs,vb],rfl,⟨rfl,fun V hV => by (try dsimp only at hV);have h20 := bkeep hV q0;have h21 := bkeep hV q1;go_simp⟩, ?_⟩
    simp only [Act.put,List.getElem_toArray,List.getElem_cons_succ,List.getElem_cons_zero,List.setIfInBounds_toArray,List.set_cons_succ,List.set_cons_zero]
    refine ⟨_, .agg #[.int .i64 bid, .int .i64 bwi, .int .i64 bde, .int .i64 bce, .int .i64 bhi, .int .i64 bbe],rfl,⟨rfl,fun V hV => by (try dsimp only at hV);have h22 := bkeep hV q2;have h23 := bkeep hV q3;have h24 := bkeep hV q4;have h25 := bkeep hV q5;have h26 := bkeep hV q6;have h27 := bkeep hV q7;go_simp⟩, ?_⟩
    simp only [Act.put,List.getElem_toArray,List.getElem_cons_succ,List.getElem_cons_zero,List.setIfInBounds_toArray,List.set_cons_succ,List.set_cons_zero]
    refine ⟨_, .slice la n lc,rfl,⟨rfl,fun V hV => by (try dsimp only at hV);go_simp⟩, ?_⟩
    simp only [Act.put,List.getElem_toArray,List.getElem_cons_succ,List.getElem_cons_zero,List.setIfInBounds_toArray,List.set_cons_succ,List.set_cons_zero]
    refine ⟨_, .agg #[.int .i64 ish, .int .i64 imn, .int .i64 icl],rfl,⟨rfl,fun V hV => by (try dsimp only at hV);have h28 := bkeep hV q8;have h29 := bkeep hV q9;have h30 := bkeep hV q10;go_simp⟩, ?_⟩
    simp only [Act.put,List.getElem_toArray,List.getElem_cons_succ,List.getElem_cons_zero,List.setIfInBounds_toArray,List.set_cons_succ,List.set_cons_zero]
    simp only [numbered,List.filterMap_cons,List.filterMap_nil,List.getElem?_toArray,List.getElem?_cons_succ,List.getElem?_cons_zero,Option.map_some]
    show wpS _ _ _ _ _ _ _ [(_,_),(_,_),(_,_)] _ _
    refine wpS_fresh rfl rfl (fun w' hb hF => ?_) ?_
    ·change freshAt _ _ _ (NewEmpty v6.heap.size 32) _;unfold freshAt;go_simp;exact empty_of hb
    intro v W hv;simp only [pOf,List.lookup_cons,Nat.reduceBEq,beq_self_eq_true] at hv;have hv0 := hv;obtain ⟨B0,hB0,rfl, -⟩ := hv
    simp only [Act.put,List.setIfInBounds_toArray,List.set_cons_succ,List.set_cons_zero]
    refine wpS_fresh rfl rfl (fun w' hb hF => ?_) ?_
    ·change freshAt _ _ _ (fun v W9 => W9.ownsRow v6.heap.size 32 3 v n (itCells xs)) _;have h0 : NewEmpty v6.heap.size 32 _ w' := hF 2 _ rfl (by kernel_rfl);exact fresh_append_lat (.tmp 42) (.tmp 43) 28 rfl v6.heap.size 32 i0 (.agg #[.int .i64 0, .int .i64 0, .int .i64 0]) 3 24 Tryz.underlying28 hi hz0 hz1 hz2 rfl (by decide) (.slice (some ⟨B0,0,none⟩) 0 0) rfl h0 _ n (itCells xs) rfl (HLAT.out.below hb) (by unfold maxLen;omega) (by omega) hb.size
    intro v W hv;simp only [pOf,List.lookup_cons,Nat.reduceBEq,beq_self_eq_true] at hv;have hv8 := hv;obtain ⟨ba8,bc8,rfl, -⟩ := owns_shape hv8
    simp only [Act.put,List.setIfInBounds_toArray,List.set_cons_succ,List.set_cons_zero]
    refine wpS_fresh rfl rfl (fun w' hb hF => ?_) ?_
    ·change freshAt _ _ _ (NewList v6.heap.size 1 [.int .i64 ish, .int .i64 imn, .int .i64 icl]) _;unfold freshAt;go_simp;exact list_of hb
    intro v W hv;simp only [pOf,List.lookup_cons,Nat.reduceBEq,beq_self_eq_true] at hv;obtain ⟨B10,hB10,rfl, -⟩ := hv
    simp only [Act.put,List.setIfInBounds_toArray,List.set_cons_succ,List.set_cons_zero]
    refine wpS_nil ?_
    intro w7 hall
    have hb := hall.1
    have h8 : w7.ownsRow v6.heap.size 32 3 _ n _ := hall.2 4 _ rfl
    have h10 : NewList v6.heap.size 1 [.int .i64 ish, .int .i64 imn, .int .i64 icl] _ w7 := hall.2 6 _ rfl
    obtain ⟨B',hB',hv',hn'⟩ := h10
    obtain rfl : B10 = B' := by simpa using hv'
    clear hall
    refine wpAnyC_op (r := 7) hb (by kernel_rfl) rfl rfl (fun K hK => ?_)
    refine wp_append_own w7 (.tmp 44) (.tmp 46) 28 rfl v6.heap.size 32 i0 (.agg #[.int .i64 0, .int .i64 0, .int .i64 0]) 3 24 Tryz.underlying28 hi hz0 hz1 hz2 rfl (by decide) (.slice ba8 n bc8) n _ rfl h8 ⟨B10,0,none⟩ 1 1 [.int .i64 ish, .int .i64 imn, .int .i64 icl] rfl rfl (fun j u h => by rw [Go.WideShapes.add_plain,Nat.zero_add];exact (hn' j u h).1) (fun u h => by simp only [List.mem_cons,List.not_mem_nil,or_false] at h;rcases h with rfl | rfl | rfl <;> rfl) (by unfold maxLen;omega) (by omega) hb.size ?_
    intro v35 w8 ho3 hg3 hnil3
    refine hK _ _ ?_
    clear hK K hnil3
    have hb3 : Below v6.heap.size v6 w8 := below_grown hb hg3 h8 hb.size (Nat.le_refl _)
    obtain ⟨xa,xc,rfl, -⟩ := owns_shape ho3
    clear hg3 h8 hb hn' hv'
    have hrow := it_snoc1 HN.out HI64.out (show World.ownsRow w8 v6.heap.size 32 3 (.slice xa (n + 1) xc) (n + 1) (itCells xs ++ cellsX ⟨ish,imn,icl⟩) from ho3)
    have HROW := hid hrow;clear hrow ho3
    refine wpAnyC_op (r := 8) hb3 (by kernel_rfl) rfl rfl (fun K hK => ?_)
    go_simp
    refine (rfeet_any (H1.out.below hb3) (H2.out.below hb3) HROW.out (by rw [List.length_append,HN.out];simp;omega) HW.out HX.out HALL.out).mono ?_
    rintro e w9 ⟨fv,rfl,hb9,ho9⟩
    dsimp only
    refine hK _ _ ?_
    clear hK K HROW
    have hb4 := hb3.trans (hb9.mono hb3.size)
    refine wpAnyC_op (r := 9) hb4 (by kernel_rfl) rfl rfl (fun K hK => ?_)
    go_simp
    refine hK _ _ ?_;clear hK K
    refine wpAnyC_end hb4 (by kernel_rfl) ?_
    refine ⟨rfl, ?_⟩
    rw [HFV.out] at ho9
    have hok2 : ∀ f ∈ (fs ++ [(⟨fw,fd,fh,fg⟩ : Ft)]),FtOk f := fun f hf => by rcases List.mem_append.1 hf with h | h;exact hok f h;rw [List.mem_singleton.1 h];exact HFO.out
    have hfa := feetAt_of_owns hok2 ho9
    have hfl : (fs ++ [(⟨fw,fd,fh,fg⟩ : Ft)]).length = n + 1 := by rw [List.length_append,HFN.out,HN.out];rfl
    rw [hfl] at ho9
    obtain ⟨fa,fc,rfl, -⟩ := owns_shape ho9
    have HFA := hid hfa;have HOK2 := hid hok2;have HFL := hid hfl;clear hfa hok2 hfl ho9
    have hbn := bnext (w := w) hb0 hb4
    replace q0 := bkeep hb4 q0
    replace q1 := bkeep hb4 q1
    replace q2 := bkeep hb4 q2
    replace q3 := bkeep hb4 q3
    replace q4 := bkeep hb4 q4
    replace q5 := bkeep hb4 q5
    replace q6 := bkeep hb4 q6
    replace q7 := bkeep hb4 q7
    replace q8 := bkeep hb4 q8
    replace q9 := bkeep hb4 q9
    replace q10 := bkeep hb4 q10
    replace f11 := bfree hb4 q11 f11
    replace f12 := bfree hb4 q12 f12
    replace f13 := bfree hb4 q13 f13
    replace q11 := bkeep hb4 q11
    replace q12 := bkeep hb4 q12
    replace q13 := bkeep hb4 q13
    have HPL9 := hid (HPL.out.below hb4)
    have HP9 := hid (hp.below hbn)
    clear hb9 hb3 hb4 hb0 HPL hp HLAT H1 H2 HI64 HALL HFV
    obtain ⟨v9,hv9⟩ : ∃ v,v = w9 := ⟨_,rfl⟩
    subst hv9
    go_upto_region 9 with fail
    have hnN : (n : Int) < ((n + 1 : Nat) : Int) := by omega
    have hnN2 : (n : Int) < (n : Int) + 1 := by omega
    obtain ⟨a',ha',hrl,hc0,hcc⟩ := (show RowsAt 4 v9 (.slice fa ((fs ++ [(⟨fw,fd,fh,fg⟩ : Ft)]).map rowF).length fc) ((fs ++ [(⟨fw,fd,fh,fg⟩ : Ft)]).map rowF) by rw [List.length_map,HFL.out];exact HFA.out).row (k := n) (by rw [List.length_map,HFL.out];omega)
    subst ha'
    have hat : ((fs ++ [(⟨fw,fd,fh,fg⟩ : Ft)]).map rowF)[n]'(by rw [List.length_map,HFL.out];omega) = [fw,fd,fh,fg] := by rw [List.getElem_map,List.getElem_append_right (by rw [HFN.out,HN.out];exact Nat.le_refl _)];simp [rowF,HFN.out,HN.out]
    rw [hat] at hc0 hcc
    have s0 := hc0 _ rfl
    have s1 := hcc 1 _ (by decide) rfl
    have s2 := hcc 2 _ (by decide) rfl
    have s3 := hcc 3 _ (by decide) rfl
    clear hc0 hcc hat hrl
    obtain ⟨SL,hSL⟩ : ∃ l,standsL ⟨bid,bwi,bde,bce,bhi,bbe⟩ (⟨fw,fd,fh,fg⟩ : Ft) = l := ⟨_,rfl⟩
    have HSL := hid hSL;clear hSL
    have hstc : ∀ W' : World,Below v9.heap.size v9 W' → Calls Tryz.prog 65 #[.agg #[.int .i64 bid, .int .i64 bwi, .int .i64 bde, .int .i64 bce, .int .i64 bhi, .int .i64 bbe], .agg #[.int .i64 fw, .int .i64 fd, .int .i64 fh, .int .i64 fg]] W' (fun e w'' => ∃ v,e = .returned v ∧ Below W'.heap.size W' w'' ∧ w''.ownsRow v9.heap.size 62 3 v SL.length (SL.flatMap cellsP)) := fun W' hb => by
     refine (rstands_any2 HX.out HFO.out).mono ?_
     rintro e w'' ⟨v,rfl,h2,h3⟩
     rw [HSL.out] at h3
     exact ⟨v,rfl,h2,owns_base hb.size h3⟩
    have HST := hid hstc;clear hstc
    refine wp_region_Rs [(6,fun v W => W.ownsRow v9.heap.size 62 3 v SL.length (SL.flatMap cellsP))] [0,1,2,3,4,5,6,7,8] 0 (by kernel_rfl) rfl (by simp only [List.forall_mem_cons];exact ⟨keeps_owns,fun _ h => by cases h⟩) (by kernel_rfl) ?_
    simp only [numbered,List.filterMap_cons,List.filterMap_nil,List.getElem?_toArray,List.getElem?_cons_succ,List.getElem?_cons_zero,Option.map_some]
    show wpS _ _ _ _ _ _ _ [(_,_),(_,_),(_,_),(_,_),(_,_),(_,_),(_,_),(_,_),(_,_)] _ _
    (refine wpS_quiet rfl rfl ?_;intro K hK inst hx;have zq2 := fun x => (fun _ => bkeep (BQ.below x) q2) (hx x);have zq3 := fun x => (fun _ => bkeep (BQ.below x) q3) (hx x);have zq4 := fun x => (fun _ => bkeep (BQ.below x) q4) (hx x);have zq5 := fun x => (fun _ => bkeep (BQ.below x) q5) (hx x);have zq6 := fun x => (fun _ => bkeep (BQ.below x) q6) (hx x);have zq7 := fun x => (fun _ => bkeep (BQ.below x) q7) (hx x);go_big_quiet_op;(first | go_big_quiet_on | (refine ⟨_,fun _ => rfl, ?_⟩;go_big_quiet_on));clear hx inst)
    (refine wpS_quiet rfl rfl ?_;intro K hK inst hx;go_big_quiet_op;(first | go_big_quiet_on | (refine ⟨_,fun _ => rfl, ?_⟩;go_big_quiet_on));clear hx inst)
    (refine wpS_quiet rfl rfl ?_;intro K hK inst hx;go_big_quiet_op;(first | go_big_quiet_on | (refine ⟨_,fun _ => rfl, ?_⟩;go_big_quiet_on));clear hx inst)
    (refine wpS_quiet rfl rfl ?_;intro K hK inst hx;go_big_quiet_op;(first | go_big_quiet_on | (refine ⟨_,fun _ => rfl, ?_⟩;go_big_quiet_on));clear hx inst)
    (refine wpS_quiet rfl rfl ?_;intro K hK inst hx;go_big_quiet_op;(first | go_big_quiet_on | (refine ⟨_,fun _ => rfl, ?_⟩;go_big_quiet_on));clear hx inst)
    (refine wpS_quiet rfl rfl ?_;intro K hK inst hx;have zs0 := fun x => (fun _ => bkeep (BQ.below x) s0) (hx x);have zs1 := fun x => (fun _ => bkeep (BQ.below x) s1) (hx x);have zs2 := fun x => (fun _ => bkeep (BQ.below x) s2) (hx x);have zs3 := fun x => (fun _ => bkeep (BQ.below x) s3) (hx x);go_big_quiet_op;(first | go_big_quiet_on | (refine ⟨_,fun _ => rfl, ?_⟩;go_big_quiet_on));clear hx inst)
    refine wpS_fresh rfl rfl (fun w' hb hF => ?_) ?_
    ·change freshAt _ _ _ (fun v W => W.ownsRow v9.heap.size 62 3 v SL.length (SL.flatMap cellsP)) _;unfold freshAt;go_simp;exact HST.out _ hb
    intro v W hv;simp only [pOf,List.lookup_cons,Nat.reduceBEq,beq_self_eq_true] at hv;obtain ⟨sa,sc,rfl, -⟩ := owns_shape hv
    simp only [Act.put,List.setIfInBounds_toArray,List.set_cons_succ,List.set_cons_zero]
    (refine wpS_quiet rfl rfl ?_;intro K hK inst hx;go_big_quiet_op;(first | go_big_quiet_on | (refine ⟨_,fun _ => rfl, ?_⟩;go_big_quiet_on));clear hx inst)
    (refine wpS_quiet rfl rfl ?_;intro K hK inst hx;go_big_quiet_op;(first | go_big_quiet_on | (refine ⟨_,fun _ => rfl, ?_⟩;go_big_quiet_on));clear hx inst)
    refine wpS_nil ?_
    intro w4 hall
    have hb := hall.1
    have hso4 : w4.ownsRow v9.heap.size 62 3 _ SL.length (SL.flatMap cellsP) := hall.2 6 _ rfl
    clear hall
    refine wpAny_done (by kernel_rfl) ?_ _
    replace hbn := bnext (w := w) hbn hb
    have HSO := hid (stAt_cellsP hso4)
    replace f11 := bfree hb q11 f11
    replace f12 := bfree hb q12 f12
    replace f13 := bfree hb q13 f13
    replace q0 := bkeep hb q0
    replace q1 := bkeep hb q1
    replace q2 := bkeep hb q2
    replace q3 := bkeep hb q3
    replace q4 := bkeep hb q4
    replace q5 := bkeep hb q5
    replace q6 := bkeep hb q6
    replace q7 := bkeep hb q7
    replace q8 := bkeep hb q8
    replace q9 := bkeep hb q9
    replace q10 := bkeep hb q10
    replace q11 := bkeep hb q11
    replace q12 := bkeep hb q12
    replace q13 := bkeep hb q13
    replace HFA := hid (HFA.out.below hb)
    replace HPL9 := hid (HPL9.out.below hb)
    clear hb hso4 HST s0 s1 s2 s3 HP9
    obtain ⟨v4,hv4⟩ : ∃ v,v = w4 := ⟨_,rfl⟩
    subst hv4
    go_wp2_with fail
    have hsml : SL.length ≤ 72 := HSL.out ▸ stands_small HX.out
    have hq5 : qs.length < 5 := by have h1 := HQL.out;have h2 := HFN.out;have h3 := HN.out;omega
    go_loopg [15,57] SL.length (fun gk _ iv wr => ∃ j : Nat,j ≤ SL.length ∧ gk = SL.length - j ∧ iv = .int .i64 j ∧ Hid (∀ p ∈ SL.take j,packB ⟨bid,bwi,bde,bce,bhi,bbe⟩ (fs ++ [(⟨fw,fd,fh,fg⟩ : Ft)]) (qs ++ [toSq p]) = false) ∧ Below v4.heap.size v4 wr)
    case atStart => exact ⟨0,Nat.zero_le _,rfl,rfl,(fun p h => by simp at h),Below.refl _ _⟩
    case round =>
     obtain ⟨j,hj',hgk,rfl,HA,hB4⟩ := hrel
     have HGK2 := hid hgk;clear hgk
     have hb1 : Below w.heap.size w wr := bnext (w := w) hbn hB4
     replace f11 := bfree hB4 q11 f11
     replace f12 := bfree hB4 q12 f12
     replace f13 := bfree hB4 q13 f13
     replace q0 := bkeep hB4 q0
     replace q1 := bkeep hB4 q1
     replace q2 := bkeep hB4 q2
     replace q3 := bkeep hB4 q3
     replace q4 := bkeep hB4 q4
     replace q5 := bkeep hB4 q5
     replace q6 := bkeep hB4 q6
     replace q7 := bkeep hB4 q7
     replace q8 := bkeep hB4 q8
     replace q9 := bkeep hB4 q9
     replace q10 := bkeep hB4 q10
     replace q11 := bkeep hB4 q11
     replace q12 := bkeep hB4 q12
     replace q13 := bkeep hB4 q13
     by_cases hlj : j < SL.length
     ·have hjl : (j : Int) < (SL.length : Int) := by omega
      obtain ⟨⟨py,px,pt⟩,hpj⟩ : ∃ p,SL[j] = p := ⟨_,rfl⟩
      have hstr := (show StAt wr (.slice sa (SL.map toSq).length sc) (SL.map toSq) by rw [List.length_map];exact HSO.out.below hB4).row (k := j) (by rw [List.length_map];exact hlj)
      obtain ⟨b',hb',e0,e1,e2⟩ := hstr
      simp only [List.getElem_map,hpj,toSq] at e0 e1 e2
      subst hb'
      have HPJ := hid hpj;clear hpj
      go_upto_region 12 with fail
      generalize hW : World.alloc wr _ = v5
      have c0 : v5.cell? ⟨wr.heap.size,0,none⟩ = some (.int .i64 (py : Nat)) := by rw [← hW];simp [go_sem]
      have c1 : v5.cell? ⟨wr.heap.size,1,none⟩ = some (.int .i64 (px : Nat)) := by rw [← hW];simp [go_sem]
      have c2 : v5.cell? ⟨wr.heap.size,2,none⟩ = some (.bool pt) := by rw [← hW];simp [go_sem]
      have hb : Below wr.heap.size wr v5 := by rw [← hW];exact (Below.refl _ _).alloc (Nat.le_refl _) _
      replace hB4 := bnext (w := v4) hB4 hb
      replace hb1 := bnext (w := w) hb1 hb
      replace f11 := bfree hb q11 f11
      replace f12 := bfree hb q12 f12
      replace f13 := bfree hb q13 f13
      replace q0 := bkeep hb q0
      replace q1 := bkeep hb q1
      replace q2 := bkeep hb q2
      replace q3 := bkeep hb q3
      replace q4 := bkeep hb q4
      replace q5 := bkeep hb q5
      replace q6 := bkeep hb q6
      replace q7 := bkeep hb q7
      replace q8 := bkeep hb q8
      replace q9 := bkeep hb q9
      replace q10 := bkeep hb q10
      replace q11 := bkeep hb q11
      replace q12 := bkeep hb q12
      replace q13 := bkeep hb q13
      clear hb hW e0 e1 e2
      obtain ⟨b,hpb⟩ : ∃ b,packB ⟨bid,bwi,bde,bce,bhi,bbe⟩ (fs ++ [(⟨fw,fd,fh,fg⟩ : Ft)]) (qs ++ [toSq (⟨py,px,pt⟩ : St)]) = b := ⟨_,rfl⟩
      have HB := hid hpb;clear hpb
      have HPL5 := hid (HPL9.out.below hB4)
      refine wp_region_G (fun V => Below v5.heap.size v5 V) (fun V hV => hV) [0,1,3,5] (by kernel_rfl) [(2,NewEmpty v5.heap.size 62),(4,fun v W9 => W9.ownsRow v5.heap.size 62 3 v qs.length (qs.flatMap cellsQ)),(6,NewList v5.heap.size 1 [.int .i64 (py : Nat), .int .i64 (px : Nat), .bool pt])] [2,4,6] 2 (by kernel_rfl) rfl (by simp only [List.forall_mem_cons];exact ⟨keeps_empty,keeps_owns,keeps_list,fun _ h => by cases h⟩) (by kernel_rfl) ?_
      refine ⟨_, .agg #[.int .i64 bid, .int .i64 bwi, .int .i64 bde, .int .i64 bce, .int .i64 bhi, .int .i64 bbe],rfl,⟨rfl,fun V hV => by (try dsimp only at hV);have h22 := bkeep hV q2;have h23 := bkeep hV q3;have h24 := bkeep hV q4;have h25 := bkeep hV q5;have h26 := bkeep hV q6;have h27 := bkeep hV q7;go_simp⟩, ?_⟩
      simp only [Act.put,List.getElem_toArray,List.getElem_cons_succ,List.getElem_cons_zero,List.setIfInBounds_toArray,List.set_cons_succ,List.set_cons_zero]
      refine ⟨_, .slice (some a') (n + 1) fc,rfl,⟨rfl,fun V hV => by (try dsimp only at hV);go_simp⟩, ?_⟩
      simp only [Act.put,List.getElem_toArray,List.getElem_cons_succ,List.getElem_cons_zero,List.setIfInBounds_toArray,List.set_cons_succ,List.set_cons_zero]
      refine ⟨_, .slice pa qs.length pc,rfl,⟨rfl,fun V hV => by (try dsimp only at hV);go_simp⟩, ?_⟩
      simp only [Act.put,List.getElem_toArray,List.getElem_cons_succ,List.getElem_cons_zero,List.setIfInBounds_toArray,List.set_cons_succ,List.set_cons_zero]
      refine ⟨_, .agg #[.int .i64 (py : Nat), .int .i64 (px : Nat), .bool pt],rfl,⟨rfl,fun V hV => by (try dsimp only at hV);have g0 := bkeep hV c0;have g1 := bkeep hV c1;have g2 := bkeep hV c2;go_simp⟩, ?_⟩
      simp only [Act.put,List.getElem_toArray,List.getElem_cons_succ,List.getElem_cons_zero,List.setIfInBounds_toArray,List.set_cons_succ,List.set_cons_zero]
      simp only [numbered,List.filterMap_cons,List.filterMap_nil,List.getElem?_toArray,List.getElem?_cons_succ,List.getElem?_cons_zero,Option.map_some]
      show wpS _ _ _ _ _ _ _ [(_,_),(_,_),(_,_)] _ _
      refine wpS_fresh rfl rfl (fun w' hb hF => ?_) ?_
      ·change freshAt _ _ _ (NewEmpty v5.heap.size 62) _;unfold freshAt;go_simp;exact empty_of hb
      intro v W hv;simp only [pOf,List.lookup_cons,Nat.reduceBEq,beq_self_eq_true] at hv;have hv0 := hv;obtain ⟨B0,hB0,rfl, -⟩ := hv
      simp only [Act.put,List.setIfInBounds_toArray,List.set_cons_succ,List.set_cons_zero]
      refine wpS_fresh rfl rfl (fun w' hb hF => ?_) ?_
      ·change freshAt _ _ _ (fun v W9 => W9.ownsRow v5.heap.size 62 3 v qs.length (qs.flatMap cellsQ)) _;have h0 : NewEmpty v5.heap.size 62 _ w' := hF 2 _ rfl (by kernel_rfl);exact fresh_append_lat (.tmp 63) (.tmp 64) 41 rfl v5.heap.size 62 i1 (.agg #[.int .i64 0, .int .i64 0, .bool false]) 3 24 Tryz.underlying41 hj hy0 hy1 hy2 rfl (by decide) (.slice (some ⟨B0,0,none⟩) 0 0) rfl h0 _ qs.length (qs.flatMap cellsQ) rfl (HPL5.out.below hb) (by unfold maxLen;omega) (by omega) hb.size
      intro v W hv;simp only [pOf,List.lookup_cons,Nat.reduceBEq,beq_self_eq_true] at hv;have hv8 := hv;obtain ⟨ba8,bc8,rfl, -⟩ := owns_shape hv8
      simp only [Act.put,List.setIfInBounds_toArray,List.set_cons_succ,List.set_cons_zero]
      refine wpS_fresh rfl rfl (fun w' hb hF => ?_) ?_
      ·change freshAt _ _ _ (NewList v5.heap.size 1 [.int .i64 (py : Nat), .int .i64 (px : Nat), .bool pt]) _;unfold freshAt;go_simp;exact list_of hb
      intro v W hv;simp only [pOf,List.lookup_cons,Nat.reduceBEq,beq_self_eq_true] at hv;obtain ⟨B10,hB10,rfl, -⟩ := hv
      simp only [Act.put,List.setIfInBounds_toArray,List.set_cons_succ,List.set_cons_zero]
      refine wpS_nil ?_
      intro w7 hall
      have hb := hall.1
      have h8 : w7.ownsRow v5.heap.size 62 3 _ qs.length _ := hall.2 4 _ rfl
      have h10 : NewList v5.heap.size 1 [.int .i64 (py : Nat), .int .i64 (px : Nat), .bool pt] _ w7 := hall.2 6 _ rfl
      obtain ⟨B',hB',hv',hn'⟩ := h10
      obtain rfl : B10 = B' := by simpa using hv'
      clear hall
      refine wpAnyC_op (r := 7) hb (by kernel_rfl) rfl rfl (fun K hK => ?_)
      refine wp_append_own w7 (.tmp 65) (.tmp 67) 41 rfl v5.heap.size 62 i1 (.agg #[.int .i64 0, .int .i64 0, .bool false]) 3 24 Tryz.underlying41 hj hy0 hy1 hy2 rfl (by decide) (.slice ba8 qs.length bc8) qs.length _ rfl h8 ⟨B10,0,none⟩ 1 1 [.int .i64 (py : Nat), .int .i64 (px : Nat), .bool pt] rfl rfl (fun j u h => by rw [Go.WideShapes.add_plain,Nat.zero_add];exact (hn' j u h).1) (fun u h => by simp only [List.mem_cons,List.not_mem_nil,or_false] at h;rcases h with rfl | rfl | rfl <;> rfl) (by unfold maxLen;omega) (by omega) hb.size ?_
      intro v35 w8 ho3 hg3 hnil3
      refine hK _ _ ?_
      clear hK K hnil3
      have hb3 : Below v5.heap.size v5 w8 := below_grown hb hg3 h8 hb.size (Nat.le_refl _)
      obtain ⟨xa,xc,rfl, -⟩ := owns_shape ho3
      clear hg3 h8 hb hn' hv'
      have hst3 : StAt w8 (.slice xa (qs.length + 1) xc) (qs ++ [toSq ⟨py,px,pt⟩]) := st_snoc1 rfl (show World.ownsRow w8 v5.heap.size 62 3 (.slice xa (qs.length + 1) xc) (qs.length + 1) (qs.flatMap cellsQ ++ cellsQ (toSq ⟨py,px,pt⟩)) from ho3)
      have HST3 := hid hst3;clear hst3 ho3
      have HFA5 := hid (HFA.out.below (hB4.trans (hb3.mono hB4.size)))
      refine wpAnyC_op (r := 8) hb3 (by kernel_rfl) rfl rfl (fun K hK => ?_)
      go_simp
      refine (rIsPack HX.out HFA5.out HOK2.out (by rw [HFL.out];omega) HST3.out HB.out).mono ?_
      rintro e w9 ⟨rfl,hb9⟩
      dsimp only
      refine hK _ _ ?_
      clear hK K HST3 HFA5
      have hb4 := hb3.trans (hb9.mono hb3.size)
      refine wpAnyC_end hb4 (by kernel_rfl) ?_
      refine ⟨rfl, ?_⟩
      replace hB4 := bnext (w := v4) hB4 hb4
      replace hb1 := bnext (w := w) hb1 hb4
      replace f11 := bfree hb4 q11 f11
      replace f12 := bfree hb4 q12 f12
      replace f13 := bfree hb4 q13 f13
      replace q0 := bkeep hb4 q0
      replace q1 := bkeep hb4 q1
      replace q2 := bkeep hb4 q2
      replace q3 := bkeep hb4 q3
      replace q4 := bkeep hb4 q4
      replace q5 := bkeep hb4 q5
      replace q6 := bkeep hb4 q6
      replace q7 := bkeep hb4 q7
      replace q8 := bkeep hb4 q8
      replace q9 := bkeep hb4 q9
      replace q10 := bkeep hb4 q10
      replace q11 := bkeep hb4 q11
      replace q12 := bkeep hb4 q12
      replace q13 := bkeep hb4 q13
      replace c0 := bkeep hb4 c0
      replace c1 := bkeep hb4 c1
      replace c2 := bkeep hb4 c2
      clear hb3 hb9 hb4 HPL5
      cases b
      ·have HA2 := hid (show ∀ p ∈ SL.take (j + 1),packB ⟨bid,bwi,bde,bce,bhi,bbe⟩ (fs ++ [(⟨fw,fd,fh,fg⟩ : Ft)]) (qs ++ [toSq p]) = false from fun p hp9 => by (rw [List.take_succ_eq_append_getElem hlj] at hp9;rcases List.mem_append.1 hp9 with h | h;exact HA.out p h;rw [List.mem_singleton.1 h,HPJ.out];exact HB.out))
       clear HA
       go_wp2_with fail
       go_roundg (SL.length - (j + 1))
       case measure => have h := HGK2.out;omega
       case rel => exact ⟨j + 1,by omega,rfl,by go_num,HA2,hB4⟩
      ·have hfd : addF ⟨bid,bwi,bde,bce,bhi,bbe⟩ fs qs (⟨fw,fd,fh,fg⟩ : Ft) = some ⟨py,px,pt⟩ := by unfold addF;rw [HSL.out];exact find_pre (pre := SL.take j) (by rw [← HPJ.out, ← List.take_succ_eq_append_getElem hlj];exact List.take_prefix _ _) HA.out HB.out
       rw [hfd] at hr
       subst hr
       clear HA
       go_wp2_with fail
       exact bodyPost_ret (v := .tuple #[.agg #[.int .i64 (py : Int), .int .i64 (px : Int), .bool pt], .int .i64 0]) (by simp [results,Tryz.results36,go_sem, *]) rfl ⟨rfl,by go_grown⟩
     ·obtain rfl : j = SL.length := by omega
      have hfd : addF ⟨bid,bwi,bde,bce,bhi,bbe⟩ fs qs (⟨fw,fd,fh,fg⟩ : Ft) = none := by unfold addF;rw [HSL.out];exact find_all (fun p hp9 => HA.out p (by rw [List.take_length];exact hp9))
      rw [hfd] at hr
      subst hr
      clear HA
      go_wp2_with fail
      exact bodyPost_ret (v := .tuple #[.agg #[.int .i64 0, .int .i64 0, .bool false], .int .i64 24]) (by simp [results,Tryz.results36,go_sem, *]) rfl ⟨rfl,by go_grown⟩
 ·rw [if_neg hd0] at hr
  subst hr
  have hcn : (d != 0) = true := by simpa using hd0
  have hcn2 : (d == 0) = false := by simpa using hd0
  go_enter Tryz.func36,Tryz.ntmps36
  go_wp2_with fail
  refine (rCheckPack (h1.below (by go_grown)) (h2.below (by go_grown)) (hl.below (by go_grown)) (hp.below (by go_grown)) HD.out).mono ?_
  rintro e w1 ⟨rfl,hb⟩
  replace hb0 := bnext (w := w) (by go_grown) hb;have hz := hb.size;(try simp only [World.size_alloc,World.size_setCell] at hz);replace q0 : w1.cell? ⟨w.heap.size,0,none⟩ = some (vs) := bkeep hb (by first|with_reducible exact q0|with_reducible exact akeep q0|simp[*,go_sem]);replace q1 : w1.cell? ⟨w.heap.size,1,none⟩ = some (vb) := bkeep hb (by first|with_reducible exact q1|with_reducible exact akeep q1|simp[*,go_sem]);replace q2 : w1.cell? ⟨w.heap.size + 1,0,none⟩ = some (.int .i64 bid) := bkeep hb (by first|with_reducible exact q2|with_reducible exact akeep q2|simp[*,go_sem]);replace q3 : w1.cell? ⟨w.heap.size + 1,1,none⟩ = some (.int .i64 bwi) := bkeep hb (by first|with_reducible exact q3|with_reducible exact akeep q3|simp[*,go_sem]);replace q4 : w1.cell? ⟨w.heap.size + 1,2,none⟩ = some (.int .i64 bde) := bkeep hb (by first|with_reducible exact q4|with_reducible exact akeep q4|simp[*,go_sem]);replace q5 : w1.cell? ⟨w.heap.size + 1,3,none⟩ = some (.int .i64 bce) := bkeep hb (by first|with_reducible exact q5|with_reducible exact akeep q5|simp[*,go_sem]);replace q6 : w1.cell? ⟨w.heap.size + 1,4,none⟩ = some (.int .i64 bhi) := bkeep hb (by first|with_reducible exact q6|with_reducible exact akeep q6|simp[*,go_sem]);replace q7 : w1.cell? ⟨w.heap.size + 1,5,none⟩ = some (.int .i64 bbe) := bkeep hb (by first|with_reducible exact q7|with_reducible exact akeep q7|simp[*,go_sem]);replace q8 : w1.cell? ⟨w.heap.size + 2,0,none⟩ = some (.int .i64 ish) := bkeep hb (by first|with_reducible exact q8|with_reducible exact akeep q8|simp[*,go_sem]);replace q9 : w1.cell? ⟨w.heap.size + 2,1,none⟩ = some (.int .i64 imn) := bkeep hb (by first|with_reducible exact q9|with_reducible exact akeep q9|simp[*,go_sem]);replace q10 : w1.cell? ⟨w.heap.size + 2,2,none⟩ = some (.int .i64 icl) := bkeep hb (by first|with_reducible exact q10|with_reducible exact akeep q10|simp[*,go_sem]);replace f11 : w1.frozen? ⟨w.heap.size + 3,0,none⟩ = false := bfree (v := .int .i64 0) hb (by first|with_reducible exact q11|with_reducible exact akeep q11|simp[*,go_sem]) (by first|with_reducible exact f11|with_reducible exact afree q11 f11|simp[*,go_sem]);replace q11 : w1.cell? ⟨w.heap.size + 3,0,none⟩ = some (.int .i64 0) := bkeep hb (by first|with_reducible exact q11|with_reducible exact akeep q11|simp[*,go_sem]);replace f12 : w1.frozen? ⟨w.heap.size + 3,1,none⟩ = false := bfree (v := .int .i64 0) hb (by first|with_reducible exact q12|with_reducible exact akeep q12|simp[*,go_sem]) (by first|with_reducible exact f12|with_reducible exact afree q12 f12|simp[*,go_sem]);replace q12 : w1.cell? ⟨w.heap.size + 3,1,none⟩ = some (.int .i64 0) := bkeep hb (by first|with_reducible exact q12|with_reducible exact akeep q12|simp[*,go_sem]);replace f13 : w1.frozen? ⟨w.heap.size + 3,2,none⟩ = false := bfree (v := .bool false) hb (by first|with_reducible exact q13|with_reducible exact akeep q13|simp[*,go_sem]) (by first|with_reducible exact f13|with_reducible exact afree q13 f13|simp[*,go_sem]);replace q13 : w1.cell? ⟨w.heap.size + 3,2,none⟩ = some (.bool false) := bkeep hb (by first|with_reducible exact q13|with_reducible exact akeep q13|simp[*,go_sem]);clear hb
  go_wp2_with fail
  exact bodyPost_ret (v := .tuple #[.agg #[.int .i64 0, .int .i64 0, .bool false], .int .i64 d]) (by simp [results,Tryz.results36,go_sem, *]) rfl ⟨rfl,by go_grown⟩
end Go.Proofs.YtodmidchpbcnpaaGreat