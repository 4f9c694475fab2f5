/- Part of a claim. -/
import Derived.Test.YtodmidchpbcnpaaGreatKG38X
import Derived.Test.YtodmidchpbcnpaaGreatG75X
import Derived.Test.YtodmidchpbcnpaaGreatKG53X
import Derived.Test.YtodmidchpbcnpaaGreatKTgX
import Derived.Test.YtodmidchpbcnpaaGreatKSpX
set_option linter.unusedVariables false
set_option linter.unusedSimpArgs false
namespace Go.Proofs.YtodmidchpbcnpaaGreat
open Go.RowKit Go.Pb Go.Pb.Ware Go.Pb.Sag


theorem it_snoc1 {w : World} {base : Nat} {T : TypeId} {v : Value} {xs : List It} {x : It} {m : Nat} (hm : xs.length = m) (hx : ∀ y ∈ xs ++ [x],I64X y) (h : w.ownsRow base T 3 v (m + 1) (itCells xs ++ cellsX x)) : RowsAt 3 w v ((xs ++ [x]).map rowX) := by
 refine it_rows (base := base) (T := T) ?_ hx
 rw [List.length_append,hm,show itCells (xs ++ [x]) = itCells xs ++ cellsX x by unfold itCells;rw [List.flatMap_append,List.flatMap_singleton]]
 exact h
theorem st_snoc1 {w : World} {base : Nat} {T : TypeId} {v : Value} {qs : List Sq} {q : Sq} {m : Nat} (hm : qs.length = m) (h : w.ownsRow base T 3 v (m + 1) (qs.flatMap cellsQ ++ cellsQ q)) : StAt w v (qs ++ [q]) := by
 refine stAt_of_owns (base := base) (e := T) ?_
 rw [List.length_append,hm,List.flatMap_append,List.flatMap_singleton]
 exact h
theorem ckL_snoc {ss bs : List (List Int)} {s : Bx} {xs : List It} {x : It} (h : ckL ss bs s xs = 0) (hx : itemB ss x = true) (hl : xs.length < 5) : ckL ss bs s (xs ++ [x]) = 0 ∧ feetV ss bs s (xs ++ [x]) = feetV ss bs s xs ++ [footR ss s.cell x] := by
 obtain ⟨h1,h2,h3,h4⟩ := ckL_0 h
 have h5 : ckL ss bs s (xs ++ [x]) = 0 := by
  unfold ckL ckG ckX
  rw [if_pos h1,h2,if_pos rfl,if_pos rfl,if_neg (by rw [List.length_append];simp;omega),if_pos]
  rw [List.all_eq_true]
  intro y hy
  rcases List.mem_append.1 hy with hy | hy
  ·exact h4 y hy
  ·rw [List.mem_singleton.1 hy];exact hx
 exact ⟨h5,by rw [feetV_0 h5,feetV_0 h,List.map_append];rfl⟩
end Go.Proofs.YtodmidchpbcnpaaGreat
namespace Go.Proofs.YtodmidchpbcnpaaGreat
open Go.RowKit Go.Pb Go.Pb.Ware Go.Pb.Sag


theorem ckL_erase {ss : List (List Int)} {s : Bx} {xs : List It} {k : Nat} (h : ckL ss [] s xs = 0) : ckL ss [] s (xs.eraseIdx k) = 0 ∧ feetV ss [] s (xs.eraseIdx k) = (feetV ss [] s xs).eraseIdx k := by
 obtain ⟨h1,h2,h3,h4⟩ := ckL_0 h
 have h5 : ckL ss [] s (xs.eraseIdx k) = 0 := by
  unfold ckL ckG ckX
  rw [if_pos h1,h2,if_pos rfl,if_pos rfl,if_neg (by have := (List.eraseIdx_sublist xs k).length_le;omega),if_pos]
  rw [List.all_eq_true]
  exact fun y hy => h4 y (List.mem_of_mem_eraseIdx hy)
 exact ⟨h5,by rw [feetV_0 h5,feetV_0 h,map_erase]⟩
theorem ckL_wide {ss : List (List Int)} {s t : Bx} {xs : List It} (h : ckL ss [] s xs = 0) (hX : boxOk t = true) (hc : t.cell = s.cell) : ckL ss [] t xs = 0 ∧ feetV ss [] t xs = feetV ss [] s xs := by
 obtain ⟨h1,h2,h3,h4⟩ := ckL_0 h
 have h5 : ckL ss [] t xs = 0 := by
  unfold ckL ckG ckX
  rw [if_pos h1,hX,if_pos rfl,if_pos rfl,if_neg (by omega),if_pos]
  rw [List.all_eq_true]
  exact h4
 exact ⟨h5,by rw [feetV_0 h5,feetV_0 h,hc]⟩
theorem shown_first {s : Bx} {ss : List (List Int)} {xs : List It} {qs : List Sq} (hX : boxOk s = true) (h : packB s (feetV ss [] s xs) qs = true) : ∃ q,(shownL s (feetV ss [] s xs))[0]? = some q := by
 obtain ⟨q,hq, -⟩ := pack_shown hX feet_ok h
 cases hl : shownL s (feetV ss [] s xs) with
 | nil => rw [hl] at hq;cases hq
 | cons a l => exact ⟨a,rfl⟩
theorem add_back {ss : List (List Int)} {s : Bx} {xs : List It} {qs : List Sq} {k : Nat} {x : It} (hk : ckL ss [] s xs = 0) (hx : xs[k]? = some x) (h : packB s (feetV ss [] s xs) qs = true) :
  ∃ p,addA ss [] s (xs.eraseIdx k) (qs.eraseIdx k) x = (p,0) ∧ packB s (feetV ss [] s (xs.eraseIdx k) ++ [footR ss s.cell x]) (qs.eraseIdx k ++ [toSq p]) = true := by
 obtain ⟨hE,hF⟩ := ckL_erase (k := k) hk
 obtain ⟨h1,h2,h3,h4⟩ := ckL_0 hk
 have hl : qs.length = xs.length := by rw [pack_long h,feetV_0 hk,List.length_map]
 have hkl : k < xs.length := (List.getElem?_eq_some_iff.1 hx).1
 have hf : (feetV ss [] s xs)[k]? = some (footR ss s.cell x) := by rw [feetV_0 hk,List.getElem?_map,hx];rfl
 have h5 := pack_again hf (List.getElem?_eq_getElem (show k < qs.length by omega)) h
 rw [← hF] at h5
 obtain ⟨p,hp,hpk⟩ := add_some h5
 have hpe := pack_take (k := k) feet_ok h
 rw [← hF] at hpe
 refine ⟨p, ?_,hpk⟩
 have hci : ckI ss [] x = 0 := by unfold ckI;rw [if_pos h1,if_pos (h4 x (List.mem_of_getElem? hx))]
 have hle : ¬ (xs.eraseIdx k).length = 5 := by rw [List.length_eraseIdx_of_lt hkl];omega
 unfold addA ckK
 rw [if_pos hE,if_pos hpe,if_pos rfl,if_pos hci,if_neg hle,hp]
set_option maxRecDepth 100000 in
set_option maxHeartbeats 4000000 in
theorem saggarMore_walk {w : World} {rv iv : Value} {z0 z1 z2 z3 n m0 m1 m2 m3 : Int} {rows its : List (List Int)} (hmade : ∀ (W : World) (rv iv : Value) (z0 z1 z2 z3 : Int) (rows its : List (List Int)),RowsAt 5 W rv rows → RowsAt 3 W iv its → Calls Tryz.prog 54 #[.agg #[rv, .int .i64 z0, .int .i64 z1, .int .i64 z2, .int .i64 z3,iv]] W (MadeRes W)) (hrv : RowsAt 5 w rv rows) (hiv : RowsAt 3 w iv its) :
  Calls Tryz.prog 10 #[.agg #[rv, .int .i64 z0, .int .i64 z1, .int .i64 z2, .int .i64 z3,iv], .int .i64 n, .agg #[.int .i64 m0, .int .i64 m1, .int .i64 m2, .int .i64 m3]] w (Ret w (.bool true)) := by
 unfold Ret
 go_enter Tryz.func10,Tryz.ntmps10
 go_wp2_with fail
 refine (hmade _ _ _ _ _ _ _ _ _ (hrv.below (by go_grown)) (hiv.below (by go_grown))).mono ?_
 rintro e v1 ⟨sv,iv,ss,xs,b2,b3,b4,b5,b6,rfl,hb,hs,hi,hg,hX,hx5,hall⟩
 have hk : ckL ss [] ⟨1,b2,b3,b4,b5,b6⟩ xs = 0 := good_ck hg hX hx5 hall
 have hok : ∀ f ∈ (feetV ss [] ⟨1,b2,b3,b4,b5,b6⟩ xs),FtOk f := feet_ok
 have hn5 : (feetV ss [] ⟨1,b2,b3,b4,b5,b6⟩ xs).length ≤ 5 := feet_len
 have q9 : v1.cell? ⟨w.heap.size + 1,0,none⟩ = some (.int .i64 m0) := bkeep hb (by simp [go_sem])
 have q10 : v1.cell? ⟨w.heap.size + 1,1,none⟩ = some (.int .i64 m1) := bkeep hb (by simp [go_sem])
 have q11 : v1.cell? ⟨w.heap.size + 1,2,none⟩ = some (.int .i64 m2) := bkeep hb (by simp [go_sem])
 have q12 : v1.cell? ⟨w.heap.size + 1,3,none⟩ = some (.int .i64 m3) := bkeep hb (by simp [go_sem])
 have hb0 : Below w.heap.size w v1 := bnext (w := w) (by go_grown) hb
 have hz := hb.size
 (try simp only [World.size_alloc,World.size_setCell] at hz)
 clear hb hall hg hrv hiv
 obtain ⟨sa,sc,rfl, -⟩ := hs.shape
 obtain ⟨ia,ic,rfl, -⟩ := hi.shape
 rw [List.length_map] at hi ⊢
 have HK := hid hk;have HX := hid hX;have HOK := hid hok;have HN5 := hid hn5;clear hk hX hok hn5
 go_upto_region 2 with fail
 generalize hW : World.alloc v1 _ = v2
 have q0 : v2.cell? ⟨v1.heap.size,0,none⟩ = some (.slice sa ss.length sc) := by rw [← hW];simp [go_sem]
 have q1 : v2.cell? ⟨v1.heap.size,1,none⟩ = some (.slice none 0 0) := by rw [← hW];simp [go_sem]
 have q2 : v2.cell? ⟨v1.heap.size,2,none⟩ = some (.int .i64 1) := by rw [← hW];simp [go_sem]
 have q3 : v2.cell? ⟨v1.heap.size,3,none⟩ = some (.int .i64 b2) := by rw [← hW];simp [go_sem]
 have q4 : v2.cell? ⟨v1.heap.size,4,none⟩ = some (.int .i64 b3) := by rw [← hW];simp [go_sem]
 have q5 : v2.cell? ⟨v1.heap.size,5,none⟩ = some (.int .i64 b4) := by rw [← hW];simp [go_sem]
 have q6 : v2.cell? ⟨v1.heap.size,6,none⟩ = some (.int .i64 b5) := by rw [← hW];simp [go_sem]
 have q7 : v2.cell? ⟨v1.heap.size,7,none⟩ = some (.int .i64 b6) := by rw [← hW];simp [go_sem]
 have q8 : v2.cell? ⟨v1.heap.size,8,none⟩ = some (.slice ia xs.length ic) := by rw [← hW];simp [go_sem]
 have hb : Below v1.heap.size v1 v2 := by rw [← hW];exact (Below.refl _ _).alloc (Nat.le_refl _) _
 replace hb0 := bnext (w := w) hb0 hb
 have hz1 := hb.size
 replace q9 := bkeep hb q9
 replace q10 := bkeep hb q10
 replace q11 := bkeep hb q11
 replace q12 := bkeep hb q12
 replace hs := hs.below hb
 replace hi := hi.below hb
 clear hb hW
 cases hq : (shownL ⟨1,b2,b3,b4,b5,b6⟩ (feetV ss [] ⟨1,b2,b3,b4,b5,b6⟩ xs))[0]? with
 | none =>
  have HQ := hid hq;clear hq
  go_wp2_with fail
  refine (pack_n hs hi HX.out HK.out HQ.out).mono ?_
  rintro e w1 ⟨av,rfl,hb,ha⟩
  replace hb0 := bnext (w := w) (by go_grown) hb
  have hz := hb.size
  (try simp only [World.size_alloc,World.size_setCell] at hz)
  replace q0 := bkeep hb q0
  replace q1 := bkeep hb q1
  replace q2 := bkeep hb q2
  replace q3 := bkeep hb q3
  replace q4 := bkeep hb q4
  replace q5 := bkeep hb q5
  replace q6 := bkeep hb q6
  replace q7 := bkeep hb q7
  replace q8 := bkeep hb q8
  replace q9 := bkeep hb q9
  replace q10 := bkeep hb q10
  replace q11 := bkeep hb q11
  replace q12 := bkeep hb q12
  replace hs := hs.below hb
  replace hi := hi.below hb
  clear hb
  obtain ⟨aa,acp,rfl, -, -⟩ := ha.shape
  (try rw [List.length_map] at ha)
  (try rw [List.length_map])
  go_wp2_with (go_at_call 24;refine sane_any.mono ?_;rintro e w9 ⟨rfl,hb9⟩;replace hb0 := bnext (w := w) hb0 hb9)
  go_ret
  exact ⟨rfl,hb0⟩
 | some q =>
  have HQ := hid hq;clear hq
  go_wp2_with fail
  refine (pack_f hs hi HX.out HK.out HQ.out).mono ?_
  rintro e w1 ⟨av,rfl,hb,ha⟩
  replace hb0 := bnext (w := w) (by go_grown) hb
  have hz := hb.size
  (try simp only [World.size_alloc,World.size_setCell] at hz)
  replace q0 := bkeep hb q0
  replace q1 := bkeep hb q1
  replace q2 := bkeep hb q2
  replace q3 := bkeep hb q3
  replace q4 := bkeep hb q4
  replace q5 := bkeep hb q5
  replace q6 := bkeep hb q6
  replace q7 := bkeep hb q7
  replace q8 := bkeep hb q8
  replace q9 := bkeep hb q9
  replace q10 := bkeep hb q10
  replace q11 := bkeep hb q11
  replace q12 := bkeep hb q12
  replace hs := hs.below hb
  replace hi := hi.below hb
  clear hb
  obtain ⟨aa,acp,rfl, -, -⟩ := ha.shape
  (try rw [List.length_map] at ha)
  (try rw [List.length_map])
  by_cases h0 : xs.length = 0
  ·have H0 : (xs.length : Int) = 0 := by omega
   clear h0
   go_wp2_with (go_at_call 24;refine sane_any.mono ?_;rintro e w9 ⟨rfl,hb9⟩;replace hb0 := bnext (w := w) hb0 hb9)
   go_ret
   exact ⟨rfl,hb0⟩
  ·have hx0 : 0 < xs.length := by omega
   have H0 : ((xs.length : Int) == 0) = false := beq_eq_false_iff_ne.mpr (by omega)
   clear h0
   obtain ⟨k,hkz,hkl⟩ : ∃ k : Nat,n % (xs.length : Int) = (k : Int) ∧ k < xs.length := by
    have h1 := Int.emod_nonneg n (b := (xs.length : Int)) (by omega)
    have h2 := Int.emod_lt_of_pos n (b := (xs.length : Int)) (by omega)
    obtain ⟨r,hr⟩ : ∃ r,n % (xs.length : Int) = r := ⟨_,rfl⟩
    rw [hr] at h1 h2 ⊢
    exact ⟨r.toNat,by omega,by omega⟩
   have HKZ := hid hkz;clear hkz
   go_wp2_with fail
   refine (modS_any (n := n) (m := (xs.length : Int)) (by omega) (by omega)).mono ?_
   rintro e w2 ⟨rfl,rfl⟩
   rw [HKZ.out]
   have hpk : packB ⟨1,b2,b3,b4,b5,b6⟩ (feetV ss [] ⟨1,b2,b3,b4,b5,b6⟩ xs) (q.map toSq) = true := shown_pack (List.mem_of_getElem? HQ.out)
   have htc : takeC ss [] ⟨1,b2,b3,b4,b5,b6⟩ xs (q.map toSq) (k : Int) = 0 := by unfold takeC ckK;rw [if_pos HK.out,if_pos hpk,if_pos rfl,if_pos (btw_iff.2 (by omega))]
   have HPK := hid hpk;have HTC := hid htc;clear hpk htc
   go_wp2_with fail
   refine (Take_any (bid := 1) (bwi := b2) (bde := b3) (bce := b4) (bhi := b5) (bbe := b6) hs no_bodies8 hi ha HTC.out).mono ?_
   rintro e w1 ⟨lv,pv2,rfl,hb,hcase⟩
   replace hb0 := bnext (w := w) (by go_grown) hb
   have hz := hb.size
   (try simp only [World.size_alloc,World.size_setCell] at hz)
   replace q0 := bkeep hb q0
   replace q1 := bkeep hb q1
   replace q2 := bkeep hb q2
   replace q3 := bkeep hb q3
   replace q4 := bkeep hb q4
   replace q5 := bkeep hb q5
   replace q6 := bkeep hb q6
   replace q7 := bkeep hb q7
   replace q8 := bkeep hb q8
   replace q9 := bkeep hb q9
   replace q10 := bkeep hb q10
   replace q11 := bkeep hb q11
   replace q12 := bkeep hb q12
   replace hs := hs.below hb
   replace hi := hi.below hb
   replace ha := ha.below hb
   clear hb
   rcases hcase with ⟨h9,_⟩ | ⟨-, -, -,hol,hop⟩
   ·exact absurd rfl h9
   rw [Int.toNat_natCast] at hol hop
   obtain ⟨hkE,hfE⟩ := ckL_erase (k := k) HK.out
   have HKE := hid hkE
   have hlE : (xs.eraseIdx k).length = xs.length - 1 := List.length_eraseIdx_of_lt hkl
   have hli := it_rows (xs := (xs.eraseIdx k)) (by rw [hlE];exact hol) (fun x hx => by obtain ⟨j,hj⟩ := List.getElem?_of_mem (List.mem_of_mem_eraseIdx hx);exact it_i64 (show RowsAt 3 w1 (.slice ia xs.length ic) (xs.map rowX) from hi) hj)
   have hqE : ((q.map toSq).eraseIdx k).length = xs.length - 1 := by rw [List.length_eraseIdx_of_lt (by rw [pack_long HPK.out,feetV_0 HK.out,List.length_map];exact hkl),pack_long HPK.out,feetV_0 HK.out,List.length_map]
   have hst := stAt_of_owns (qs := ((q.map toSq).eraseIdx k)) (by rw [hqE];exact hop)
   have hpE : packB ⟨1,b2,b3,b4,b5,b6⟩ (feetV ss [] ⟨1,b2,b3,b4,b5,b6⟩ (xs.eraseIdx k)) ((q.map toSq).eraseIdx k) = true := by rw [hfE];exact pack_take HOK.out HPK.out
   have HPE := hid hpE
   obtain ⟨m,hm⟩ : ∃ m,xs.length - 1 = m := ⟨_,rfl⟩
   have hml : (m : Int) = (xs.length : Int) - 1 := by omega
   rw [hm] at hol hop
   obtain ⟨la,lc,rfl, -⟩ := owns_shape hol
   obtain ⟨pa2,pc2,rfl, -⟩ := owns_shape hop
   have HLE := hid (hlE.trans hm);have HQE := hid (hqE.trans hm);have HM := hid hml
   have hne9 : ((m : Int) == (xs.length : Int) - 1) = true := by rw [hml];simp
   have hW9 : IntKind.i64.wrap ((xs.length : Int) - 1) = (xs.length : Int) - 1 := IntWalk.i64_in _ (by omega)
   clear hkE hfE hlE hqE hpE hm hml
   have HOL := hid hol;have HOP := hid hop;clear hol hop
   go_wp2_with fail
   refine (check_f hs hli HX.out HKE.out hst (a := true) HPE.out).mono ?_
   rintro e w1 ⟨rfl,hb⟩
   replace hb0 := bnext (w := w) (by go_grown) hb
   have hz := hb.size
   (try simp only [World.size_alloc,World.size_setCell] at hz)
   replace q0 := bkeep hb q0
   replace q1 := bkeep hb q1
   replace q2 := bkeep hb q2
   replace q3 := bkeep hb q3
   replace q4 := bkeep hb q4
   replace q5 := bkeep hb q5
   replace q6 := bkeep hb q6
   replace q7 := bkeep hb q7
   replace q8 := bkeep hb q8
   replace q9 := bkeep hb q9
   replace q10 := bkeep hb q10
   replace q11 := bkeep hb q11
   replace q12 := bkeep hb q12
   replace hs := hs.below hb
   replace hi := hi.below hb
   replace ha := ha.below hb
   replace hli := hli.below hb
   replace hst := hst.below hb
   clear hb
   obtain ⟨⟨ish,imn,icl⟩,hxk⟩ : ∃ x,xs[k] = x := ⟨_,rfl⟩
   have hxs : xs[k]? = some (⟨ish,imn,icl⟩ : It) := by rw [List.getElem?_eq_getElem hkl,hxk]
   obtain ⟨⟨sy,sx,st⟩,hadd,hpk2⟩ := add_back HK.out hxs HPK.out
   have hi6 := it_i64 (show RowsAt 3 w1 (.slice ia xs.length ic) (xs.map rowX) from hi) hxs
   obtain ⟨a',ha',hrl,hc0,hcc⟩ := (show RowsAt 3 w1 (.slice ia (xs.map rowX).length ic) (xs.map rowX) by rw [List.length_map];exact hi).row (k := k) (by rw [List.length_map];exact hkl)
   subst ha'
   have hat : (xs.map rowX)[k]'(by rw [List.length_map];exact hkl) = [ish,imn,icl] := by rw [List.getElem_map,hxk];rfl
   rw [hat] at hc0 hcc
   have r0 := hc0 _ rfl
   have r1 := hcc 1 _ (by decide) rfl
   have r2 := hcc 2 _ (by decide) rfl
   have hkli : (k : Int) < (xs.length : Int) := by omega
   have HADD := hid hadd;have HPK2 := hid hpk2;have HXS := hid hxs;have HI6 := hid hi6;clear hadd hpk2 hxs hi6 hc0 hcc hat hrl hxk
   have HLI := hid hli;have HST := hid hst;have HS := hid hs
   obtain ⟨v3,hv3⟩ : ∃ v,v = w1 := ⟨_,rfl⟩
   subst hv3
   go_upto_region 9 with fail
   refine wp_region_Rl (l' := _) 16 14 rfl rfl rfl rfl rfl (by kernel_rfl) [(11,fun v _ => v = .tuple #[.agg #[.int .i64 (sy : Int), .int .i64 (sx : Int), .bool st], .int .i64 0]),(15,NewCells v3.heap.size [.int .i64 0, .int .i64 0, .bool false])] [0,1,2,3,4,5,6,7,8,9,10,11,12,13,14,15] 2 (by kernel_rfl) rfl (by simp only [List.forall_mem_cons];exact ⟨keeps_eq,keeps_new,fun _ h => by cases h⟩) (by kernel_rfl) ?_
   simp only [numbered,bound,List.set_cons_succ,List.set_cons_zero,List.filterMap_cons,List.filterMap_nil,List.getElem?_toArray,List.getElem?_cons_succ,List.getElem?_cons_zero,Option.map_some]
   show wpS _ _ _ _ _ _ _ [(_,_),(_,_),(_,_),(_,_),(_,_),(_,_),(_,_),(_,_),(_,_),(_,_),(_,_),(_,_),(_,_),(_,_),(_,_),(_,_)] _ _
   (refine wpS_quiet rfl rfl ?_;intro K hK inst hx;go_big_quiet_op;(first | go_big_quiet_on | (refine ⟨_,fun _ => rfl, ?_⟩;go_big_quiet_on));clear hx inst)
   (refine wpS_quiet rfl rfl ?_;intro K hK inst hx;go_big_quiet_op;(first | go_big_quiet_on | (refine ⟨_,fun _ => rfl, ?_⟩;go_big_quiet_on));clear hx inst)
   (refine wpS_quiet rfl rfl ?_;intro K hK inst hx;go_big_quiet_op;(first | go_big_quiet_on | (refine ⟨_,fun _ => rfl, ?_⟩;go_big_quiet_on));clear hx inst)
   (refine wpS_quiet rfl rfl ?_;intro K hK inst hx;go_big_quiet_op;(first | go_big_quiet_on | (refine ⟨_,fun _ => rfl, ?_⟩;go_big_quiet_on));clear hx inst)
   (refine wpS_quiet rfl rfl ?_;intro K hK inst hx;go_big_quiet_op;(first | go_big_quiet_on | (refine ⟨_,fun _ => rfl, ?_⟩;go_big_quiet_on));clear hx inst)
   (refine wpS_quiet rfl rfl ?_;intro K hK inst hx;go_big_quiet_op;(first | go_big_quiet_on | (refine ⟨_,fun _ => rfl, ?_⟩;go_big_quiet_on));clear hx inst)
   (refine wpS_quiet rfl rfl ?_;intro K hK inst hx;go_big_quiet_op;(first | go_big_quiet_on | (refine ⟨_,fun _ => rfl, ?_⟩;go_big_quiet_on));clear hx inst)
   (refine wpS_quiet rfl rfl ?_;intro K hK inst hx;go_big_quiet_op;(first | go_big_quiet_on | (refine ⟨_,fun _ => rfl, ?_⟩;go_big_quiet_on));clear hx inst)
   (refine wpS_quiet rfl rfl ?_;intro K hK inst hx;go_big_quiet_op;(first | go_big_quiet_on | (refine ⟨_,fun _ => rfl, ?_⟩;go_big_quiet_on));clear hx inst)
   (refine wpS_quiet rfl rfl ?_;intro K hK inst hx;go_big_quiet_op;(first | go_big_quiet_on | (refine ⟨_,fun _ => rfl, ?_⟩;go_big_quiet_on));clear hx inst)
   (refine wpS_quiet rfl rfl ?_;intro K hK inst hx;have z0 := fun x => (fun _ => bkeep (BQ.below x) r0) (hx x);have z1 := fun x => (fun _ => bkeep (BQ.below x) r1) (hx x);have z2 := fun x => (fun _ => bkeep (BQ.below x) r2) (hx x);go_big_quiet_op;(first | go_big_quiet_on | (refine ⟨_,fun _ => rfl, ?_⟩;go_big_quiet_on));clear hx inst)
   refine wpS_fresh rfl rfl (fun w' hb hF => ?_) ?_
   ·change freshAt _ _ _ (fun v _ => v = .tuple #[.agg #[.int .i64 (sy : Int), .int .i64 (sx : Int), .bool st], .int .i64 0]) _;unfold freshAt;go_simp;exact Add_any (bid := 1) (bwi := b2) (bde := b3) (bce := b4) (bhi := b5) (bbe := b6) (HS.out.below hb) no_bodies8 (HLI.out.below hb) (HST.out.below hb) HADD.out
   intro v W hv;simp only [pOf,List.lookup_cons,Nat.reduceBEq,beq_self_eq_true] at hv;subst hv
   simp only [Act.put,List.setIfInBounds_toArray,List.set_cons_succ,List.set_cons_zero]
   (refine wpS_quiet rfl rfl ?_;intro K hK inst hx;go_big_quiet_op;(first | go_big_quiet_on | (refine ⟨_,fun _ => rfl, ?_⟩;go_big_quiet_on));clear hx inst)
   (refine wpS_quiet rfl rfl ?_;intro K hK inst hx;go_big_quiet_op;(first | go_big_quiet_on | (refine ⟨_,fun _ => rfl, ?_⟩;go_big_quiet_on));clear hx inst)
   (refine wpS_quiet rfl rfl ?_;intro K hK inst hx;go_big_quiet_op;(first | go_big_quiet_on | (refine ⟨_,fun _ => rfl, ?_⟩;go_big_quiet_on));clear hx inst)
   refine wpS_fresh rfl rfl (fun w' hb hF => ?_) ?_
   ·change freshAt _ _ _ (NewCells v3.heap.size [.int .i64 0, .int .i64 0, .bool false]) _;unfold freshAt;go_simp;exact new_of hb
   intro v W hv;simp only [pOf,List.lookup_cons,Nat.reduceBEq,beq_self_eq_true] at hv;obtain ⟨B1,hB5,rfl,_⟩ := hv
   simp only [Act.put,List.setIfInBounds_toArray,List.set_cons_succ,List.set_cons_zero]
   refine wpS_nil ?_
   intro w2 hall
   have hb := hall.1
   have h15 : NewCells v3.heap.size [.int .i64 0, .int .i64 0, .bool false] _ w2 := hall.2 15 _ rfl
   clear hall
   obtain ⟨B',hB',hv',hn'⟩ := h15
   obtain rfl : B1 = B' := by simpa using hv'
   have n0 := (hn' 0 _ rfl).1
   have n1 := (hn' 1 _ rfl).1
   have n2 := (hn' 2 _ rfl).1
   have o0 := (hn' 0 _ rfl).2
   have o1 := (hn' 1 _ rfl).2
   have o2 := (hn' 2 _ rfl).2
   clear hn' hv'
   refine wpAny_ready (rs := [16]) (by kernel_rfl) (by simp) ?_
   refine AllReady.cons rfl (fun K hK => ?_) AllReady.nil
   go_simp
   refine hK _ _ ?_;clear hK K
   refine wpAny_ready (rs := [17]) (by kernel_rfl) (by simp) ?_
   refine AllReady.cons rfl (fun K hK => ?_) AllReady.nil
   go_simp
   refine hK _ _ ?_;clear hK K
   refine wpAny_done (by kernel_rfl) ?_ _
   refine ⟨rfl, ?_⟩
   clear z0 z1 z2
   generalize hW : World.setCell (World.setCell (World.setCell w2 _ _) _ _) _ _ = v4
   have e0 : v4.cell? ⟨B1,0,none⟩ = some (.int .i64 (sy : Int)) := by rw [← hW];simp [go_sem,n0,n1,n2]
   have e1 : v4.cell? ⟨B1,1,none⟩ = some (.int .i64 (sx : Int)) := by rw [← hW];simp [go_sem,n0,n1,n2]
   have e2 : v4.cell? ⟨B1,2,none⟩ = some (.bool st) := by rw [← hW];simp [go_sem,n0,n1,n2]
   have hb9 : Below v3.heap.size v3 v4 := by rw [← hW];exact ((hb.setCell (p := ⟨B1,0,none⟩) hB5 _).setCell (p := ⟨B1,1,none⟩) hB5 _).setCell (p := ⟨B1,2,none⟩) hB5 _
   replace hb0 := bnext (w := w) hb0 hb9
   replace q0 := bkeep hb9 q0
   replace q1 := bkeep hb9 q1
   replace q2 := bkeep hb9 q2
   replace q3 := bkeep hb9 q3
   replace q4 := bkeep hb9 q4
   replace q5 := bkeep hb9 q5
   replace q6 := bkeep hb9 q6
   replace q7 := bkeep hb9 q7
   replace q8 := bkeep hb9 q8
   replace q9 := bkeep hb9 q9
   replace q10 := bkeep hb9 q10
   replace q11 := bkeep hb9 q11
   replace q12 := bkeep hb9 q12
   replace r0 := bkeep hb9 r0
   replace r1 := bkeep hb9 r1
   replace r2 := bkeep hb9 r2
   replace HLI := hid (HLI.out.below hb9);replace HST := hid (HST.out.below hb9);replace HS := hid (HS.out.below hb9)
   replace ha := ha.below hb9
   replace hi := hi.below hb9
   clear hs hli hst hb hb9 hW n0 n1 n2 o0 o1 o2 hB' hB5
   have hlat := it_lat HLI.out;rw [HLE.out] at hlat
   have hplat := st_lat HST.out;rw [HQE.out] at hplat
   have HLAT := hid hlat;have HPL := hid hplat;clear hlat hplat
   have hi64 : ∀ y ∈ (xs.eraseIdx k) ++ [(⟨ish,imn,icl⟩ : It)],I64X y := fun y hy => by (rcases List.mem_append.1 hy with h | h);(obtain ⟨j,hj⟩ := List.getElem?_of_mem (List.mem_of_mem_eraseIdx h);exact it_i64 (show RowsAt 3 v4 (.slice (some a') xs.length ic) (xs.map rowX) from hi) hj);(rw [List.mem_singleton.1 h];exact HI6.out)
   obtain ⟨hw0, -, -,hall0⟩ := ckL_0 HK.out
   have hsn := ckL_snoc HKE.out (hall0 (⟨ish,imn,icl⟩ : It) (List.mem_of_getElem? HXS.out)) (by rw [HLE.out];omega)
   have HI64 := hid hi64;have HSN := hid hsn;clear hi64 hsn hw0 hall0
   have hm4 : m ≤ 4 := by omega
   obtain ⟨i0,hii,hz0,hz1,hz2⟩ := info_parts Tryz.infoX3
   obtain ⟨i1,hjj,hy0,hy1,hy2⟩ := info_parts Tryz.infoS
   go_upto_region 10 with fail
   refine wp_region_firstC (fun V => Below v4.heap.size v4 V) (Below.refl _ _).drew [0,1,2,3,4,5,6,8,10,11,12,13,14,18,20] 11 (by kernel_rfl) (by kernel_rfl) rfl ?_
   refine ⟨_, .int .i64 0,rfl,⟨rfl,fun V hV => by (try dsimp only at hV);go_simp⟩, ?_⟩
   simp only [Act.put,List.getElem_toArray,List.getElem_cons_succ,List.getElem_cons_zero,List.setIfInBounds_toArray,List.set_cons_succ,List.set_cons_zero]
   refine ⟨_, .bool false,rfl,⟨rfl,fun V hV => by (try dsimp only at hV);go_simp⟩, ?_⟩
   simp only [Act.put,List.getElem_toArray,List.getElem_cons_succ,List.getElem_cons_zero,List.setIfInBounds_toArray,List.set_cons_succ,List.set_cons_zero]
   refine ⟨_, .bool false,rfl,⟨rfl,fun V hV => by (try dsimp only at hV);go_simp⟩, ?_⟩
   simp only [Act.put,List.getElem_toArray,List.getElem_cons_succ,List.getElem_cons_zero,List.setIfInBounds_toArray,List.set_cons_succ,List.set_cons_zero]
   refine ⟨_, .pointer (some ⟨v1.heap.size,0,none⟩),rfl,⟨rfl,fun V hV => by (try dsimp only at hV);go_simp⟩, ?_⟩
   simp only [Act.put,List.getElem_toArray,List.getElem_cons_succ,List.getElem_cons_zero,List.setIfInBounds_toArray,List.set_cons_succ,List.set_cons_zero]
   refine ⟨_, .agg #[.slice sa ss.length sc, .slice none 0 0],rfl,⟨rfl,fun V hV => by (try dsimp only at hV);have hq0 := bkeep hV q0;have hq1 := bkeep hV q1;go_simp⟩, ?_⟩
   simp only [Act.put,List.getElem_toArray,List.getElem_cons_succ,List.getElem_cons_zero,List.setIfInBounds_toArray,List.set_cons_succ,List.set_cons_zero]
   refine ⟨_, .pointer (some ⟨v1.heap.size,2,none⟩),rfl,⟨rfl,fun V hV => by (try dsimp only at hV);go_simp⟩, ?_⟩
   simp only [Act.put,List.getElem_toArray,List.getElem_cons_succ,List.getElem_cons_zero,List.setIfInBounds_toArray,List.set_cons_succ,List.set_cons_zero]
   refine ⟨_, .agg #[.int .i64 1, .int .i64 b2, .int .i64 b3, .int .i64 b4, .int .i64 b5, .int .i64 b6],rfl,⟨rfl,fun V hV => by (try dsimp only at hV);have hq2 := bkeep hV q2;have hq3 := bkeep hV q3;have hq4 := bkeep hV q4;have hq5 := bkeep hV q5;have hq6 := bkeep hV q6;have hq7 := bkeep hV q7;go_simp⟩, ?_⟩
   simp only [Act.put,List.getElem_toArray,List.getElem_cons_succ,List.getElem_cons_zero,List.setIfInBounds_toArray,List.set_cons_succ,List.set_cons_zero]
   refine ⟨_, .slice la m lc,rfl,⟨rfl,fun V hV => by (try dsimp only at hV);go_simp⟩, ?_⟩
   simp only [Act.put,List.getElem_toArray,List.getElem_cons_succ,List.getElem_cons_zero,List.setIfInBounds_toArray,List.set_cons_succ,List.set_cons_zero]
   refine ⟨_, .pointer (some ⟨v1.heap.size,8,none⟩),rfl,⟨rfl,fun V hV => by (try dsimp only at hV);go_simp⟩, ?_⟩
   simp only [Act.put,List.getElem_toArray,List.getElem_cons_succ,List.getElem_cons_zero,List.setIfInBounds_toArray,List.set_cons_succ,List.set_cons_zero]
   refine ⟨_, .slice (some a') xs.length ic,rfl,⟨rfl,fun V hV => by (try dsimp only at hV);have hq8 := bkeep hV q8;go_simp⟩, ?_⟩
   simp only [Act.put,List.getElem_toArray,List.getElem_cons_succ,List.getElem_cons_zero,List.setIfInBounds_toArray,List.set_cons_succ,List.set_cons_zero]
   refine ⟨_, .int .i64 (k : Int),rfl,⟨rfl,fun V hV => by (try dsimp only at hV);go_simp⟩, ?_⟩
   simp only [Act.put,List.getElem_toArray,List.getElem_cons_succ,List.getElem_cons_zero,List.setIfInBounds_toArray,List.set_cons_succ,List.set_cons_zero]
   refine ⟨_, .pointer (some (a'.add (k * 3))),rfl,⟨rfl,fun V hV => by (try dsimp only at hV);go_simp⟩, ?_⟩
   simp only [Act.put,List.getElem_toArray,List.getElem_cons_succ,List.getElem_cons_zero,List.setIfInBounds_toArray,List.set_cons_succ,List.set_cons_zero]
   refine ⟨_, .agg #[.int .i64 ish, .int .i64 imn, .int .i64 icl],rfl,⟨rfl,fun V hV => by (try dsimp only at hV);have hr0 := bkeep hV r0;have hr1 := bkeep hV r1;have hr2 := bkeep hV r2;go_simp⟩, ?_⟩
   simp only [Act.put,List.getElem_toArray,List.getElem_cons_succ,List.getElem_cons_zero,List.setIfInBounds_toArray,List.set_cons_succ,List.set_cons_zero]
   refine ⟨_, .slice pa2 m pc2,rfl,⟨rfl,fun V hV => by (try dsimp only at hV);go_simp⟩, ?_⟩
   simp only [Act.put,List.getElem_toArray,List.getElem_cons_succ,List.getElem_cons_zero,List.setIfInBounds_toArray,List.set_cons_succ,List.set_cons_zero]
   refine ⟨_, .agg #[.int .i64 (sy : Int), .int .i64 (sx : Int), .bool st],rfl,⟨rfl,fun V hV => by (try dsimp only at hV);have he0 := bkeep hV e0;have he1 := bkeep hV e1;have he2 := bkeep hV e2;go_simp⟩, ?_⟩
   simp only [Act.put,List.getElem_toArray,List.getElem_cons_succ,List.getElem_cons_zero,List.setIfInBounds_toArray,List.set_cons_succ,List.set_cons_zero]
   refine wpAnyC_slots [7,9,15,16,17,19,21,22] [109,111,117,118,119,121,123,124] 3 #[true,true,true,true,true,true,true,true,true,true,true,true,true,true,true,true,true,true,true,true,true,true,true,false,false,false] (fun L val W => Below v4.heap.size v4 W ∧ ChainC v4.heap.size 32 m (itCells (xs.eraseIdx k)) [.int .i64 ish, .int .i64 imn, .int .i64 icl] (L.getD 7 false) (L.getD 9 false) (L.getD 15 false) (L.getD 16 false) (val 109) (val 111) (val 117) (val 118) W ∧ ChainC v4.heap.size 62 m (((q.map toSq).eraseIdx k).flatMap cellsQ) [.int .i64 (sy : Int), .int .i64 (sx : Int), .bool st] (L.getD 17 false) (L.getD 19 false) (L.getD 21 false) (L.getD 22 false) (val 119) (val 121) (val 123) (val 124) W) (by kernel_rfl) (fun L val W h => h.1) (fun val => ⟨(Below.refl _ _).drew,ChainC.start,ChainC.start⟩) ?_ ?_
   ·intro i hi9 L val W hu hdep hR
    obtain ⟨hW,hA,hB⟩ := hR
    have hsW := hW.size
    have hf := getD_false hu
    simp only [putT,List.foldl_cons,List.foldl_nil,Act.put,List.getElem_toArray,List.getElem_cons_succ,List.getElem_cons_zero,List.setIfInBounds_toArray,List.set_cons_succ,List.set_cons_zero]
    simp only [List.mem_cons,List.not_mem_nil,or_false] at hi9
    rcases hi9 with rfl | rfl | rfl | rfl | rfl | rfl | rfl | rfl
    ·refine wpOp_step rfl (fun K hK => ?_)
     refine (if_pos (show Region.wanted _ _ = true from rfl)).mpr ?_
     go_simp
     refine hK _ _ ⟨109, .slice (some ⟨W.heap.size,0,none⟩) 0 0,by simp,rfl,hW.alloc hsW _, ?_, ?_⟩
     ·rw [getD_set_at hu,getD_set_off (show 7 ≠ 9 by decide),getD_set_off (show 7 ≠ 15 by decide),getD_set_off (show 7 ≠ 16 by decide)];rw [hf] at hA;exact hA.op0 hsW
     ·rw [getD_set_off (show 7 ≠ 17 by decide),getD_set_off (show 7 ≠ 19 by decide),getD_set_off (show 7 ≠ 21 by decide),getD_set_off (show 7 ≠ 22 by decide)];exact hB.alloc _
    ·have d7 : L.getD 7 false = true := hdep _ rfl ⟨7, .data⟩ (by simp) rfl
     have own0 := hA.lit d7 hf
     refine wpOp_step rfl (fun K hK => ?_)
     refine (if_pos (show Region.wanted _ _ = true from rfl)).mpr ?_
     refine wp_append_lat W (.tmp 109) (.tmp 110) 28 rfl v4.heap.size 32 i0 (.agg #[.int .i64 0, .int .i64 0, .int .i64 0]) 3 24 Tryz.underlying28 hii hz0 hz1 hz2 rfl (by decide) (val 109) 0 [] rfl own0 (.slice la m lc) m (itCells (xs.eraseIdx k)) rfl (HLAT.out.below hW) (by unfold maxLen;omega) (by omega) hsW ?_
     intro v' w' ho2 hg
     rw [Nat.zero_add,List.nil_append] at ho2
     refine hK _ _ ⟨111,v',by simp,rfl,below_grown hW hg own0 hsW (Nat.le_refl _), ?_, ?_⟩
     ·rw [getD_set_off (show 9 ≠ 7 by decide),getD_set_at hu,getD_set_off (show 9 ≠ 15 by decide),getD_set_off (show 9 ≠ 16 by decide)];rw [hf] at hA;exact hA.op1 d7 ho2 hg
     ·rw [getD_set_off (show 9 ≠ 17 by decide),getD_set_off (show 9 ≠ 19 by decide),getD_set_off (show 9 ≠ 21 by decide),getD_set_off (show 9 ≠ 22 by decide)];exact hB.grown own0 (by decide) hg
    ·refine wpOp_step rfl (fun K hK => ?_)
     refine (if_pos (show Region.wanted _ _ = true from rfl)).mpr ?_
     go_simp
     refine hK _ _ ⟨117, .slice (some ⟨W.heap.size,0,none⟩) 1 1,by simp,rfl,hW.alloc hsW _, ?_, ?_⟩
     ·rw [getD_set_off (show 15 ≠ 7 by decide),getD_set_off (show 15 ≠ 9 by decide),getD_set_at hu,getD_set_off (show 15 ≠ 16 by decide)];rw [hf] at hA;exact hA.op2 _ _ _ hsW
     ·rw [getD_set_off (show 15 ≠ 17 by decide),getD_set_off (show 15 ≠ 19 by decide),getD_set_off (show 15 ≠ 21 by decide),getD_set_off (show 15 ≠ 22 by decide)];exact hB.alloc _
    ·have d9 : L.getD 9 false = true := hdep _ rfl ⟨9, .data⟩ (by simp) rfl
     have d15 : L.getD 15 false = true := hdep _ rfl ⟨15, .data⟩ (by simp) rfl
     have own1 := hA.mid d9 hf
     have own2 := hA.one d15 hf
     obtain ⟨a5,c5,hv5,hc5⟩ := one_lat own2 (fun u h => by simp only [List.mem_cons,List.not_mem_nil,or_false] at h;rcases h with rfl | rfl | rfl <;> rfl)
     refine wpOp_step rfl (fun K hK => ?_)
     refine (if_pos (show Region.wanted _ _ = true from rfl)).mpr ?_
     refine wp_append_own W (.tmp 111) (.tmp 117) 28 rfl v4.heap.size 32 i0 (.agg #[.int .i64 0, .int .i64 0, .int .i64 0]) 3 24 Tryz.underlying28 hii hz0 hz1 hz2 rfl (by decide) (val 111) m (itCells (xs.eraseIdx k)) rfl own1 a5 1 c5 [.int .i64 ish, .int .i64 imn, .int .i64 icl] hv5 rfl hc5 (fun u h => by simp only [List.mem_cons,List.not_mem_nil,or_false] at h;rcases h with rfl | rfl | rfl <;> rfl) (by unfold maxLen;omega) (by omega) hsW ?_
     intro v' w' ho2 hg _
     refine hK _ _ ⟨118,v',by simp,rfl,below_grown hW hg own1 hsW (Nat.le_refl _), ?_, ?_⟩
     ·rw [getD_set_off (show 16 ≠ 7 by decide),getD_set_off (show 16 ≠ 9 by decide),getD_set_off (show 16 ≠ 15 by decide),getD_set_at hu];rw [hf] at hA;exact hA.op3 d9 d15 ho2
     ·rw [getD_set_off (show 16 ≠ 17 by decide),getD_set_off (show 16 ≠ 19 by decide),getD_set_off (show 16 ≠ 21 by decide),getD_set_off (show 16 ≠ 22 by decide)];exact hB.grown own1 (by decide) hg
    ·refine wpOp_step rfl (fun K hK => ?_)
     refine (if_pos (show Region.wanted _ _ = true from rfl)).mpr ?_
     go_simp
     refine hK _ _ ⟨119, .slice (some ⟨W.heap.size,0,none⟩) 0 0,by simp,rfl,hW.alloc hsW _, ?_, ?_⟩
     ·rw [getD_set_off (show 17 ≠ 7 by decide),getD_set_off (show 17 ≠ 9 by decide),getD_set_off (show 17 ≠ 15 by decide),getD_set_off (show 17 ≠ 16 by decide)];exact hA.alloc _
     ·rw [getD_set_at hu,getD_set_off (show 17 ≠ 19 by decide),getD_set_off (show 17 ≠ 21 by decide),getD_set_off (show 17 ≠ 22 by decide)];rw [hf] at hB;exact hB.op0 hsW
    ·have d17 : L.getD 17 false = true := hdep _ rfl ⟨17, .data⟩ (by simp) rfl
     have own0 := hB.lit d17 hf
     refine wpOp_step rfl (fun K hK => ?_)
     refine (if_pos (show Region.wanted _ _ = true from rfl)).mpr ?_
     refine wp_append_lat W (.tmp 119) (.tmp 120) 41 rfl v4.heap.size 62 i1 (.agg #[.int .i64 0, .int .i64 0, .bool false]) 3 24 Tryz.underlying41 hjj hy0 hy1 hy2 rfl (by decide) (val 119) 0 [] rfl own0 (.slice pa2 m pc2) m (((q.map toSq).eraseIdx k).flatMap cellsQ) rfl (HPL.out.below hW) (by unfold maxLen;omega) (by omega) hsW ?_
     intro v' w' ho2 hg
     rw [Nat.zero_add,List.nil_append] at ho2
     refine hK _ _ ⟨121,v',by simp,rfl,below_grown hW hg own0 hsW (Nat.le_refl _), ?_, ?_⟩
     ·rw [getD_set_off (show 19 ≠ 7 by decide),getD_set_off (show 19 ≠ 9 by decide),getD_set_off (show 19 ≠ 15 by decide),getD_set_off (show 19 ≠ 16 by decide)];exact hA.grown own0 (by decide) hg
     ·rw [getD_set_off (show 19 ≠ 17 by decide),getD_set_at hu,getD_set_off (show 19 ≠ 21 by decide),getD_set_off (show 19 ≠ 22 by decide)];rw [hf] at hB;exact hB.op1 d17 ho2 hg
    ·refine wpOp_step rfl (fun K hK => ?_)
     refine (if_pos (show Region.wanted _ _ = true from rfl)).mpr ?_
     go_simp
     refine hK _ _ ⟨123, .slice (some ⟨W.heap.size,0,none⟩) 1 1,by simp,rfl,hW.alloc hsW _, ?_, ?_⟩
     ·rw [getD_set_off (show 21 ≠ 7 by decide),getD_set_off (show 21 ≠ 9 by decide),getD_set_off (show 21 ≠ 15 by decide),getD_set_off (show 21 ≠ 16 by decide)];exact hA.alloc _
     ·rw [getD_set_off (show 21 ≠ 17 by decide),getD_set_off (show 21 ≠ 19 by decide),getD_set_at hu,getD_set_off (show 21 ≠ 22 by decide)];rw [hf] at hB;exact hB.op2 _ _ _ hsW
    ·have d19 : L.getD 19 false = true := hdep _ rfl ⟨19, .data⟩ (by simp) rfl
     have d21 : L.getD 21 false = true := hdep _ rfl ⟨21, .data⟩ (by simp) rfl
     have own1 := hB.mid d19 hf
     have own2 := hB.one d21 hf
     obtain ⟨a5,c5,hv5,hc5⟩ := one_lat own2 (fun u h => by simp only [List.mem_cons,List.not_mem_nil,or_false] at h;rcases h with rfl | rfl | rfl <;> rfl)
     refine wpOp_step rfl (fun K hK => ?_)
     refine (if_pos (show Region.wanted _ _ = true from rfl)).mpr ?_
     refine wp_append_own W (.tmp 121) (.tmp 123) 41 rfl v4.heap.size 62 i1 (.agg #[.int .i64 0, .int .i64 0, .bool false]) 3 24 Tryz.underlying41 hjj hy0 hy1 hy2 rfl (by decide) (val 121) m (((q.map toSq).eraseIdx k).flatMap cellsQ) rfl own1 a5 1 c5 [.int .i64 (sy : Int), .int .i64 (sx : Int), .bool st] hv5 rfl hc5 (fun u h => by simp only [List.mem_cons,List.not_mem_nil,or_false] at h;rcases h with rfl | rfl | rfl <;> rfl) (by unfold maxLen;omega) (by omega) hsW ?_
     intro v' w' ho2 hg _
     refine hK _ _ ⟨124,v',by simp,rfl,below_grown hW hg own1 hsW (Nat.le_refl _), ?_, ?_⟩
     ·rw [getD_set_off (show 22 ≠ 7 by decide),getD_set_off (show 22 ≠ 9 by decide),getD_set_off (show 22 ≠ 15 by decide),getD_set_off (show 22 ≠ 16 by decide)];exact hA.grown own1 (by decide) hg
     ·rw [getD_set_off (show 22 ≠ 17 by decide),getD_set_off (show 22 ≠ 19 by decide),getD_set_off (show 22 ≠ 21 by decide),getD_set_at hu];rw [hf] at hB;exact hB.op3 d19 d21 ho2
   ·intro val W hR
    obtain ⟨hW,hA,hB⟩ := hR
    have ownX := hA.fin rfl
    have ownS := hB.fin rfl
    clear hA hB
    simp only [putT,List.foldl_cons,List.foldl_nil,Act.put,List.getElem_toArray,List.getElem_cons_succ,List.getElem_cons_zero,List.setIfInBounds_toArray,List.set_cons_succ,List.set_cons_zero]
    generalize val 109 = u109 at *
    generalize val 111 = u111 at *
    generalize val 117 = u117 at *
    generalize val 118 = u118 at *
    generalize val 119 = u119 at *
    generalize val 121 = u121 at *
    generalize val 123 = u123 at *
    generalize val 124 = u124 at *
    obtain ⟨xa,xc,rfl, -⟩ := owns_shape ownX
    obtain ⟨sa2,sc2,rfl, -⟩ := owns_shape ownS
    have hrow := it_snoc1 HLE.out HI64.out (show World.ownsRow W v4.heap.size 32 3 (.slice xa (m + 1) xc) (m + 1) (itCells (xs.eraseIdx k) ++ cellsX (⟨ish,imn,icl⟩ : It)) from ownX)
    have hst2 := st_snoc1 HQE.out (show World.ownsRow W v4.heap.size 62 3 (.slice sa2 (m + 1) sc2) (m + 1) (((q.map toSq).eraseIdx k).flatMap cellsQ ++ cellsQ (toSq (⟨sy,sx,st⟩ : St))) from ownS)
    obtain ⟨hsn1,hsn2⟩ := HSN.out
    have hpk3 : packB ⟨1,b2,b3,b4,b5,b6⟩ (feetV ss [] ⟨1,b2,b3,b4,b5,b6⟩ ((xs.eraseIdx k) ++ [(⟨ish,imn,icl⟩ : It)])) (((q.map toSq).eraseIdx k) ++ [(toSq (⟨sy,sx,st⟩ : St))]) = true := by rw [hsn2];exact HPK2.out
    refine wpAnyC_op (r := 23) hW (by kernel_rfl) rfl rfl (fun K hK => ?_)
    go_simp
    refine (check_f (HS.out.below hW) hrow HX.out hsn1 hst2 (a := true) hpk3).mono ?_
    rintro e w5 ⟨rfl,hb5⟩
    dsimp only
    refine hK _ _ ?_
    clear hK K
    have hW5 := hW.trans (hb5.mono hW.size)
    refine wpAnyC_op (r := 24) hW5 (by kernel_rfl) rfl rfl (fun K hK => ?_)
    go_simp
    refine hK _ _ ?_;clear hK K
    refine wpAnyC_op (r := 25) hW5 (by kernel_rfl) rfl rfl (fun K hK => ?_)
    go_simp
    refine hK _ _ ?_;clear hK K
    refine wpAnyC_end hW5 (by kernel_rfl) ?_
    refine ⟨rfl, ?_⟩
    replace hb0 := bnext (w := w) hb0 hW5
    replace q0 := bkeep hW5 q0
    replace q1 := bkeep hW5 q1
    replace q2 := bkeep hW5 q2
    replace q3 := bkeep hW5 q3
    replace q4 := bkeep hW5 q4
    replace q5 := bkeep hW5 q5
    replace q6 := bkeep hW5 q6
    replace q7 := bkeep hW5 q7
    replace q8 := bkeep hW5 q8
    replace q9 := bkeep hW5 q9
    replace q10 := bkeep hW5 q10
    replace q11 := bkeep hW5 q11
    replace q12 := bkeep hW5 q12
    replace HS := hid (HS.out.below hW5)
    replace ha := ha.below hW5
    replace hi := hi.below hW5
    clear hrow hst2 hsn1 hsn2 hpk3 hb5 hW hW5 ownX ownS e0 e1 e2 r0 r1 r2 HLI HST HLAT HPL HI64 HSN HPK2 HADD HKE HPE HLE HQE HOL HOP HXS HI6 hne9 hW9
    obtain ⟨v6,hv6⟩ : ∃ v,v = w5 := ⟨_,rfl⟩
    subst hv6
    go_upto_region 13 with fail
    generalize hW : World.alloc v6 _ = v7
    have g0 : v7.cell? ⟨v6.heap.size,0,none⟩ = some (.int .i64 1) := by rw [← hW];simp [go_sem]
    have g1 : v7.cell? ⟨v6.heap.size,1,none⟩ = some (.int .i64 b2) := by rw [← hW];simp [go_sem]
    have g2 : v7.cell? ⟨v6.heap.size,2,none⟩ = some (.int .i64 b3) := by rw [← hW];simp [go_sem]
    have g3 : v7.cell? ⟨v6.heap.size,3,none⟩ = some (.int .i64 b4) := by rw [← hW];simp [go_sem]
    have g4 : v7.cell? ⟨v6.heap.size,4,none⟩ = some (.int .i64 b5) := by rw [← hW];simp [go_sem]
    have g5 : v7.cell? ⟨v6.heap.size,5,none⟩ = some (.int .i64 b6) := by rw [← hW];simp [go_sem]
    have f1 : v7.frozen? ⟨v6.heap.size,1,none⟩ = false := by rw [← hW];simp [go_sem]
    have f2 : v7.frozen? ⟨v6.heap.size,2,none⟩ = false := by rw [← hW];simp [go_sem]
    have f4 : v7.frozen? ⟨v6.heap.size,4,none⟩ = false := by rw [← hW];simp [go_sem]
    have f5 : v7.frozen? ⟨v6.heap.size,5,none⟩ = false := by rw [← hW];simp [go_sem]
    have hB6 : Below v6.heap.size v6 v7 := by rw [← hW];exact (Below.refl _ _).alloc (Nat.le_refl _) _
    clear hW
    have hX2 := boxOk_iff.1 HX.out
    dsimp only at hX2
    obtain ⟨d1,hd1⟩ : ∃ z,m0 % 3 = z := ⟨_,rfl⟩
    have hd1b : 0 ≤ d1 ∧ d1 < 3 := by omega
    obtain ⟨n1,hn1⟩ : ∃ z,min 6 (b2 + d1) = z := ⟨_,rfl⟩
    have hn1b : b2 ≤ n1 ∧ n1 ≤ 6 := by omega
    have HD1 := hid hd1;have HN1 := hid hn1;clear hd1 hn1
    have p9 := bkeep hB6 q9
    refine wp_region_Rs [(4,fun v _ => v = .int .i64 d1),(6,fun v _ => v = .int .i64 n1)] [0,1,2,3,4,5,6,7] 1 (by kernel_rfl) rfl (by simp only [List.forall_mem_cons];exact ⟨keeps_eq,keeps_eq,fun _ h => by cases h⟩) (by kernel_rfl) ?_
    simp only [numbered,List.filterMap_cons,List.filterMap_nil,List.getElem?_toArray,List.getElem?_cons_succ,List.getElem?_cons_zero,Option.map_some]
    show wpS _ _ _ _ _ _ _ [(_,_),(_,_),(_,_),(_,_),(_,_),(_,_),(_,_),(_,_)] _ _
    (refine wpS_quiet rfl rfl ?_;intro K hK inst hx;go_big_quiet_op;(first | go_big_quiet_on | (refine ⟨_,fun _ => rfl, ?_⟩;go_big_quiet_on));clear hx inst)
    (refine wpS_quiet rfl rfl ?_;intro K hK inst hx;have zz := fun x => (fun _ => bkeep (BQ.below x) g1) (hx x);go_big_quiet_op;(first | go_big_quiet_on | (refine ⟨_,fun _ => rfl, ?_⟩;go_big_quiet_on));clear hx inst zz)
    (refine wpS_quiet rfl rfl ?_;intro K hK inst hx;go_big_quiet_op;(first | go_big_quiet_on | (refine ⟨_,fun _ => rfl, ?_⟩;go_big_quiet_on));clear hx inst)
    (refine wpS_quiet rfl rfl ?_;intro K hK inst hx;have zz := fun x => (fun _ => bkeep (BQ.below x) p9) (hx x);go_big_quiet_op;(first | go_big_quiet_on | (refine ⟨_,fun _ => rfl, ?_⟩;go_big_quiet_on));clear hx inst zz)
    refine wpS_fresh rfl rfl (fun w' hb hF => ?_) ?_
    ·change freshAt _ _ _ (fun v _ => v = .int .i64 d1) _;unfold freshAt;go_simp;refine (modS_any (n := m0) (m := 3) (by omega) (by omega)).mono ?_;rintro e w9 ⟨rfl,rfl⟩;exact ⟨ret_int HD1.out,Below.refl _ _⟩
    intro v W hv;simp only [pOf,List.lookup_cons,Nat.reduceBEq,beq_self_eq_true] at hv;subst hv
    simp only [Act.put,List.setIfInBounds_toArray,List.set_cons_succ,List.set_cons_zero]
    (refine wpS_quiet rfl rfl ?_;intro K hK inst hx;go_big_quiet_op;(first | go_big_quiet_on | (refine ⟨_,fun _ => rfl, ?_⟩;go_big_quiet_on));clear hx inst)
    refine wpS_fresh rfl rfl (fun w' hb hF => ?_) ?_
    ·change freshAt _ _ _ (fun v _ => v = .int .i64 n1) _;unfold freshAt;go_simp;exact ⟨Below.refl _ _,HN1.out⟩
    intro v W hv;simp only [pOf,List.lookup_cons,Nat.reduceBEq,beq_self_eq_true] at hv;subst hv
    simp only [Act.put,List.setIfInBounds_toArray,List.set_cons_succ,List.set_cons_zero]
    (refine wpS_quiet rfl rfl ?_;intro K hK inst hx;go_big_quiet_op;(first | go_big_quiet_on | (refine ⟨_,fun _ => rfl, ?_⟩;go_big_quiet_on));clear hx inst)
    refine wpS_nil ?_
    intro w17 hall
    have hb := hall.1
    clear hall p9
    replace f1 := bfree hb g1 f1
    replace f2 := bfree hb g2 f2
    replace f4 := bfree hb g4 f4
    replace f5 := bfree hb g5 f5
    replace g0 := bkeep hb g0
    replace g1 := bkeep hb g1
    replace g2 := bkeep hb g2
    replace g3 := bkeep hb g3
    replace g4 := bkeep hb g4
    replace g5 := bkeep hb g5
    replace hB6 := hB6.trans (hb.mono hB6.size)
    clear hb
    refine wpAny_ready (rs := [8]) (by kernel_rfl) (by simp) ?_
    refine AllReady.cons rfl (fun K hK => ?_) AllReady.nil
    go_simp
    refine hK _ _ ?_;clear hK K
    refine wpAny_done (by kernel_rfl) ?_ _
    generalize hW : World.setCell w17 _ _ = v8
    replace g1 : v8.cell? ⟨v6.heap.size,1,none⟩ = some (.int .i64 n1) := by rw [← hW];exact cell_on g1
    replace g0 := (show v8.cell? ⟨v6.heap.size,0,none⟩ = _ from by rw [← hW];exact cell_off (fun e => absurd e.2 (by decide))).trans g0
    replace g2 := (show v8.cell? ⟨v6.heap.size,2,none⟩ = _ from by rw [← hW];exact cell_off (fun e => absurd e.2 (by decide))).trans g2
    replace g3 := (show v8.cell? ⟨v6.heap.size,3,none⟩ = _ from by rw [← hW];exact cell_off (fun e => absurd e.2 (by decide))).trans g3
    replace g4 := (show v8.cell? ⟨v6.heap.size,4,none⟩ = _ from by rw [← hW];exact cell_off (fun e => absurd e.2 (by decide))).trans g4
    replace g5 := (show v8.cell? ⟨v6.heap.size,5,none⟩ = _ from by rw [← hW];exact cell_off (fun e => absurd e.2 (by decide))).trans g5
    replace f1 := (show v8.frozen? ⟨v6.heap.size,1,none⟩ = _ from by rw [← hW];exact frozen_set).trans f1
    replace f2 := (show v8.frozen? ⟨v6.heap.size,2,none⟩ = _ from by rw [← hW];exact frozen_set).trans f2
    replace f4 := (show v8.frozen? ⟨v6.heap.size,4,none⟩ = _ from by rw [← hW];exact frozen_set).trans f4
    replace f5 := (show v8.frozen? ⟨v6.heap.size,5,none⟩ = _ from by rw [← hW];exact frozen_set).trans f5
    replace hB6 : Below v6.heap.size v6 v8 := by rw [← hW];exact hB6.setCell (p := ⟨v6.heap.size,1,none⟩) (Nat.le_refl _) _
    clear hW w17
    go_upto_region 14 with fail
    obtain ⟨d2,hd2⟩ : ∃ z,m1 % 3 = z := ⟨_,rfl⟩
    have hd2b : 0 ≤ d2 ∧ d2 < 3 := by omega
    obtain ⟨n2,hn2⟩ : ∃ z,min 6 (b3 + d2) = z := ⟨_,rfl⟩
    have hn2b : b3 ≤ n2 ∧ n2 ≤ 6 := by omega
    have HD2 := hid hd2;have HN2 := hid hn2;clear hd2 hn2
    have p9 := bkeep hB6 q10
    refine wp_region_Rs [(4,fun v _ => v = .int .i64 d2),(6,fun v _ => v = .int .i64 n2)] [0,1,2,3,4,5,6,7] 1 (by kernel_rfl) rfl (by simp only [List.forall_mem_cons];exact ⟨keeps_eq,keeps_eq,fun _ h => by cases h⟩) (by kernel_rfl) ?_
    simp only [numbered,List.filterMap_cons,List.filterMap_nil,List.getElem?_toArray,List.getElem?_cons_succ,List.getElem?_cons_zero,Option.map_some]
    show wpS _ _ _ _ _ _ _ [(_,_),(_,_),(_,_),(_,_),(_,_),(_,_),(_,_),(_,_)] _ _
    (refine wpS_quiet rfl rfl ?_;intro K hK inst hx;go_big_quiet_op;(first | go_big_quiet_on | (refine ⟨_,fun _ => rfl, ?_⟩;go_big_quiet_on));clear hx inst)
    (refine wpS_quiet rfl rfl ?_;intro K hK inst hx;have zz := fun x => (fun _ => bkeep (BQ.below x) g2) (hx x);go_big_quiet_op;(first | go_big_quiet_on | (refine ⟨_,fun _ => rfl, ?_⟩;go_big_quiet_on));clear hx inst zz)
    (refine wpS_quiet rfl rfl ?_;intro K hK inst hx;go_big_quiet_op;(first | go_big_quiet_on | (refine ⟨_,fun _ => rfl, ?_⟩;go_big_quiet_on));clear hx inst)
    (refine wpS_quiet rfl rfl ?_;intro K hK inst hx;have zz := fun x => (fun _ => bkeep (BQ.below x) p9) (hx x);go_big_quiet_op;(first | go_big_quiet_on | (refine ⟨_,fun _ => rfl, ?_⟩;go_big_quiet_on));clear hx inst zz)
    refine wpS_fresh rfl rfl (fun w' hb hF => ?_) ?_
    ·change freshAt _ _ _ (fun v _ => v = .int .i64 d2) _;unfold freshAt;go_simp;refine (modS_any (n := m1) (m := 3) (by omega) (by omega)).mono ?_;rintro e w9 ⟨rfl,rfl⟩;exact ⟨ret_int HD2.out,Below.refl _ _⟩
    intro v W hv;simp only [pOf,List.lookup_cons,Nat.reduceBEq,beq_self_eq_true] at hv;subst hv
    simp only [Act.put,List.setIfInBounds_toArray,List.set_cons_succ,List.set_cons_zero]
    (refine wpS_quiet rfl rfl ?_;intro K hK inst hx;go_big_quiet_op;(first | go_big_quiet_on | (refine ⟨_,fun _ => rfl, ?_⟩;go_big_quiet_on));clear hx inst)
    refine wpS_fresh rfl rfl (fun w' hb hF => ?_) ?_
    ·change freshAt _ _ _ (fun v _ => v = .int .i64 n2) _;unfold freshAt;go_simp;exact ⟨Below.refl _ _,HN2.out⟩
    intro v W hv;simp only [pOf,List.lookup_cons,Nat.reduceBEq,beq_self_eq_true] at hv;subst hv
    simp only [Act.put,List.setIfInBounds_toArray,List.set_cons_succ,List.set_cons_zero]
    (refine wpS_quiet rfl rfl ?_;intro K hK inst hx;go_big_quiet_op;(first | go_big_quiet_on | (refine ⟨_,fun _ => rfl, ?_⟩;go_big_quiet_on));clear hx inst)
    refine wpS_nil ?_
    intro w18 hall
    have hb := hall.1
    clear hall p9
    replace f1 := bfree hb g1 f1
    replace f2 := bfree hb g2 f2
    replace f4 := bfree hb g4 f4
    replace f5 := bfree hb g5 f5
    replace g0 := bkeep hb g0
    replace g1 := bkeep hb g1
    replace g2 := bkeep hb g2
    replace g3 := bkeep hb g3
    replace g4 := bkeep hb g4
    replace g5 := bkeep hb g5
    replace hB6 := hB6.trans (hb.mono hB6.size)
    clear hb
    refine wpAny_ready (rs := [8]) (by kernel_rfl) (by simp) ?_
    refine AllReady.cons rfl (fun K hK => ?_) AllReady.nil
    go_simp
    refine hK _ _ ?_;clear hK K
    refine wpAny_done (by kernel_rfl) ?_ _
    generalize hW : World.setCell w18 _ _ = v9
    replace g2 : v9.cell? ⟨v6.heap.size,2,none⟩ = some (.int .i64 n2) := by rw [← hW];exact cell_on g2
    replace g0 := (show v9.cell? ⟨v6.heap.size,0,none⟩ = _ from by rw [← hW];exact cell_off (fun e => absurd e.2 (by decide))).trans g0
    replace g1 := (show v9.cell? ⟨v6.heap.size,1,none⟩ = _ from by rw [← hW];exact cell_off (fun e => absurd e.2 (by decide))).trans g1
    replace g3 := (show v9.cell? ⟨v6.heap.size,3,none⟩ = _ from by rw [← hW];exact cell_off (fun e => absurd e.2 (by decide))).trans g3
    replace g4 := (show v9.cell? ⟨v6.heap.size,4,none⟩ = _ from by rw [← hW];exact cell_off (fun e => absurd e.2 (by decide))).trans g4
    replace g5 := (show v9.cell? ⟨v6.heap.size,5,none⟩ = _ from by rw [← hW];exact cell_off (fun e => absurd e.2 (by decide))).trans g5
    replace f1 := (show v9.frozen? ⟨v6.heap.size,1,none⟩ = _ from by rw [← hW];exact frozen_set).trans f1
    replace f2 := (show v9.frozen? ⟨v6.heap.size,2,none⟩ = _ from by rw [← hW];exact frozen_set).trans f2
    replace f4 := (show v9.frozen? ⟨v6.heap.size,4,none⟩ = _ from by rw [← hW];exact frozen_set).trans f4
    replace f5 := (show v9.frozen? ⟨v6.heap.size,5,none⟩ = _ from by rw [← hW];exact frozen_set).trans f5
    replace hB6 : Below v6.heap.size v6 v9 := by rw [← hW];exact hB6.setCell (p := ⟨v6.heap.size,2,none⟩) (Nat.le_refl _) _
    clear hW w18
    go_upto_region 15 with fail
    obtain ⟨d4,hd4⟩ : ∃ z,m2 % 100 = z := ⟨_,rfl⟩
    have hd4b : 0 ≤ d4 ∧ d4 < 100 := by omega
    obtain ⟨n4,hn4⟩ : ∃ z,min 2000 (b5 + d4) = z := ⟨_,rfl⟩
    have hn4b : b5 ≤ n4 ∧ n4 ≤ 2000 := by omega
    have HD4 := hid hd4;have HN4 := hid hn4;clear hd4 hn4
    have p9 := bkeep hB6 q11
    refine wp_region_Rs [(4,fun v _ => v = .int .i64 d4),(6,fun v _ => v = .int .i64 n4)] [0,1,2,3,4,5,6,7] 1 (by kernel_rfl) rfl (by simp only [List.forall_mem_cons];exact ⟨keeps_eq,keeps_eq,fun _ h => by cases h⟩) (by kernel_rfl) ?_
    simp only [numbered,List.filterMap_cons,List.filterMap_nil,List.getElem?_toArray,List.getElem?_cons_succ,List.getElem?_cons_zero,Option.map_some]
    show wpS _ _ _ _ _ _ _ [(_,_),(_,_),(_,_),(_,_),(_,_),(_,_),(_,_),(_,_)] _ _
    (refine wpS_quiet rfl rfl ?_;intro K hK inst hx;go_big_quiet_op;(first | go_big_quiet_on | (refine ⟨_,fun _ => rfl, ?_⟩;go_big_quiet_on));clear hx inst)
    (refine wpS_quiet rfl rfl ?_;intro K hK inst hx;have zz := fun x => (fun _ => bkeep (BQ.below x) g4) (hx x);go_big_quiet_op;(first | go_big_quiet_on | (refine ⟨_,fun _ => rfl, ?_⟩;go_big_quiet_on));clear hx inst zz)
    (refine wpS_quiet rfl rfl ?_;intro K hK inst hx;go_big_quiet_op;(first | go_big_quiet_on | (refine ⟨_,fun _ => rfl, ?_⟩;go_big_quiet_on));clear hx inst)
    (refine wpS_quiet rfl rfl ?_;intro K hK inst hx;have zz := fun x => (fun _ => bkeep (BQ.below x) p9) (hx x);go_big_quiet_op;(first | go_big_quiet_on | (refine ⟨_,fun _ => rfl, ?_⟩;go_big_quiet_on));clear hx inst zz)
    refine wpS_fresh rfl rfl (fun w' hb hF => ?_) ?_
    ·change freshAt _ _ _ (fun v _ => v = .int .i64 d4) _;unfold freshAt;go_simp;refine (modS_any (n := m2) (m := 100) (by omega) (by omega)).mono ?_;rintro e w9 ⟨rfl,rfl⟩;exact ⟨ret_int HD4.out,Below.refl _ _⟩
    intro v W hv;simp only [pOf,List.lookup_cons,Nat.reduceBEq,beq_self_eq_true] at hv;subst hv
    simp only [Act.put,List.setIfInBounds_toArray,List.set_cons_succ,List.set_cons_zero]
    (refine wpS_quiet rfl rfl ?_;intro K hK inst hx;go_big_quiet_op;(first | go_big_quiet_on | (refine ⟨_,fun _ => rfl, ?_⟩;go_big_quiet_on));clear hx inst)
    refine wpS_fresh rfl rfl (fun w' hb hF => ?_) ?_
    ·change freshAt _ _ _ (fun v _ => v = .int .i64 n4) _;unfold freshAt;go_simp;exact ⟨Below.refl _ _,HN4.out⟩
    intro v W hv;simp only [pOf,List.lookup_cons,Nat.reduceBEq,beq_self_eq_true] at hv;subst hv
    simp only [Act.put,List.setIfInBounds_toArray,List.set_cons_succ,List.set_cons_zero]
    (refine wpS_quiet rfl rfl ?_;intro K hK inst hx;go_big_quiet_op;(first | go_big_quiet_on | (refine ⟨_,fun _ => rfl, ?_⟩;go_big_quiet_on));clear hx inst)
    refine wpS_nil ?_
    intro w19 hall
    have hb := hall.1
    clear hall p9
    replace f1 := bfree hb g1 f1
    replace f2 := bfree hb g2 f2
    replace f4 := bfree hb g4 f4
    replace f5 := bfree hb g5 f5
    replace g0 := bkeep hb g0
    replace g1 := bkeep hb g1
    replace g2 := bkeep hb g2
    replace g3 := bkeep hb g3
    replace g4 := bkeep hb g4
    replace g5 := bkeep hb g5
    replace hB6 := hB6.trans (hb.mono hB6.size)
    clear hb
    refine wpAny_ready (rs := [8]) (by kernel_rfl) (by simp) ?_
    refine AllReady.cons rfl (fun K hK => ?_) AllReady.nil
    go_simp
    refine hK _ _ ?_;clear hK K
    refine wpAny_done (by kernel_rfl) ?_ _
    generalize hW : World.setCell w19 _ _ = v10
    replace g4 : v10.cell? ⟨v6.heap.size,4,none⟩ = some (.int .i64 n4) := by rw [← hW];exact cell_on g4
    replace g0 := (show v10.cell? ⟨v6.heap.size,0,none⟩ = _ from by rw [← hW];exact cell_off (fun e => absurd e.2 (by decide))).trans g0
    replace g1 := (show v10.cell? ⟨v6.heap.size,1,none⟩ = _ from by rw [← hW];exact cell_off (fun e => absurd e.2 (by decide))).trans g1
    replace g2 := (show v10.cell? ⟨v6.heap.size,2,none⟩ = _ from by rw [← hW];exact cell_off (fun e => absurd e.2 (by decide))).trans g2
    replace g3 := (show v10.cell? ⟨v6.heap.size,3,none⟩ = _ from by rw [← hW];exact cell_off (fun e => absurd e.2 (by decide))).trans g3
    replace g5 := (show v10.cell? ⟨v6.heap.size,5,none⟩ = _ from by rw [← hW];exact cell_off (fun e => absurd e.2 (by decide))).trans g5
    replace f1 := (show v10.frozen? ⟨v6.heap.size,1,none⟩ = _ from by rw [← hW];exact frozen_set).trans f1
    replace f2 := (show v10.frozen? ⟨v6.heap.size,2,none⟩ = _ from by rw [← hW];exact frozen_set).trans f2
    replace f4 := (show v10.frozen? ⟨v6.heap.size,4,none⟩ = _ from by rw [← hW];exact frozen_set).trans f4
    replace f5 := (show v10.frozen? ⟨v6.heap.size,5,none⟩ = _ from by rw [← hW];exact frozen_set).trans f5
    replace hB6 : Below v6.heap.size v6 v10 := by rw [← hW];exact hB6.setCell (p := ⟨v6.heap.size,4,none⟩) (Nat.le_refl _) _
    clear hW w19
    go_upto_region 16 with fail
    obtain ⟨d5,hd5⟩ : ∃ z,m3 % 1000 = z := ⟨_,rfl⟩
    have hd5b : 0 ≤ d5 ∧ d5 < 1000 := by omega
    obtain ⟨n5,hn5⟩ : ∃ z,min 1000000 (b6 + d5) = z := ⟨_,rfl⟩
    have hn5b : b6 ≤ n5 ∧ n5 ≤ 1000000 := by omega
    have HD5 := hid hd5;have HN5 := hid hn5;clear hd5 hn5
    have p9 := bkeep hB6 q12
    refine wp_region_Rs [(4,fun v _ => v = .int .i64 d5),(6,fun v _ => v = .int .i64 n5)] [0,1,2,3,4,5,6,7] 1 (by kernel_rfl) rfl (by simp only [List.forall_mem_cons];exact ⟨keeps_eq,keeps_eq,fun _ h => by cases h⟩) (by kernel_rfl) ?_
    simp only [numbered,List.filterMap_cons,List.filterMap_nil,List.getElem?_toArray,List.getElem?_cons_succ,List.getElem?_cons_zero,Option.map_some]
    show wpS _ _ _ _ _ _ _ [(_,_),(_,_),(_,_),(_,_),(_,_),(_,_),(_,_),(_,_)] _ _
    (refine wpS_quiet rfl rfl ?_;intro K hK inst hx;go_big_quiet_op;(first | go_big_quiet_on | (refine ⟨_,fun _ => rfl, ?_⟩;go_big_quiet_on));clear hx inst)
    (refine wpS_quiet rfl rfl ?_;intro K hK inst hx;have zz := fun x => (fun _ => bkeep (BQ.below x) g5) (hx x);go_big_quiet_op;(first | go_big_quiet_on | (refine ⟨_,fun _ => rfl, ?_⟩;go_big_quiet_on));clear hx inst zz)
    (refine wpS_quiet rfl rfl ?_;intro K hK inst hx;go_big_quiet_op;(first | go_big_quiet_on | (refine ⟨_,fun _ => rfl, ?_⟩;go_big_quiet_on));clear hx inst)
    (refine wpS_quiet rfl rfl ?_;intro K hK inst hx;have zz := fun x => (fun _ => bkeep (BQ.below x) p9) (hx x);go_big_quiet_op;(first | go_big_quiet_on | (refine ⟨_,fun _ => rfl, ?_⟩;go_big_quiet_on));clear hx inst zz)
    refine wpS_fresh rfl rfl (fun w' hb hF => ?_) ?_
    ·change freshAt _ _ _ (fun v _ => v = .int .i64 d5) _;unfold freshAt;go_simp;refine (modS_any (n := m3) (m := 1000) (by omega) (by omega)).mono ?_;rintro e w9 ⟨rfl,rfl⟩;exact ⟨ret_int HD5.out,Below.refl _ _⟩
    intro v W hv;simp only [pOf,List.lookup_cons,Nat.reduceBEq,beq_self_eq_true] at hv;subst hv
    simp only [Act.put,List.setIfInBounds_toArray,List.set_cons_succ,List.set_cons_zero]
    (refine wpS_quiet rfl rfl ?_;intro K hK inst hx;go_big_quiet_op;(first | go_big_quiet_on | (refine ⟨_,fun _ => rfl, ?_⟩;go_big_quiet_on));clear hx inst)
    refine wpS_fresh rfl rfl (fun w' hb hF => ?_) ?_
    ·change freshAt _ _ _ (fun v _ => v = .int .i64 n5) _;unfold freshAt;go_simp;exact ⟨Below.refl _ _,HN5.out⟩
    intro v W hv;simp only [pOf,List.lookup_cons,Nat.reduceBEq,beq_self_eq_true] at hv;subst hv
    simp only [Act.put,List.setIfInBounds_toArray,List.set_cons_succ,List.set_cons_zero]
    (refine wpS_quiet rfl rfl ?_;intro K hK inst hx;go_big_quiet_op;(first | go_big_quiet_on | (refine ⟨_,fun _ => rfl, ?_⟩;go_big_quiet_on));clear hx inst)
    refine wpS_nil ?_
    intro w20 hall
    have hb := hall.1
    clear hall p9
    replace f1 := bfree hb g1 f1
    replace f2 := bfree hb g2 f2
    replace f4 := bfree hb g4 f4
    replace f5 := bfree hb g5 f5
    replace g0 := bkeep hb g0
    replace g1 := bkeep hb g1
    replace g2 := bkeep hb g2
    replace g3 := bkeep hb g3
    replace g4 := bkeep hb g4
    replace g5 := bkeep hb g5
    replace hB6 := hB6.trans (hb.mono hB6.size)
    clear hb
    refine wpAny_ready (rs := [8]) (by kernel_rfl) (by simp) ?_
    refine AllReady.cons rfl (fun K hK => ?_) AllReady.nil
    go_simp
    refine hK _ _ ?_;clear hK K
    refine wpAny_done (by kernel_rfl) ?_ _
    generalize hW : World.setCell w20 _ _ = v11
    replace g5 : v11.cell? ⟨v6.heap.size,5,none⟩ = some (.int .i64 n5) := by rw [← hW];exact cell_on g5
    replace g0 := (show v11.cell? ⟨v6.heap.size,0,none⟩ = _ from by rw [← hW];exact cell_off (fun e => absurd e.2 (by decide))).trans g0
    replace g1 := (show v11.cell? ⟨v6.heap.size,1,none⟩ = _ from by rw [← hW];exact cell_off (fun e => absurd e.2 (by decide))).trans g1
    replace g2 := (show v11.cell? ⟨v6.heap.size,2,none⟩ = _ from by rw [← hW];exact cell_off (fun e => absurd e.2 (by decide))).trans g2
    replace g3 := (show v11.cell? ⟨v6.heap.size,3,none⟩ = _ from by rw [← hW];exact cell_off (fun e => absurd e.2 (by decide))).trans g3
    replace g4 := (show v11.cell? ⟨v6.heap.size,4,none⟩ = _ from by rw [← hW];exact cell_off (fun e => absurd e.2 (by decide))).trans g4
    replace f1 := (show v11.frozen? ⟨v6.heap.size,1,none⟩ = _ from by rw [← hW];exact frozen_set).trans f1
    replace f2 := (show v11.frozen? ⟨v6.heap.size,2,none⟩ = _ from by rw [← hW];exact frozen_set).trans f2
    replace f4 := (show v11.frozen? ⟨v6.heap.size,4,none⟩ = _ from by rw [← hW];exact frozen_set).trans f4
    replace f5 := (show v11.frozen? ⟨v6.heap.size,5,none⟩ = _ from by rw [← hW];exact frozen_set).trans f5
    replace hB6 : Below v6.heap.size v6 v11 := by rw [← hW];exact hB6.setCell (p := ⟨v6.heap.size,5,none⟩) (Nat.le_refl _) _
    clear hW w20
    replace hb0 := bnext (w := w) hb0 hB6
    replace q0 := bkeep hB6 q0
    replace q1 := bkeep hB6 q1
    replace q2 := bkeep hB6 q2
    replace q3 := bkeep hB6 q3
    replace q4 := bkeep hB6 q4
    replace q5 := bkeep hB6 q5
    replace q6 := bkeep hB6 q6
    replace q7 := bkeep hB6 q7
    replace q8 := bkeep hB6 q8
    replace q9 := bkeep hB6 q9
    replace q10 := bkeep hB6 q10
    replace q11 := bkeep hB6 q11
    replace q12 := bkeep hB6 q12
    replace HS := hid (HS.out.below hB6)
    replace ha := ha.below hB6
    replace hi := hi.below hB6
    obtain ⟨hkt,hft⟩ := ckL_wide (t := ⟨1,n1,n2,b4,n4,n5⟩) HK.out (boxOk_iff.2 (by dsimp only;omega)) rfl
    have hxt : boxOk ⟨1,n1,n2,b4,n4,n5⟩ = true := boxOk_iff.2 (by dsimp only;omega)
    have hpt : packB ⟨1,n1,n2,b4,n4,n5⟩ (feetV ss [] ⟨1,n1,n2,b4,n4,n5⟩ xs) (q.map toSq) = true := by rw [hft];exact pack_wide (s := ⟨1,b2,b3,b4,b5,b6⟩) ⟨by dsimp only;omega,by dsimp only;omega,by dsimp only;omega,by dsimp only;omega⟩ HPK.out
    obtain ⟨q7',hq7⟩ := shown_first hxt hpt
    have HXT := hid hxt;have HKT := hid hkt;have HPT := hid hpt;have HQT := hid hq7;clear hxt hkt hpt hq7 hft hX2 hB6
    have hs := HS.out
    go_wp2_with fail
    refine (pack_f hs hi HXT.out HKT.out HQT.out).mono ?_
    rintro e w8 ⟨av2,rfl,hb, -⟩
    replace hb0 := bnext (w := w) hb0 hb
    replace q0 := bkeep hb q0
    replace q1 := bkeep hb q1
    replace q2 := bkeep hb q2
    replace q3 := bkeep hb q3
    replace q4 := bkeep hb q4
    replace q5 := bkeep hb q5
    replace q6 := bkeep hb q6
    replace q7 := bkeep hb q7
    replace q8 := bkeep hb q8
    replace q9 := bkeep hb q9
    replace q10 := bkeep hb q10
    replace q11 := bkeep hb q11
    replace q12 := bkeep hb q12
    replace g0 := bkeep hb g0
    replace g1 := bkeep hb g1
    replace g2 := bkeep hb g2
    replace g3 := bkeep hb g3
    replace g4 := bkeep hb g4
    replace g5 := bkeep hb g5
    replace ha := ha.below hb
    replace hi := hi.below hb
    replace hs := hs.below hb
    clear hb HS
    go_wp2_with fail
    refine (check_f hs hi HXT.out HKT.out ha (a := true) HPT.out).mono ?_
    rintro e w9 ⟨rfl,hb⟩
    replace hb0 := bnext (w := w) hb0 hb
    go_wp2_with fail
    refine sane_any.mono ?_
    rintro e w10 ⟨rfl,hb⟩
    replace hb0 := bnext (w := w) hb0 hb
    go_wp2_with fail
    go_ret
    exact ⟨rfl,hb0⟩
end Go.Proofs.YtodmidchpbcnpaaGreat