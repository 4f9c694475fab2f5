/- Part of a claim. -/
import Derived.Test.YtodmidchpbcnpaaGreatG31V
import Derived.Test.YtodmidchpbcnpaaGreatG27V
import Derived.Test.YtodmidchpbcnpaaGreatG23V
import Derived.Test.YtodmidchpbcnpaaGreatG22V
import Derived.Test.YtodmidchpbcnpaaGreatG20V
import Derived.Test.YtodmidchpbcnpaaGreatKTjV
import Derived.Test.YtodmidchpbcnpaaGreatKScV
import Derived.Test.YtodmidchpbcnpaaGreatKSmV
import Derived.Test.YtodmidchpbcnpaaGreatKG57V
import Derived.Test.YtodmidchpbcnpaaGreatG51V
import Derived.Test.YtodmidchpbcnpaaGreatG30V
import Derived.Test.YtodmidchpbcnpaaGreatG25V
import Derived.Test.YtodmidchpbcnpaaGreatG24V
import Derived.Test.YtodmidchpbcnpaaGreatG4V
set_option linter.unusedVariables false
set_option linter.unusedSimpArgs false
namespace Go.Proofs.YtodmidchpbcnpaaGreat
open Go.RowKit Go.Pb Go.Pb.Ware Go.Pb.Sag


theorem owns_new {w : World} {lo T n size : Nat} {xs : List Value} (hs : xs.length = n * size) (hn : n ≤ maxLen) (hlo : lo ≤ w.heap.size) : (w.alloc (.cells xs.toArray T)).ownsRow lo T size (.slice (some ⟨w.heap.size, 0, none⟩) n n) n xs := by
 refine ⟨by omega, .inr ⟨w.heap.size, n, xs.toArray, rfl, hlo, heap_alloc_new w _, Nat.le_refl _, hn, by rw [List.size_toArray]; omega, ?_⟩⟩
 show xs.take (n * size) = xs
 rw [← hs, List.take_length]
theorem groupsAt_lists {lo : Nat} {v : Value} {gs : List (List Int)} {W : World} (h : GroupsAt lo v gs W) (hi : ∀ g ∈ gs, ∀ z ∈ g, I64 z) : ListsAt v gs W := by
 obtain ⟨us, h1, h2⟩ := h
 obtain ⟨a, c, rfl, hc⟩ := owns_shape h1
 refine ⟨a, c, rfl, fun k g hg => ?_⟩
 have hk := (List.getElem?_eq_some_iff.1 hg).1
 have hl : us.length = gs.length := by have := h1.1; omega
 have hu : us[k]? = some (us[k]'(by omega)) := List.getElem?_eq_getElem _
 rcases h1.2 with ⟨_, hn⟩ | ⟨B, cap, cur, e, hr⟩
 ·omega
 ·injection e with e1 e2 e3
  subst e1
  exact ⟨_, rfl, us[k]'(by omega), h1.cells (g := B) rfl k _ hu, numsAt_of_owns (hi g (List.mem_of_getElem? hg)) (h2 k _ g hu hg)⟩
theorem i64_small {z : Int} (h1 : -100000 ≤ z) (h2 : z ≤ 100000) : I64 z := I64.mk (by omega) (by omega)
def WaresRes (W : World) (e : Ending) (w' : World) : Prop := ∃ sv, e = .returned (.agg #[sv, .slice none 0 0]) ∧ Below W.heap.size W w' ∧ RowsAt 11 w' sv exRows
theorem exRows_ok : ∀ r ∈ exRows, r.length = 11 ∧ ∀ z ∈ r, I64 z := by
 have h : ∀ r ∈ exRows, r.length = 11 ∧ ∀ z ∈ r, -100000 ≤ z ∧ z ≤ 100000 := by decide
 exact fun r hr => ⟨(h r hr).1, fun z hz => i64_small ((h r hr).2 z hz).1 ((h r hr).2 z hz).2⟩
theorem exRows_at {w : World} {lo T : Nat} {v : Value} (h : w.ownsRow lo T 11 v 2 (exRows.flatten.map (Value.int .i64))) : RowsAt 11 w v exRows :=
 rowsAt_of_owns (rows := exRows) (fun r hr => (exRows_ok r hr).1) h (fun r hr => (exRows_ok r hr).2)
def WaresOwn (W : World) (e : Ending) (w' : World) : Prop := ∃ sv, e = .returned (.agg #[sv, .slice none 0 0]) ∧ Below W.heap.size W w' ∧ w'.ownsRow W.heap.size 109 11 sv 2 (exRows.flatten.map (Value.int .i64))
set_option maxRecDepth 100000 in
set_option maxHeartbeats 1000000 in
theorem wares_own {w : World}  :
  Calls Tryz.prog 72 #[] w (WaresOwn w) := by
 unfold WaresOwn
 go_enter Tryz.func72, Tryz.ntmps72
 go_wp2_with fail
 refine bodyPost_ret (v := .agg #[.slice (some ⟨w.heap.size + 1, 0, none⟩) 2 2, .slice none 0 0]) (by simp [results, Tryz.results72, go_sem, *]) rfl ?_
 refine ⟨_, rfl, by go_grown, ?_⟩
 have h := owns_new (w := w.alloc (.cells #[.slice (some ⟨w.heap.size + 1, 0, none⟩) 2 2, .slice none 0 0] 25)) (lo := w.heap.size) (T := 109) (n := 2) (size := 11) (xs := exRows.flatten.map (Value.int .i64)) (by decide) (by decide) (by simp)
 simp only [World.size_alloc] at h
 exact h
theorem wares_any {w : World} : Calls Tryz.prog 72 #[] w (WaresRes w) := wares_own.mono fun e w' ⟨sv, e1, hb, ho⟩ => ⟨sv, e1, hb, exRows_at ho⟩
end Go.Proofs.YtodmidchpbcnpaaGreat
namespace Go.Proofs.YtodmidchpbcnpaaGreat
open Go.RowKit Go.Pb Go.Pb.Ware Go.Pb.Sag


theorem shown_packs {s : Bx} {fs : List Ft} {most : Nat} (h : fitsB s fs = true) : ((packsF (List.map (spotsL s) fs) 0).map (([] : List St) ++ ·)).take most = (shownL s fs).take most := by
 have h2 := (fits_open h).1
 have e : shownL s fs = allPacks s fs := by unfold shownL; rw [h2]; rfl
 rw [e]
 unfold allPacks
 congr 1
 have e2 : (fun q : List St => ([] : List St) ++ q) = id := funext fun q => rfl
 rw [e2, List.map_id]
theorem shown_none {s : Bx} {fs : List Ft} (h : fitsB s fs = false) : shownL s fs = [] := by
 unfold Go.Pb.Sag.fitsB at h
 simpa using h
theorem rowsQ_cell {lo TQ TS n : Nat} {a : Option Addr} {cap k : Nat} {rows : List (List St)} {q : List St} {W : World} (h : RowsQ lo TQ TS (.slice a n cap) rows W) (hk : rows[k]? = some q) : ∃ g u, a = some ⟨g, 0, none⟩ ∧ W.cell? ⟨g, k, none⟩ = some u ∧ W.ownsRow lo TS 3 u q.length (q.flatMap cellsP) := by
 obtain ⟨us, h1, h2⟩ := h
 have hlt := (List.getElem?_eq_some_iff.1 hk).1
 obtain ⟨g, c, e, h3, h4⟩ := own_some h1 (by omega)
 injection e with e1 _ e2
 have hul : us.length = rows.length := by have := h1.1; omega
 have hu : us[k]? = some us[k] := List.getElem?_eq_getElem (by omega)
 refine ⟨g, us[k], e1, ?_, h2 k _ q hu hk⟩
 have h5 := h1.cells (g := g) (by rw [e1]; rfl) k _ hu
 rwa [Go.WideShapes.add_plain, Nat.zero_add] at h5
set_option maxRecDepth 100000 in
set_option maxHeartbeats 1500000 in
theorem rAll_any {w : World} {most : Nat} {mi : Int} (hmi : mi = (most : Nat)) {vs vb : Value} {ss bs : List (List Int)} (h1 : RowsAt 11 w vs ss) (h2 : RowsAt 7 w vb bs) {lv : Value} {xs : List It} {bid bwi bde bce bhi bbe : Int} (hl : RowsAt 3 w lv (xs.map rowX)) (hc : ckL ss bs ⟨bid, bwi, bde, bce, bhi, bbe⟩ xs = 0) (hm1 : 1 ≤ most) (hmk : most ≤ 1000) :
  Calls Tryz.prog 74 #[.agg #[vs, vb], .agg #[.int .i64 bid, .int .i64 bwi, .int .i64 bde, .int .i64 bce, .int .i64 bhi, .int .i64 bbe], lv, .int .i64 mi] w (PacksRes ((shownL ⟨bid, bwi, bde, bce, bhi, bbe⟩ (feetV ss bs ⟨bid, bwi, bde, bce, bhi, bbe⟩ xs)).take most) w) := by
 subst hmi
 obtain ⟨la, lc, rfl, hll⟩ := hl.shape
 rw [List.length_map] at hl hll ⊢
 unfold PacksRes
 obtain ⟨hw, hX, hxl, hit⟩ := ckL_0 hc
 obtain ⟨fs, hfs⟩ : ∃ fs, (feetV ss bs ⟨bid, bwi, bde, bce, bhi, bbe⟩ xs) = fs := ⟨_, rfl⟩
 have hok : ∀ f ∈ fs, FtOk f := hfs ▸ feet_ok
 have hn : fs.length ≤ 5 := hfs ▸ feet_len
 have hf2 : xs.map (footR ss bce) = fs := by rw [← hfs, feetV_0 hc]
 rw [hfs]
 have HF2 := hid hf2; have HX := hid hX; have HWW := hid hw; have HIT := hid (List.all_eq_true.2 hit); clear hf2 hfs hc hw hX hit
 obtain ⟨RL, hRL⟩ : ∃ l, (shownL ⟨bid, bwi, bde, bce, bhi, bbe⟩ fs).take most = l := ⟨_, rfl⟩
 rw [hRL]
 have HRL := hid hRL; clear hRL
 obtain ⟨b, hbb⟩ : ∃ b, fitsB ⟨bid, bwi, bde, bce, bhi, bbe⟩ fs = b := ⟨_, rfl⟩
 have HBB := hid hbb; clear hbb
 go_enter Tryz.func74, Tryz.ntmps74
 go_wp2_with fail
 refine (rfeet_any (h1.below (by go_grown)) (h2.below (by go_grown)) (hl.below (by go_grown)) (by omega) HWW.out HX.out HIT.out).mono ?_
 rintro e w1 ⟨fv, rfl, hb, ho⟩
 replace hb0 := bnext (w := w) (by go_grown) hb; have hz := hb.size; (try simp only [World.size_alloc, World.size_setCell] at hz); replace q0 : w1.cell? ⟨w.heap.size, 0, none⟩ = some (vs) := bkeep hb (by first | (with_reducible exact q0) | (with_reducible exact akeep q0) | simp [*, go_sem]); replace q1 : w1.cell? ⟨w.heap.size, 1, none⟩ = some (vb) := bkeep hb (by first | (with_reducible exact q1) | (with_reducible exact akeep q1) | simp [*, go_sem]); replace q2 : w1.cell? ⟨w.heap.size + 1, 0, none⟩ = some (.int .i64 bid) := bkeep hb (by first | (with_reducible exact q2) | (with_reducible exact akeep q2) | simp [*, go_sem]); replace q3 : w1.cell? ⟨w.heap.size + 1, 1, none⟩ = some (.int .i64 bwi) := bkeep hb (by first | (with_reducible exact q3) | (with_reducible exact akeep q3) | simp [*, go_sem]); replace q4 : w1.cell? ⟨w.heap.size + 1, 2, none⟩ = some (.int .i64 bde) := bkeep hb (by first | (with_reducible exact q4) | (with_reducible exact akeep q4) | simp [*, go_sem]); replace q5 : w1.cell? ⟨w.heap.size + 1, 3, none⟩ = some (.int .i64 bce) := bkeep hb (by first | (with_reducible exact q5) | (with_reducible exact akeep q5) | simp [*, go_sem]); replace q6 : w1.cell? ⟨w.heap.size + 1, 4, none⟩ = some (.int .i64 bhi) := bkeep hb (by first | (with_reducible exact q6) | (with_reducible exact akeep q6) | simp [*, go_sem]); replace q7 : w1.cell? ⟨w.heap.size + 1, 5, none⟩ = some (.int .i64 bbe) := bkeep hb (by first | (with_reducible exact q7) | (with_reducible exact akeep q7) | simp [*, go_sem]); skip
 clear hb
 rw [HF2.out] at ho
 have hfa := feetAt_of_owns hok ho
 obtain ⟨fa, fc, rfl, hfl⟩ := owns_shape ho
 clear ho
 go_wp2_with fail
 refine (rPackable HX.out (hfa.below (by go_grown)) hok hn HBB.out).mono ?_
 rintro e w2 ⟨rfl, hb⟩
 have hb02 := bnext (w := w) hb0 hb
 replace q0 := bkeep hb q0
 replace q1 := bkeep hb q1
 replace q2 := bkeep hb q2
 replace q3 := bkeep hb q3
 replace q4 := bkeep hb q4
 replace q5 := bkeep hb q5
 replace q6 := bkeep hb q6
 replace q7 := bkeep hb q7
 replace hfa := hfa.below hb
 have hz2 : w.heap.size ≤ w2.heap.size := hb02.size
 cases b
 ·clear hb hb0
  go_wp2_with fail
  go_ret
  exact ⟨_, rfl, hb02, by have h := HRL.out; rw [shown_none HBB.out, List.take_nil] at h; rw [← h]; exact RowsQ.nil⟩
 ·have hcall := rPacks HX.out fs.length w2 (.slice fa fs.length fc) (.slice none 0 0) fs 0 0 most [] rfl (by simpa using hn) hfa hok (by decide) rel_zero (.inl ⟨rfl, rfl⟩) hm1 hmk
  unfold PacksRes at hcall
  rw [show ((0 : Nat) : Int) = 0 from rfl] at hcall
  have HC := hid hcall; clear hcall hb hb0
  go_wp2_with fail
  refine HC.out.mono ?_
  rintro e w3 ⟨rv, rfl, hb3, hres⟩
  rw [shown_packs HBB.out, HRL.out] at hres
  obtain ⟨ra, rc, rfl, -⟩ := hres.shape
  have hres2 := hres.base (lo2 := w.heap.size) hz2
  have HRS := hid hres2; clear hres hres2
  have hb03 := bnext (w := w) hb02 hb3
  clear HC hb3 hb02
  go_wp2_with fail
  go_ret
  exact ⟨_, rfl, hb03, HRS.out⟩
set_option maxRecDepth 100000 in
set_option maxHeartbeats 1500000 in
theorem rPack_any {w : World} {vs vb : Value} {ss bs : List (List Int)} (h1 : RowsAt 11 w vs ss) (h2 : RowsAt 7 w vb bs) {lv : Value} {xs : List It} {bid bwi bde bce bhi bbe : Int} (hl : RowsAt 3 w lv (xs.map rowX)) :
  Calls Tryz.prog 26 #[.agg #[vs, vb], .agg #[.int .i64 bid, .int .i64 bwi, .int .i64 bde, .int .i64 bce, .int .i64 bhi, .int .i64 bbe], lv] w (PackRes (nthA ss bs ⟨bid, bwi, bde, bce, bhi, bbe⟩ xs 0 24) w) := by
 unfold PackRes
 obtain ⟨la, lc, rfl, hll⟩ := hl.shape
 rw [List.length_map] at hl hll ⊢
 obtain ⟨c, hc⟩ : ∃ c, ckL ss bs ⟨bid, bwi, bde, bce, bhi, bbe⟩ xs = c := ⟨_, rfl⟩
 have HC := hid hc
 by_cases hc0 : c = 0
 ·subst hc0
  obtain ⟨SH, hSH⟩ : ∃ l, shownL ⟨bid, bwi, bde, bce, bhi, bbe⟩ (feetV ss bs ⟨bid, bwi, bde, bce, bhi, bbe⟩ xs) = l := ⟨_, rfl⟩
  have hR : nthA ss bs ⟨bid, bwi, bde, bce, bhi, bbe⟩ xs 0 24 = match SH[0]? with | some q => (q, 0) | none => ([], 24) := by unfold nthA; rw [if_pos hc, hSH]; cases SH[0]? <;> rfl
  have HR := hid hR; clear hc hR
  go_enter Tryz.func26, Tryz.ntmps26
  go_wp2_with fail
  refine (rHead (h1.below (by go_grown)) (h2.below (by go_grown)) (hl.below (by go_grown)) HC.out).mono ?_
  rintro e w1 ⟨rfl, hb⟩
  replace hb0 := bnext (w := w) (by go_grown) hb; have hz := hb.size; (try simp only [World.size_alloc, World.size_setCell] at hz); replace q0 : w1.cell? ⟨w.heap.size, 0, none⟩ = some (vs) := bkeep hb (by first | (with_reducible exact q0) | (with_reducible exact akeep q0) | simp [*, go_sem]); replace q1 : w1.cell? ⟨w.heap.size, 1, none⟩ = some (vb) := bkeep hb (by first | (with_reducible exact q1) | (with_reducible exact akeep q1) | simp [*, go_sem]); replace q2 : w1.cell? ⟨w.heap.size + 1, 0, none⟩ = some (.int .i64 bid) := bkeep hb (by first | (with_reducible exact q2) | (with_reducible exact akeep q2) | simp [*, go_sem]); replace q3 : w1.cell? ⟨w.heap.size + 1, 1, none⟩ = some (.int .i64 bwi) := bkeep hb (by first | (with_reducible exact q3) | (with_reducible exact akeep q3) | simp [*, go_sem]); replace q4 : w1.cell? ⟨w.heap.size + 1, 2, none⟩ = some (.int .i64 bde) := bkeep hb (by first | (with_reducible exact q4) | (with_reducible exact akeep q4) | simp [*, go_sem]); replace q5 : w1.cell? ⟨w.heap.size + 1, 3, none⟩ = some (.int .i64 bce) := bkeep hb (by first | (with_reducible exact q5) | (with_reducible exact akeep q5) | simp [*, go_sem]); replace q6 : w1.cell? ⟨w.heap.size + 1, 4, none⟩ = some (.int .i64 bhi) := bkeep hb (by first | (with_reducible exact q6) | (with_reducible exact akeep q6) | simp [*, go_sem]); replace q7 : w1.cell? ⟨w.heap.size + 1, 5, none⟩ = some (.int .i64 bbe) := bkeep hb (by first | (with_reducible exact q7) | (with_reducible exact akeep q7) | simp [*, go_sem]); skip
  clear hb
  go_wp2_with fail
  refine (rAll_any (most := 1) (by omega) (h1.below (by go_grown)) (h2.below (by go_grown)) (hl.below (by go_grown)) HC.out (by omega) (by omega)).mono ?_
  unfold PacksRes
  rintro e w3 ⟨rv, rfl, hb, hres⟩
  rw [hSH] at hres
  have hz3 := hb0.size
  replace hb0 := bnext (w := w) (by go_grown) hb
  clear hb
  cases SH with
  | nil =>
   have hR2 : nthA ss bs ⟨bid, bwi, bde, bce, bhi, bbe⟩ xs 0 24 = ([], 24) := by rw [HR.out]; rfl
   have HR2 := hid hR2
   obtain ⟨ra, rc, rfl, -⟩ := hres.shape
   simp only [List.take_nil, List.length_nil] at *
   clear hres hR2
   go_wp2_with fail
   go_ret2
   rw [HR2.out]
   exact ⟨_, rfl, hb0, World.ownsRow_nil _ _ _ _⟩
  | cons q0 SH0 =>
   have hR2 : nthA ss bs ⟨bid, bwi, bde, bce, bhi, bbe⟩ xs 0 24 = (q0, 0) := by rw [HR.out]; rfl
   have HR2 := hid hR2
   obtain ⟨ra, rc, rfl, -⟩ := hres.shape
   simp only [List.take_succ_cons, List.take_zero, List.length_cons, List.length_nil, Nat.zero_add] at hres ⊢
   obtain ⟨g, u, rfl, r0, ho⟩ := rowsQ_cell hres (k := 0) rfl
   obtain ⟨ua, uc, rfl, -⟩ := owns_shape ho
   have ho2 : w3.ownsRow w.heap.size 62 3 (.slice ua q0.length uc) q0.length ((q0.map toSq).flatMap cellsQ) := by rw [← flatP]; exact owns_base (by omega) ho
   have HO := hid ho2; clear hres hR2 ho ho2
   go_wp2_with fail
   go_ret2
   rw [HR2.out]
   exact ⟨_, rfl, hb0, HO.out⟩
 ·have hcn : (c != 0) = true := by simpa using hc0
  have hR : nthA ss bs ⟨bid, bwi, bde, bce, bhi, bbe⟩ xs 0 24 = ([], c) := by unfold nthA; rw [if_neg (by rw [hc]; exact hc0), hc]
  rw [hR]
  clear hc hR
  go_enter Tryz.func26, Tryz.ntmps26
  go_wp2_with fail
  refine (rHead (h1.below (by go_grown)) (h2.below (by go_grown)) (hl.below (by go_grown)) HC.out).mono ?_
  rintro e w1 ⟨rfl, hb⟩
  replace hb0 := bnext (w := w) (by go_grown) hb; have hz := hb.size; (try simp only [World.size_alloc, World.size_setCell] at hz); replace q0 : w1.cell? ⟨w.heap.size, 0, none⟩ = some (vs) := bkeep hb (by first | (with_reducible exact q0) | (with_reducible exact akeep q0) | simp [*, go_sem]); replace q1 : w1.cell? ⟨w.heap.size, 1, none⟩ = some (vb) := bkeep hb (by first | (with_reducible exact q1) | (with_reducible exact akeep q1) | simp [*, go_sem]); replace q2 : w1.cell? ⟨w.heap.size + 1, 0, none⟩ = some (.int .i64 bid) := bkeep hb (by first | (with_reducible exact q2) | (with_reducible exact akeep q2) | simp [*, go_sem]); replace q3 : w1.cell? ⟨w.heap.size + 1, 1, none⟩ = some (.int .i64 bwi) := bkeep hb (by first | (with_reducible exact q3) | (with_reducible exact akeep q3) | simp [*, go_sem]); replace q4 : w1.cell? ⟨w.heap.size + 1, 2, none⟩ = some (.int .i64 bde) := bkeep hb (by first | (with_reducible exact q4) | (with_reducible exact akeep q4) | simp [*, go_sem]); replace q5 : w1.cell? ⟨w.heap.size + 1, 3, none⟩ = some (.int .i64 bce) := bkeep hb (by first | (with_reducible exact q5) | (with_reducible exact akeep q5) | simp [*, go_sem]); replace q6 : w1.cell? ⟨w.heap.size + 1, 4, none⟩ = some (.int .i64 bhi) := bkeep hb (by first | (with_reducible exact q6) | (with_reducible exact akeep q6) | simp [*, go_sem]); replace q7 : w1.cell? ⟨w.heap.size + 1, 5, none⟩ = some (.int .i64 bbe) := bkeep hb (by first | (with_reducible exact q7) | (with_reducible exact akeep q7) | simp [*, go_sem]); skip
  clear hb
  go_wp2_with fail
  go_ret2
  exact ⟨_, rfl, by go_grown, World.ownsRow_nil _ _ _ _⟩
set_option maxRecDepth 100000 in
set_option maxHeartbeats 1500000 in
theorem rPacksN_any {w : World} {vs vb : Value} {ss bs : List (List Int)} (h1 : RowsAt 11 w vs ss) (h2 : RowsAt 7 w vb bs) {lv : Value} {xs : List It} {bid bwi bde bce bhi bbe : Int} (hl : RowsAt 3 w lv (xs.map rowX)) :
  Calls Tryz.prog 28 #[.agg #[vs, vb], .agg #[.int .i64 bid, .int .i64 bwi, .int .i64 bde, .int .i64 bce, .int .i64 bhi, .int .i64 bbe], lv] w (fun e w' => e = .returned (.tuple #[.int .i64 (packsN ss bs ⟨bid, bwi, bde, bce, bhi, bbe⟩ xs), .int .i64 (ckL ss bs ⟨bid, bwi, bde, bce, bhi, bbe⟩ xs)]) ∧ Below w.heap.size w w') := by
 obtain ⟨la, lc, rfl, hll⟩ := hl.shape
 rw [List.length_map] at hl hll ⊢
 obtain ⟨c, hc⟩ : ∃ c, ckL ss bs ⟨bid, bwi, bde, bce, bhi, bbe⟩ xs = c := ⟨_, rfl⟩
 have HC := hid hc
 by_cases hc0 : c = 0
 ·subst hc0
  obtain ⟨SH, hSH⟩ : ∃ l, shownL ⟨bid, bwi, bde, bce, bhi, bbe⟩ (feetV ss bs ⟨bid, bwi, bde, bce, bhi, bbe⟩ xs) = l := ⟨_, rfl⟩
  have hR : packsN ss bs ⟨bid, bwi, bde, bce, bhi, bbe⟩ xs = ((min SH.length 1000 : Nat) : Int) := by unfold packsN; rw [if_pos hc, hSH]
  obtain ⟨m, hm2⟩ : ∃ m, min SH.length 1000 = m := ⟨_, rfl⟩
  rw [hR, hc, hm2]
  clear hc hR
  go_enter Tryz.func28, Tryz.ntmps28
  go_wp2_with fail
  refine (rHead (h1.below (by go_grown)) (h2.below (by go_grown)) (hl.below (by go_grown)) HC.out).mono ?_
  rintro e w1 ⟨rfl, hb⟩
  replace hb0 := bnext (w := w) (by go_grown) hb; have hz := hb.size; (try simp only [World.size_alloc, World.size_setCell] at hz); replace q0 : w1.cell? ⟨w.heap.size, 0, none⟩ = some (vs) := bkeep hb (by first | (with_reducible exact q0) | (with_reducible exact akeep q0) | simp [*, go_sem]); replace q1 : w1.cell? ⟨w.heap.size, 1, none⟩ = some (vb) := bkeep hb (by first | (with_reducible exact q1) | (with_reducible exact akeep q1) | simp [*, go_sem]); replace q2 : w1.cell? ⟨w.heap.size + 1, 0, none⟩ = some (.int .i64 bid) := bkeep hb (by first | (with_reducible exact q2) | (with_reducible exact akeep q2) | simp [*, go_sem]); replace q3 : w1.cell? ⟨w.heap.size + 1, 1, none⟩ = some (.int .i64 bwi) := bkeep hb (by first | (with_reducible exact q3) | (with_reducible exact akeep q3) | simp [*, go_sem]); replace q4 : w1.cell? ⟨w.heap.size + 1, 2, none⟩ = some (.int .i64 bde) := bkeep hb (by first | (with_reducible exact q4) | (with_reducible exact akeep q4) | simp [*, go_sem]); replace q5 : w1.cell? ⟨w.heap.size + 1, 3, none⟩ = some (.int .i64 bce) := bkeep hb (by first | (with_reducible exact q5) | (with_reducible exact akeep q5) | simp [*, go_sem]); replace q6 : w1.cell? ⟨w.heap.size + 1, 4, none⟩ = some (.int .i64 bhi) := bkeep hb (by first | (with_reducible exact q6) | (with_reducible exact akeep q6) | simp [*, go_sem]); replace q7 : w1.cell? ⟨w.heap.size + 1, 5, none⟩ = some (.int .i64 bbe) := bkeep hb (by first | (with_reducible exact q7) | (with_reducible exact akeep q7) | simp [*, go_sem]); skip
  clear hb
  go_wp2_with fail
  refine (rAll_any (most := 1000) (by omega) (h1.below (by go_grown)) (h2.below (by go_grown)) (hl.below (by go_grown)) HC.out (by omega) (by omega)).mono ?_
  unfold PacksRes
  rintro e w3 ⟨rv, rfl, hb, hres⟩
  rw [hSH] at hres
  have hz3 := hb0.size
  replace hb0 := bnext (w := w) (by go_grown) hb
  clear hb
  obtain ⟨ra, rc, rfl, -⟩ := hres.shape
  have hm : (SH.take 1000).length = m := by rw [List.length_take]; omega
  rw [hm]
  clear hres hm hm2
  go_wp2_with fail
  go_ret2
  exact ⟨rfl, hb0⟩
 ·have hcn : (c != 0) = true := by simpa using hc0
  have hR : packsN ss bs ⟨bid, bwi, bde, bce, bhi, bbe⟩ xs = 0 := by unfold packsN; rw [if_neg (by rw [hc]; exact hc0)]
  rw [hR, hc]
  clear hc hR
  go_enter Tryz.func28, Tryz.ntmps28
  go_wp2_with fail
  refine (rHead (h1.below (by go_grown)) (h2.below (by go_grown)) (hl.below (by go_grown)) HC.out).mono ?_
  rintro e w1 ⟨rfl, hb⟩
  replace hb0 := bnext (w := w) (by go_grown) hb; have hz := hb.size; (try simp only [World.size_alloc, World.size_setCell] at hz); replace q0 : w1.cell? ⟨w.heap.size, 0, none⟩ = some (vs) := bkeep hb (by first | (with_reducible exact q0) | (with_reducible exact akeep q0) | simp [*, go_sem]); replace q1 : w1.cell? ⟨w.heap.size, 1, none⟩ = some (vb) := bkeep hb (by first | (with_reducible exact q1) | (with_reducible exact akeep q1) | simp [*, go_sem]); replace q2 : w1.cell? ⟨w.heap.size + 1, 0, none⟩ = some (.int .i64 bid) := bkeep hb (by first | (with_reducible exact q2) | (with_reducible exact akeep q2) | simp [*, go_sem]); replace q3 : w1.cell? ⟨w.heap.size + 1, 1, none⟩ = some (.int .i64 bwi) := bkeep hb (by first | (with_reducible exact q3) | (with_reducible exact akeep q3) | simp [*, go_sem]); replace q4 : w1.cell? ⟨w.heap.size + 1, 2, none⟩ = some (.int .i64 bde) := bkeep hb (by first | (with_reducible exact q4) | (with_reducible exact akeep q4) | simp [*, go_sem]); replace q5 : w1.cell? ⟨w.heap.size + 1, 3, none⟩ = some (.int .i64 bce) := bkeep hb (by first | (with_reducible exact q5) | (with_reducible exact akeep q5) | simp [*, go_sem]); replace q6 : w1.cell? ⟨w.heap.size + 1, 4, none⟩ = some (.int .i64 bhi) := bkeep hb (by first | (with_reducible exact q6) | (with_reducible exact akeep q6) | simp [*, go_sem]); replace q7 : w1.cell? ⟨w.heap.size + 1, 5, none⟩ = some (.int .i64 bbe) := bkeep hb (by first | (with_reducible exact q7) | (with_reducible exact akeep q7) | simp [*, go_sem]); skip
  clear hb
  go_wp2_with fail
  go_ret2
  exact ⟨rfl, by go_grown⟩
set_option maxRecDepth 100000 in
set_option maxHeartbeats 1500000 in
theorem rNth_any {w : World} {n : Int} {vs vb : Value} {ss bs : List (List Int)} (h1 : RowsAt 11 w vs ss) (h2 : RowsAt 7 w vb bs) {lv : Value} {xs : List It} {bid bwi bde bce bhi bbe : Int} (hl : RowsAt 3 w lv (xs.map rowX)) :
  Calls Tryz.prog 30 #[.agg #[vs, vb], .agg #[.int .i64 bid, .int .i64 bwi, .int .i64 bde, .int .i64 bce, .int .i64 bhi, .int .i64 bbe], lv, .int .i64 n] w (PackRes (nthB ss bs ⟨bid, bwi, bde, bce, bhi, bbe⟩ xs n) w) := by
 unfold PackRes
 obtain ⟨la, lc, rfl, hll⟩ := hl.shape
 rw [List.length_map] at hl hll ⊢
 obtain ⟨c, hc⟩ : ∃ c, ckL ss bs ⟨bid, bwi, bde, bce, bhi, bbe⟩ xs = c := ⟨_, rfl⟩
 have HC := hid hc
 by_cases hc0 : c = 0
 ·subst hc0
  obtain ⟨SH, hSH⟩ : ∃ l, shownL ⟨bid, bwi, bde, bce, bhi, bbe⟩ (feetV ss bs ⟨bid, bwi, bde, bce, bhi, bbe⟩ xs) = l := ⟨_, rfl⟩
  by_cases hneg : n < 0
  ·have hR : nthB ss bs ⟨bid, bwi, bde, bce, bhi, bbe⟩ xs n = ([], 3) := by unfold nthB; rw [if_pos hc, show btw n 0 999 = false from by rw [Bool.eq_false_iff]; intro h; have := btw_iff.1 h; omega]; rfl
   rw [hR]
   clear hc hR
   go_enter Tryz.func30, Tryz.ntmps30
   go_wp2_with fail
   refine (rHead (h1.below (by go_grown)) (h2.below (by go_grown)) (hl.below (by go_grown)) HC.out).mono ?_
   rintro e w1 ⟨rfl, hb⟩
   replace hb0 := bnext (w := w) (by go_grown) hb; have hz := hb.size; (try simp only [World.size_alloc, World.size_setCell] at hz); replace q0 : w1.cell? ⟨w.heap.size, 0, none⟩ = some (vs) := bkeep hb (by first | (with_reducible exact q0) | (with_reducible exact akeep q0) | simp [*, go_sem]); replace q1 : w1.cell? ⟨w.heap.size, 1, none⟩ = some (vb) := bkeep hb (by first | (with_reducible exact q1) | (with_reducible exact akeep q1) | simp [*, go_sem]); replace q2 : w1.cell? ⟨w.heap.size + 1, 0, none⟩ = some (.int .i64 bid) := bkeep hb (by first | (with_reducible exact q2) | (with_reducible exact akeep q2) | simp [*, go_sem]); replace q3 : w1.cell? ⟨w.heap.size + 1, 1, none⟩ = some (.int .i64 bwi) := bkeep hb (by first | (with_reducible exact q3) | (with_reducible exact akeep q3) | simp [*, go_sem]); replace q4 : w1.cell? ⟨w.heap.size + 1, 2, none⟩ = some (.int .i64 bde) := bkeep hb (by first | (with_reducible exact q4) | (with_reducible exact akeep q4) | simp [*, go_sem]); replace q5 : w1.cell? ⟨w.heap.size + 1, 3, none⟩ = some (.int .i64 bce) := bkeep hb (by first | (with_reducible exact q5) | (with_reducible exact akeep q5) | simp [*, go_sem]); replace q6 : w1.cell? ⟨w.heap.size + 1, 4, none⟩ = some (.int .i64 bhi) := bkeep hb (by first | (with_reducible exact q6) | (with_reducible exact akeep q6) | simp [*, go_sem]); replace q7 : w1.cell? ⟨w.heap.size + 1, 5, none⟩ = some (.int .i64 bbe) := bkeep hb (by first | (with_reducible exact q7) | (with_reducible exact akeep q7) | simp [*, go_sem]); skip
   clear hb
   go_wp2_with fail
   go_ret2
   exact ⟨_, rfl, by go_grown, World.ownsRow_nil _ _ _ _⟩
  ·by_cases hbig : 1000 ≤ n
   ·have hR : nthB ss bs ⟨bid, bwi, bde, bce, bhi, bbe⟩ xs n = ([], 3) := by unfold nthB; rw [if_pos hc, show btw n 0 999 = false from by rw [Bool.eq_false_iff]; intro h; have := btw_iff.1 h; omega]; rfl
    rw [hR]
    clear hc hR
    go_enter Tryz.func30, Tryz.ntmps30
    go_wp2_with fail
    refine (rHead (h1.below (by go_grown)) (h2.below (by go_grown)) (hl.below (by go_grown)) HC.out).mono ?_
    rintro e w1 ⟨rfl, hb⟩
    replace hb0 := bnext (w := w) (by go_grown) hb; have hz := hb.size; (try simp only [World.size_alloc, World.size_setCell] at hz); replace q0 : w1.cell? ⟨w.heap.size, 0, none⟩ = some (vs) := bkeep hb (by first | (with_reducible exact q0) | (with_reducible exact akeep q0) | simp [*, go_sem]); replace q1 : w1.cell? ⟨w.heap.size, 1, none⟩ = some (vb) := bkeep hb (by first | (with_reducible exact q1) | (with_reducible exact akeep q1) | simp [*, go_sem]); replace q2 : w1.cell? ⟨w.heap.size + 1, 0, none⟩ = some (.int .i64 bid) := bkeep hb (by first | (with_reducible exact q2) | (with_reducible exact akeep q2) | simp [*, go_sem]); replace q3 : w1.cell? ⟨w.heap.size + 1, 1, none⟩ = some (.int .i64 bwi) := bkeep hb (by first | (with_reducible exact q3) | (with_reducible exact akeep q3) | simp [*, go_sem]); replace q4 : w1.cell? ⟨w.heap.size + 1, 2, none⟩ = some (.int .i64 bde) := bkeep hb (by first | (with_reducible exact q4) | (with_reducible exact akeep q4) | simp [*, go_sem]); replace q5 : w1.cell? ⟨w.heap.size + 1, 3, none⟩ = some (.int .i64 bce) := bkeep hb (by first | (with_reducible exact q5) | (with_reducible exact akeep q5) | simp [*, go_sem]); replace q6 : w1.cell? ⟨w.heap.size + 1, 4, none⟩ = some (.int .i64 bhi) := bkeep hb (by first | (with_reducible exact q6) | (with_reducible exact akeep q6) | simp [*, go_sem]); replace q7 : w1.cell? ⟨w.heap.size + 1, 5, none⟩ = some (.int .i64 bbe) := bkeep hb (by first | (with_reducible exact q7) | (with_reducible exact akeep q7) | simp [*, go_sem]); skip
    clear hb
    go_wp2_with fail
    go_ret2
    exact ⟨_, rfl, by go_grown, World.ownsRow_nil _ _ _ _⟩
   ·obtain ⟨i, rfl⟩ : ∃ i : Nat, n = (i : Int) := ⟨n.toNat, by omega⟩
    have hi9 : i ≤ 999 := by omega
    have hR : nthB ss bs ⟨bid, bwi, bde, bce, bhi, bbe⟩ xs (i : Int) = match SH[i]? with | some q => (q, 0) | none => ([], 3) := by unfold nthB; rw [if_pos hc, if_pos (btw_iff.2 (by omega))]; unfold nthA; rw [if_pos hc, Int.toNat_natCast, hSH]; cases SH[i]? <;> rfl
    have HR := hid hR; clear hc hR
    go_enter Tryz.func30, Tryz.ntmps30
    go_wp2_with fail
    refine (rHead (h1.below (by go_grown)) (h2.below (by go_grown)) (hl.below (by go_grown)) HC.out).mono ?_
    rintro e w1 ⟨rfl, hb⟩
    replace hb0 := bnext (w := w) (by go_grown) hb; have hz := hb.size; (try simp only [World.size_alloc, World.size_setCell] at hz); replace q0 : w1.cell? ⟨w.heap.size, 0, none⟩ = some (vs) := bkeep hb (by first | (with_reducible exact q0) | (with_reducible exact akeep q0) | simp [*, go_sem]); replace q1 : w1.cell? ⟨w.heap.size, 1, none⟩ = some (vb) := bkeep hb (by first | (with_reducible exact q1) | (with_reducible exact akeep q1) | simp [*, go_sem]); replace q2 : w1.cell? ⟨w.heap.size + 1, 0, none⟩ = some (.int .i64 bid) := bkeep hb (by first | (with_reducible exact q2) | (with_reducible exact akeep q2) | simp [*, go_sem]); replace q3 : w1.cell? ⟨w.heap.size + 1, 1, none⟩ = some (.int .i64 bwi) := bkeep hb (by first | (with_reducible exact q3) | (with_reducible exact akeep q3) | simp [*, go_sem]); replace q4 : w1.cell? ⟨w.heap.size + 1, 2, none⟩ = some (.int .i64 bde) := bkeep hb (by first | (with_reducible exact q4) | (with_reducible exact akeep q4) | simp [*, go_sem]); replace q5 : w1.cell? ⟨w.heap.size + 1, 3, none⟩ = some (.int .i64 bce) := bkeep hb (by first | (with_reducible exact q5) | (with_reducible exact akeep q5) | simp [*, go_sem]); replace q6 : w1.cell? ⟨w.heap.size + 1, 4, none⟩ = some (.int .i64 bhi) := bkeep hb (by first | (with_reducible exact q6) | (with_reducible exact akeep q6) | simp [*, go_sem]); replace q7 : w1.cell? ⟨w.heap.size + 1, 5, none⟩ = some (.int .i64 bbe) := bkeep hb (by first | (with_reducible exact q7) | (with_reducible exact akeep q7) | simp [*, go_sem]); skip
    clear hb
    go_wp2_with fail
    refine (rAll_any (most := i + 1) (by omega) (h1.below (by go_grown)) (h2.below (by go_grown)) (hl.below (by go_grown)) HC.out (by omega) (by omega)).mono ?_
    unfold PacksRes
    rintro e w3 ⟨rv, rfl, hb, hres⟩
    rw [hSH] at hres
    have hz3 := hb0.size
    replace hb0 := bnext (w := w) (by go_grown) hb
    clear hb
    obtain ⟨ra, rc, rfl, -⟩ := hres.shape
    obtain ⟨m, hm⟩ : ∃ m, (SH.take (i + 1)).length = m := ⟨_, rfl⟩
    have hm2 : m = min (i + 1) SH.length := by rw [← hm, List.length_take]
    rw [hm] at hres ⊢
    by_cases hlt : i < SH.length
    ·have hm3 : m = i + 1 := by omega
     have hq : SH[i]? = some SH[i] := List.getElem?_eq_getElem hlt
     obtain ⟨q, hqe⟩ : ∃ q, SH[i] = q := ⟨_, rfl⟩
     rw [hqe] at hq
     have hR2 : nthB ss bs ⟨bid, bwi, bde, bce, bhi, bbe⟩ xs (i : Int) = (q, 0) := by rw [HR.out, hq]
     have HR2 := hid hR2
     obtain ⟨g, u, rfl, r0, ho⟩ := rowsQ_cell hres (k := i) (q := q) (by rw [List.getElem?_take, if_pos (by omega)]; exact hq)
     obtain ⟨ua, uc, rfl, -⟩ := owns_shape ho
     have ho2 : w3.ownsRow w.heap.size 62 3 (.slice ua q.length uc) q.length ((q.map toSq).flatMap cellsQ) := by rw [← flatP]; exact owns_base (by omega) ho
     have him : (i : Int) < (m : Int) := by omega
     have HO := hid ho2; clear hres hR2 ho ho2 hm hm2 hm3 hq hqe
     go_wp2_with fail
     go_ret2
     rw [HR2.out]
     exact ⟨_, rfl, hb0, HO.out⟩
    ·have hq : SH[i]? = none := List.getElem?_eq_none (by omega)
     have hR2 : nthB ss bs ⟨bid, bwi, bde, bce, bhi, bbe⟩ xs (i : Int) = ([], 3) := by rw [HR.out, hq]
     have HR2 := hid hR2
     have him : ¬ (i : Int) < (m : Int) := by omega
     have him2 : (m : Int) ≤ (i : Int) := by omega
     clear hres hR2 hm hm2 hq
     go_wp2_with fail
     go_ret2
     rw [HR2.out]
     exact ⟨_, rfl, hb0, World.ownsRow_nil _ _ _ _⟩
 ·have hcn : (c != 0) = true := by simpa using hc0
  have hR : nthB ss bs ⟨bid, bwi, bde, bce, bhi, bbe⟩ xs n = ([], c) := by unfold nthB; rw [if_neg (by rw [hc]; exact hc0), hc]
  rw [hR]
  clear hc hR
  go_enter Tryz.func30, Tryz.ntmps30
  go_wp2_with fail
  refine (rHead (h1.below (by go_grown)) (h2.below (by go_grown)) (hl.below (by go_grown)) HC.out).mono ?_
  rintro e w1 ⟨rfl, hb⟩
  replace hb0 := bnext (w := w) (by go_grown) hb; have hz := hb.size; (try simp only [World.size_alloc, World.size_setCell] at hz); replace q0 : w1.cell? ⟨w.heap.size, 0, none⟩ = some (vs) := bkeep hb (by first | (with_reducible exact q0) | (with_reducible exact akeep q0) | simp [*, go_sem]); replace q1 : w1.cell? ⟨w.heap.size, 1, none⟩ = some (vb) := bkeep hb (by first | (with_reducible exact q1) | (with_reducible exact akeep q1) | simp [*, go_sem]); replace q2 : w1.cell? ⟨w.heap.size + 1, 0, none⟩ = some (.int .i64 bid) := bkeep hb (by first | (with_reducible exact q2) | (with_reducible exact akeep q2) | simp [*, go_sem]); replace q3 : w1.cell? ⟨w.heap.size + 1, 1, none⟩ = some (.int .i64 bwi) := bkeep hb (by first | (with_reducible exact q3) | (with_reducible exact akeep q3) | simp [*, go_sem]); replace q4 : w1.cell? ⟨w.heap.size + 1, 2, none⟩ = some (.int .i64 bde) := bkeep hb (by first | (with_reducible exact q4) | (with_reducible exact akeep q4) | simp [*, go_sem]); replace q5 : w1.cell? ⟨w.heap.size + 1, 3, none⟩ = some (.int .i64 bce) := bkeep hb (by first | (with_reducible exact q5) | (with_reducible exact akeep q5) | simp [*, go_sem]); replace q6 : w1.cell? ⟨w.heap.size + 1, 4, none⟩ = some (.int .i64 bhi) := bkeep hb (by first | (with_reducible exact q6) | (with_reducible exact akeep q6) | simp [*, go_sem]); replace q7 : w1.cell? ⟨w.heap.size + 1, 5, none⟩ = some (.int .i64 bbe) := bkeep hb (by first | (with_reducible exact q7) | (with_reducible exact akeep q7) | simp [*, go_sem]); skip
  clear hb
  go_wp2_with fail
  go_ret2
  exact ⟨_, rfl, by go_grown, World.ownsRow_nil _ _ _ _⟩
end Go.Proofs.YtodmidchpbcnpaaGreat
namespace Go.Proofs.YtodmidchpbcnpaaGreat
open Go.RowKit Go.Pb Go.Pb.Ware Go.Pb.Sag


theorem ex_c1 : nthA exRows [] ⟨1, 3, 2, 110, 100, 3000⟩ exL 0 24 = ([⟨0, 0, false⟩, ⟨0, 2, true⟩, ⟨1, 0, false⟩], 0) := by decide +kernel
theorem ex_c2 : packsN exRows [] ⟨1, 3, 2, 110, 100, 3000⟩ exL = 44 := by decide +kernel
theorem ex_c3 : ckL exRows [] ⟨1, 3, 2, 110, 100, 3000⟩ exL = 0 := by decide +kernel
theorem ex_c4 : refuseA exRows [] ⟨1, 3, 2, 110, 100, 3000⟩ [⟨1, 3, 4⟩] = (1, [0], 0) := by decide +kernel
theorem ex_c5 : refuseA exRows [] ⟨1, 3, 3, 110, 100, 3000⟩ [⟨1, 1, 5⟩, ⟨1, 1, 5⟩] = (5, [0, 1], 0) := by decide +kernel
theorem ex_c6 : groupsA exRows [] ⟨1, 3, 2, 110, 100, 3000⟩ [⟨1, 1, 5⟩, ⟨1, 1, 5⟩, ⟨1, 2, 4⟩] = ([[0, 2], [1]], 0) := by decide +kernel
theorem ex_c7 : footV exRows [] ⟨1, 3, 2, 110, 100, 3000⟩ ⟨1, 2, 4⟩ = (⟨1, 1, 92, 420⟩, 0) := by rfl
theorem no_bodies {w : World} : RowsAt 7 w (.slice none 0 0) [] := .inl ⟨rfl, rfl⟩
theorem ex_spots {W : World} {v : Value} {d : Int} (hd : boxOk ⟨1, 3, d, 110, 100, 3000⟩ = true) {xs : List It} (h : FeetAt W v (feetV exRows [] ⟨1, 3, d, 110, 100, 3000⟩ xs)) :
  Calls Tryz.prog 129 #[.agg #[.int .i64 1, .int .i64 3, .int .i64 d, .int .i64 110, .int .i64 100, .int .i64 3000], v] W (fun e W' => ∃ u, e = .returned u ∧ Below W.heap.size W W' ∧ SpotsIn W.heap.size W'.heap.size u ((feetV exRows [] ⟨1, 3, d, 110, 100, 3000⟩ xs).map (spotsL ⟨1, 3, d, 110, 100, 3000⟩)) W' ∧ W.heap.size ≤ W'.heap.size) := spots_any hd feet_ok feet_len h
theorem foot_c {w : World} {sv lv : Value} (hr : RowsAt 11 w sv exRows)  : Calls Tryz.prog 12 #[.agg #[sv, .slice none 0 0], .agg #[.int .i64 1, .int .i64 3, .int .i64 2, .int .i64 110, .int .i64 100, .int .i64 3000], .agg #[.int .i64 1, .int .i64 2, .int .i64 4]] w (Ret w (.tuple #[.agg #[.int .i64 1, .int .i64 1, .int .i64 92, .int .i64 420], .int .i64 0])) := by
 have h := @Foot_any w _ _ _ _ hr no_bodies 1 3 2 110 100 3000 1 2 4 1 1 92 420 0 ex_c7
 rw [show (0 : Int) = 0 from rfl] at h
 exact h
theorem pack_c {w : World} {sv lv : Value} (hr : RowsAt 11 w sv exRows) (hl : RowsAt 3 w lv ((exL : List It).map rowX)) : Calls Tryz.prog 25 #[.agg #[sv, .slice none 0 0], .agg #[.int .i64 1, .int .i64 3, .int .i64 2, .int .i64 110, .int .i64 100, .int .i64 3000], lv] w (fun e w' => ∃ v, e = .returned (.tuple #[v, .int .i64 0]) ∧ Below w.heap.size w w' ∧ StAt w' v (([⟨0, 0, false⟩, ⟨0, 2, true⟩, ⟨1, 0, false⟩] : List St).map toSq)) := by
 have h := Pack_any (bid := 1) (bwi := 3) (bde := 2) (bce := 110) (bhi := 100) (bbe := 3000) hr no_bodies hl (fun W v h => ex_spots (d := 2) (by decide) h)
 rw [ex_c1] at h
 refine h.mono ?_
 rintro e w1 ⟨v, rfl, hb, ho⟩
 exact ⟨v, rfl, hb, stAt_of_owns (qs := ([⟨0, 0, false⟩, ⟨0, 2, true⟩, ⟨1, 0, false⟩] : List St).map toSq) ho⟩
theorem packs_c {w : World} {sv lv : Value} (hr : RowsAt 11 w sv exRows) (hl : RowsAt 3 w lv ((exL : List It).map rowX)) : Calls Tryz.prog 27 #[.agg #[sv, .slice none 0 0], .agg #[.int .i64 1, .int .i64 3, .int .i64 2, .int .i64 110, .int .i64 100, .int .i64 3000], lv] w (Ret w (.tuple #[.int .i64 44, .int .i64 0])) := by
 have h := Packs_any (bid := 1) (bwi := 3) (bde := 2) (bce := 110) (bhi := 100) (bbe := 3000) hr no_bodies hl (fun W v h => ex_spots (d := 2) (by decide) h)
 rw [ex_c2, ex_c3] at h
 exact h
theorem refuse_c1 {w : World} {sv lv : Value} (hr : RowsAt 11 w sv exRows) (hl : RowsAt 3 w lv (([⟨1, 3, 4⟩] : List It).map rowX)) : Calls Tryz.prog 43 #[.agg #[sv, .slice none 0 0], .agg #[.int .i64 1, .int .i64 3, .int .i64 2, .int .i64 110, .int .i64 100, .int .i64 3000], lv] w (fun e w' => ∃ v, e = .returned (.tuple #[.agg #[.int .i64 1, v], .int .i64 0]) ∧ Below w.heap.size w w' ∧ NumsAt w' v [0]) := by
 have h := Refuse_any (bid := 1) (bwi := 3) (bde := 2) (bce := 110) (bhi := 100) (bbe := 3000) hr no_bodies hl
 rw [ex_c4] at h
 exact h
theorem refuse_c2 {w : World} {sv lv : Value} (hr : RowsAt 11 w sv exRows) (hl : RowsAt 3 w lv (([⟨1, 1, 5⟩, ⟨1, 1, 5⟩] : List It).map rowX)) : Calls Tryz.prog 43 #[.agg #[sv, .slice none 0 0], .agg #[.int .i64 1, .int .i64 3, .int .i64 3, .int .i64 110, .int .i64 100, .int .i64 3000], lv] w (fun e w' => ∃ v, e = .returned (.tuple #[.agg #[.int .i64 5, v], .int .i64 0]) ∧ Below w.heap.size w w' ∧ NumsAt w' v [0, 1]) := by
 have h := Refuse_any (bid := 1) (bwi := 3) (bde := 3) (bce := 110) (bhi := 100) (bbe := 3000) hr no_bodies hl
 rw [ex_c5] at h
 exact h
theorem groups_c {w : World} {sv lv : Value} (hr : RowsAt 11 w sv exRows) (hl : RowsAt 3 w lv (([⟨1, 1, 5⟩, ⟨1, 1, 5⟩, ⟨1, 2, 4⟩] : List It).map rowX)) : Calls Tryz.prog 50 #[.agg #[sv, .slice none 0 0], .agg #[.int .i64 1, .int .i64 3, .int .i64 2, .int .i64 110, .int .i64 100, .int .i64 3000], lv] w (fun e w' => ∃ v, e = .returned (.tuple #[v, .int .i64 0]) ∧ Below w.heap.size w w' ∧ ListsAt v [[0, 2], [1]] w') := by
 have h := Groups_any (bid := 1) (bwi := 3) (bde := 2) (bce := 110) (bhi := 100) (bbe := 3000) hr no_bodies hl
 rw [ex_c6] at h
 refine h.mono ?_
 rintro e w1 ⟨v, rfl, hb, hg⟩
 refine ⟨v, rfl, hb, groupsAt_lists hg ?_⟩
 have h2 : ∀ g ∈ ([[0, 2], [1]] : List (List Int)), ∀ z ∈ g, -100000 ≤ z ∧ z ≤ 100000 := by decide
 exact fun g hg z hz => i64_small (h2 g hg z hz).1 (h2 g hg z hz).2
end Go.Proofs.YtodmidchpbcnpaaGreat