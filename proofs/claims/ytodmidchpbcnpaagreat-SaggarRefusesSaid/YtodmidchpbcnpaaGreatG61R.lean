/- Part of a claim. -/
import Derived.Test.YtodmidchpbcnpaaGreatG60R
import Derived.Test.YtodmidchpbcnpaaGreatG57R
import Derived.Test.YtodmidchpbcnpaaGreatG51R
import Derived.Test.YtodmidchpbcnpaaGreatG44R
import Derived.Test.YtodmidchpbcnpaaGreatKSyR
set_option linter.unusedVariables false
set_option linter.unusedSimpArgs false
namespace Go.Proofs.YtodmidchpbcnpaaGreat
open Go.RowKit Go.Pb Go.Pb.Ware Go.Pb.Sag


set_option maxRecDepth 100000 in
set_option maxHeartbeats 1000000 in
theorem rMost_bad {w : World} {vs vb : Value} {ss bs : List (List Int)} (h1 : RowsAt 11 w vs ss) (h2 : RowsAt 7 w vb bs) {bid bwi bde bce bhi bbe ish imn icl fw fd fh fg c : Int} (hx : footV ss bs ⟨bid, bwi, bde, bce, bhi, bbe⟩ ⟨ish, imn, icl⟩ = (⟨fw, fd, fh, fg⟩, c)) (hc : ¬ c = 0) :
  Calls Tryz.prog 46 #[.agg #[vs, vb], .agg #[.int .i64 bid, .int .i64 bwi, .int .i64 bde, .int .i64 bce, .int .i64 bhi, .int .i64 bbe], .agg #[.int .i64 ish, .int .i64 imn, .int .i64 icl]] w (Ret w (.tuple #[.int .i64 0, .int .i64 c])) := by
 unfold Ret
 have hcn : (c != 0) = true := by simpa using hc
 have HX := hid hx; clear hx
 go_enter Tryz.func46, Tryz.ntmps46
 go_wp2_with fail
 refine (rFoot_any (h1.below (by go_grown)) (h2.below (by go_grown)) HX.out).mono ?_
 rintro e w1 ⟨rfl, hb⟩
 replace hb0 := bnext (w := w) (by go_grown) hb; have hz := hb.size; (try simp only [World.size_alloc, World.size_setCell] at hz); replace q0 : w1.cell? ⟨w.heap.size, 0, none⟩ = some (vs) := bkeep hb (by first | (with_reducible exact q0) | (with_reducible exact akeep q0) | simp [*, go_sem]); replace q1 : w1.cell? ⟨w.heap.size, 1, none⟩ = some (vb) := bkeep hb (by first | (with_reducible exact q1) | (with_reducible exact akeep q1) | simp [*, go_sem]); replace q2 : w1.cell? ⟨w.heap.size + 1, 0, none⟩ = some (.int .i64 bid) := bkeep hb (by first | (with_reducible exact q2) | (with_reducible exact akeep q2) | simp [*, go_sem]); replace q3 : w1.cell? ⟨w.heap.size + 1, 1, none⟩ = some (.int .i64 bwi) := bkeep hb (by first | (with_reducible exact q3) | (with_reducible exact akeep q3) | simp [*, go_sem]); replace q4 : w1.cell? ⟨w.heap.size + 1, 2, none⟩ = some (.int .i64 bde) := bkeep hb (by first | (with_reducible exact q4) | (with_reducible exact akeep q4) | simp [*, go_sem]); replace q5 : w1.cell? ⟨w.heap.size + 1, 3, none⟩ = some (.int .i64 bce) := bkeep hb (by first | (with_reducible exact q5) | (with_reducible exact akeep q5) | simp [*, go_sem]); replace q6 : w1.cell? ⟨w.heap.size + 1, 4, none⟩ = some (.int .i64 bhi) := bkeep hb (by first | (with_reducible exact q6) | (with_reducible exact akeep q6) | simp [*, go_sem]); replace q7 : w1.cell? ⟨w.heap.size + 1, 5, none⟩ = some (.int .i64 bbe) := bkeep hb (by first | (with_reducible exact q7) | (with_reducible exact akeep q7) | simp [*, go_sem]); replace q8 : w1.cell? ⟨w.heap.size + 2, 0, none⟩ = some (.int .i64 ish) := bkeep hb (by first | (with_reducible exact q8) | (with_reducible exact akeep q8) | simp [*, go_sem]); replace q9 : w1.cell? ⟨w.heap.size + 2, 1, none⟩ = some (.int .i64 imn) := bkeep hb (by first | (with_reducible exact q9) | (with_reducible exact akeep q9) | simp [*, go_sem]); replace q10 : w1.cell? ⟨w.heap.size + 2, 2, none⟩ = some (.int .i64 icl) := bkeep hb (by first | (with_reducible exact q10) | (with_reducible exact akeep q10) | simp [*, go_sem]); skip
 clear hb
 go_wp2_with fail
 go_ret2
 exact ⟨rfl, by go_grown⟩
set_option maxRecDepth 100000 in
set_option maxHeartbeats 2000000 in
theorem rMost_any {w : World} {vs vb : Value} {ss bs : List (List Int)} (h1 : RowsAt 11 w vs ss) (h2 : RowsAt 7 w vb bs) {bid bwi bde bce bhi bbe ish imn icl fw fd fh fg : Int} {M : Nat} (hx : footV ss bs ⟨bid, bwi, bde, bce, bhi, bbe⟩ ⟨ish, imn, icl⟩ = (⟨fw, fd, fh, fg⟩, 0)) (hX : boxOk ⟨bid, bwi, bde, bce, bhi, bbe⟩ = true) (hF : FtOk (⟨fw, fd, fh, fg⟩ : Ft)) (hM : mostF ⟨bid, bwi, bde, bce, bhi, bbe⟩ (⟨fw, fd, fh, fg⟩ : Ft) = M) {c : Int} (hc : (if M = 0 then 3 else 0) = c) :
  Calls Tryz.prog 46 #[.agg #[vs, vb], .agg #[.int .i64 bid, .int .i64 bwi, .int .i64 bde, .int .i64 bce, .int .i64 bhi, .int .i64 bbe], .agg #[.int .i64 ish, .int .i64 imn, .int .i64 icl]] w (Ret w (.tuple #[.int .i64 (M : Int), .int .i64 c])) := by
 unfold Ret
 obtain ⟨i0, hi0, hz0, hz1, hz2⟩ := info_parts Tryz.infoF
 have HX := hid hx; have HBX := hid hX; have HM := hid hM; have HC := hid hc; clear hx hX hM hc
 go_enter Tryz.func46, Tryz.ntmps46
 go_wp2_with fail
 refine (rFoot_any (h1.below (by go_grown)) (h2.below (by go_grown)) HX.out).mono ?_
 rintro e w1 ⟨rfl, hb⟩
 replace hb0 := bnext (w := w) (by go_grown) hb; have hz := hb.size; (try simp only [World.size_alloc, World.size_setCell] at hz); replace q0 : w1.cell? ⟨w.heap.size, 0, none⟩ = some (vs) := bkeep hb (by first | (with_reducible exact q0) | (with_reducible exact akeep q0) | simp [*, go_sem]); replace q1 : w1.cell? ⟨w.heap.size, 1, none⟩ = some (vb) := bkeep hb (by first | (with_reducible exact q1) | (with_reducible exact akeep q1) | simp [*, go_sem]); replace q2 : w1.cell? ⟨w.heap.size + 1, 0, none⟩ = some (.int .i64 bid) := bkeep hb (by first | (with_reducible exact q2) | (with_reducible exact akeep q2) | simp [*, go_sem]); replace q3 : w1.cell? ⟨w.heap.size + 1, 1, none⟩ = some (.int .i64 bwi) := bkeep hb (by first | (with_reducible exact q3) | (with_reducible exact akeep q3) | simp [*, go_sem]); replace q4 : w1.cell? ⟨w.heap.size + 1, 2, none⟩ = some (.int .i64 bde) := bkeep hb (by first | (with_reducible exact q4) | (with_reducible exact akeep q4) | simp [*, go_sem]); replace q5 : w1.cell? ⟨w.heap.size + 1, 3, none⟩ = some (.int .i64 bce) := bkeep hb (by first | (with_reducible exact q5) | (with_reducible exact akeep q5) | simp [*, go_sem]); replace q6 : w1.cell? ⟨w.heap.size + 1, 4, none⟩ = some (.int .i64 bhi) := bkeep hb (by first | (with_reducible exact q6) | (with_reducible exact akeep q6) | simp [*, go_sem]); replace q7 : w1.cell? ⟨w.heap.size + 1, 5, none⟩ = some (.int .i64 bbe) := bkeep hb (by first | (with_reducible exact q7) | (with_reducible exact akeep q7) | simp [*, go_sem]); replace q8 : w1.cell? ⟨w.heap.size + 2, 0, none⟩ = some (.int .i64 ish) := bkeep hb (by first | (with_reducible exact q8) | (with_reducible exact akeep q8) | simp [*, go_sem]); replace q9 : w1.cell? ⟨w.heap.size + 2, 1, none⟩ = some (.int .i64 imn) := bkeep hb (by first | (with_reducible exact q9) | (with_reducible exact akeep q9) | simp [*, go_sem]); replace q10 : w1.cell? ⟨w.heap.size + 2, 2, none⟩ = some (.int .i64 icl) := bkeep hb (by first | (with_reducible exact q10) | (with_reducible exact akeep q10) | simp [*, go_sem]); skip
 clear hb
 obtain ⟨v1, hv1⟩ : ∃ v, v = w1 := ⟨_, rfl⟩
 subst hv1
 go_upto_region 2 with fail
 generalize hW : World.alloc v1 _ = v2
 have e0 : v2.cell? ⟨v1.heap.size, 0, none⟩ = some (.int .i64 fw) := by rw [← hW]; simp [go_sem]
 have e1 : v2.cell? ⟨v1.heap.size, 1, none⟩ = some (.int .i64 fd) := by rw [← hW]; simp [go_sem]
 have e2 : v2.cell? ⟨v1.heap.size, 2, none⟩ = some (.int .i64 fh) := by rw [← hW]; simp [go_sem]
 have e3 : v2.cell? ⟨v1.heap.size, 3, none⟩ = some (.int .i64 fg) := by rw [← hW]; simp [go_sem]
 have hb : Below v1.heap.size v1 v2 := by rw [← hW]; exact (Below.refl _ _).alloc (Nat.le_refl _) _
 replace hb0 := bnext (w := w) hb0 hb
 replace q2 := bkeep hb q2
 replace q3 := bkeep hb q3
 replace q4 := bkeep hb q4
 replace q5 := bkeep hb q5
 replace q6 := bkeep hb q6
 replace q7 := bkeep hb q7
 clear hb hW
 go_wp2_with fail
 go_loopg [10, 11] 5 (fun gk nv lv wr => ∃ k : Nat, k ≤ 5 ∧ gk = 5 - k ∧ nv = .int .i64 k ∧ Hid (mostF ⟨bid, bwi, bde, bce, bhi, bbe⟩ (⟨fw, fd, fh, fg⟩ : Ft) = mostR ⟨bid, bwi, bde, bce, bhi, bbe⟩ (⟨fw, fd, fh, fg⟩ : Ft) (5 - k) k) ∧ wr.ownsRow v2.heap.size 34 4 lv k (reps k (⟨fw, fd, fh, fg⟩ : Ft)) ∧ Below v2.heap.size v2 wr)
 case atStart => exact ⟨0, by omega, rfl, rfl, rfl, by simpa [reps] using World.ownsRow_nil _ _ _ _, Below.refl _ _⟩
 case round =>
  obtain ⟨k, hk, hgk, rfl, HR, ho, hB⟩ := hrel
  have HGK := hid hgk; clear hgk
  have hb1 : Below w.heap.size w wr := bnext (w := w) hb0 hB
  have hzr := hB.size
  have d0 := bkeep hB e0; have d1 := bkeep hB e1; have d2 := bkeep hB e2; have d3 := bkeep hB e3
  obtain ⟨ua, uc, rfl, hul⟩ := owns_shape ho
  by_cases hlt : k < 5
  ·have hki : (k : Int) < 5 := by omega
   obtain ⟨tb, htb⟩ : ∃ tb, fitsB ⟨bid, bwi, bde, bce, bhi, bbe⟩ (List.replicate (k + 1) (⟨fw, fd, fh, fg⟩ : Ft)) = tb := ⟨_, rfl⟩
   have hok1 : ∀ f ∈ List.replicate (k + 1) (⟨fw, fd, fh, fg⟩ : Ft), FtOk f := fun f h => by rw [List.eq_of_mem_replicate h]; exact hF
   have hn1 : (List.replicate (k + 1) (⟨fw, fd, fh, fg⟩ : Ft)).length ≤ 5 := by rw [List.length_replicate]; omega
   have hst : mostR ⟨bid, bwi, bde, bce, bhi, bbe⟩ (⟨fw, fd, fh, fg⟩ : Ft) (5 - k) k = if tb = true then mostR ⟨bid, bwi, bde, bce, bhi, bbe⟩ (⟨fw, fd, fh, fg⟩ : Ft) (5 - (k + 1)) (k + 1) else k := by rw [show 5 - k = (5 - (k + 1)) + 1 by omega, mostR, htb]
   have HST := hid hst; have HTB := hid htb; clear hst htb
   go_upto_region 8 with (at_builtin; go_must (refine wpList_append_own _ rfl _ _ 38 rfl v2.heap.size 34 i0 (.agg #[.int .i64 0, .int .i64 0, .int .i64 0, .int .i64 0]) 4 32 Tryz.underlying38 hi0 hz0 hz1 hz2 rfl (by decide) _ _ _ rfl (ho.alloc _) ⟨wr.heap.size, 0, none⟩ 1 1 (cellsF (⟨fw, fd, fh, fg⟩ : Ft)) rfl rfl ?c1 one_cellsF (by unfold maxLen; omega) (by omega) (by simp; omega) ?_; (case c1 => exact new_cellsF wr (⟨fw, fd, fh, fg⟩ : Ft) 34); intro v' w4 ho4 hg4 hnil; replace hB := below_grown (hB.alloc (by omega) _) hg4 (ho.alloc _) (by simp; omega) (by omega); clear hg4 hnil ho))
   have ho5 : w4.ownsRow v2.heap.size 34 4 v' (k + 1) (reps (k + 1) (⟨fw, fd, fh, fg⟩ : Ft)) := by
    have h := ho4
    rwa [show cellsF (⟨fw, fd, fh, fg⟩ : Ft) = reps 1 (⟨fw, fd, fh, fg⟩ : Ft) by simp [reps], reps_add] at h
   clear ho4 hb1
   have c2 := bkeep hB q2
   have c3 := bkeep hB q3
   have c4 := bkeep hB q4
   have c5 := bkeep hB q5
   have c6 := bkeep hB q6
   have c7 := bkeep hB q7
   have HO := hid ho5; clear ho5
   have HOK := hid hok1; have HN1 := hid hn1; clear hok1 hn1
   go_wp2_with fail
   refine (rPackable HBX.out (feetAt_of_owns (e := 34) (base := v2.heap.size) HOK.out (by rw [List.length_replicate]; exact HO.out)) HOK.out HN1.out HTB.out).mono ?_
   rintro e w8 ⟨rfl, hb⟩
   have hb1 : Below w.heap.size w w8 := bnext (w := w) (bnext (w := w) hb0 hB) hb
   have HO2 := hid (owns_below HO.out hb)
   replace hB := bnext (w := v2) hB hb
   clear hb HO c2 c3 c4 c5 c6 c7
   cases tb
   ·have hMk : M = k := by rw [← HM.out, HR.out, HST.out]; rfl
    subst hMk
    clear HST HR HM
    by_cases hk0 : M = 0
    ·subst hk0
     have hc2 : c = 3 := by rw [← HC.out]; rfl
     subst hc2
     clear HC
     go_wp2_with fail
     go_ret2
     exact ⟨rfl, hb1⟩
    ·have hk1 : ¬ (M : Int) = 0 := by omega
     have hk2 : ((M : Int) == 0) = false := beq_eq_false_iff_ne.mpr hk1
     have hc2 : c = 0 := by rw [← HC.out, if_neg hk0]
     subst hc2
     clear HC
     go_wp2_with fail
     go_ret2
     exact ⟨rfl, hb1⟩
   ·have hnx : mostF ⟨bid, bwi, bde, bce, bhi, bbe⟩ (⟨fw, fd, fh, fg⟩ : Ft) = mostR ⟨bid, bwi, bde, bce, bhi, bbe⟩ (⟨fw, fd, fh, fg⟩ : Ft) (5 - (k + 1)) (k + 1) := by rw [HR.out, HST.out]; rfl
    have HNX := hid hnx; clear hnx HST HR
    go_wp2_with fail
    go_roundg (5 - (k + 1))
    case measure => have h := HGK.out; omega
    case rel => exact ⟨k + 1, by omega, rfl, by go_num, HNX, HO2.out, hB⟩
  ·obtain rfl : k = 5 := by omega
   have hMk : M = 5 := by rw [← HM.out, HR.out]; rfl
   subst hMk
   clear HR HM
   have hc2 : c = 0 := by rw [← HC.out]; rfl
   subst hc2
   clear HC
   go_wp2_with fail
   go_ret2
   exact ⟨rfl, hb1⟩
set_option maxRecDepth 100000 in
set_option maxHeartbeats 2000000 in
theorem rCheckRefusal_any {w : World} {vs vb : Value} {ss bs : List (List Int)} (h1 : RowsAt 11 w vs ss) (h2 : RowsAt 7 w vb bs) {lv rv : Value} {xs : List It} {zs : List Int} {bid bwi bde bce bhi bbe kind d : Int} (hl : RowsAt 3 w lv (xs.map rowX)) (hzn : NumsAt w rv zs) (hd : ckQ ss bs ⟨bid, bwi, bde, bce, bhi, bbe⟩ xs kind zs = d) :
  Calls Tryz.prog 49 #[.agg #[vs, vb], .agg #[.int .i64 bid, .int .i64 bwi, .int .i64 bde, .int .i64 bce, .int .i64 bhi, .int .i64 bbe], lv, .agg #[.int .i64 kind, rv]] w (Ret w (.int .i64 d)) := by
 unfold Ret
 obtain ⟨c, hc⟩ : ∃ c, ckL ss bs ⟨bid, bwi, bde, bce, bhi, bbe⟩ xs = c := ⟨_, rfl⟩
 have HC := hid hc
 by_cases hc0 : c = 0
 ·subst hc0
  obtain ⟨hw, hX, hxl, hit⟩ := ckL_0 hc
  obtain ⟨fs, hfs⟩ : ∃ fs, (feetV ss bs ⟨bid, bwi, bde, bce, bhi, bbe⟩ xs) = fs := ⟨_, rfl⟩
  have hok : ∀ f ∈ fs, FtOk f := hfs ▸ feet_ok
  have hn : fs.length ≤ 5 := hfs ▸ feet_len
  obtain ⟨rb, hrb⟩ : ∃ b, reasonB ⟨bid, bwi, bde, bce, bhi, bbe⟩ fs kind zs = b := ⟨_, rfl⟩
  have hd2 : (if rb = true then 0 else 25) = d := by rw [← hd]; unfold ckQ; rw [if_pos hc, hfs, hrb]
  have hf2 : xs.map (footR ss bce) = fs := by rw [← hfs, feetV_0 hc]
  have hfe : ∀ W' : World, Below w.heap.size w W' → Calls Tryz.prog 62 #[.agg #[vs, vb], .agg #[.int .i64 bid, .int .i64 bwi, .int .i64 bde, .int .i64 bce, .int .i64 bhi, .int .i64 bbe], lv] W' (fun e w'' => ∃ v, e = .returned v ∧ Below W'.heap.size W' w'' ∧ w''.ownsRow W'.heap.size 34 4 v fs.length (fs.flatMap cellsF)) := fun W' hb => by rw [← hf2]; exact rfeet_any (h1.below hb) (h2.below hb) (hl.below hb) (by omega) hw hX (List.all_eq_true.2 hit)
  have hre : ∀ (W' : World) (u : Value) (base : Nat), Below w.heap.size w W' → W'.ownsRow base 34 4 u fs.length (fs.flatMap cellsF) → Calls Tryz.prog 99 #[.agg #[.int .i64 bid, .int .i64 bwi, .int .i64 bde, .int .i64 bce, .int .i64 bhi, .int .i64 bbe], u, .agg #[.int .i64 kind, rv]] W' (Ret W' (.bool rb)) := fun W' u base hb h => rReason hX (feetAt_of_owns hok h) hok hn (hzn.below hb) hrb
  have HFA := hid hfe; have HRA := hid hre; have HD := hid hd2; clear hfe hre hd2 hc hd hw hX hit hfs hf2 hrb hok hn hxl
  go_enter Tryz.func49, Tryz.ntmps49
  go_wp2_with fail
  refine (rHead (h1.below (by go_grown)) (h2.below (by go_grown)) (hl.below (by go_grown)) HC.out).mono ?_
  rintro e w1 ⟨rfl, hb⟩
  replace hb0 := bnext (w := w) (by go_grown) hb; have hz := hb.size; (try simp only [World.size_alloc, World.size_setCell] at hz); replace q0 : w1.cell? ⟨w.heap.size, 0, none⟩ = some (vs) := bkeep hb (by first | (with_reducible exact q0) | (with_reducible exact akeep q0) | simp [*, go_sem]); replace q1 : w1.cell? ⟨w.heap.size, 1, none⟩ = some (vb) := bkeep hb (by first | (with_reducible exact q1) | (with_reducible exact akeep q1) | simp [*, go_sem]); replace q2 : w1.cell? ⟨w.heap.size + 1, 0, none⟩ = some (.int .i64 bid) := bkeep hb (by first | (with_reducible exact q2) | (with_reducible exact akeep q2) | simp [*, go_sem]); replace q3 : w1.cell? ⟨w.heap.size + 1, 1, none⟩ = some (.int .i64 bwi) := bkeep hb (by first | (with_reducible exact q3) | (with_reducible exact akeep q3) | simp [*, go_sem]); replace q4 : w1.cell? ⟨w.heap.size + 1, 2, none⟩ = some (.int .i64 bde) := bkeep hb (by first | (with_reducible exact q4) | (with_reducible exact akeep q4) | simp [*, go_sem]); replace q5 : w1.cell? ⟨w.heap.size + 1, 3, none⟩ = some (.int .i64 bce) := bkeep hb (by first | (with_reducible exact q5) | (with_reducible exact akeep q5) | simp [*, go_sem]); replace q6 : w1.cell? ⟨w.heap.size + 1, 4, none⟩ = some (.int .i64 bhi) := bkeep hb (by first | (with_reducible exact q6) | (with_reducible exact akeep q6) | simp [*, go_sem]); replace q7 : w1.cell? ⟨w.heap.size + 1, 5, none⟩ = some (.int .i64 bbe) := bkeep hb (by first | (with_reducible exact q7) | (with_reducible exact akeep q7) | simp [*, go_sem]); replace q8 : w1.cell? ⟨w.heap.size + 1 + 1, 0, none⟩ = some (.int .i64 kind) := bkeep hb (by first | (with_reducible exact q8) | (with_reducible exact akeep q8) | simp [*, go_sem]); replace q9 : w1.cell? ⟨w.heap.size + 1 + 1, 1, none⟩ = some (rv) := bkeep hb (by first | (with_reducible exact q9) | (with_reducible exact akeep q9) | simp [*, go_sem]); skip
  clear hb
  obtain ⟨v1, hv1⟩ : ∃ v, v = w1 := ⟨_, rfl⟩
  subst hv1
  have HFE := hid (show ∀ W' : World, Below v1.heap.size v1 W' → Calls Tryz.prog 62 #[.agg #[vs, vb], .agg #[.int .i64 bid, .int .i64 bwi, .int .i64 bde, .int .i64 bce, .int .i64 bhi, .int .i64 bbe], lv] W' (fun e w'' => ∃ v, e = .returned v ∧ Below W'.heap.size W' w'' ∧ w''.ownsRow v1.heap.size 34 4 v fs.length (fs.flatMap cellsF)) from fun W' hb => (HFA.out W' (bnext (w := w) hb0 hb)).mono fun e w'' h => (by obtain ⟨v, e1, e2, e3⟩ := h; exact ⟨v, e1, e2, owns_base hb.size e3⟩))
  have HRE := hid (show ∀ (W' : World) (u : Value), Below v1.heap.size v1 W' → W'.ownsRow v1.heap.size 34 4 u fs.length (fs.flatMap cellsF) → Calls Tryz.prog 99 #[.agg #[.int .i64 bid, .int .i64 bwi, .int .i64 bde, .int .i64 bce, .int .i64 bhi, .int .i64 bbe], u, .agg #[.int .i64 kind, rv]] W' (Ret W' (.bool rb)) from fun W' u hb h => HRA.out W' u _ (bnext (w := w) hb0 hb) h)
  clear HFA HRA
  go_upto_region 4 with fail
  refine wp_region_Rs [(4, fun v W => W.ownsRow v1.heap.size 34 4 v fs.length (fs.flatMap cellsF)), (6, fun v _ => v = .bool rb)] [0, 1, 2, 3, 4, 5, 6, 7] 0 (by kernel_rfl) rfl (by simp only [List.forall_mem_cons]; exact ⟨keeps_owns, keeps_eq, fun _ h => by cases h⟩) (by kernel_rfl) ?_
  simp only [numbered, List.filterMap_cons, List.filterMap_nil, List.getElem?_toArray, List.getElem?_cons_succ, List.getElem?_cons_zero, Option.map_some]
  show wpS _ _ _ _ _ _ _ [(_, _), (_, _), (_, _), (_, _), (_, _), (_, _), (_, _), (_, _)] _ _
  (refine wpS_quiet rfl rfl ?_; intro K hK inst hx; have sq2 := fun x => (fun _ => bkeep (BQ.below x) q2) (hx x); have sq3 := fun x => (fun _ => bkeep (BQ.below x) q3) (hx x); have sq4 := fun x => (fun _ => bkeep (BQ.below x) q4) (hx x); have sq5 := fun x => (fun _ => bkeep (BQ.below x) q5) (hx x); have sq6 := fun x => (fun _ => bkeep (BQ.below x) q6) (hx x); have sq7 := fun x => (fun _ => bkeep (BQ.below x) q7) (hx x); go_big_quiet_op; go_big_quiet_on; clear hx inst)
  (refine wpS_quiet rfl rfl ?_; intro K hK inst hx; have sq0 := fun x => (fun _ => bkeep (BQ.below x) q0) (hx x); have sq1 := fun x => (fun _ => bkeep (BQ.below x) q1) (hx x); go_big_quiet_op; go_big_quiet_on; clear hx inst)
  (refine wpS_quiet rfl rfl ?_; intro K hK inst hx; have sq2 := fun x => (fun _ => bkeep (BQ.below x) q2) (hx x); have sq3 := fun x => (fun _ => bkeep (BQ.below x) q3) (hx x); have sq4 := fun x => (fun _ => bkeep (BQ.below x) q4) (hx x); have sq5 := fun x => (fun _ => bkeep (BQ.below x) q5) (hx x); have sq6 := fun x => (fun _ => bkeep (BQ.below x) q6) (hx x); have sq7 := fun x => (fun _ => bkeep (BQ.below x) q7) (hx x); go_big_quiet_op; go_big_quiet_on; clear hx inst)
  (refine wpS_quiet rfl rfl ?_; intro K hK inst hx; go_big_quiet_op; go_big_quiet_on; clear hx inst)
  refine wpS_fresh rfl rfl (fun w' hb hF => ?_) ?_
  ·change freshAt _ _ _ (fun v W => W.ownsRow v1.heap.size 34 4 v fs.length (fs.flatMap cellsF)) _; unfold freshAt; go_simp; exact HFE.out _ hb
  intro v W hv; simp only [pOf, List.lookup_cons, Nat.reduceBEq, beq_self_eq_true] at hv; obtain ⟨ca, cc, rfl, -⟩ := owns_shape hv
  simp only [Act.put, List.setIfInBounds_toArray, List.set_cons_succ, List.set_cons_zero]
  (refine wpS_quiet rfl rfl ?_; intro K hK inst hx; have sq8 := fun x => (fun _ => bkeep (BQ.below x) q8) (hx x); have sq9 := fun x => (fun _ => bkeep (BQ.below x) q9) (hx x); go_big_quiet_op; go_big_quiet_on; clear hx inst)
  refine wpS_fresh rfl rfl (fun w' hb hF => ?_) ?_
  ·change freshAt _ _ _ (fun v _ => v = .bool rb) _; have h4 := hF 4 _ rfl (by kernel_rfl); unfold freshAt; go_simp; exact HRE.out _ _ hb h4
  intro v W hv; simp only [pOf, List.lookup_cons, Nat.reduceBEq, beq_self_eq_true] at hv; subst hv
  simp only [Act.put, List.setIfInBounds_toArray, List.set_cons_succ, List.set_cons_zero]
  (refine wpS_quiet rfl rfl ?_; intro K hK inst hx; go_big_quiet_op; go_big_quiet_on; clear hx inst)
  refine wpS_nil ?_
  intro w2 hall
  have hb := hall.1
  clear hall
  refine wpAny_done (by kernel_rfl) ?_ _
  replace hb0 := bnext (w := w) hb0 hb
  clear hb HFE HRE q0 q1 q2 q3 q4 q5 q6 q7 q8 q9
  cases rb
  ·have hd3 : d = 25 := by rw [← HD.out]; rfl
   subst hd3
   clear HD
   go_wp2_with fail
   go_ret
   exact ⟨rfl, hb0⟩
  ·have hd3 : d = 0 := by rw [← HD.out]; rfl
   subst hd3
   clear HD
   go_wp2_with fail
   go_ret
   exact ⟨rfl, hb0⟩
 ·have hR : d = c := by rw [← hd]; unfold ckQ; rw [if_neg (by rw [hc]; exact hc0), hc]
  subst hR
  have hcn : (d != 0) = true := by simpa using hc0
  clear hc hd
  go_enter Tryz.func49, Tryz.ntmps49
  go_wp2_with fail
  refine (rHead (h1.below (by go_grown)) (h2.below (by go_grown)) (hl.below (by go_grown)) HC.out).mono ?_
  rintro e w1 ⟨rfl, hb⟩
  replace hb0 := bnext (w := w) (by go_grown) hb; have hz := hb.size; (try simp only [World.size_alloc, World.size_setCell] at hz); obtain ⟨hc, hf⟩ := bcell hb; skip
  clear hb
  go_wp2_with fail
  go_ret
  exact ⟨rfl, by go_grown⟩
end Go.Proofs.YtodmidchpbcnpaaGreat