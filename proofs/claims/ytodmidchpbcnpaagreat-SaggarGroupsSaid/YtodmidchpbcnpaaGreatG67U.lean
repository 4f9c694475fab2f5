/- Part of a claim. -/
import Derived.Test.YtodmidchpbcnpaaGreatKG32U
import Derived.Test.YtodmidchpbcnpaaGreatG45U
import Derived.Test.YtodmidchpbcnpaaGreatG59U
import Derived.Deep.LoopGhost
set_option linter.unusedVariables false
set_option linter.unusedSimpArgs false
namespace Go.Proofs.YtodmidchpbcnpaaGreat
open Go.RowKit Go.Pb Go.Pb.Ware Go.Pb.Sag


def headZ (gs : List (List Int)) (k : Nat) : Int := if k = 0 then -1 else (gs.getD (k - 1) []).headD (-1)
theorem headZ_at {gs : List (List Int)} {k : Nat} {g : List Int} {x : Int} (hg : gs[k]? = some g) (hx : g[0]? = some x) : headZ gs (k + 1) = x := by
 unfold headZ
 rw [if_neg (by omega), Nat.add_sub_cancel, List.getD_eq_getElem?_getD, hg, Option.getD_some]
 cases g with
 | nil => simp at hx
 | cons a l => simpa using hx
theorem all_bad {gs : List (List Int)} {p : List Int → Bool} {k : Nat} {g : List Int} (hg : gs[k]? = some g) (h : p g = false) : gs.all p = false := by
 rw [List.all_eq_false]
 exact ⟨g, List.mem_of_getElem? hg, by rw [h]; simp⟩
theorem all_more {gs : List (List Int)} {p : List Int → Bool} {k : Nat} {g : List Int} (hg : gs[k]? = some g) (h0 : (gs.take k).all p = true) (h : p g = true) : (gs.take (k + 1)).all p = true := by
 obtain ⟨hk, he⟩ := List.getElem?_eq_some_iff.1 hg
 rw [List.take_succ_eq_append_getElem hk, List.all_append, h0, he, Bool.true_and]
 simp [h]
set_option maxRecDepth 100000 in
set_option maxHeartbeats 1500000 in
theorem rCheckGroups_any {w : World} {vs vb : Value} {ss bs : List (List Int)} (h1 : RowsAt 11 w vs ss) (h2 : RowsAt 7 w vb bs) {lv gv : Value} {xs : List It} {gs : List (List Int)} {bid bwi bde bce bhi bbe d : Int} (hl : RowsAt 3 w lv (xs.map rowX)) (hg : ListsAt gv gs w) (hgl : gs.length ≤ 9223372036854775807) (hd : ckGr ss bs ⟨bid, bwi, bde, bce, bhi, bbe⟩ xs gs = d) :
  Calls Tryz.prog 53 #[.agg #[vs, vb], .agg #[.int .i64 bid, .int .i64 bwi, .int .i64 bde, .int .i64 bce, .int .i64 bhi, .int .i64 bbe], lv, gv] w (Ret w (.int .i64 d)) := by
 unfold Ret
 obtain ⟨la, lc, rfl, hll⟩ := hl.shape
 rw [List.length_map] at hl hll ⊢
 obtain ⟨c, hc⟩ : ∃ c, ckL ss bs ⟨bid, bwi, bde, bce, bhi, bbe⟩ xs = c := ⟨_, rfl⟩
 have HC := hid hc
 by_cases hc0 : c = 0
 ·subst hc0
  obtain ⟨hw, hX, hxl, hit⟩ := ckL_0 hc
  obtain ⟨fs, hfs⟩ : ∃ fs, (feetV ss bs ⟨bid, bwi, bde, bce, bhi, bbe⟩ xs) = fs := ⟨_, rfl⟩
  have hok : ∀ f ∈ fs, FtOk f := hfs ▸ feet_ok
  have hn : fs.length ≤ 5 := hfs ▸ feet_len
  have hf2 : xs.map (footR ss bce) = fs := by rw [← hfs, feetV_0 hc]
  have hd2 : d = if (areB fs.length (-1) [] gs && gs.all (fun g => fitsB ⟨bid, bwi, bde, bce, bhi, bbe⟩ (chosenL fs g))) = true then 0 else 26 := by rw [← hd]; unfold ckGr; rw [if_pos hc, hfs, acc_are]
  have HD := hid hd2; have HF2 := hid hf2; have HX := hid hX; have HWW := hid hw; have HIT := hid (List.all_eq_true.2 hit); clear hf2 hfs hc hw hX hit hd hd2
  obtain ⟨q, hq⟩ : ∃ q, gs.length = q := ⟨_, rfl⟩
  have HQ := hid hq; clear hq
  obtain ⟨ga, gcap, hgv, hgs⟩ := id hg
  rw [HQ.out] at hgl hgv
  subst hgv
  have HGS := hid hgs; clear hgs hg
  go_enter Tryz.func53, Tryz.ntmps53
  go_wp2_with fail
  refine (rHead (h1.below (by go_grown)) (h2.below (by go_grown)) (hl.below (by go_grown)) HC.out).mono ?_
  rintro e w1 ⟨rfl, hb⟩
  replace hb0 := bnext (w := w) (by go_grown) hb; have hz := hb.size; (try simp only [World.size_alloc, World.size_setCell] at hz); replace q0 : w1.cell? ⟨w.heap.size, 0, none⟩ = some (vs) := bkeep hb (by first | (with_reducible exact q0) | (with_reducible exact akeep q0) | simp [*, go_sem]); replace q1 : w1.cell? ⟨w.heap.size, 1, none⟩ = some (vb) := bkeep hb (by first | (with_reducible exact q1) | (with_reducible exact akeep q1) | simp [*, go_sem]); replace q2 : w1.cell? ⟨w.heap.size + 1, 0, none⟩ = some (.int .i64 bid) := bkeep hb (by first | (with_reducible exact q2) | (with_reducible exact akeep q2) | simp [*, go_sem]); replace q3 : w1.cell? ⟨w.heap.size + 1, 1, none⟩ = some (.int .i64 bwi) := bkeep hb (by first | (with_reducible exact q3) | (with_reducible exact akeep q3) | simp [*, go_sem]); replace q4 : w1.cell? ⟨w.heap.size + 1, 2, none⟩ = some (.int .i64 bde) := bkeep hb (by first | (with_reducible exact q4) | (with_reducible exact akeep q4) | simp [*, go_sem]); replace q5 : w1.cell? ⟨w.heap.size + 1, 3, none⟩ = some (.int .i64 bce) := bkeep hb (by first | (with_reducible exact q5) | (with_reducible exact akeep q5) | simp [*, go_sem]); replace q6 : w1.cell? ⟨w.heap.size + 1, 4, none⟩ = some (.int .i64 bhi) := bkeep hb (by first | (with_reducible exact q6) | (with_reducible exact akeep q6) | simp [*, go_sem]); replace q7 : w1.cell? ⟨w.heap.size + 1, 5, none⟩ = some (.int .i64 bbe) := bkeep hb (by first | (with_reducible exact q7) | (with_reducible exact akeep q7) | simp [*, go_sem]); skip
  clear hb
  go_wp2_with fail
  refine (rfeet_any (h1.below (by go_grown)) (h2.below (by go_grown)) (hl.below (by go_grown)) (by omega) HWW.out HX.out HIT.out).mono ?_
  rintro e w1 ⟨fv, rfl, hb, ho⟩
  replace hb0 := bnext (w := w) (by go_grown) hb; have hz := hb.size; (try simp only [World.size_alloc, World.size_setCell] at hz); replace q0 : w1.cell? ⟨w.heap.size, 0, none⟩ = some (vs) := bkeep hb (by first | (with_reducible exact q0) | (with_reducible exact akeep q0) | simp [*, go_sem]); replace q1 : w1.cell? ⟨w.heap.size, 1, none⟩ = some (vb) := bkeep hb (by first | (with_reducible exact q1) | (with_reducible exact akeep q1) | simp [*, go_sem]); replace q2 : w1.cell? ⟨w.heap.size + 1, 0, none⟩ = some (.int .i64 bid) := bkeep hb (by first | (with_reducible exact q2) | (with_reducible exact akeep q2) | simp [*, go_sem]); replace q3 : w1.cell? ⟨w.heap.size + 1, 1, none⟩ = some (.int .i64 bwi) := bkeep hb (by first | (with_reducible exact q3) | (with_reducible exact akeep q3) | simp [*, go_sem]); replace q4 : w1.cell? ⟨w.heap.size + 1, 2, none⟩ = some (.int .i64 bde) := bkeep hb (by first | (with_reducible exact q4) | (with_reducible exact akeep q4) | simp [*, go_sem]); replace q5 : w1.cell? ⟨w.heap.size + 1, 3, none⟩ = some (.int .i64 bce) := bkeep hb (by first | (with_reducible exact q5) | (with_reducible exact akeep q5) | simp [*, go_sem]); replace q6 : w1.cell? ⟨w.heap.size + 1, 4, none⟩ = some (.int .i64 bhi) := bkeep hb (by first | (with_reducible exact q6) | (with_reducible exact akeep q6) | simp [*, go_sem]); replace q7 : w1.cell? ⟨w.heap.size + 1, 5, none⟩ = some (.int .i64 bbe) := bkeep hb (by first | (with_reducible exact q7) | (with_reducible exact akeep q7) | simp [*, go_sem]); skip
  clear hb
  rw [HF2.out] at ho
  have hfa := feetAt_of_owns hok ho
  obtain ⟨fa, fc, rfl, hfl⟩ := owns_shape ho
  clear ho q0 q1
  obtain ⟨n, hnn⟩ : ∃ n, fs.length = n := ⟨_, rfl⟩
  have HN := hid hnn
  rw [hnn] at hn hfa hfl ⊢
  clear hnn
  obtain ⟨i1, hj1, hy0, hy1, hy2⟩ := info_parts Tryz.infoB1
  have hz1 := hb0.size
  go_upto_region 6 with (at_make; refine wpList_make_full _ rfl _ _ 146 rfl w1.heap.size 4 i1 (.bool false) 1 Tryz.underlying146 hj1 hy0 hy1 .i64 .i64 _ _ n rfl rfl rfl rfl (by rw [hy2]; omega) (by unfold maxLen; omega) (Nat.le_refl _) ?_; intro v1 ho1 hg1)
  have hB1 : Below w1.heap.size w1 v1 := (Below.refl _ w1).grown hg1 (Nat.le_refl _) (fun k h => by cases h)
  have hin : SeenAt w1.heap.size n [] v1 := seen_new ho1
  clear ho1 hg1 hj1
  go_wp2_with fail
  go_loopg [12, 13, 14, 15, 16, 33] q (fun gk pv _ _ _ _ kv wr => ∃ (k : Nat) (seen : List Int), k ≤ q ∧ gk = q - k ∧ kv = .int .i64 k ∧ pv = .int .i64 seen.length ∧ Hid (areB n (-1) [] gs = areB n (headZ gs k) seen (gs.drop k)) ∧ Hid ((gs.take k).all (fun g => fitsB ⟨bid, bwi, bde, bce, bhi, bbe⟩ (chosenL fs g)) = true) ∧ Hid (0 < k → ∃ g x, gs[k - 1]? = some g ∧ g[0]? = some x ∧ headZ gs k = x) ∧ Hid (seen.Nodup ∧ ∀ z ∈ seen, 0 ≤ z ∧ z < (n : Int)) ∧ SeenAt w1.heap.size n seen wr ∧ Below w1.heap.size w1 wr)
  case atStart => exact ⟨0, [], Nat.zero_le _, rfl, rfl, rfl, rfl, (show (gs.take 0).all _ = true by rw [List.take_zero]; rfl), (fun h => by omega), ⟨by simp, fun z h => by cases h⟩, hin, hB1⟩
  case round =>
   clear hin hB1
   obtain ⟨k, seen, hk, hgk, rfl, rfl, HA, HF, HZ, HS, hin, hB⟩ := hrel
   have HGK := hid hgk; clear hgk
   obtain ⟨GK, rfl⟩ : ∃ GK, GK = gk := ⟨_, rfl⟩
   have hsl : seen.length ≤ n := (nodup_len HS.out.1 HS.out.2).1
   obtain ⟨sl, hsl2⟩ : ∃ sl, seen.length = sl := ⟨_, rfl⟩
   rw [hsl2] at hsl ⊢
   have HSL := hid hsl2; clear hsl2
   have hb1 : Below w.heap.size w wr := bnext (w := w) hb0 hB
   by_cases hlt : k < q
   ·have hki : (k : Int) < (q : Int) := by omega
    have hkg : k < gs.length := by rw [HQ.out]; exact hlt
    obtain ⟨g, hg⟩ : ∃ g, gs[k] = g := ⟨_, rfl⟩
    have hgk2 : gs[k]? = some g := by rw [List.getElem?_eq_getElem hkg, hg]
    obtain ⟨a', e1, u, r0, hu⟩ := HGS.out k g hgk2
    subst e1
    have HUw := hid hu
    replace r0 := bkeep hb1 r0
    replace hu := hu.below hb1
    obtain ⟨ua, uc, rfl, hul1, hul2⟩ := hu.shape
    have HA2 : Hid (areB n (-1) [] gs = areB n (headZ gs k) seen (g :: gs.drop (k + 1))) := by have h := HA.out; rw [List.drop_eq_getElem_cons hkg, hg] at h; exact h
    have HGK2 := hid hgk2
    clear HA hg hgk2
    obtain ⟨p, hp⟩ : ∃ p, g.length = p := ⟨_, rfl⟩
    rw [hp] at r0 hul1
    have HP := hid hp
    by_cases hp0 : p = 0
    ·subst hp0
     have hd3 : d = 26 := by rw [HD.out, show areB fs.length (-1) [] gs = false from by rw [HN.out, HA2.out, are_empty HP.out]]; rfl
     subst hd3
     clear HD
     clear hp hu
     go_upto_region 10 with fail
     have xr0 := fun x : BW wr => bkeep x.below r0
     refine wp_region_qb (by kernel_rfl) (by kernel_rfl) fun hc => ?_
     repeat (go_big_quiet_step (fail))
     refine wpQuiet_nil ?_
     intro w2 hb
     replace hB := bnext (w := w1) hB hb
     replace hin := hin.below hb
     have hb2 := bnext (w := w) hb1 hb
     clear hb hc xr0
     go_wp2_with fail
     go_ret
     exact ⟨rfl, hb2⟩
    ·have hp1 : ¬ (p : Int) = 0 := by omega
     have hp2 : ((p : Int) == 0) = false := beq_eq_false_iff_ne.mpr hp1
     have hpp : (0 : Int) < (p : Int) := by omega
     obtain ⟨x, hx⟩ : ∃ x, g[0]? = some x := ⟨_, List.getElem?_eq_getElem (by rw [hp]; omega)⟩
     have hgp : 0 < g.length := by omega
     obtain ⟨ua', e2, r1⟩ := (show NumsAt wr (.slice ua g.length uc) g from hu).elem hgp
     subst e2
     have hxg : g[0] = x := by have h := hx; rw [List.getElem?_eq_getElem hgp] at h; injection h
     rw [hxg] at r1
     have hxi := (hu.i64 x (List.mem_of_getElem? hx)).bd
     obtain ⟨bi, hbi⟩ : ∃ bi, idxB (n : Int) (-1) g = bi := ⟨_, rfl⟩
     have HI := hid hbi; have HXG := hid hx; have hz5 : ua'.add 0 = ua' := by cases ua' with | mk b o l => cases l <;> simp [Addr.add]
     rw [hz5] at r1
     clear hbi hx hxg hz5 hgp hp hu
     by_cases hk0 : k = 0
     ·as_aux_lemma =>
       have hkn : ¬ 0 < k := by omega
       have hki0 : ¬ (0 : Int) < (k : Int) := by omega
       have HFX := hid (show headZ gs k = -1 ∨ headZ gs k < x from .inl (by rw [hk0]; rfl))
       clear hk0
       go_upto_region 10 with fail
       have xr0 := fun x : BW wr => bkeep x.below r0
       have xr1 := fun x : BW wr => bkeep x.below r1
       refine wp_region_qb (by kernel_rfl) (by kernel_rfl) fun hc => ?_
       repeat (go_big_quiet_step (fail))
       refine wpQuiet_nil ?_
       intro w2 hb
       replace hB := bnext (w := w1) hB hb
       replace hin := hin.below hb
       have hb2 := bnext (w := w) hb1 hb
       clear hb hc xr0 xr1
       obtain ⟨v2, hv2⟩ : ∃ v, v = w2 := ⟨_, rfl⟩
       subst hv2
       go_wp2_with fail
       go_loopg [12, 15, 16, 60] p (fun gk pv _ _ jv wr => ∃ (j : Nat), j ≤ p ∧ gk = p - j ∧ jv = .int .i64 j ∧ pv = .int .i64 ((sl + j : Nat) : Int) ∧ Hid (idxB (n : Int) (lastZ g j) (g.drop j) = bi) ∧ Hid (-1 ≤ lastZ g j) ∧ Hid ((seen ++ g.take j).Nodup ∧ ∀ z ∈ seen ++ g.take j, 0 ≤ z ∧ z < (n : Int)) ∧ SeenAt w1.heap.size n (seen ++ g.take j) wr ∧ Below w1.heap.size w1 wr)
       case atStart => exact ⟨0, Nat.zero_le _, rfl, rfl, rfl, HI.out, (by show (-1 : Int) ≤ -1; omega), (show (seen ++ g.take 0).Nodup ∧ ∀ z ∈ seen ++ g.take 0, 0 ≤ z ∧ z < (n : Int) from by rw [List.take_zero, List.append_nil]; exact HS.out), by simpa using hin, hB⟩
       case round =>
        clear hin hB
        obtain ⟨j, hj, hgk, rfl, rfl, HP2, HLA, HS2, hin, hB⟩ := hrel
        have HGJ := hid hgk; clear hgk
        have hb3 : Below w.heap.size w wr := bnext (w := w) hb0 hB
        have hjl : (seen ++ g.take j).length ≤ n := (nodup_len HS2.out.1 HS2.out.2).1
        rw [List.length_append, List.length_take, HSL.out, HP.out, Nat.min_eq_left hj] at hjl
        by_cases hlj : j < p
        ·have hji : (j : Int) < (p : Int) := by omega
         have hjg : j < g.length := by rw [HP.out]; exact hlj
         have hug : NumsAt wr (.slice (some ua') g.length uc) g := NumsAt.below (show NumsAt w (.slice (some ua') g.length uc) g from HUw.out) hb3
         obtain ⟨u2, e3, r2⟩ := hug.elem hjg
         injection e3 with e3; subst e3
         obtain ⟨z, hzk⟩ : ∃ z, g[j] = z := ⟨_, rfl⟩
         have hzi := hug.i64 g[j] (List.getElem_mem hjg)
         have hst := idx_step hjg HP2.out
         rw [hzk] at r2 hst hzi
         have hzb := hzi.bd
         have hln : lastZ g (j + 1) = z := (lastZ_at hjg).trans hzk
         obtain ⟨l0, hl0⟩ : ∃ l, lastZ g j = l := ⟨_, rfl⟩
         have hla := HLA.out
         rw [hl0] at hst hla
         have HST := hid hst; have HLN := hid hln; have HL0 := hid hl0; have HZK := hid hzk; have HUG := hid hug; clear hst hln hl0 hzi HP2 HLA hzk hug
         by_cases hneg : z < 0
         ·have hbt : btw z (l0 + 1) ((n : Int) - 1) = false := by rw [Bool.eq_false_iff]; intro h; have := btw_iff.1 h; omega
          have hbf : bi = false := by rw [HST.out, hbt, Bool.false_and]
          have hd3 : d = 26 := by rw [HD.out, show areB fs.length (-1) [] gs = false from by rw [HN.out, HA2.out, are_idx (HI.out.trans hbf)]]; rfl
          subst hd3
          clear HD
          clear hbt hbf
          go_wp2_with fail
          go_ret
          exact ⟨rfl, hb3⟩
         ·by_cases hbig : (n : Int) ≤ z
          ·have hbt : btw z (l0 + 1) ((n : Int) - 1) = false := by rw [Bool.eq_false_iff]; intro h; have := btw_iff.1 h; omega
           have hbf : bi = false := by rw [HST.out, hbt, Bool.false_and]
           have hd3 : d = 26 := by rw [HD.out, show areB fs.length (-1) [] gs = false from by rw [HN.out, HA2.out, are_idx (HI.out.trans hbf)]]; rfl
           subst hd3
           clear HD
           clear hbt hbf
           go_wp2_with fail
           go_ret
           exact ⟨rfl, hb3⟩
          ·obtain ⟨m, hm⟩ : ∃ m : Nat, z = (m : Int) := ⟨z.toNat, by omega⟩
           have HM := hid hm
           rw [hm] at r2 hneg hbig hzb
           have hm5 : m < n := by omega
           have hmi : (m : Int) < (n : Int) := by omega
           obtain ⟨r3, f3⟩ := hin m hm5
           obtain ⟨bs2, hbs⟩ : ∃ b, (seen ++ g.take j).contains (m : Int) = b := ⟨_, rfl⟩
           rw [hbs] at r3
           have HBS := hid hbs; clear hbs hm
           cases bs2
           ·by_cases hk0 : 0 < (j : Int)
            ·have hkp : 0 < j := by omega
             obtain ⟨k', hk'⟩ : ∃ k', j - 1 = k' := ⟨_, rfl⟩
             have hkl : k' < g.length := by omega
             have hwk : wrap64 ((j : Int) - 1) = (k' : Int) := by rw [IntWalk.wrap64_in _ (by omega)]; omega
             have hwk2 : (j : Int) - 1 = (k' : Int) := by omega
             obtain ⟨a2, ha2, r4⟩ := HUG.out.elem hkl
             injection ha2 with ha2; subst ha2
             obtain ⟨y, hyk⟩ : ∃ y, g[k'] = y := ⟨_, rfl⟩
             rw [hyk] at r4
             have hyl : l0 = y := by rw [← HL0.out, show j = k' + 1 by omega]; exact (lastZ_at hkl).trans hyk
             subst hyl
             have hkli : (k' : Int) < (p : Int) := by have := HP.out; omega
             clear hyk hk' hkp
             by_cases hle : (m : Int) ≤ l0
             ·have hz' := HM.out
              have hbt : btw z (l0 + 1) ((n : Int) - 1) = false := by rw [Bool.eq_false_iff]; intro h; have := btw_iff.1 h; omega
              clear hz'
              have hbf : bi = false := by rw [HST.out, hbt, Bool.false_and]
              have hd3 : d = 26 := by rw [HD.out, show areB fs.length (-1) [] gs = false from by rw [HN.out, HA2.out, are_idx (HI.out.trans hbf)]]; rfl
              subst hd3
              clear HD
              clear hbt hbf
              go_wp2_with fail
              go_ret
              exact ⟨rfl, hb3⟩
             ·have hz' := HM.out
              have hbt : btw z (l0 + 1) ((n : Int) - 1) = true := btw_iff.2 (by omega)
              clear hz'
              have hs2 : idxB (n : Int) (lastZ g (j + 1)) (g.drop (j + 1)) = bi := by rw [HLN.out, HST.out, hbt, Bool.true_and]
              have HS3 := hid hs2; clear hs2 hbt
              have HLA2 := hid (show -1 ≤ lastZ g (j + 1) by rw [HLN.out, HM.out]; omega)
              have hsn : (m : Int) ∉ seen ++ g.take j := by have h := HBS.out; simpa using h
              have hset := hin.set hm5
              have hnod := nodup_snoc HS2.out.1 hsn
              have e4 : seen ++ g.take (j + 1) = seen ++ g.take j ++ [(m : Int)] := by rw [List.take_succ_eq_append_getElem hjg, HZK.out, ← List.append_assoc, HM.out]
              have HE4 := hid e4; have HSET := hid hset; have HNOD := hid hnod; clear e4 hset hnod hsn
              go_wp2_with fail
              go_roundg (p - (j + 1))
              case measure => have h := HGJ.out; omega
              case rel => exact ⟨j + 1, by omega, rfl, by go_num, by go_num, HS3, HLA2, by (rw [HE4.out]; exact ⟨HNOD.out, fun z hz => by (rcases List.mem_append.1 hz with h | h); exact HS2.out.2 z h; (simp at h; subst h; omega)⟩), by (rw [HE4.out]; exact HSET.out), hB.setCell (p := ⟨w1.heap.size, m, none⟩) (Nat.le_refl _) _⟩
            ·have hlz : l0 = -1 := by rw [← HL0.out, show j = 0 by omega]; rfl
             have hz' := HM.out
             have hbt : btw z (l0 + 1) ((n : Int) - 1) = true := btw_iff.2 (by omega)
             clear hz'
             have hs2 : idxB (n : Int) (lastZ g (j + 1)) (g.drop (j + 1)) = bi := by rw [HLN.out, HST.out, hbt, Bool.true_and]
             have HS3 := hid hs2; clear hs2 hbt
             have HLA2 := hid (show -1 ≤ lastZ g (j + 1) by rw [HLN.out, HM.out]; omega)
             have hsn : (m : Int) ∉ seen ++ g.take j := by have h := HBS.out; simpa using h
             have hset := hin.set hm5
             have hnod := nodup_snoc HS2.out.1 hsn
             have e4 : seen ++ g.take (j + 1) = seen ++ g.take j ++ [(m : Int)] := by rw [List.take_succ_eq_append_getElem hjg, HZK.out, ← List.append_assoc, HM.out]
             have HE4 := hid e4; have HSET := hid hset; have HNOD := hid hnod; clear e4 hset hnod hsn
             go_wp2_with fail
             go_roundg (p - (j + 1))
             case measure => have h := HGJ.out; omega
             case rel => exact ⟨j + 1, by omega, rfl, by go_num, by go_num, HS3, HLA2, by (rw [HE4.out]; exact ⟨HNOD.out, fun z hz => by (rcases List.mem_append.1 hz with h | h); exact HS2.out.2 z h; (simp at h; subst h; omega)⟩), by (rw [HE4.out]; exact HSET.out), hB.setCell (p := ⟨w1.heap.size, m, none⟩) (Nat.le_refl _) _⟩
           ·have hmem : (m : Int) ∈ seen ++ g.take j := by have h := HBS.out; simpa using h
            have hno : areB fs.length (-1) [] gs = false := by
             rw [HN.out, HA2.out]
             rcases List.mem_append.1 hmem with h | h
             ·exact are_dup (z := (m : Int)) (by rw [← HM.out, ← HZK.out]; exact List.getElem_mem hjg) h
             ·cases hbi : bi with
              | false => exact are_idx (HI.out.trans hbi)
              | true => exact absurd (by rw [HZK.out, HM.out]; exact h) (pair_take (idx_iff.1 (HI.out.trans hbi)).1 hjg)
            have hd3 : d = 26 := by rw [HD.out, hno]; rfl
            subst hd3
            clear HD
            clear hno hmem
            go_wp2_with fail
            go_ret
            exact ⟨rfl, hb3⟩
        ·obtain rfl : j = p := by omega
         have hbt : bi = true := idx_end (by rw [HP.out]; exact Nat.le_refl _) HP2.out
         subst hbt
         rw [List.take_of_length_le (by rw [HP.out]; exact Nat.le_refl _)] at hin
         have hS3 := HS2.out
         rw [List.take_of_length_le (by rw [HP.out]; exact Nat.le_refl _)] at hS3
         have HS3 := hid hS3; clear hS3 HS2 HP2 HLA
         have hzr := fun z hz => (idx_all (show (-1 : Int) ≤ -1 by omega) HI.out z hz).2
         have hfx : headZ gs k < x := by have := hzr x (List.mem_of_getElem? HXG.out); have := HFX.out; omega
         have hnx := are_next (gs := gs.drop (k + 1)) HXG.out HI.out hfx HS3.out.1
         have HNX := hid hnx; clear hnx hfx
         obtain ⟨cs, hcs⟩ : ∃ cs, chosenL fs g = cs := ⟨_, rfl⟩
         obtain ⟨tb, htb⟩ : ∃ tb, fitsB ⟨bid, bwi, bde, bce, bhi, bbe⟩ cs = tb := ⟨_, rfl⟩
         have hok1 := chosen_ok hok (zs := g) (fun z h => by rw [HN.out]; exact hzr z h)
         have hj5 : j ≤ 5 := by omega
         have hn1 : (chosenL fs g).length ≤ 5 := by unfold chosenL; rw [List.length_map, HP.out]; omega
         rw [hcs] at hok1 hn1
         have hug : NumsAt wr (.slice (some ua') j uc) g := by have h := NumsAt.below HUw.out hb3; rw [HP.out] at h; exact h
         have hfm : FeetAt wr (.slice fa n fc) fs := hfa.below hB
         have hch : ∀ W' : World, Below wr.heap.size wr W' → Calls Tryz.prog 92 #[.slice fa n fc, .slice (some ua') j uc] W' (fun e w'' => ∃ u, e = .returned u ∧ Below W'.heap.size W' w'' ∧ w''.ownsRow wr.heap.size 34 4 u cs.length (cs.flatMap cellsF)) := fun W' hb => by
          rw [← hcs]; refine (rSome (hfm.below hb) (by rw [HN.out]; omega) (hug.below hb) (by rw [HP.out]; omega) (fun z h => by rw [HN.out]; exact hzr z h)).mono ?_
          rintro e w'' ⟨u, rfl, h2, h3⟩
          exact ⟨u, rfl, h2, owns_base hb.size h3⟩
         have htr : ∀ (W' : World) (u : Value), W'.ownsRow wr.heap.size 34 4 u cs.length (cs.flatMap cellsF) → Calls Tryz.prog 95 #[.agg #[.int .i64 bid, .int .i64 bwi, .int .i64 bde, .int .i64 bce, .int .i64 bhi, .int .i64 bbe], u] W' (Ret W' (.bool tb)) := fun W' u h => rPackable HX.out (feetAt_of_owns hok1 h) hok1 hn1 htb
         have hft : fitsB ⟨bid, bwi, bde, bce, bhi, bbe⟩ (chosenL fs g) = tb := by rw [hcs, htb]
         have HFT := hid hft; have HCH := hid hch; have HTR := hid htr; clear hft hch htr hok1 hn1 htb hcs hzr hug hfm
         have c2 := bkeep hB q2
         have c3 := bkeep hB q3
         have c4 := bkeep hB q4
         have c5 := bkeep hB q5
         have c6 := bkeep hB q6
         have c7 := bkeep hB q7
         go_upto_region 20 with fail
         refine wp_region_Rs [(3, fun v W => W.ownsRow wr.heap.size 34 4 v cs.length (cs.flatMap cellsF)), (4, fun v _ => v = .bool tb)] [0, 1, 2, 3, 4, 5] 0 (by kernel_rfl) rfl (by simp only [List.forall_mem_cons]; exact ⟨keeps_owns, keeps_eq, fun _ h => by cases h⟩) (by kernel_rfl) ?_
         simp only [numbered, List.filterMap_cons, List.filterMap_nil, List.getElem?_toArray, List.getElem?_cons_succ, List.getElem?_cons_zero, Option.map_some]
         show wpS _ _ _ _ _ _ _ [(_, _), (_, _), (_, _), (_, _), (_, _), (_, _)] _ _
         (refine wpS_quiet rfl rfl ?_; intro K hK inst hx; have s2 := fun x => (fun _ => bkeep (BQ.below x) c2) (hx x); have s3 := fun x => (fun _ => bkeep (BQ.below x) c3) (hx x); have s4 := fun x => (fun _ => bkeep (BQ.below x) c4) (hx x); have s5 := fun x => (fun _ => bkeep (BQ.below x) c5) (hx x); have s6 := fun x => (fun _ => bkeep (BQ.below x) c6) (hx x); have s7 := fun x => (fun _ => bkeep (BQ.below x) c7) (hx x); go_big_quiet_op; (first | go_big_quiet_on | (refine ⟨_, fun _ => rfl, ?_⟩; go_big_quiet_on)); clear hx inst)
         (refine wpS_quiet rfl rfl ?_; intro K hK inst hx; go_big_quiet_op; (first | go_big_quiet_on | (refine ⟨_, fun _ => rfl, ?_⟩; go_big_quiet_on)); clear hx inst)
         (refine wpS_quiet rfl rfl ?_; intro K hK inst hx; go_big_quiet_op; (first | go_big_quiet_on | (refine ⟨_, fun _ => rfl, ?_⟩; go_big_quiet_on)); clear hx inst)
         refine wpS_fresh rfl rfl (fun w' hb hF => ?_) ?_
         ·change freshAt _ _ _ (fun v W => W.ownsRow wr.heap.size 34 4 v cs.length (cs.flatMap cellsF)) _; unfold freshAt; go_simp; exact HCH.out _ hb
         intro v W hv; simp only [pOf, List.lookup_cons, Nat.reduceBEq, beq_self_eq_true] at hv; obtain ⟨ca, cc, rfl, -⟩ := owns_shape hv
         simp only [Act.put, List.setIfInBounds_toArray, List.set_cons_succ, List.set_cons_zero]
         refine wpS_fresh rfl rfl (fun w' hb hF => ?_) ?_
         ·change freshAt _ _ _ (fun v _ => v = .bool tb) _; have h4 := hF 3 _ rfl (by kernel_rfl); unfold freshAt; go_simp; exact HTR.out _ _ h4
         intro v W hv; simp only [pOf, List.lookup_cons, Nat.reduceBEq, beq_self_eq_true] at hv; subst hv
         simp only [Act.put, List.setIfInBounds_toArray, List.set_cons_succ, List.set_cons_zero]
         (refine wpS_quiet rfl rfl ?_; intro K hK inst hx; go_big_quiet_op; (first | go_big_quiet_on | (refine ⟨_, fun _ => rfl, ?_⟩; go_big_quiet_on)); clear hx inst)
         refine wpS_nil ?_
         intro w3 hall
         have hb := hall.1
         clear hall
         refine wpAny_done (by kernel_rfl) ?_ _
         replace hin := hin.below hb
         have hB3 := bnext (w := w1) hB hb
         have hb4 := bnext (w := w) hb3 hb
         clear hb HCH HTR c2 c3 c4 c5 c6 c7
         cases tb
         ·have hd3 : d = 26 := by rw [HD.out, all_bad HGK2.out HFT.out, Bool.and_false]; rfl
          subst hd3
          clear HD
          go_wp2_with fail
          go_ret
          exact ⟨rfl, hb4⟩
         ·have hac : areB n (-1) [] gs = areB n (headZ gs (k + 1)) (seen ++ g) (gs.drop (k + 1)) := by rw [HA2.out, HNX.out, headZ_at HGK2.out HXG.out]
          have HAC := hid hac; clear hac
          have HF2' := hid (all_more HGK2.out HF.out HFT.out)
          have HZ2 := hid (show 0 < k + 1 → ∃ g x, gs[k + 1 - 1]? = some g ∧ g[0]? = some x ∧ headZ gs (k + 1) = x from fun _ => ⟨g, x, HGK2.out, HXG.out, headZ_at HGK2.out HXG.out⟩)
          have hlen : (seen ++ g).length = sl + j := by rw [List.length_append, HSL.out, HP.out]
          have HLEN := hid hlen; clear hlen
          go_wp2_with fail
          go_roundg (q - (k + 1))
          case measure => have h := HGK.out; omega
          case rel => exact ⟨k + 1, seen ++ g, by omega, rfl, by go_num, by rw [HLEN.out], HAC, HF2', HZ2, HS3, hin, hB3⟩
     ·as_aux_lemma =>
       have hkn : 0 < k := by omega
       have hki0 : (0 : Int) < (k : Int) := by omega
       obtain ⟨g1, x1, hg1, hx1, hh1⟩ := HZ.out (by omega)
       obtain ⟨m', hm'⟩ : ∃ m', k - 1 = m' := ⟨_, rfl⟩
       rw [hm'] at hg1
       have hwk : wrap64 ((k : Int) - 1) = (m' : Int) := by rw [IntWalk.wrap64_in _ (by omega)]; omega
       have hwk2 : (k : Int) - 1 = (m' : Int) := by omega
       obtain ⟨a2, e5, u5, r5, hu5⟩ := HGS.out m' g1 hg1
       injection e5 with e5; subst e5
       replace r5 := bkeep hb1 r5
       replace hu5 := hu5.below hb1
       obtain ⟨ub, uc5, rfl, -, -⟩ := hu5.shape
       have hgp1 : 0 < g1.length := (List.getElem?_eq_some_iff.1 hx1).1
       obtain ⟨ub', e6, r6⟩ := hu5.elem hgp1
       subst e6
       have hxg1 : g1[0] = x1 := by have h := hx1; rw [List.getElem?_eq_getElem hgp1] at h; injection h
       rw [hxg1] at r6
       have hz6 : ub'.add 0 = ub' := by cases ub' with | mk b o l => cases l <;> simp [Addr.add]
       rw [hz6] at r6
       have hx1i := (hu5.i64 x1 (List.mem_of_getElem? hx1)).bd
       obtain ⟨p1, hp1e⟩ : ∃ p1, g1.length = p1 := ⟨_, rfl⟩
       rw [hp1e] at r5 hgp1
       have hp1i : (0 : Int) < (p1 : Int) := by omega
       have hm'q : (m' : Int) < (q : Int) := by omega
       have HH1 := hid hh1; clear hh1 hx1 hg1 hxg1 hz6 hu5 hp1e hm'
       by_cases hfx : x ≤ x1
       ·have hd3 : d = 26 := by rw [HD.out, show areB fs.length (-1) [] gs = false from by rw [HN.out, HA2.out, are_head HXG.out (by rw [HH1.out]; exact hfx)]]; rfl
        subst hd3
        clear HD
        go_upto_region 10 with fail
        have xr0 := fun x : BW wr => bkeep x.below r0
        have xr1 := fun x : BW wr => bkeep x.below r1
        have xr5 := fun x : BW wr => bkeep x.below r5
        have xr6 := fun x : BW wr => bkeep x.below r6
        refine wp_region_qb (by kernel_rfl) (by kernel_rfl) fun hc => ?_
        repeat (go_big_quiet_step (fail))
        refine wpQuiet_nil ?_
        intro w2 hb
        replace hB := bnext (w := w1) hB hb
        replace hin := hin.below hb
        have hb2 := bnext (w := w) hb1 hb
        clear hb hc xr0 xr1 xr5 xr6
        go_wp2_with fail
        go_ret
        exact ⟨rfl, hb2⟩
       ·have HFX := hid (show headZ gs k = -1 ∨ headZ gs k < x from .inr (by rw [HH1.out]; omega))
        go_upto_region 10 with fail
        have xr0 := fun x : BW wr => bkeep x.below r0
        have xr1 := fun x : BW wr => bkeep x.below r1
        have xr5 := fun x : BW wr => bkeep x.below r5
        have xr6 := fun x : BW wr => bkeep x.below r6
        refine wp_region_qb (by kernel_rfl) (by kernel_rfl) fun hc => ?_
        repeat (go_big_quiet_step (fail))
        refine wpQuiet_nil ?_
        intro w2 hb
        replace hB := bnext (w := w1) hB hb
        replace hin := hin.below hb
        have hb2 := bnext (w := w) hb1 hb
        clear hb hc xr0 xr1 xr5 xr6
        clear r5 r6 hwk hwk2
        obtain ⟨v2, hv2⟩ : ∃ v, v = w2 := ⟨_, rfl⟩
        subst hv2
        go_wp2_with fail
        go_loopg [12, 15, 16, 60] p (fun gk pv _ _ jv wr => ∃ (j : Nat), j ≤ p ∧ gk = p - j ∧ jv = .int .i64 j ∧ pv = .int .i64 ((sl + j : Nat) : Int) ∧ Hid (idxB (n : Int) (lastZ g j) (g.drop j) = bi) ∧ Hid (-1 ≤ lastZ g j) ∧ Hid ((seen ++ g.take j).Nodup ∧ ∀ z ∈ seen ++ g.take j, 0 ≤ z ∧ z < (n : Int)) ∧ SeenAt w1.heap.size n (seen ++ g.take j) wr ∧ Below w1.heap.size w1 wr)
        case atStart => exact ⟨0, Nat.zero_le _, rfl, rfl, rfl, HI.out, (by show (-1 : Int) ≤ -1; omega), (show (seen ++ g.take 0).Nodup ∧ ∀ z ∈ seen ++ g.take 0, 0 ≤ z ∧ z < (n : Int) from by rw [List.take_zero, List.append_nil]; exact HS.out), by simpa using hin, hB⟩
        case round =>
         clear hin hB
         obtain ⟨j, hj, hgk, rfl, rfl, HP2, HLA, HS2, hin, hB⟩ := hrel
         have HGJ := hid hgk; clear hgk
         have hb3 : Below w.heap.size w wr := bnext (w := w) hb0 hB
         have hjl : (seen ++ g.take j).length ≤ n := (nodup_len HS2.out.1 HS2.out.2).1
         rw [List.length_append, List.length_take, HSL.out, HP.out, Nat.min_eq_left hj] at hjl
         by_cases hlj : j < p
         ·have hji : (j : Int) < (p : Int) := by omega
          have hjg : j < g.length := by rw [HP.out]; exact hlj
          have hug : NumsAt wr (.slice (some ua') g.length uc) g := NumsAt.below (show NumsAt w (.slice (some ua') g.length uc) g from HUw.out) hb3
          obtain ⟨u2, e3, r2⟩ := hug.elem hjg
          injection e3 with e3; subst e3
          obtain ⟨z, hzk⟩ : ∃ z, g[j] = z := ⟨_, rfl⟩
          have hzi := hug.i64 g[j] (List.getElem_mem hjg)
          have hst := idx_step hjg HP2.out
          rw [hzk] at r2 hst hzi
          have hzb := hzi.bd
          have hln : lastZ g (j + 1) = z := (lastZ_at hjg).trans hzk
          obtain ⟨l0, hl0⟩ : ∃ l, lastZ g j = l := ⟨_, rfl⟩
          have hla := HLA.out
          rw [hl0] at hst hla
          have HST := hid hst; have HLN := hid hln; have HL0 := hid hl0; have HZK := hid hzk; have HUG := hid hug; clear hst hln hl0 hzi HP2 HLA hzk hug
          by_cases hneg : z < 0
          ·have hbt : btw z (l0 + 1) ((n : Int) - 1) = false := by rw [Bool.eq_false_iff]; intro h; have := btw_iff.1 h; omega
           have hbf : bi = false := by rw [HST.out, hbt, Bool.false_and]
           have hd3 : d = 26 := by rw [HD.out, show areB fs.length (-1) [] gs = false from by rw [HN.out, HA2.out, are_idx (HI.out.trans hbf)]]; rfl
           subst hd3
           clear HD
           clear hbt hbf
           go_wp2_with fail
           go_ret
           exact ⟨rfl, hb3⟩
          ·by_cases hbig : (n : Int) ≤ z
           ·have hbt : btw z (l0 + 1) ((n : Int) - 1) = false := by rw [Bool.eq_false_iff]; intro h; have := btw_iff.1 h; omega
            have hbf : bi = false := by rw [HST.out, hbt, Bool.false_and]
            have hd3 : d = 26 := by rw [HD.out, show areB fs.length (-1) [] gs = false from by rw [HN.out, HA2.out, are_idx (HI.out.trans hbf)]]; rfl
            subst hd3
            clear HD
            clear hbt hbf
            go_wp2_with fail
            go_ret
            exact ⟨rfl, hb3⟩
           ·obtain ⟨m, hm⟩ : ∃ m : Nat, z = (m : Int) := ⟨z.toNat, by omega⟩
            have HM := hid hm
            rw [hm] at r2 hneg hbig hzb
            have hm5 : m < n := by omega
            have hmi : (m : Int) < (n : Int) := by omega
            obtain ⟨r3, f3⟩ := hin m hm5
            obtain ⟨bs2, hbs⟩ : ∃ b, (seen ++ g.take j).contains (m : Int) = b := ⟨_, rfl⟩
            rw [hbs] at r3
            have HBS := hid hbs; clear hbs hm
            cases bs2
            ·by_cases hk0 : 0 < (j : Int)
             ·have hkp : 0 < j := by omega
              obtain ⟨k', hk'⟩ : ∃ k', j - 1 = k' := ⟨_, rfl⟩
              have hkl : k' < g.length := by omega
              have hwk : wrap64 ((j : Int) - 1) = (k' : Int) := by rw [IntWalk.wrap64_in _ (by omega)]; omega
              have hwk2 : (j : Int) - 1 = (k' : Int) := by omega
              obtain ⟨a2, ha2, r4⟩ := HUG.out.elem hkl
              injection ha2 with ha2; subst ha2
              obtain ⟨y, hyk⟩ : ∃ y, g[k'] = y := ⟨_, rfl⟩
              rw [hyk] at r4
              have hyl : l0 = y := by rw [← HL0.out, show j = k' + 1 by omega]; exact (lastZ_at hkl).trans hyk
              subst hyl
              have hkli : (k' : Int) < (p : Int) := by have := HP.out; omega
              clear hyk hk' hkp
              by_cases hle : (m : Int) ≤ l0
              ·have hz' := HM.out
               have hbt : btw z (l0 + 1) ((n : Int) - 1) = false := by rw [Bool.eq_false_iff]; intro h; have := btw_iff.1 h; omega
               clear hz'
               have hbf : bi = false := by rw [HST.out, hbt, Bool.false_and]
               have hd3 : d = 26 := by rw [HD.out, show areB fs.length (-1) [] gs = false from by rw [HN.out, HA2.out, are_idx (HI.out.trans hbf)]]; rfl
               subst hd3
               clear HD
               clear hbt hbf
               go_wp2_with fail
               go_ret
               exact ⟨rfl, hb3⟩
              ·have hz' := HM.out
               have hbt : btw z (l0 + 1) ((n : Int) - 1) = true := btw_iff.2 (by omega)
               clear hz'
               have hs2 : idxB (n : Int) (lastZ g (j + 1)) (g.drop (j + 1)) = bi := by rw [HLN.out, HST.out, hbt, Bool.true_and]
               have HS3 := hid hs2; clear hs2 hbt
               have HLA2 := hid (show -1 ≤ lastZ g (j + 1) by rw [HLN.out, HM.out]; omega)
               have hsn : (m : Int) ∉ seen ++ g.take j := by have h := HBS.out; simpa using h
               have hset := hin.set hm5
               have hnod := nodup_snoc HS2.out.1 hsn
               have e4 : seen ++ g.take (j + 1) = seen ++ g.take j ++ [(m : Int)] := by rw [List.take_succ_eq_append_getElem hjg, HZK.out, ← List.append_assoc, HM.out]
               have HE4 := hid e4; have HSET := hid hset; have HNOD := hid hnod; clear e4 hset hnod hsn
               go_wp2_with fail
               go_roundg (p - (j + 1))
               case measure => have h := HGJ.out; omega
               case rel => exact ⟨j + 1, by omega, rfl, by go_num, by go_num, HS3, HLA2, by (rw [HE4.out]; exact ⟨HNOD.out, fun z hz => by (rcases List.mem_append.1 hz with h | h); exact HS2.out.2 z h; (simp at h; subst h; omega)⟩), by (rw [HE4.out]; exact HSET.out), hB.setCell (p := ⟨w1.heap.size, m, none⟩) (Nat.le_refl _) _⟩
             ·have hlz : l0 = -1 := by rw [← HL0.out, show j = 0 by omega]; rfl
              have hz' := HM.out
              have hbt : btw z (l0 + 1) ((n : Int) - 1) = true := btw_iff.2 (by omega)
              clear hz'
              have hs2 : idxB (n : Int) (lastZ g (j + 1)) (g.drop (j + 1)) = bi := by rw [HLN.out, HST.out, hbt, Bool.true_and]
              have HS3 := hid hs2; clear hs2 hbt
              have HLA2 := hid (show -1 ≤ lastZ g (j + 1) by rw [HLN.out, HM.out]; omega)
              have hsn : (m : Int) ∉ seen ++ g.take j := by have h := HBS.out; simpa using h
              have hset := hin.set hm5
              have hnod := nodup_snoc HS2.out.1 hsn
              have e4 : seen ++ g.take (j + 1) = seen ++ g.take j ++ [(m : Int)] := by rw [List.take_succ_eq_append_getElem hjg, HZK.out, ← List.append_assoc, HM.out]
              have HE4 := hid e4; have HSET := hid hset; have HNOD := hid hnod; clear e4 hset hnod hsn
              go_wp2_with fail
              go_roundg (p - (j + 1))
              case measure => have h := HGJ.out; omega
              case rel => exact ⟨j + 1, by omega, rfl, by go_num, by go_num, HS3, HLA2, by (rw [HE4.out]; exact ⟨HNOD.out, fun z hz => by (rcases List.mem_append.1 hz with h | h); exact HS2.out.2 z h; (simp at h; subst h; omega)⟩), by (rw [HE4.out]; exact HSET.out), hB.setCell (p := ⟨w1.heap.size, m, none⟩) (Nat.le_refl _) _⟩
            ·have hmem : (m : Int) ∈ seen ++ g.take j := by have h := HBS.out; simpa using h
             have hno : areB fs.length (-1) [] gs = false := by
              rw [HN.out, HA2.out]
              rcases List.mem_append.1 hmem with h | h
              ·exact are_dup (z := (m : Int)) (by rw [← HM.out, ← HZK.out]; exact List.getElem_mem hjg) h
              ·cases hbi : bi with
               | false => exact are_idx (HI.out.trans hbi)
               | true => exact absurd (by rw [HZK.out, HM.out]; exact h) (pair_take (idx_iff.1 (HI.out.trans hbi)).1 hjg)
             have hd3 : d = 26 := by rw [HD.out, hno]; rfl
             subst hd3
             clear HD
             clear hno hmem
             go_wp2_with fail
             go_ret
             exact ⟨rfl, hb3⟩
         ·obtain rfl : j = p := by omega
          have hbt : bi = true := idx_end (by rw [HP.out]; exact Nat.le_refl _) HP2.out
          subst hbt
          rw [List.take_of_length_le (by rw [HP.out]; exact Nat.le_refl _)] at hin
          have hS3 := HS2.out
          rw [List.take_of_length_le (by rw [HP.out]; exact Nat.le_refl _)] at hS3
          have HS3 := hid hS3; clear hS3 HS2 HP2 HLA
          have hzr := fun z hz => (idx_all (show (-1 : Int) ≤ -1 by omega) HI.out z hz).2
          have hfx : headZ gs k < x := by have := hzr x (List.mem_of_getElem? HXG.out); have := HFX.out; omega
          have hnx := are_next (gs := gs.drop (k + 1)) HXG.out HI.out hfx HS3.out.1
          have HNX := hid hnx; clear hnx hfx
          obtain ⟨cs, hcs⟩ : ∃ cs, chosenL fs g = cs := ⟨_, rfl⟩
          obtain ⟨tb, htb⟩ : ∃ tb, fitsB ⟨bid, bwi, bde, bce, bhi, bbe⟩ cs = tb := ⟨_, rfl⟩
          have hok1 := chosen_ok hok (zs := g) (fun z h => by rw [HN.out]; exact hzr z h)
          have hj5 : j ≤ 5 := by omega
          have hn1 : (chosenL fs g).length ≤ 5 := by unfold chosenL; rw [List.length_map, HP.out]; omega
          rw [hcs] at hok1 hn1
          have hug : NumsAt wr (.slice (some ua') j uc) g := by have h := NumsAt.below HUw.out hb3; rw [HP.out] at h; exact h
          have hfm : FeetAt wr (.slice fa n fc) fs := hfa.below hB
          have hch : ∀ W' : World, Below wr.heap.size wr W' → Calls Tryz.prog 92 #[.slice fa n fc, .slice (some ua') j uc] W' (fun e w'' => ∃ u, e = .returned u ∧ Below W'.heap.size W' w'' ∧ w''.ownsRow wr.heap.size 34 4 u cs.length (cs.flatMap cellsF)) := fun W' hb => by
           rw [← hcs]; refine (rSome (hfm.below hb) (by rw [HN.out]; omega) (hug.below hb) (by rw [HP.out]; omega) (fun z h => by rw [HN.out]; exact hzr z h)).mono ?_
           rintro e w'' ⟨u, rfl, h2, h3⟩
           exact ⟨u, rfl, h2, owns_base hb.size h3⟩
          have htr : ∀ (W' : World) (u : Value), W'.ownsRow wr.heap.size 34 4 u cs.length (cs.flatMap cellsF) → Calls Tryz.prog 95 #[.agg #[.int .i64 bid, .int .i64 bwi, .int .i64 bde, .int .i64 bce, .int .i64 bhi, .int .i64 bbe], u] W' (Ret W' (.bool tb)) := fun W' u h => rPackable HX.out (feetAt_of_owns hok1 h) hok1 hn1 htb
          have hft : fitsB ⟨bid, bwi, bde, bce, bhi, bbe⟩ (chosenL fs g) = tb := by rw [hcs, htb]
          have HFT := hid hft; have HCH := hid hch; have HTR := hid htr; clear hft hch htr hok1 hn1 htb hcs hzr hug hfm
          have c2 := bkeep hB q2
          have c3 := bkeep hB q3
          have c4 := bkeep hB q4
          have c5 := bkeep hB q5
          have c6 := bkeep hB q6
          have c7 := bkeep hB q7
          go_upto_region 20 with fail
          refine wp_region_Rs [(3, fun v W => W.ownsRow wr.heap.size 34 4 v cs.length (cs.flatMap cellsF)), (4, fun v _ => v = .bool tb)] [0, 1, 2, 3, 4, 5] 0 (by kernel_rfl) rfl (by simp only [List.forall_mem_cons]; exact ⟨keeps_owns, keeps_eq, fun _ h => by cases h⟩) (by kernel_rfl) ?_
          simp only [numbered, List.filterMap_cons, List.filterMap_nil, List.getElem?_toArray, List.getElem?_cons_succ, List.getElem?_cons_zero, Option.map_some]
          show wpS _ _ _ _ _ _ _ [(_, _), (_, _), (_, _), (_, _), (_, _), (_, _)] _ _
          (refine wpS_quiet rfl rfl ?_; intro K hK inst hx; have s2 := fun x => (fun _ => bkeep (BQ.below x) c2) (hx x); have s3 := fun x => (fun _ => bkeep (BQ.below x) c3) (hx x); have s4 := fun x => (fun _ => bkeep (BQ.below x) c4) (hx x); have s5 := fun x => (fun _ => bkeep (BQ.below x) c5) (hx x); have s6 := fun x => (fun _ => bkeep (BQ.below x) c6) (hx x); have s7 := fun x => (fun _ => bkeep (BQ.below x) c7) (hx x); go_big_quiet_op; (first | go_big_quiet_on | (refine ⟨_, fun _ => rfl, ?_⟩; go_big_quiet_on)); clear hx inst)
          (refine wpS_quiet rfl rfl ?_; intro K hK inst hx; go_big_quiet_op; (first | go_big_quiet_on | (refine ⟨_, fun _ => rfl, ?_⟩; go_big_quiet_on)); clear hx inst)
          (refine wpS_quiet rfl rfl ?_; intro K hK inst hx; go_big_quiet_op; (first | go_big_quiet_on | (refine ⟨_, fun _ => rfl, ?_⟩; go_big_quiet_on)); clear hx inst)
          refine wpS_fresh rfl rfl (fun w' hb hF => ?_) ?_
          ·change freshAt _ _ _ (fun v W => W.ownsRow wr.heap.size 34 4 v cs.length (cs.flatMap cellsF)) _; unfold freshAt; go_simp; exact HCH.out _ hb
          intro v W hv; simp only [pOf, List.lookup_cons, Nat.reduceBEq, beq_self_eq_true] at hv; obtain ⟨ca, cc, rfl, -⟩ := owns_shape hv
          simp only [Act.put, List.setIfInBounds_toArray, List.set_cons_succ, List.set_cons_zero]
          refine wpS_fresh rfl rfl (fun w' hb hF => ?_) ?_
          ·change freshAt _ _ _ (fun v _ => v = .bool tb) _; have h4 := hF 3 _ rfl (by kernel_rfl); unfold freshAt; go_simp; exact HTR.out _ _ h4
          intro v W hv; simp only [pOf, List.lookup_cons, Nat.reduceBEq, beq_self_eq_true] at hv; subst hv
          simp only [Act.put, List.setIfInBounds_toArray, List.set_cons_succ, List.set_cons_zero]
          (refine wpS_quiet rfl rfl ?_; intro K hK inst hx; go_big_quiet_op; (first | go_big_quiet_on | (refine ⟨_, fun _ => rfl, ?_⟩; go_big_quiet_on)); clear hx inst)
          refine wpS_nil ?_
          intro w3 hall
          have hb := hall.1
          clear hall
          refine wpAny_done (by kernel_rfl) ?_ _
          replace hin := hin.below hb
          have hB3 := bnext (w := w1) hB hb
          have hb4 := bnext (w := w) hb3 hb
          clear hb HCH HTR c2 c3 c4 c5 c6 c7
          cases tb
          ·have hd3 : d = 26 := by rw [HD.out, all_bad HGK2.out HFT.out, Bool.and_false]; rfl
           subst hd3
           clear HD
           go_wp2_with fail
           go_ret
           exact ⟨rfl, hb4⟩
          ·have hac : areB n (-1) [] gs = areB n (headZ gs (k + 1)) (seen ++ g) (gs.drop (k + 1)) := by rw [HA2.out, HNX.out, headZ_at HGK2.out HXG.out]
           have HAC := hid hac; clear hac
           have HF2' := hid (all_more HGK2.out HF.out HFT.out)
           have HZ2 := hid (show 0 < k + 1 → ∃ g x, gs[k + 1 - 1]? = some g ∧ g[0]? = some x ∧ headZ gs (k + 1) = x from fun _ => ⟨g, x, HGK2.out, HXG.out, headZ_at HGK2.out HXG.out⟩)
           have hlen : (seen ++ g).length = sl + j := by rw [List.length_append, HSL.out, HP.out]
           have HLEN := hid hlen; clear hlen
           go_wp2_with fail
           go_roundg (q - (k + 1))
           case measure => have h := HGK.out; omega
           case rel => exact ⟨k + 1, seen ++ g, by omega, rfl, by go_num, by rw [HLEN.out], HAC, HF2', HZ2, HS3, hin, hB3⟩
   ·obtain rfl : k = q := by omega
    have hacc : areB fs.length (-1) [] gs = decide (sl = n) := by have h := HA.out; rw [List.drop_of_length_le (by rw [HQ.out]; exact Nat.le_refl _)] at h; rw [HN.out, h, areB, HSL.out]
    have hall : gs.all (fun g => fitsB ⟨bid, bwi, bde, bce, bhi, bbe⟩ (chosenL fs g)) = true := by have h := HF.out; rw [List.take_of_length_le (by rw [HQ.out]; exact Nat.le_refl _)] at h; exact h
    have HACC := hid hacc; have HALL := hid hall; clear hacc hall HA HF
    by_cases hsn : sl = n
    ·have hd3 : d = 0 := by rw [HD.out, HACC.out, HALL.out, decide_eq_true hsn]; rfl
     subst hd3
     subst hsn
     clear HD
     go_wp2_with fail
     go_ret
     exact ⟨rfl, hb1⟩
    ·have hd3 : d = 26 := by rw [HD.out, HACC.out, decide_eq_false hsn]; rfl
     subst hd3
     have hsn2 : ((sl : Int) != (n : Int)) = true := by simp; omega
     have hsn3 : ¬ (sl : Int) = (n : Int) := by omega
     clear HD
     go_wp2_with fail
     go_ret
     exact ⟨rfl, hb1⟩
 ·have hR : d = c := by rw [← hd]; unfold ckGr; rw [if_neg (by rw [hc]; exact hc0), hc]
  subst hR
  have hcn : (d != 0) = true := by simpa using hc0
  clear hc hd
  go_enter Tryz.func53, Tryz.ntmps53
  go_wp2_with fail
  refine (rHead (h1.below (by go_grown)) (h2.below (by go_grown)) (hl.below (by go_grown)) HC.out).mono ?_
  rintro e w1 ⟨rfl, hb⟩
  replace hb0 := bnext (w := w) (by go_grown) hb; have hz := hb.size; (try simp only [World.size_alloc, World.size_setCell] at hz); replace q0 : w1.cell? ⟨w.heap.size, 0, none⟩ = some (vs) := bkeep hb (by first | (with_reducible exact q0) | (with_reducible exact akeep q0) | simp [*, go_sem]); replace q1 : w1.cell? ⟨w.heap.size, 1, none⟩ = some (vb) := bkeep hb (by first | (with_reducible exact q1) | (with_reducible exact akeep q1) | simp [*, go_sem]); replace q2 : w1.cell? ⟨w.heap.size + 1, 0, none⟩ = some (.int .i64 bid) := bkeep hb (by first | (with_reducible exact q2) | (with_reducible exact akeep q2) | simp [*, go_sem]); replace q3 : w1.cell? ⟨w.heap.size + 1, 1, none⟩ = some (.int .i64 bwi) := bkeep hb (by first | (with_reducible exact q3) | (with_reducible exact akeep q3) | simp [*, go_sem]); replace q4 : w1.cell? ⟨w.heap.size + 1, 2, none⟩ = some (.int .i64 bde) := bkeep hb (by first | (with_reducible exact q4) | (with_reducible exact akeep q4) | simp [*, go_sem]); replace q5 : w1.cell? ⟨w.heap.size + 1, 3, none⟩ = some (.int .i64 bce) := bkeep hb (by first | (with_reducible exact q5) | (with_reducible exact akeep q5) | simp [*, go_sem]); replace q6 : w1.cell? ⟨w.heap.size + 1, 4, none⟩ = some (.int .i64 bhi) := bkeep hb (by first | (with_reducible exact q6) | (with_reducible exact akeep q6) | simp [*, go_sem]); replace q7 : w1.cell? ⟨w.heap.size + 1, 5, none⟩ = some (.int .i64 bbe) := bkeep hb (by first | (with_reducible exact q7) | (with_reducible exact akeep q7) | simp [*, go_sem]); skip
  clear hb
  go_wp2_with fail
  go_ret
  exact ⟨rfl, by go_grown⟩
end Go.Proofs.YtodmidchpbcnpaaGreat