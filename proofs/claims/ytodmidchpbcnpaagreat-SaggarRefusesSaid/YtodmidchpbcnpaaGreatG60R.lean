/- Part of a claim. -/
import Derived.Test.YtodmidchpbcnpaaGreatG58R
import Derived.Test.YtodmidchpbcnpaaGreatG59R
set_option linter.unusedVariables false
set_option linter.unusedSimpArgs false
namespace Go.Proofs.YtodmidchpbcnpaaGreat
open Go.RowKit Go.Pb Go.Pb.Ware Go.Pb.Sag


set_option maxRecDepth 100000 in
set_option maxHeartbeats 4000000 in
theorem rReason0 {w : World} {bid bwi bde bce bhi bbe kind : Int} {lv rv : Value} {fs : List Ft} {zs : List Int} {b : Bool} (hX : boxOk ⟨bid, bwi, bde, bce, bhi, bbe⟩ = true) (hl : FeetAt w lv fs) (hok : ∀ f ∈ fs, FtOk f) (hn : fs.length ≤ 5) (hzn : NumsAt w rv zs) (h1 : kind ≠ 1) (h2 : kind ≠ 2) (h3 : kind ≠ 3) (h4 : kind ≠ 4) (h5 : kind ≠ 5) (hb : reasonB ⟨bid, bwi, bde, bce, bhi, bbe⟩ fs kind zs = b) :
  Calls Tryz.prog 99 #[.agg #[.int .i64 bid, .int .i64 bwi, .int .i64 bde, .int .i64 bce, .int .i64 bhi, .int .i64 bbe], lv, .agg #[.int .i64 kind, rv]] w (Ret w (.bool b)) := by
 unfold Ret
 obtain ⟨ra, rc, rfl, hrl, hrc⟩ := hzn.shape
 obtain ⟨la, lc, rfl, hll⟩ := hl.shape
 rw [List.length_map] at hl hll ⊢
 by_cases hz0 : zs = []
 ·have hd : b = false := by rw [← hb, hz0, reason_nil hX]
  subst hd; subst hz0
  clear hb
  simp only [List.length_nil]
  go_enter Tryz.func99, Tryz.ntmps99
  go_wp2_with fail
  go_ret
  exact ⟨rfl, by go_grown⟩
 ·have hm0 : 0 < zs.length := List.length_pos_iff.2 hz0
  have hmi : ¬ (zs.length : Int) = 0 := by omega
  have hmb : ((zs.length : Int) == 0) = false := beq_eq_false_iff_ne.mpr hmi
  obtain ⟨bi, hbi⟩ : ∃ bi, idxB (fs.length : Int) (-1) zs = bi := ⟨_, rfl⟩
  have hrb : (bi && (troubleA ⟨bid, bwi, bde, bce, bhi, bbe⟩ (chosenL fs zs) kind && allNeed ⟨bid, bwi, bde, bce, bhi, bbe⟩ fs kind zs zs.length)) = b := by rw [← hb, ← hbi]; rfl
  have HRB := hid hrb; have HX := hid hX; have HBI := hid hbi; clear hb hrb hX hbi
  go_enter Tryz.func99, Tryz.ntmps99
  go_upto_region 1 with fail
  generalize hW : World.alloc (World.alloc w _) _ = v1
  have q0 : v1.cell? ⟨w.heap.size, 0, none⟩ = some (.int .i64 bid) := by rw [← hW]; simp [go_sem]
  have q1 : v1.cell? ⟨w.heap.size, 1, none⟩ = some (.int .i64 bwi) := by rw [← hW]; simp [go_sem]
  have q2 : v1.cell? ⟨w.heap.size, 2, none⟩ = some (.int .i64 bde) := by rw [← hW]; simp [go_sem]
  have q3 : v1.cell? ⟨w.heap.size, 3, none⟩ = some (.int .i64 bce) := by rw [← hW]; simp [go_sem]
  have q4 : v1.cell? ⟨w.heap.size, 4, none⟩ = some (.int .i64 bhi) := by rw [← hW]; simp [go_sem]
  have q5 : v1.cell? ⟨w.heap.size, 5, none⟩ = some (.int .i64 bbe) := by rw [← hW]; simp [go_sem]
  have q6 : v1.cell? ⟨w.heap.size + 1, 0, none⟩ = some (.int .i64 kind) := by rw [← hW]; simp [go_sem]
  have q7 : v1.cell? ⟨w.heap.size + 1, 1, none⟩ = some (.slice ra zs.length rc) := by rw [← hW]; simp [go_sem]
  have hbv : Below w.heap.size w v1 := by rw [← hW]; go_grown
  clear hW
  have hl1 : FeetAt v1 (.slice la fs.length lc) fs := hl.below hbv
  have hzn1 : NumsAt v1 (.slice ra zs.length rc) zs := hzn.below hbv
  clear hl hzn
  go_wp2_with fail
  go_loopg [7, 8, 17] zs.length (fun gk _ _ kv wr => ∃ k : Nat, k ≤ zs.length ∧ gk = zs.length - k ∧ kv = .int .i64 k ∧ Hid (idxB (fs.length : Int) (lastZ zs k) (zs.drop k) = bi) ∧ Hid (-1 ≤ lastZ zs k) ∧ v1 = wr)
  case atStart => exact ⟨0, Nat.zero_le _, rfl, rfl, HBI.out, (by show (-1 : Int) ≤ -1; omega), rfl⟩
  case round =>
   obtain ⟨k, hk, hgk, rfl, HP, HLA, rfl⟩ := hrel
   have HGK := hid hgk; clear hgk
   by_cases hlt : k < zs.length
   ·have hki : (k : Int) < (zs.length : Int) := by omega
    obtain ⟨a', ha, r0⟩ := hzn1.elem hlt
    subst ha
    obtain ⟨z, hzk⟩ : ∃ z, zs[k] = z := ⟨_, rfl⟩
    have hzi := hzn1.i64 zs[k] (List.getElem_mem hlt)
    have hst := idx_step hlt HP.out
    rw [hzk] at r0 hst hzi
    have hzb := hzi.bd
    have hln : lastZ zs (k + 1) = z := (lastZ_at hlt).trans hzk
    obtain ⟨l0, hl0⟩ : ∃ l, lastZ zs k = l := ⟨_, rfl⟩
    have hla := HLA.out
    rw [hl0] at hst hla
    have HST := hid hst; have HLN := hid hln; have HL0 := hid hl0; have HZK := hid hzk; clear hst hln hl0 hzi HP HLA hzk
    by_cases hneg : z < 0
    ·have hbt : btw z (l0 + 1) ((fs.length : Int) - 1) = false := by rw [Bool.eq_false_iff]; intro h; have := btw_iff.1 h; omega
     have hbf : bi = false := by rw [HST.out, hbt, Bool.false_and]
     have hd : b = false := by rw [← HRB.out, hbf, Bool.false_and]
     subst hd
     clear HRB HBI HST hbf
     go_wp2_with fail
     go_ret
     exact ⟨rfl, hbv⟩
    ·by_cases hbig : (fs.length : Int) ≤ z
     ·have hbt : btw z (l0 + 1) ((fs.length : Int) - 1) = false := by rw [Bool.eq_false_iff]; intro h; have := btw_iff.1 h; omega
      have hbf : bi = false := by rw [HST.out, hbt, Bool.false_and]
      have hd : b = false := by rw [← HRB.out, hbf, Bool.false_and]
      subst hd
      clear HRB HBI HST hbf
      go_wp2_with fail
      go_ret
      exact ⟨rfl, hbv⟩
     ·by_cases hk0 : 0 < (k : Int)
      ·have hkp : 0 < k := by omega
       obtain ⟨k', hk'⟩ : ∃ k', k - 1 = k' := ⟨_, rfl⟩
       have hkl : k' < zs.length := by omega
       have hwk : wrap64 ((k : Int) - 1) = (k' : Int) := by rw [IntWalk.wrap64_in _ (by omega)]; omega
       have hwk2 : (k : Int) - 1 = (k' : Int) := by omega
       obtain ⟨a2, ha2, r1⟩ := hzn1.elem hkl
       injection ha2 with ha2; subst ha2
       obtain ⟨y, hyk⟩ : ∃ y, zs[k'] = y := ⟨_, rfl⟩
       rw [hyk] at r1
       have hyl : l0 = y := by rw [← HL0.out, show k = k' + 1 by omega]; exact (lastZ_at hkl).trans hyk
       subst hyl
       have hkli : (k' : Int) < (zs.length : Int) := by omega
       clear hyk hk' hkp
       by_cases hle : z ≤ l0
       ·have hbt : btw z (l0 + 1) ((fs.length : Int) - 1) = false := by rw [Bool.eq_false_iff]; intro h; have := btw_iff.1 h; omega
        have hbf : bi = false := by rw [HST.out, hbt, Bool.false_and]
        have hd : b = false := by rw [← HRB.out, hbf, Bool.false_and]
        subst hd
        clear HRB HBI HST hbf
        go_wp2_with fail
        go_ret
        exact ⟨rfl, hbv⟩
       ·have hbt : btw z (l0 + 1) ((fs.length : Int) - 1) = true := btw_iff.2 (by omega)
        have hs2 : idxB (fs.length : Int) (lastZ zs (k + 1)) (zs.drop (k + 1)) = bi := by rw [HLN.out, HST.out, hbt, Bool.true_and]
        have HS2 := hid hs2; clear hs2 hbt
        have HLA2 := hid (show -1 ≤ lastZ zs (k + 1) by rw [HLN.out]; omega)
        go_wp2_with fail
        go_roundg (zs.length - (k + 1))
        case measure => have h := HGK.out; omega
        case rel => exact ⟨k + 1, by omega, rfl, by go_num, HS2, HLA2, rfl⟩
      ·have hlz : l0 = -1 := by rw [← HL0.out, show k = 0 by omega]; rfl
       have hbt : btw z (l0 + 1) ((fs.length : Int) - 1) = true := btw_iff.2 (by omega)
       have hs2 : idxB (fs.length : Int) (lastZ zs (k + 1)) (zs.drop (k + 1)) = bi := by rw [HLN.out, HST.out, hbt, Bool.true_and]
       have HS2 := hid hs2; clear hs2 hbt
       have HLA2 := hid (show -1 ≤ lastZ zs (k + 1) by rw [HLN.out]; omega)
       go_wp2_with fail
       go_roundg (zs.length - (k + 1))
       case measure => have h := HGK.out; omega
       case rel => exact ⟨k + 1, by omega, rfl, by go_num, HS2, HLA2, rfl⟩
   ·obtain rfl : k = zs.length := by omega
    have hbt : bi = true := idx_end (Nat.le_refl _) HP.out
    subst hbt
    have hrb : (troubleA ⟨bid, bwi, bde, bce, bhi, bbe⟩ (chosenL fs zs) kind && allNeed ⟨bid, bwi, bde, bce, bhi, bbe⟩ fs kind zs zs.length) = b := by rw [← HRB.out, Bool.true_and]
    have hzr : ∀ z ∈ zs, 0 ≤ z ∧ z < (fs.length : Int) := fun z hz => (idx_all (show (-1 : Int) ≤ -1 by omega) HBI.out z hz).2
    have hzl := idx_len (show (-1 : Int) ≤ -1 by omega) HBI.out
    have hzl2 : zs.length ≤ fs.length := by omega
    clear HRB HP HLA hzl
    have hd : b = false := by rw [← hrb, trouble_other h1 h2 h3 h4 h5, Bool.false_and]
    subst hd
    have n1 : (kind == 1) = false := beq_eq_false_iff_ne.mpr h1
    have n2 : (kind == 2) = false := beq_eq_false_iff_ne.mpr h2
    have n3 : (kind == 3) = false := beq_eq_false_iff_ne.mpr h3
    have n4 : (kind == 4) = false := beq_eq_false_iff_ne.mpr h4
    have n5 : (kind == 5) = false := beq_eq_false_iff_ne.mpr h5
    clear hrb
    go_wp2_with fail
    go_ret
    exact ⟨rfl, hbv⟩
set_option maxRecDepth 100000 in
set_option maxHeartbeats 4000000 in
theorem rReason1 {w : World} {bid bwi bde bce bhi bbe : Int} {lv rv : Value} {fs : List Ft} {zs : List Int} {b : Bool} (hX : boxOk ⟨bid, bwi, bde, bce, bhi, bbe⟩ = true) (hl : FeetAt w lv fs) (hok : ∀ f ∈ fs, FtOk f) (hn : fs.length ≤ 5) (hzn : NumsAt w rv zs) (hb : reasonB ⟨bid, bwi, bde, bce, bhi, bbe⟩ fs 1 zs = b) :
  Calls Tryz.prog 99 #[.agg #[.int .i64 bid, .int .i64 bwi, .int .i64 bde, .int .i64 bce, .int .i64 bhi, .int .i64 bbe], lv, .agg #[.int .i64 1, rv]] w (Ret w (.bool b)) := by
 unfold Ret
 obtain ⟨ra, rc, rfl, hrl, hrc⟩ := hzn.shape
 obtain ⟨la, lc, rfl, hll⟩ := hl.shape
 rw [List.length_map] at hl hll ⊢
 by_cases hz0 : zs = []
 ·have hd : b = false := by rw [← hb, hz0, reason_nil hX]
  subst hd; subst hz0
  clear hb
  simp only [List.length_nil]
  go_enter Tryz.func99, Tryz.ntmps99
  go_wp2_with fail
  go_ret
  exact ⟨rfl, by go_grown⟩
 ·have hm0 : 0 < zs.length := List.length_pos_iff.2 hz0
  have hmi : ¬ (zs.length : Int) = 0 := by omega
  have hmb : ((zs.length : Int) == 0) = false := beq_eq_false_iff_ne.mpr hmi
  obtain ⟨bi, hbi⟩ : ∃ bi, idxB (fs.length : Int) (-1) zs = bi := ⟨_, rfl⟩
  have hrb : (bi && (troubleA ⟨bid, bwi, bde, bce, bhi, bbe⟩ (chosenL fs zs) 1 && allNeed ⟨bid, bwi, bde, bce, bhi, bbe⟩ fs 1 zs zs.length)) = b := by rw [← hb, ← hbi]; rfl
  have HRB := hid hrb; have HX := hid hX; have HBI := hid hbi; clear hb hrb hX hbi
  go_enter Tryz.func99, Tryz.ntmps99
  go_upto_region 1 with fail
  generalize hW : World.alloc (World.alloc w _) _ = v1
  have q0 : v1.cell? ⟨w.heap.size, 0, none⟩ = some (.int .i64 bid) := by rw [← hW]; simp [go_sem]
  have q1 : v1.cell? ⟨w.heap.size, 1, none⟩ = some (.int .i64 bwi) := by rw [← hW]; simp [go_sem]
  have q2 : v1.cell? ⟨w.heap.size, 2, none⟩ = some (.int .i64 bde) := by rw [← hW]; simp [go_sem]
  have q3 : v1.cell? ⟨w.heap.size, 3, none⟩ = some (.int .i64 bce) := by rw [← hW]; simp [go_sem]
  have q4 : v1.cell? ⟨w.heap.size, 4, none⟩ = some (.int .i64 bhi) := by rw [← hW]; simp [go_sem]
  have q5 : v1.cell? ⟨w.heap.size, 5, none⟩ = some (.int .i64 bbe) := by rw [← hW]; simp [go_sem]
  have q6 : v1.cell? ⟨w.heap.size + 1, 0, none⟩ = some (.int .i64 1) := by rw [← hW]; simp [go_sem]
  have q7 : v1.cell? ⟨w.heap.size + 1, 1, none⟩ = some (.slice ra zs.length rc) := by rw [← hW]; simp [go_sem]
  have hbv : Below w.heap.size w v1 := by rw [← hW]; go_grown
  clear hW
  have hl1 : FeetAt v1 (.slice la fs.length lc) fs := hl.below hbv
  have hzn1 : NumsAt v1 (.slice ra zs.length rc) zs := hzn.below hbv
  clear hl hzn
  go_wp2_with fail
  go_loopg [7, 8, 17] zs.length (fun gk _ _ kv wr => ∃ k : Nat, k ≤ zs.length ∧ gk = zs.length - k ∧ kv = .int .i64 k ∧ Hid (idxB (fs.length : Int) (lastZ zs k) (zs.drop k) = bi) ∧ Hid (-1 ≤ lastZ zs k) ∧ v1 = wr)
  case atStart => exact ⟨0, Nat.zero_le _, rfl, rfl, HBI.out, (by show (-1 : Int) ≤ -1; omega), rfl⟩
  case round =>
   obtain ⟨k, hk, hgk, rfl, HP, HLA, rfl⟩ := hrel
   have HGK := hid hgk; clear hgk
   by_cases hlt : k < zs.length
   ·have hki : (k : Int) < (zs.length : Int) := by omega
    obtain ⟨a', ha, r0⟩ := hzn1.elem hlt
    subst ha
    obtain ⟨z, hzk⟩ : ∃ z, zs[k] = z := ⟨_, rfl⟩
    have hzi := hzn1.i64 zs[k] (List.getElem_mem hlt)
    have hst := idx_step hlt HP.out
    rw [hzk] at r0 hst hzi
    have hzb := hzi.bd
    have hln : lastZ zs (k + 1) = z := (lastZ_at hlt).trans hzk
    obtain ⟨l0, hl0⟩ : ∃ l, lastZ zs k = l := ⟨_, rfl⟩
    have hla := HLA.out
    rw [hl0] at hst hla
    have HST := hid hst; have HLN := hid hln; have HL0 := hid hl0; have HZK := hid hzk; clear hst hln hl0 hzi HP HLA hzk
    by_cases hneg : z < 0
    ·have hbt : btw z (l0 + 1) ((fs.length : Int) - 1) = false := by rw [Bool.eq_false_iff]; intro h; have := btw_iff.1 h; omega
     have hbf : bi = false := by rw [HST.out, hbt, Bool.false_and]
     have hd : b = false := by rw [← HRB.out, hbf, Bool.false_and]
     subst hd
     clear HRB HBI HST hbf
     go_wp2_with fail
     go_ret
     exact ⟨rfl, hbv⟩
    ·by_cases hbig : (fs.length : Int) ≤ z
     ·have hbt : btw z (l0 + 1) ((fs.length : Int) - 1) = false := by rw [Bool.eq_false_iff]; intro h; have := btw_iff.1 h; omega
      have hbf : bi = false := by rw [HST.out, hbt, Bool.false_and]
      have hd : b = false := by rw [← HRB.out, hbf, Bool.false_and]
      subst hd
      clear HRB HBI HST hbf
      go_wp2_with fail
      go_ret
      exact ⟨rfl, hbv⟩
     ·by_cases hk0 : 0 < (k : Int)
      ·have hkp : 0 < k := by omega
       obtain ⟨k', hk'⟩ : ∃ k', k - 1 = k' := ⟨_, rfl⟩
       have hkl : k' < zs.length := by omega
       have hwk : wrap64 ((k : Int) - 1) = (k' : Int) := by rw [IntWalk.wrap64_in _ (by omega)]; omega
       have hwk2 : (k : Int) - 1 = (k' : Int) := by omega
       obtain ⟨a2, ha2, r1⟩ := hzn1.elem hkl
       injection ha2 with ha2; subst ha2
       obtain ⟨y, hyk⟩ : ∃ y, zs[k'] = y := ⟨_, rfl⟩
       rw [hyk] at r1
       have hyl : l0 = y := by rw [← HL0.out, show k = k' + 1 by omega]; exact (lastZ_at hkl).trans hyk
       subst hyl
       have hkli : (k' : Int) < (zs.length : Int) := by omega
       clear hyk hk' hkp
       by_cases hle : z ≤ l0
       ·have hbt : btw z (l0 + 1) ((fs.length : Int) - 1) = false := by rw [Bool.eq_false_iff]; intro h; have := btw_iff.1 h; omega
        have hbf : bi = false := by rw [HST.out, hbt, Bool.false_and]
        have hd : b = false := by rw [← HRB.out, hbf, Bool.false_and]
        subst hd
        clear HRB HBI HST hbf
        go_wp2_with fail
        go_ret
        exact ⟨rfl, hbv⟩
       ·have hbt : btw z (l0 + 1) ((fs.length : Int) - 1) = true := btw_iff.2 (by omega)
        have hs2 : idxB (fs.length : Int) (lastZ zs (k + 1)) (zs.drop (k + 1)) = bi := by rw [HLN.out, HST.out, hbt, Bool.true_and]
        have HS2 := hid hs2; clear hs2 hbt
        have HLA2 := hid (show -1 ≤ lastZ zs (k + 1) by rw [HLN.out]; omega)
        go_wp2_with fail
        go_roundg (zs.length - (k + 1))
        case measure => have h := HGK.out; omega
        case rel => exact ⟨k + 1, by omega, rfl, by go_num, HS2, HLA2, rfl⟩
      ·have hlz : l0 = -1 := by rw [← HL0.out, show k = 0 by omega]; rfl
       have hbt : btw z (l0 + 1) ((fs.length : Int) - 1) = true := btw_iff.2 (by omega)
       have hs2 : idxB (fs.length : Int) (lastZ zs (k + 1)) (zs.drop (k + 1)) = bi := by rw [HLN.out, HST.out, hbt, Bool.true_and]
       have HS2 := hid hs2; clear hs2 hbt
       have HLA2 := hid (show -1 ≤ lastZ zs (k + 1) by rw [HLN.out]; omega)
       go_wp2_with fail
       go_roundg (zs.length - (k + 1))
       case measure => have h := HGK.out; omega
       case rel => exact ⟨k + 1, by omega, rfl, by go_num, HS2, HLA2, rfl⟩
   ·obtain rfl : k = zs.length := by omega
    have hbt : bi = true := idx_end (Nat.le_refl _) HP.out
    subst hbt
    have hrb : (troubleA ⟨bid, bwi, bde, bce, bhi, bbe⟩ (chosenL fs zs) 1 && allNeed ⟨bid, bwi, bde, bce, bhi, bbe⟩ fs 1 zs zs.length) = b := by rw [← HRB.out, Bool.true_and]
    have hzr : ∀ z ∈ zs, 0 ≤ z ∧ z < (fs.length : Int) := fun z hz => (idx_all (show (-1 : Int) ≤ -1 by omega) HBI.out z hz).2
    have hzl := idx_len (show (-1 : Int) ≤ -1 by omega) HBI.out
    have hzl2 : zs.length ≤ fs.length := by omega
    clear HRB HP HLA hzl
    have hro := hrb.symm.trans (reason_one (kind1 ⟨bid, bwi, bde, bce, bhi, bbe⟩) hz0)
    clear hrb
    by_cases hone : zs.length = 1
    ·obtain ⟨a', ha, r0⟩ := hzn1.elem (k := 0) hm0
     subst ha
     replace r0 : v1.cell? a' = some (.int .i64 zs[0]) := r0
     have hz1 := hzr zs[0] (List.getElem_mem hm0)
     obtain ⟨m, hm⟩ : ∃ m : Nat, zs[0] = (m : Int) := ⟨zs[0].toNat, by omega⟩
     rw [hm] at r0 hz1
     have hmf : m < fs.length := by omega
     have hhd : zs.headD 0 = (m : Int) := by (match zs, hm0, hm with | z :: _, _, hm => exact hm)
     obtain ⟨f, hf⟩ : ∃ f, fs[m] = f := ⟨_, rfl⟩
     have hgd : fs.getD (zs.headD 0).toNat zFt = f := by rw [hhd, Int.toNat_natCast, List.getD_eq_getElem?_getD, List.getElem?_eq_getElem hmf, ← hf]; rfl
     rw [hgd, decide_eq_true hone, Bool.true_and] at hro
     have hfo := hok f (hf ▸ List.getElem_mem hmf)
     obtain ⟨fw, fd, fh, fg⟩ := f
     obtain ⟨b', hb', hrl2, hc0, hcc⟩ := (show RowsAt 4 v1 (.slice la (fs.map rowF).length lc) (fs.map rowF) by rw [List.length_map]; exact hl1).row (k := m) (by rw [List.length_map]; exact hmf)
     subst hb'
     have hat : (fs.map rowF)[m]'(by rw [List.length_map]; exact hmf) = [fw, fd, fh, fg] := by rw [List.getElem_map, hf]; rfl
     rw [hat] at hc0 hcc
     have p0 := hc0 _ rfl
     have p1 := hcc 1 _ (by decide) rfl
     have p2 := hcc 2 _ (by decide) rfl
     have p3 := hcc 3 _ (by decide) rfl
     clear hc0 hcc hat hrl2 hgd hhd hm hf
     have hmi2 : (m : Int) < (fs.length : Int) := by omega
     have hoi : (zs.length : Int) = 1 := by omega
     have hob : ((zs.length : Int) == 1) = true := beq_iff_eq.mpr hoi
     have hod : decide ((zs.length : Int) = 1) = true := decide_eq_true hoi
     have hp1 : (0 : Int) < (zs.length : Int) := by omega
     have hro2 : decide (bhi < fh) = b := hro.symm
     have HRO := hid hro2; clear hro hro2
     go_upto_region 11 with fail
     have xq0 := fun x : BW v1 => bkeep x.below q0
     have xq1 := fun x : BW v1 => bkeep x.below q1
     have xq2 := fun x : BW v1 => bkeep x.below q2
     have xq3 := fun x : BW v1 => bkeep x.below q3
     have xq4 := fun x : BW v1 => bkeep x.below q4
     have xq5 := fun x : BW v1 => bkeep x.below q5
     have xq6 := fun x : BW v1 => bkeep x.below q6
     have xq7 := fun x : BW v1 => bkeep x.below q7
     have xr0 := fun x : BW v1 => bkeep x.below r0
     have xp0 := fun x : BW v1 => bkeep x.below p0
     have xp1 := fun x : BW v1 => bkeep x.below p1
     have xp2 := fun x : BW v1 => bkeep x.below p2
     have xp3 := fun x : BW v1 => bkeep x.below p3
     refine wp_region_qb (by kernel_rfl) (by kernel_rfl) fun hc => ?_
     repeat (go_big_quiet_step (fail))
     refine wpQuiet_nil ?_
     intro w9 hb
     replace hbv := bnext (w := w) hbv hb
     go_wp2_with fail
     go_ret
     exact ⟨ret_bool HRO.out, hbv⟩
    ·have hd : b = false := by rw [hro, decide_eq_false hone, Bool.false_and]
     subst hd
     clear hro
     have hoi : ¬ (zs.length : Int) = 1 := by omega
     have hob : ((zs.length : Int) == 1) = false := beq_eq_false_iff_ne.mpr hoi
     have hod : decide ((zs.length : Int) = 1) = false := decide_eq_false hoi
     go_upto_region 11 with fail
     have x0 := fun x : BW v1 => bkeep x.below q0
     have x1 := fun x : BW v1 => bkeep x.below q1
     have x2 := fun x : BW v1 => bkeep x.below q2
     have x3 := fun x : BW v1 => bkeep x.below q3
     have x4 := fun x : BW v1 => bkeep x.below q4
     have x5 := fun x : BW v1 => bkeep x.below q5
     have x6 := fun x : BW v1 => bkeep x.below q6
     have x7 := fun x : BW v1 => bkeep x.below q7
     refine wp_region_qb (by kernel_rfl) (by kernel_rfl) fun hc => ?_
     repeat (go_big_quiet_step (fail))
     refine wpQuiet_nil ?_
     intro w9 hb
     replace hbv := bnext (w := w) hbv hb
     go_wp2_with fail
     go_ret
     exact ⟨rfl, hbv⟩
set_option maxRecDepth 100000 in
set_option maxHeartbeats 4000000 in
theorem rReason2 {w : World} {bid bwi bde bce bhi bbe : Int} {lv rv : Value} {fs : List Ft} {zs : List Int} {b : Bool} (hX : boxOk ⟨bid, bwi, bde, bce, bhi, bbe⟩ = true) (hl : FeetAt w lv fs) (hok : ∀ f ∈ fs, FtOk f) (hn : fs.length ≤ 5) (hzn : NumsAt w rv zs) (hb : reasonB ⟨bid, bwi, bde, bce, bhi, bbe⟩ fs 2 zs = b) :
  Calls Tryz.prog 99 #[.agg #[.int .i64 bid, .int .i64 bwi, .int .i64 bde, .int .i64 bce, .int .i64 bhi, .int .i64 bbe], lv, .agg #[.int .i64 2, rv]] w (Ret w (.bool b)) := by
 unfold Ret
 obtain ⟨ra, rc, rfl, hrl, hrc⟩ := hzn.shape
 obtain ⟨la, lc, rfl, hll⟩ := hl.shape
 rw [List.length_map] at hl hll ⊢
 by_cases hz0 : zs = []
 ·have hd : b = false := by rw [← hb, hz0, reason_nil hX]
  subst hd; subst hz0
  clear hb
  simp only [List.length_nil]
  go_enter Tryz.func99, Tryz.ntmps99
  go_wp2_with fail
  go_ret
  exact ⟨rfl, by go_grown⟩
 ·have hm0 : 0 < zs.length := List.length_pos_iff.2 hz0
  have hmi : ¬ (zs.length : Int) = 0 := by omega
  have hmb : ((zs.length : Int) == 0) = false := beq_eq_false_iff_ne.mpr hmi
  obtain ⟨bi, hbi⟩ : ∃ bi, idxB (fs.length : Int) (-1) zs = bi := ⟨_, rfl⟩
  have hrb : (bi && (troubleA ⟨bid, bwi, bde, bce, bhi, bbe⟩ (chosenL fs zs) 2 && allNeed ⟨bid, bwi, bde, bce, bhi, bbe⟩ fs 2 zs zs.length)) = b := by rw [← hb, ← hbi]; rfl
  have HRB := hid hrb; have HX := hid hX; have HBI := hid hbi; clear hb hrb hX hbi
  go_enter Tryz.func99, Tryz.ntmps99
  go_upto_region 1 with fail
  generalize hW : World.alloc (World.alloc w _) _ = v1
  have q0 : v1.cell? ⟨w.heap.size, 0, none⟩ = some (.int .i64 bid) := by rw [← hW]; simp [go_sem]
  have q1 : v1.cell? ⟨w.heap.size, 1, none⟩ = some (.int .i64 bwi) := by rw [← hW]; simp [go_sem]
  have q2 : v1.cell? ⟨w.heap.size, 2, none⟩ = some (.int .i64 bde) := by rw [← hW]; simp [go_sem]
  have q3 : v1.cell? ⟨w.heap.size, 3, none⟩ = some (.int .i64 bce) := by rw [← hW]; simp [go_sem]
  have q4 : v1.cell? ⟨w.heap.size, 4, none⟩ = some (.int .i64 bhi) := by rw [← hW]; simp [go_sem]
  have q5 : v1.cell? ⟨w.heap.size, 5, none⟩ = some (.int .i64 bbe) := by rw [← hW]; simp [go_sem]
  have q6 : v1.cell? ⟨w.heap.size + 1, 0, none⟩ = some (.int .i64 2) := by rw [← hW]; simp [go_sem]
  have q7 : v1.cell? ⟨w.heap.size + 1, 1, none⟩ = some (.slice ra zs.length rc) := by rw [← hW]; simp [go_sem]
  have hbv : Below w.heap.size w v1 := by rw [← hW]; go_grown
  clear hW
  have hl1 : FeetAt v1 (.slice la fs.length lc) fs := hl.below hbv
  have hzn1 : NumsAt v1 (.slice ra zs.length rc) zs := hzn.below hbv
  clear hl hzn
  go_wp2_with fail
  go_loopg [7, 8, 17] zs.length (fun gk _ _ kv wr => ∃ k : Nat, k ≤ zs.length ∧ gk = zs.length - k ∧ kv = .int .i64 k ∧ Hid (idxB (fs.length : Int) (lastZ zs k) (zs.drop k) = bi) ∧ Hid (-1 ≤ lastZ zs k) ∧ v1 = wr)
  case atStart => exact ⟨0, Nat.zero_le _, rfl, rfl, HBI.out, (by show (-1 : Int) ≤ -1; omega), rfl⟩
  case round =>
   obtain ⟨k, hk, hgk, rfl, HP, HLA, rfl⟩ := hrel
   have HGK := hid hgk; clear hgk
   by_cases hlt : k < zs.length
   ·have hki : (k : Int) < (zs.length : Int) := by omega
    obtain ⟨a', ha, r0⟩ := hzn1.elem hlt
    subst ha
    obtain ⟨z, hzk⟩ : ∃ z, zs[k] = z := ⟨_, rfl⟩
    have hzi := hzn1.i64 zs[k] (List.getElem_mem hlt)
    have hst := idx_step hlt HP.out
    rw [hzk] at r0 hst hzi
    have hzb := hzi.bd
    have hln : lastZ zs (k + 1) = z := (lastZ_at hlt).trans hzk
    obtain ⟨l0, hl0⟩ : ∃ l, lastZ zs k = l := ⟨_, rfl⟩
    have hla := HLA.out
    rw [hl0] at hst hla
    have HST := hid hst; have HLN := hid hln; have HL0 := hid hl0; have HZK := hid hzk; clear hst hln hl0 hzi HP HLA hzk
    by_cases hneg : z < 0
    ·have hbt : btw z (l0 + 1) ((fs.length : Int) - 1) = false := by rw [Bool.eq_false_iff]; intro h; have := btw_iff.1 h; omega
     have hbf : bi = false := by rw [HST.out, hbt, Bool.false_and]
     have hd : b = false := by rw [← HRB.out, hbf, Bool.false_and]
     subst hd
     clear HRB HBI HST hbf
     go_wp2_with fail
     go_ret
     exact ⟨rfl, hbv⟩
    ·by_cases hbig : (fs.length : Int) ≤ z
     ·have hbt : btw z (l0 + 1) ((fs.length : Int) - 1) = false := by rw [Bool.eq_false_iff]; intro h; have := btw_iff.1 h; omega
      have hbf : bi = false := by rw [HST.out, hbt, Bool.false_and]
      have hd : b = false := by rw [← HRB.out, hbf, Bool.false_and]
      subst hd
      clear HRB HBI HST hbf
      go_wp2_with fail
      go_ret
      exact ⟨rfl, hbv⟩
     ·by_cases hk0 : 0 < (k : Int)
      ·have hkp : 0 < k := by omega
       obtain ⟨k', hk'⟩ : ∃ k', k - 1 = k' := ⟨_, rfl⟩
       have hkl : k' < zs.length := by omega
       have hwk : wrap64 ((k : Int) - 1) = (k' : Int) := by rw [IntWalk.wrap64_in _ (by omega)]; omega
       have hwk2 : (k : Int) - 1 = (k' : Int) := by omega
       obtain ⟨a2, ha2, r1⟩ := hzn1.elem hkl
       injection ha2 with ha2; subst ha2
       obtain ⟨y, hyk⟩ : ∃ y, zs[k'] = y := ⟨_, rfl⟩
       rw [hyk] at r1
       have hyl : l0 = y := by rw [← HL0.out, show k = k' + 1 by omega]; exact (lastZ_at hkl).trans hyk
       subst hyl
       have hkli : (k' : Int) < (zs.length : Int) := by omega
       clear hyk hk' hkp
       by_cases hle : z ≤ l0
       ·have hbt : btw z (l0 + 1) ((fs.length : Int) - 1) = false := by rw [Bool.eq_false_iff]; intro h; have := btw_iff.1 h; omega
        have hbf : bi = false := by rw [HST.out, hbt, Bool.false_and]
        have hd : b = false := by rw [← HRB.out, hbf, Bool.false_and]
        subst hd
        clear HRB HBI HST hbf
        go_wp2_with fail
        go_ret
        exact ⟨rfl, hbv⟩
       ·have hbt : btw z (l0 + 1) ((fs.length : Int) - 1) = true := btw_iff.2 (by omega)
        have hs2 : idxB (fs.length : Int) (lastZ zs (k + 1)) (zs.drop (k + 1)) = bi := by rw [HLN.out, HST.out, hbt, Bool.true_and]
        have HS2 := hid hs2; clear hs2 hbt
        have HLA2 := hid (show -1 ≤ lastZ zs (k + 1) by rw [HLN.out]; omega)
        go_wp2_with fail
        go_roundg (zs.length - (k + 1))
        case measure => have h := HGK.out; omega
        case rel => exact ⟨k + 1, by omega, rfl, by go_num, HS2, HLA2, rfl⟩
      ·have hlz : l0 = -1 := by rw [← HL0.out, show k = 0 by omega]; rfl
       have hbt : btw z (l0 + 1) ((fs.length : Int) - 1) = true := btw_iff.2 (by omega)
       have hs2 : idxB (fs.length : Int) (lastZ zs (k + 1)) (zs.drop (k + 1)) = bi := by rw [HLN.out, HST.out, hbt, Bool.true_and]
       have HS2 := hid hs2; clear hs2 hbt
       have HLA2 := hid (show -1 ≤ lastZ zs (k + 1) by rw [HLN.out]; omega)
       go_wp2_with fail
       go_roundg (zs.length - (k + 1))
       case measure => have h := HGK.out; omega
       case rel => exact ⟨k + 1, by omega, rfl, by go_num, HS2, HLA2, rfl⟩
   ·obtain rfl : k = zs.length := by omega
    have hbt : bi = true := idx_end (Nat.le_refl _) HP.out
    subst hbt
    have hrb : (troubleA ⟨bid, bwi, bde, bce, bhi, bbe⟩ (chosenL fs zs) 2 && allNeed ⟨bid, bwi, bde, bce, bhi, bbe⟩ fs 2 zs zs.length) = b := by rw [← HRB.out, Bool.true_and]
    have hzr : ∀ z ∈ zs, 0 ≤ z ∧ z < (fs.length : Int) := fun z hz => (idx_all (show (-1 : Int) ≤ -1 by omega) HBI.out z hz).2
    have hzl := idx_len (show (-1 : Int) ≤ -1 by omega) HBI.out
    have hzl2 : zs.length ≤ fs.length := by omega
    clear HRB HP HLA hzl
    have hro := hrb.symm.trans (reason_one (kind2 ⟨bid, bwi, bde, bce, bhi, bbe⟩) hz0)
    clear hrb
    by_cases hone : zs.length = 1
    ·obtain ⟨a', ha, r0⟩ := hzn1.elem (k := 0) hm0
     subst ha
     replace r0 : v1.cell? a' = some (.int .i64 zs[0]) := r0
     have hz1 := hzr zs[0] (List.getElem_mem hm0)
     obtain ⟨m, hm⟩ : ∃ m : Nat, zs[0] = (m : Int) := ⟨zs[0].toNat, by omega⟩
     rw [hm] at r0 hz1
     have hmf : m < fs.length := by omega
     have hhd : zs.headD 0 = (m : Int) := by (match zs, hm0, hm with | z :: _, _, hm => exact hm)
     obtain ⟨f, hf⟩ : ∃ f, fs[m] = f := ⟨_, rfl⟩
     have hgd : fs.getD (zs.headD 0).toNat zFt = f := by rw [hhd, Int.toNat_natCast, List.getD_eq_getElem?_getD, List.getElem?_eq_getElem hmf, ← hf]; rfl
     rw [hgd, decide_eq_true hone, Bool.true_and] at hro
     have hfo := hok f (hf ▸ List.getElem_mem hmf)
     obtain ⟨fw, fd, fh, fg⟩ := f
     obtain ⟨b', hb', hrl2, hc0, hcc⟩ := (show RowsAt 4 v1 (.slice la (fs.map rowF).length lc) (fs.map rowF) by rw [List.length_map]; exact hl1).row (k := m) (by rw [List.length_map]; exact hmf)
     subst hb'
     have hat : (fs.map rowF)[m]'(by rw [List.length_map]; exact hmf) = [fw, fd, fh, fg] := by rw [List.getElem_map, hf]; rfl
     rw [hat] at hc0 hcc
     have p0 := hc0 _ rfl
     have p1 := hcc 1 _ (by decide) rfl
     have p2 := hcc 2 _ (by decide) rfl
     have p3 := hcc 3 _ (by decide) rfl
     clear hc0 hcc hat hrl2 hgd hhd hm hf
     have hmi2 : (m : Int) < (fs.length : Int) := by omega
     have hoi : (zs.length : Int) = 1 := by omega
     have hob : ((zs.length : Int) == 1) = true := beq_iff_eq.mpr hoi
     have hod : decide ((zs.length : Int) = 1) = true := decide_eq_true hoi
     have hp1 : (0 : Int) < (zs.length : Int) := by omega
     obtain ⟨SL, hSL⟩ : ∃ l, standsL ⟨bid, bwi, bde, bce, bhi, bbe⟩ ⟨fw, fd, fh, fg⟩ = l := ⟨_, rfl⟩
     have hro2 : SL.isEmpty = b := by rw [← hSL]; exact hro.symm
     have hst : ∀ W' : World, Below v1.heap.size v1 W' → Calls Tryz.prog 65 #[.agg #[.int .i64 bid, .int .i64 bwi, .int .i64 bde, .int .i64 bce, .int .i64 bhi, .int .i64 bbe], .agg #[.int .i64 fw, .int .i64 fd, .int .i64 fh, .int .i64 fg]] W' (fun e w'' => ∃ v, e = .returned v ∧ Below W'.heap.size W' w'' ∧ w''.ownsRow v1.heap.size 62 3 v SL.length (SL.flatMap cellsP)) := fun W' hb => by
      refine (rstands_any2 HX.out hfo).mono ?_
      rintro e w'' ⟨v, rfl, h2, h3⟩
      rw [hSL] at h3
      exact ⟨v, rfl, h2, owns_base hb.size h3⟩
     have hse : decide ((SL.length : Int) = 0) = b := by rw [← hro2, Bool.eq_iff_iff, decide_eq_true_eq, List.isEmpty_iff, ← List.length_eq_zero_iff]; omega
     have HST := hid hst; have HSE := hid hse; clear hst hse hSL hro hro2
     go_upto_region 13 with fail
     refine wp_region_Rs [(13, fun v W => W.ownsRow v1.heap.size 62 3 v SL.length (SL.flatMap cellsP))] [0, 1, 2, 3, 4, 5, 6, 7, 8, 9, 10, 11, 12, 13, 14, 15, 16] 1 (by kernel_rfl) rfl (by simp only [List.forall_mem_cons]; exact ⟨keeps_owns, fun _ h => by cases h⟩) (by kernel_rfl) ?_
     simp only [numbered, List.filterMap_cons, List.filterMap_nil, List.getElem?_toArray, List.getElem?_cons_succ, List.getElem?_cons_zero, Option.map_some]
     show wpS _ _ _ _ _ _ _ [(_, _), (_, _), (_, _), (_, _), (_, _), (_, _), (_, _), (_, _), (_, _), (_, _), (_, _), (_, _), (_, _), (_, _), (_, _), (_, _), (_, _)] _ _
     (refine wpS_quiet rfl rfl ?_; intro K hK inst hx; go_big_quiet_op; go_big_quiet_on; clear hx inst)
     (refine wpS_quiet rfl rfl ?_; intro K hK inst hx; have sq7 := fun x => (fun _ => bkeep (BQ.below x) q7) (hx x); go_big_quiet_op; go_big_quiet_on; clear hx inst)
     (refine wpS_quiet rfl rfl ?_; intro K hK inst hx; go_big_quiet_op; go_big_quiet_on; clear hx inst)
     (refine wpS_quiet rfl rfl ?_; intro K hK inst hx; go_big_quiet_op; go_big_quiet_on; clear hx inst)
     (refine wpS_quiet rfl rfl ?_; intro K hK inst hx; go_big_quiet_op; go_big_quiet_on; clear hx inst)
     (refine wpS_quiet rfl rfl ?_; intro K hK inst hx; have sq0 := fun x => (fun _ => bkeep (BQ.below x) q0) (hx x); have sq1 := fun x => (fun _ => bkeep (BQ.below x) q1) (hx x); have sq2 := fun x => (fun _ => bkeep (BQ.below x) q2) (hx x); have sq3 := fun x => (fun _ => bkeep (BQ.below x) q3) (hx x); have sq4 := fun x => (fun _ => bkeep (BQ.below x) q4) (hx x); have sq5 := fun x => (fun _ => bkeep (BQ.below x) q5) (hx x); go_big_quiet_op; go_big_quiet_on; clear hx inst)
     (refine wpS_quiet rfl rfl ?_; intro K hK inst hx; go_big_quiet_op; go_big_quiet_on; clear hx inst)
     (refine wpS_quiet rfl rfl ?_; intro K hK inst hx; go_big_quiet_op; go_big_quiet_on; clear hx inst)
     (refine wpS_quiet rfl rfl ?_; intro K hK inst hx; have sq7 := fun x => (fun _ => bkeep (BQ.below x) q7) (hx x); go_big_quiet_op; go_big_quiet_on; clear hx inst)
     (refine wpS_quiet rfl rfl ?_; intro K hK inst hx; go_big_quiet_op; go_big_quiet_on; clear hx inst)
     (refine wpS_quiet rfl rfl ?_; intro K hK inst hx; have sr0 := fun x => (fun _ => bkeep (BQ.below x) r0) (hx x); go_big_quiet_op; go_big_quiet_on; clear hx inst)
     (refine wpS_quiet rfl rfl ?_; intro K hK inst hx; go_big_quiet_op; go_big_quiet_on; clear hx inst)
     (refine wpS_quiet rfl rfl ?_; intro K hK inst hx; have sp0 := fun x => (fun _ => bkeep (BQ.below x) p0) (hx x); have sp1 := fun x => (fun _ => bkeep (BQ.below x) p1) (hx x); have sp2 := fun x => (fun _ => bkeep (BQ.below x) p2) (hx x); have sp3 := fun x => (fun _ => bkeep (BQ.below x) p3) (hx x); go_big_quiet_op; go_big_quiet_on; clear hx inst)
     refine wpS_fresh rfl rfl (fun w' hb hF => ?_) ?_
     ·change freshAt _ _ _ (fun v W => W.ownsRow v1.heap.size 62 3 v SL.length (SL.flatMap cellsP)) _; unfold freshAt; go_simp; exact HST.out _ hb
     intro v W hv; simp only [pOf, List.lookup_cons, Nat.reduceBEq, beq_self_eq_true] at hv; obtain ⟨sa, sc, rfl, -⟩ := owns_shape hv
     simp only [Act.put, List.setIfInBounds_toArray, List.set_cons_succ, List.set_cons_zero]
     (refine wpS_quiet rfl rfl ?_; intro K hK inst hx; go_big_quiet_op; go_big_quiet_on; clear hx inst)
     (refine wpS_quiet rfl rfl ?_; intro K hK inst hx; go_big_quiet_op; go_big_quiet_on; clear hx inst)
     (refine wpS_quiet rfl rfl ?_; intro K hK inst hx; go_big_quiet_op; go_big_quiet_on; clear hx inst)
     refine wpS_nil ?_
     intro w2 hall
     have hb := hall.1
     clear hall
     refine wpAny_ready (rs := [17]) (by kernel_rfl) (by simp) ?_
     refine AllReady.cons rfl (fun K hK => ?_) AllReady.nil
     go_simp
     refine hK _ _ ?_; clear hK K
     refine wpAny_done (by kernel_rfl) ?_ _
     replace hbv := bnext (w := w) hbv hb
     go_wp2_with fail
     go_ret
     exact ⟨ret_bool HSE.out, hbv⟩
    ·have hd : b = false := by rw [hro, decide_eq_false hone, Bool.false_and]
     subst hd
     clear hro
     have hoi : ¬ (zs.length : Int) = 1 := by omega
     have hob : ((zs.length : Int) == 1) = false := beq_eq_false_iff_ne.mpr hoi
     have hod : decide ((zs.length : Int) = 1) = false := decide_eq_false hoi
     go_upto_region 13 with fail
     have x0 := fun x : BW v1 => bkeep x.below q0
     have x1 := fun x : BW v1 => bkeep x.below q1
     have x2 := fun x : BW v1 => bkeep x.below q2
     have x3 := fun x : BW v1 => bkeep x.below q3
     have x4 := fun x : BW v1 => bkeep x.below q4
     have x5 := fun x : BW v1 => bkeep x.below q5
     have x6 := fun x : BW v1 => bkeep x.below q6
     have x7 := fun x : BW v1 => bkeep x.below q7
     refine wp_region_qb (by kernel_rfl) (by kernel_rfl) fun hc => ?_
     repeat (go_big_quiet_step (fail))
     refine wpQuiet_nil ?_
     intro w9 hb
     replace hbv := bnext (w := w) hbv hb
     go_wp2_with fail
     go_ret
     exact ⟨rfl, hbv⟩
set_option maxRecDepth 100000 in
set_option maxHeartbeats 4000000 in
theorem rReason3 {w : World} {bid bwi bde bce bhi bbe : Int} {lv rv : Value} {fs : List Ft} {zs : List Int} {b : Bool} (hX : boxOk ⟨bid, bwi, bde, bce, bhi, bbe⟩ = true) (hl : FeetAt w lv fs) (hok : ∀ f ∈ fs, FtOk f) (hn : fs.length ≤ 5) (hzn : NumsAt w rv zs) (hb : reasonB ⟨bid, bwi, bde, bce, bhi, bbe⟩ fs 3 zs = b) :
  Calls Tryz.prog 99 #[.agg #[.int .i64 bid, .int .i64 bwi, .int .i64 bde, .int .i64 bce, .int .i64 bhi, .int .i64 bbe], lv, .agg #[.int .i64 3, rv]] w (Ret w (.bool b)) := by
 unfold Ret
 obtain ⟨ra, rc, rfl, hrl, hrc⟩ := hzn.shape
 obtain ⟨la, lc, rfl, hll⟩ := hl.shape
 rw [List.length_map] at hl hll ⊢
 by_cases hz0 : zs = []
 ·have hd : b = false := by rw [← hb, hz0, reason_nil hX]
  subst hd; subst hz0
  clear hb
  simp only [List.length_nil]
  go_enter Tryz.func99, Tryz.ntmps99
  go_wp2_with fail
  go_ret
  exact ⟨rfl, by go_grown⟩
 ·have hm0 : 0 < zs.length := List.length_pos_iff.2 hz0
  have hmi : ¬ (zs.length : Int) = 0 := by omega
  have hmb : ((zs.length : Int) == 0) = false := beq_eq_false_iff_ne.mpr hmi
  obtain ⟨bi, hbi⟩ : ∃ bi, idxB (fs.length : Int) (-1) zs = bi := ⟨_, rfl⟩
  have hrb : (bi && (troubleA ⟨bid, bwi, bde, bce, bhi, bbe⟩ (chosenL fs zs) 3 && allNeed ⟨bid, bwi, bde, bce, bhi, bbe⟩ fs 3 zs zs.length)) = b := by rw [← hb, ← hbi]; rfl
  have HRB := hid hrb; have HX := hid hX; have HBI := hid hbi; clear hb hrb hX hbi
  go_enter Tryz.func99, Tryz.ntmps99
  go_upto_region 1 with fail
  generalize hW : World.alloc (World.alloc w _) _ = v1
  have q0 : v1.cell? ⟨w.heap.size, 0, none⟩ = some (.int .i64 bid) := by rw [← hW]; simp [go_sem]
  have q1 : v1.cell? ⟨w.heap.size, 1, none⟩ = some (.int .i64 bwi) := by rw [← hW]; simp [go_sem]
  have q2 : v1.cell? ⟨w.heap.size, 2, none⟩ = some (.int .i64 bde) := by rw [← hW]; simp [go_sem]
  have q3 : v1.cell? ⟨w.heap.size, 3, none⟩ = some (.int .i64 bce) := by rw [← hW]; simp [go_sem]
  have q4 : v1.cell? ⟨w.heap.size, 4, none⟩ = some (.int .i64 bhi) := by rw [← hW]; simp [go_sem]
  have q5 : v1.cell? ⟨w.heap.size, 5, none⟩ = some (.int .i64 bbe) := by rw [← hW]; simp [go_sem]
  have q6 : v1.cell? ⟨w.heap.size + 1, 0, none⟩ = some (.int .i64 3) := by rw [← hW]; simp [go_sem]
  have q7 : v1.cell? ⟨w.heap.size + 1, 1, none⟩ = some (.slice ra zs.length rc) := by rw [← hW]; simp [go_sem]
  have hbv : Below w.heap.size w v1 := by rw [← hW]; go_grown
  clear hW
  have hl1 : FeetAt v1 (.slice la fs.length lc) fs := hl.below hbv
  have hzn1 : NumsAt v1 (.slice ra zs.length rc) zs := hzn.below hbv
  clear hl hzn
  go_wp2_with fail
  go_loopg [7, 8, 17] zs.length (fun gk _ _ kv wr => ∃ k : Nat, k ≤ zs.length ∧ gk = zs.length - k ∧ kv = .int .i64 k ∧ Hid (idxB (fs.length : Int) (lastZ zs k) (zs.drop k) = bi) ∧ Hid (-1 ≤ lastZ zs k) ∧ v1 = wr)
  case atStart => exact ⟨0, Nat.zero_le _, rfl, rfl, HBI.out, (by show (-1 : Int) ≤ -1; omega), rfl⟩
  case round =>
   obtain ⟨k, hk, hgk, rfl, HP, HLA, rfl⟩ := hrel
   have HGK := hid hgk; clear hgk
   by_cases hlt : k < zs.length
   ·have hki : (k : Int) < (zs.length : Int) := by omega
    obtain ⟨a', ha, r0⟩ := hzn1.elem hlt
    subst ha
    obtain ⟨z, hzk⟩ : ∃ z, zs[k] = z := ⟨_, rfl⟩
    have hzi := hzn1.i64 zs[k] (List.getElem_mem hlt)
    have hst := idx_step hlt HP.out
    rw [hzk] at r0 hst hzi
    have hzb := hzi.bd
    have hln : lastZ zs (k + 1) = z := (lastZ_at hlt).trans hzk
    obtain ⟨l0, hl0⟩ : ∃ l, lastZ zs k = l := ⟨_, rfl⟩
    have hla := HLA.out
    rw [hl0] at hst hla
    have HST := hid hst; have HLN := hid hln; have HL0 := hid hl0; have HZK := hid hzk; clear hst hln hl0 hzi HP HLA hzk
    by_cases hneg : z < 0
    ·have hbt : btw z (l0 + 1) ((fs.length : Int) - 1) = false := by rw [Bool.eq_false_iff]; intro h; have := btw_iff.1 h; omega
     have hbf : bi = false := by rw [HST.out, hbt, Bool.false_and]
     have hd : b = false := by rw [← HRB.out, hbf, Bool.false_and]
     subst hd
     clear HRB HBI HST hbf
     go_wp2_with fail
     go_ret
     exact ⟨rfl, hbv⟩
    ·by_cases hbig : (fs.length : Int) ≤ z
     ·have hbt : btw z (l0 + 1) ((fs.length : Int) - 1) = false := by rw [Bool.eq_false_iff]; intro h; have := btw_iff.1 h; omega
      have hbf : bi = false := by rw [HST.out, hbt, Bool.false_and]
      have hd : b = false := by rw [← HRB.out, hbf, Bool.false_and]
      subst hd
      clear HRB HBI HST hbf
      go_wp2_with fail
      go_ret
      exact ⟨rfl, hbv⟩
     ·by_cases hk0 : 0 < (k : Int)
      ·have hkp : 0 < k := by omega
       obtain ⟨k', hk'⟩ : ∃ k', k - 1 = k' := ⟨_, rfl⟩
       have hkl : k' < zs.length := by omega
       have hwk : wrap64 ((k : Int) - 1) = (k' : Int) := by rw [IntWalk.wrap64_in _ (by omega)]; omega
       have hwk2 : (k : Int) - 1 = (k' : Int) := by omega
       obtain ⟨a2, ha2, r1⟩ := hzn1.elem hkl
       injection ha2 with ha2; subst ha2
       obtain ⟨y, hyk⟩ : ∃ y, zs[k'] = y := ⟨_, rfl⟩
       rw [hyk] at r1
       have hyl : l0 = y := by rw [← HL0.out, show k = k' + 1 by omega]; exact (lastZ_at hkl).trans hyk
       subst hyl
       have hkli : (k' : Int) < (zs.length : Int) := by omega
       clear hyk hk' hkp
       by_cases hle : z ≤ l0
       ·have hbt : btw z (l0 + 1) ((fs.length : Int) - 1) = false := by rw [Bool.eq_false_iff]; intro h; have := btw_iff.1 h; omega
        have hbf : bi = false := by rw [HST.out, hbt, Bool.false_and]
        have hd : b = false := by rw [← HRB.out, hbf, Bool.false_and]
        subst hd
        clear HRB HBI HST hbf
        go_wp2_with fail
        go_ret
        exact ⟨rfl, hbv⟩
       ·have hbt : btw z (l0 + 1) ((fs.length : Int) - 1) = true := btw_iff.2 (by omega)
        have hs2 : idxB (fs.length : Int) (lastZ zs (k + 1)) (zs.drop (k + 1)) = bi := by rw [HLN.out, HST.out, hbt, Bool.true_and]
        have HS2 := hid hs2; clear hs2 hbt
        have HLA2 := hid (show -1 ≤ lastZ zs (k + 1) by rw [HLN.out]; omega)
        go_wp2_with fail
        go_roundg (zs.length - (k + 1))
        case measure => have h := HGK.out; omega
        case rel => exact ⟨k + 1, by omega, rfl, by go_num, HS2, HLA2, rfl⟩
      ·have hlz : l0 = -1 := by rw [← HL0.out, show k = 0 by omega]; rfl
       have hbt : btw z (l0 + 1) ((fs.length : Int) - 1) = true := btw_iff.2 (by omega)
       have hs2 : idxB (fs.length : Int) (lastZ zs (k + 1)) (zs.drop (k + 1)) = bi := by rw [HLN.out, HST.out, hbt, Bool.true_and]
       have HS2 := hid hs2; clear hs2 hbt
       have HLA2 := hid (show -1 ≤ lastZ zs (k + 1) by rw [HLN.out]; omega)
       go_wp2_with fail
       go_roundg (zs.length - (k + 1))
       case measure => have h := HGK.out; omega
       case rel => exact ⟨k + 1, by omega, rfl, by go_num, HS2, HLA2, rfl⟩
   ·obtain rfl : k = zs.length := by omega
    have hbt : bi = true := idx_end (Nat.le_refl _) HP.out
    subst hbt
    have hrb : (troubleA ⟨bid, bwi, bde, bce, bhi, bbe⟩ (chosenL fs zs) 3 && allNeed ⟨bid, bwi, bde, bce, bhi, bbe⟩ fs 3 zs zs.length) = b := by rw [← HRB.out, Bool.true_and]
    have hzr : ∀ z ∈ zs, 0 ≤ z ∧ z < (fs.length : Int) := fun z hz => (idx_all (show (-1 : Int) ≤ -1 by omega) HBI.out z hz).2
    have hzl := idx_len (show (-1 : Int) ≤ -1 by omega) HBI.out
    have hzl2 : zs.length ≤ fs.length := by omega
    clear HRB HP HLA hzl
    obtain ⟨cs, hcs⟩ : ∃ cs, chosenL fs zs = cs := ⟨_, rfl⟩
    obtain ⟨tb, htb⟩ : ∃ tb, troubleA ⟨bid, bwi, bde, bce, bhi, bbe⟩ cs 3 = tb := ⟨_, rfl⟩
    have hok1 := chosen_ok hok hzr
    have hn1 : (chosenL fs zs).length ≤ 5 := by rw [chosen_len]; omega
    rw [hcs] at hok1 hn1 hrb
    rw [htb] at hrb
    have hch : ∀ (W' : World), Below v1.heap.size v1 W' → Calls Tryz.prog 92 #[.slice la fs.length lc, .slice ra zs.length rc] W' (fun e w'' => ∃ u, e = .returned u ∧ Below W'.heap.size W' w'' ∧ w''.ownsRow v1.heap.size 34 4 u cs.length (cs.flatMap cellsF)) := fun W' hb => by
     rw [← hcs]; refine (rSome (hl1.below hb) (by omega) (hzn1.below hb) (by omega) hzr).mono ?_
     rintro e w'' ⟨u, rfl, h2, h3⟩
     exact ⟨u, rfl, h2, owns_base hb.size h3⟩
    have htr : ∀ (W' : World) (u : Value), W'.ownsRow v1.heap.size 34 4 u cs.length (cs.flatMap cellsF) → Calls Tryz.prog 90 #[.agg #[.int .i64 bid, .int .i64 bwi, .int .i64 bde, .int .i64 bce, .int .i64 bhi, .int .i64 bbe], u, .int .i64 3] W' (Ret W' (.bool tb)) := fun W' u h => rBad3 HX.out (feetAt_of_owns hok1 h) hok1 hn1 htb
    have HRS := hid hrb; have HCH := hid hch; have HTR := hid htr; have HZR := hid hzr; clear hrb hch htr hzr hok1 hn1 htb hcs
    go_upto_region 17 with fail
    refine wp_region_Rs [(4, fun v W => W.ownsRow v1.heap.size 34 4 v cs.length (cs.flatMap cellsF)), (7, fun v _ => v = .bool tb)] [0, 1, 2, 3, 4, 5, 6, 7, 8] 0 (by kernel_rfl) rfl (by simp only [List.forall_mem_cons]; exact ⟨keeps_owns, keeps_eq, fun _ h => by cases h⟩) (by kernel_rfl) ?_
    simp only [numbered, List.filterMap_cons, List.filterMap_nil, List.getElem?_toArray, List.getElem?_cons_succ, List.getElem?_cons_zero, Option.map_some]
    show wpS _ _ _ _ _ _ _ [(_, _), (_, _), (_, _), (_, _), (_, _), (_, _), (_, _), (_, _), (_, _)] _ _
    (refine wpS_quiet rfl rfl ?_; intro K hK inst hx; have sq0 := fun x => (fun _ => bkeep (BQ.below x) q0) (hx x); have sq1 := fun x => (fun _ => bkeep (BQ.below x) q1) (hx x); have sq2 := fun x => (fun _ => bkeep (BQ.below x) q2) (hx x); have sq3 := fun x => (fun _ => bkeep (BQ.below x) q3) (hx x); have sq4 := fun x => (fun _ => bkeep (BQ.below x) q4) (hx x); have sq5 := fun x => (fun _ => bkeep (BQ.below x) q5) (hx x); go_big_quiet_op; go_big_quiet_on; clear hx inst)
    (refine wpS_quiet rfl rfl ?_; intro K hK inst hx; go_big_quiet_op; go_big_quiet_on; clear hx inst)
    (refine wpS_quiet rfl rfl ?_; intro K hK inst hx; go_big_quiet_op; go_big_quiet_on; clear hx inst)
    (refine wpS_quiet rfl rfl ?_; intro K hK inst hx; have sq7 := fun x => (fun _ => bkeep (BQ.below x) q7) (hx x); go_big_quiet_op; go_big_quiet_on; clear hx inst)
    refine wpS_fresh rfl rfl (fun w' hb hF => ?_) ?_
    ·change freshAt _ _ _ (fun v W => W.ownsRow v1.heap.size 34 4 v cs.length (cs.flatMap cellsF)) _; unfold freshAt; go_simp; exact HCH.out _ hb
    intro v W hv; simp only [pOf, List.lookup_cons, Nat.reduceBEq, beq_self_eq_true] at hv; obtain ⟨ca, cc, rfl, -⟩ := owns_shape hv
    simp only [Act.put, List.setIfInBounds_toArray, List.set_cons_succ, List.set_cons_zero]
    (refine wpS_quiet rfl rfl ?_; intro K hK inst hx; go_big_quiet_op; go_big_quiet_on; clear hx inst)
    (refine wpS_quiet rfl rfl ?_; intro K hK inst hx; have sq6 := fun x => (fun _ => bkeep (BQ.below x) q6) (hx x); go_big_quiet_op; go_big_quiet_on; clear hx inst)
    refine wpS_fresh rfl rfl (fun w' hb hF => ?_) ?_
    ·change freshAt _ _ _ (fun v _ => v = .bool tb) _; have h4 := hF 4 _ rfl (by kernel_rfl); unfold freshAt; go_simp; exact HTR.out _ _ h4
    intro v W hv; simp only [pOf, List.lookup_cons, Nat.reduceBEq, beq_self_eq_true] at hv; subst hv
    simp only [Act.put, List.setIfInBounds_toArray, List.set_cons_succ, List.set_cons_zero]
    (refine wpS_quiet rfl rfl ?_; intro K hK inst hx; go_big_quiet_op; go_big_quiet_on; clear hx inst)
    refine wpS_nil ?_
    intro w2 hall
    have hb := hall.1
    clear hall
    refine wpAny_done (by kernel_rfl) ?_ _
    obtain ⟨v2, hv2⟩ : ∃ v, v = w2 := ⟨_, rfl⟩
    subst hv2
    replace hbv := bnext (w := w) hbv hb
    replace q0 := bkeep hb q0
    replace q1 := bkeep hb q1
    replace q2 := bkeep hb q2
    replace q3 := bkeep hb q3
    replace q4 := bkeep hb q4
    replace q5 := bkeep hb q5
    replace q6 := bkeep hb q6
    replace q7 := bkeep hb q7
    replace hl1 := hl1.below hb
    replace hzn1 := hzn1.below hb
    clear hb HCH HTR
    cases tb
    ·have hd : b = false := by rw [← HRS.out]; rfl
     subst hd
     clear HRS
     go_wp2_with fail
     go_ret
     exact ⟨rfl, hbv⟩
    ·have hrs : allNeed ⟨bid, bwi, bde, bce, bhi, bbe⟩ fs 3 zs zs.length = b := by rw [← HRS.out]; rfl
     have HRB := hid hrs; clear HRS hrs
     go_wp2_with fail
     go_loopg [9, 101] zs.length (fun gk _ kv wr => ∃ k : Nat, k ≤ zs.length ∧ gk = zs.length - k ∧ kv = .int .i64 k ∧ Hid (∀ j, j < k → troubleA ⟨bid, bwi, bde, bce, bhi, bbe⟩ (chosenL fs (zs.eraseIdx j)) 3 = false) ∧ Below v2.heap.size v2 wr)
     case atStart => exact ⟨0, Nat.zero_le _, rfl, rfl, (fun j h => by omega), Below.refl _ _⟩
     case round =>
      obtain ⟨k, hk, hgk, rfl, HT, hB⟩ := hrel
      have HGK := hid hgk; clear hgk
      have hb1 : Below w.heap.size w wr := bnext (w := w) hbv hB
      by_cases hlt : k < zs.length
      ·have hki : (k : Int) < (zs.length : Int) := by omega
       have hlw := hl1.below hB; have hzw := hzn1.below hB
       replace q0 := bkeep hB q0
       replace q1 := bkeep hB q1
       replace q2 := bkeep hB q2
       replace q3 := bkeep hB q3
       replace q4 := bkeep hB q4
       replace q5 := bkeep hB q5
       replace q6 := bkeep hB q6
       replace q7 := bkeep hB q7
       have hel : (zs.eraseIdx k).length = zs.length - 1 := by rw [List.length_eraseIdx_of_lt hlt]
       obtain ⟨l1, hl1e⟩ : ∃ l1, zs.eraseIdx k = l1 := ⟨_, rfl⟩
       obtain ⟨cs2, hcs⟩ : ∃ cs, chosenL fs l1 = cs := ⟨_, rfl⟩
       obtain ⟨tb2, htb⟩ : ∃ tb, troubleA ⟨bid, bwi, bde, bce, bhi, bbe⟩ cs2 3 = tb := ⟨_, rfl⟩
       have hz1 : ∀ z ∈ l1, 0 ≤ z ∧ z < (fs.length : Int) := fun z h => HZR.out z (List.mem_of_mem_eraseIdx (hl1e ▸ h))
       have hi1 : ∀ z ∈ l1, I64 z := fun z h => hzn1.i64 z (List.mem_of_mem_eraseIdx (hl1e ▸ h))
       have hok1 := chosen_ok hok hz1
       have hl1n : l1.length ≤ 5 := by rw [← hl1e, hel]; omega
       have hn1 : (chosenL fs l1).length ≤ 5 := by rw [chosen_len]; exact hl1n
       rw [hcs] at hok1 hn1
       have hwo : ∀ W' : World, Below wr.heap.size wr W' → Calls Tryz.prog 91 #[.slice ra zs.length rc, .int .i64 (k : Int)] W' (fun e w'' => ∃ u, e = .returned u ∧ Below W'.heap.size W' w'' ∧ w''.ownsRow wr.heap.size 3 1 u l1.length (l1.map (Value.int .i64))) := fun W' hb => by
        rw [← hl1e]; refine (rWithout (hzw.below hb) hlt (by omega)).mono ?_
        rintro e w'' ⟨u, rfl, h2, h3⟩
        exact ⟨u, rfl, h2, owns_base hb.size h3⟩
       have hch : ∀ (W' : World) (v : Value), Below wr.heap.size wr W' → W'.ownsRow wr.heap.size 3 1 v l1.length (l1.map (Value.int .i64)) → Calls Tryz.prog 92 #[.slice la fs.length lc, v] W' (fun e w'' => ∃ u, e = .returned u ∧ Below W'.heap.size W' w'' ∧ w''.ownsRow wr.heap.size 34 4 u cs2.length (cs2.flatMap cellsF)) := fun W' v hb hv => by
        rw [← hcs]; refine (rSome (hlw.below hb) (by omega) (numsAt_of_owns hi1 hv) (by omega) hz1).mono ?_
        rintro e w'' ⟨u, rfl, h2, h3⟩
        exact ⟨u, rfl, h2, owns_base hb.size h3⟩
       have htr : ∀ (W' : World) (u : Value), W'.ownsRow wr.heap.size 34 4 u cs2.length (cs2.flatMap cellsF) → Calls Tryz.prog 90 #[.agg #[.int .i64 bid, .int .i64 bwi, .int .i64 bde, .int .i64 bce, .int .i64 bhi, .int .i64 bbe], u, .int .i64 3] W' (Ret W' (.bool tb2)) := fun W' u h => rBad3 HX.out (feetAt_of_owns hok1 h) hok1 hn1 htb
       have htk : troubleA ⟨bid, bwi, bde, bce, bhi, bbe⟩ (chosenL fs (zs.eraseIdx k)) 3 = tb2 := by rw [hl1e, hcs, htb]
       have HTK := hid htk; have HWO := hid hwo; have HCH := hid hch; have HTR := hid htr; clear htk hwo hch htr hok1 hn1 htb hcs hz1 hi1 hel hl1e hl1n hlw hzw
       go_upto_region 22 with fail
       refine wp_region_Rs [(5, fun v W => W.ownsRow wr.heap.size 3 1 v l1.length (l1.map (Value.int .i64))), (6, fun v W => W.ownsRow wr.heap.size 34 4 v cs2.length (cs2.flatMap cellsF)), (9, fun v _ => v = .bool tb2)] [0, 1, 2, 3, 4, 5, 6, 7, 8, 9] 0 (by kernel_rfl) rfl (by simp only [List.forall_mem_cons]; exact ⟨keeps_owns, keeps_owns, keeps_eq, fun _ h => by cases h⟩) (by kernel_rfl) ?_
       simp only [numbered, List.filterMap_cons, List.filterMap_nil, List.getElem?_toArray, List.getElem?_cons_succ, List.getElem?_cons_zero, Option.map_some]
       show wpS _ _ _ _ _ _ _ [(_, _), (_, _), (_, _), (_, _), (_, _), (_, _), (_, _), (_, _), (_, _), (_, _)] _ _
       (refine wpS_quiet rfl rfl ?_; intro K hK inst hx; have sq0 := fun x => (fun _ => bkeep (BQ.below x) q0) (hx x); have sq1 := fun x => (fun _ => bkeep (BQ.below x) q1) (hx x); have sq2 := fun x => (fun _ => bkeep (BQ.below x) q2) (hx x); have sq3 := fun x => (fun _ => bkeep (BQ.below x) q3) (hx x); have sq4 := fun x => (fun _ => bkeep (BQ.below x) q4) (hx x); have sq5 := fun x => (fun _ => bkeep (BQ.below x) q5) (hx x); go_big_quiet_op; go_big_quiet_on; clear hx inst)
       (refine wpS_quiet rfl rfl ?_; intro K hK inst hx; go_big_quiet_op; go_big_quiet_on; clear hx inst)
       (refine wpS_quiet rfl rfl ?_; intro K hK inst hx; go_big_quiet_op; go_big_quiet_on; clear hx inst)
       (refine wpS_quiet rfl rfl ?_; intro K hK inst hx; have sq7 := fun x => (fun _ => bkeep (BQ.below x) q7) (hx x); go_big_quiet_op; go_big_quiet_on; clear hx inst)
       (refine wpS_quiet rfl rfl ?_; intro K hK inst hx; go_big_quiet_op; go_big_quiet_on; clear hx inst)
       refine wpS_fresh rfl rfl (fun w' hb hF => ?_) ?_
       ·change freshAt _ _ _ (fun v W => W.ownsRow wr.heap.size 3 1 v l1.length (l1.map (Value.int .i64))) _; unfold freshAt; go_simp; exact HWO.out _ hb
       intro v W hv; simp only [pOf, List.lookup_cons, Nat.reduceBEq, beq_self_eq_true] at hv; obtain ⟨ua, uc, rfl, -⟩ := owns_shape hv
       simp only [Act.put, List.setIfInBounds_toArray, List.set_cons_succ, List.set_cons_zero]
       refine wpS_fresh rfl rfl (fun w' hb hF => ?_) ?_
       ·change freshAt _ _ _ (fun v W => W.ownsRow wr.heap.size 34 4 v cs2.length (cs2.flatMap cellsF)) _; have h4 := hF 5 _ rfl (by kernel_rfl); unfold freshAt; go_simp; exact HCH.out _ _ hb h4
       intro v W hv; simp only [pOf, List.lookup_cons, Nat.reduceBEq, beq_self_eq_true] at hv; obtain ⟨ca, cc, rfl, -⟩ := owns_shape hv
       simp only [Act.put, List.setIfInBounds_toArray, List.set_cons_succ, List.set_cons_zero]
       (refine wpS_quiet rfl rfl ?_; intro K hK inst hx; go_big_quiet_op; go_big_quiet_on; clear hx inst)
       (refine wpS_quiet rfl rfl ?_; intro K hK inst hx; have sq6 := fun x => (fun _ => bkeep (BQ.below x) q6) (hx x); go_big_quiet_op; go_big_quiet_on; clear hx inst)
       refine wpS_fresh rfl rfl (fun w' hb hF => ?_) ?_
       ·change freshAt _ _ _ (fun v _ => v = .bool tb2) _; have h4 := hF 6 _ rfl (by kernel_rfl); unfold freshAt; go_simp; exact HTR.out _ _ h4
       intro v W hv; simp only [pOf, List.lookup_cons, Nat.reduceBEq, beq_self_eq_true] at hv; subst hv
       simp only [Act.put, List.setIfInBounds_toArray, List.set_cons_succ, List.set_cons_zero]
       refine wpS_nil ?_
       intro w8 hall
       have hb := hall.1
       clear hall
       refine wpAny_done (by kernel_rfl) ?_ _
       replace hb1 := bnext (w := w) hb1 hb
       replace hB := bnext (w := v2) hB hb
       clear hb HCH HTR HWO q0 q1 q2 q3 q4 q5 q6 q7
       cases tb2
       ·have HT2 := hid (show ∀ j, j < k + 1 → troubleA ⟨bid, bwi, bde, bce, bhi, bbe⟩ (chosenL fs (zs.eraseIdx j)) 3 = false from fun j hj => by (rcases Nat.lt_or_ge j k with h3 | h3); exact HT.out j h3; rw [show j = k by omega]; exact HTK.out)
        clear HT HTK
        go_wp2_with fail
        go_roundg (zs.length - (k + 1))
        case measure => have h := HGK.out; omega
        case rel => exact ⟨k + 1, by omega, rfl, by go_num, HT2, hB⟩
       ·have hd : b = false := by rw [← HRB.out, allNeed_down hlt HTK.out]
        subst hd
        clear HRB HT HTK
        go_wp2_with fail
        go_ret
        exact ⟨rfl, hb1⟩
      ·obtain rfl : k = zs.length := by omega
       have hd : b = true := by rw [← HRB.out, allNeed_all HT.out]
       subst hd
       clear HRB HT
       go_wp2_with fail
       go_ret
       exact ⟨rfl, hb1⟩
set_option maxRecDepth 100000 in
set_option maxHeartbeats 4000000 in
theorem rReason4 {w : World} {bid bwi bde bce bhi bbe : Int} {lv rv : Value} {fs : List Ft} {zs : List Int} {b : Bool} (hX : boxOk ⟨bid, bwi, bde, bce, bhi, bbe⟩ = true) (hl : FeetAt w lv fs) (hok : ∀ f ∈ fs, FtOk f) (hn : fs.length ≤ 5) (hzn : NumsAt w rv zs) (hb : reasonB ⟨bid, bwi, bde, bce, bhi, bbe⟩ fs 4 zs = b) :
  Calls Tryz.prog 99 #[.agg #[.int .i64 bid, .int .i64 bwi, .int .i64 bde, .int .i64 bce, .int .i64 bhi, .int .i64 bbe], lv, .agg #[.int .i64 4, rv]] w (Ret w (.bool b)) := by
 unfold Ret
 obtain ⟨ra, rc, rfl, hrl, hrc⟩ := hzn.shape
 obtain ⟨la, lc, rfl, hll⟩ := hl.shape
 rw [List.length_map] at hl hll ⊢
 by_cases hz0 : zs = []
 ·have hd : b = false := by rw [← hb, hz0, reason_nil hX]
  subst hd; subst hz0
  clear hb
  simp only [List.length_nil]
  go_enter Tryz.func99, Tryz.ntmps99
  go_wp2_with fail
  go_ret
  exact ⟨rfl, by go_grown⟩
 ·have hm0 : 0 < zs.length := List.length_pos_iff.2 hz0
  have hmi : ¬ (zs.length : Int) = 0 := by omega
  have hmb : ((zs.length : Int) == 0) = false := beq_eq_false_iff_ne.mpr hmi
  obtain ⟨bi, hbi⟩ : ∃ bi, idxB (fs.length : Int) (-1) zs = bi := ⟨_, rfl⟩
  have hrb : (bi && (troubleA ⟨bid, bwi, bde, bce, bhi, bbe⟩ (chosenL fs zs) 4 && allNeed ⟨bid, bwi, bde, bce, bhi, bbe⟩ fs 4 zs zs.length)) = b := by rw [← hb, ← hbi]; rfl
  have HRB := hid hrb; have HX := hid hX; have HBI := hid hbi; clear hb hrb hX hbi
  go_enter Tryz.func99, Tryz.ntmps99
  go_upto_region 1 with fail
  generalize hW : World.alloc (World.alloc w _) _ = v1
  have q0 : v1.cell? ⟨w.heap.size, 0, none⟩ = some (.int .i64 bid) := by rw [← hW]; simp [go_sem]
  have q1 : v1.cell? ⟨w.heap.size, 1, none⟩ = some (.int .i64 bwi) := by rw [← hW]; simp [go_sem]
  have q2 : v1.cell? ⟨w.heap.size, 2, none⟩ = some (.int .i64 bde) := by rw [← hW]; simp [go_sem]
  have q3 : v1.cell? ⟨w.heap.size, 3, none⟩ = some (.int .i64 bce) := by rw [← hW]; simp [go_sem]
  have q4 : v1.cell? ⟨w.heap.size, 4, none⟩ = some (.int .i64 bhi) := by rw [← hW]; simp [go_sem]
  have q5 : v1.cell? ⟨w.heap.size, 5, none⟩ = some (.int .i64 bbe) := by rw [← hW]; simp [go_sem]
  have q6 : v1.cell? ⟨w.heap.size + 1, 0, none⟩ = some (.int .i64 4) := by rw [← hW]; simp [go_sem]
  have q7 : v1.cell? ⟨w.heap.size + 1, 1, none⟩ = some (.slice ra zs.length rc) := by rw [← hW]; simp [go_sem]
  have hbv : Below w.heap.size w v1 := by rw [← hW]; go_grown
  clear hW
  have hl1 : FeetAt v1 (.slice la fs.length lc) fs := hl.below hbv
  have hzn1 : NumsAt v1 (.slice ra zs.length rc) zs := hzn.below hbv
  clear hl hzn
  go_wp2_with fail
  go_loopg [7, 8, 17] zs.length (fun gk _ _ kv wr => ∃ k : Nat, k ≤ zs.length ∧ gk = zs.length - k ∧ kv = .int .i64 k ∧ Hid (idxB (fs.length : Int) (lastZ zs k) (zs.drop k) = bi) ∧ Hid (-1 ≤ lastZ zs k) ∧ v1 = wr)
  case atStart => exact ⟨0, Nat.zero_le _, rfl, rfl, HBI.out, (by show (-1 : Int) ≤ -1; omega), rfl⟩
  case round =>
   obtain ⟨k, hk, hgk, rfl, HP, HLA, rfl⟩ := hrel
   have HGK := hid hgk; clear hgk
   by_cases hlt : k < zs.length
   ·have hki : (k : Int) < (zs.length : Int) := by omega
    obtain ⟨a', ha, r0⟩ := hzn1.elem hlt
    subst ha
    obtain ⟨z, hzk⟩ : ∃ z, zs[k] = z := ⟨_, rfl⟩
    have hzi := hzn1.i64 zs[k] (List.getElem_mem hlt)
    have hst := idx_step hlt HP.out
    rw [hzk] at r0 hst hzi
    have hzb := hzi.bd
    have hln : lastZ zs (k + 1) = z := (lastZ_at hlt).trans hzk
    obtain ⟨l0, hl0⟩ : ∃ l, lastZ zs k = l := ⟨_, rfl⟩
    have hla := HLA.out
    rw [hl0] at hst hla
    have HST := hid hst; have HLN := hid hln; have HL0 := hid hl0; have HZK := hid hzk; clear hst hln hl0 hzi HP HLA hzk
    by_cases hneg : z < 0
    ·have hbt : btw z (l0 + 1) ((fs.length : Int) - 1) = false := by rw [Bool.eq_false_iff]; intro h; have := btw_iff.1 h; omega
     have hbf : bi = false := by rw [HST.out, hbt, Bool.false_and]
     have hd : b = false := by rw [← HRB.out, hbf, Bool.false_and]
     subst hd
     clear HRB HBI HST hbf
     go_wp2_with fail
     go_ret
     exact ⟨rfl, hbv⟩
    ·by_cases hbig : (fs.length : Int) ≤ z
     ·have hbt : btw z (l0 + 1) ((fs.length : Int) - 1) = false := by rw [Bool.eq_false_iff]; intro h; have := btw_iff.1 h; omega
      have hbf : bi = false := by rw [HST.out, hbt, Bool.false_and]
      have hd : b = false := by rw [← HRB.out, hbf, Bool.false_and]
      subst hd
      clear HRB HBI HST hbf
      go_wp2_with fail
      go_ret
      exact ⟨rfl, hbv⟩
     ·by_cases hk0 : 0 < (k : Int)
      ·have hkp : 0 < k := by omega
       obtain ⟨k', hk'⟩ : ∃ k', k - 1 = k' := ⟨_, rfl⟩
       have hkl : k' < zs.length := by omega
       have hwk : wrap64 ((k : Int) - 1) = (k' : Int) := by rw [IntWalk.wrap64_in _ (by omega)]; omega
       have hwk2 : (k : Int) - 1 = (k' : Int) := by omega
       obtain ⟨a2, ha2, r1⟩ := hzn1.elem hkl
       injection ha2 with ha2; subst ha2
       obtain ⟨y, hyk⟩ : ∃ y, zs[k'] = y := ⟨_, rfl⟩
       rw [hyk] at r1
       have hyl : l0 = y := by rw [← HL0.out, show k = k' + 1 by omega]; exact (lastZ_at hkl).trans hyk
       subst hyl
       have hkli : (k' : Int) < (zs.length : Int) := by omega
       clear hyk hk' hkp
       by_cases hle : z ≤ l0
       ·have hbt : btw z (l0 + 1) ((fs.length : Int) - 1) = false := by rw [Bool.eq_false_iff]; intro h; have := btw_iff.1 h; omega
        have hbf : bi = false := by rw [HST.out, hbt, Bool.false_and]
        have hd : b = false := by rw [← HRB.out, hbf, Bool.false_and]
        subst hd
        clear HRB HBI HST hbf
        go_wp2_with fail
        go_ret
        exact ⟨rfl, hbv⟩
       ·have hbt : btw z (l0 + 1) ((fs.length : Int) - 1) = true := btw_iff.2 (by omega)
        have hs2 : idxB (fs.length : Int) (lastZ zs (k + 1)) (zs.drop (k + 1)) = bi := by rw [HLN.out, HST.out, hbt, Bool.true_and]
        have HS2 := hid hs2; clear hs2 hbt
        have HLA2 := hid (show -1 ≤ lastZ zs (k + 1) by rw [HLN.out]; omega)
        go_wp2_with fail
        go_roundg (zs.length - (k + 1))
        case measure => have h := HGK.out; omega
        case rel => exact ⟨k + 1, by omega, rfl, by go_num, HS2, HLA2, rfl⟩
      ·have hlz : l0 = -1 := by rw [← HL0.out, show k = 0 by omega]; rfl
       have hbt : btw z (l0 + 1) ((fs.length : Int) - 1) = true := btw_iff.2 (by omega)
       have hs2 : idxB (fs.length : Int) (lastZ zs (k + 1)) (zs.drop (k + 1)) = bi := by rw [HLN.out, HST.out, hbt, Bool.true_and]
       have HS2 := hid hs2; clear hs2 hbt
       have HLA2 := hid (show -1 ≤ lastZ zs (k + 1) by rw [HLN.out]; omega)
       go_wp2_with fail
       go_roundg (zs.length - (k + 1))
       case measure => have h := HGK.out; omega
       case rel => exact ⟨k + 1, by omega, rfl, by go_num, HS2, HLA2, rfl⟩
   ·obtain rfl : k = zs.length := by omega
    have hbt : bi = true := idx_end (Nat.le_refl _) HP.out
    subst hbt
    have hrb : (troubleA ⟨bid, bwi, bde, bce, bhi, bbe⟩ (chosenL fs zs) 4 && allNeed ⟨bid, bwi, bde, bce, bhi, bbe⟩ fs 4 zs zs.length) = b := by rw [← HRB.out, Bool.true_and]
    have hzr : ∀ z ∈ zs, 0 ≤ z ∧ z < (fs.length : Int) := fun z hz => (idx_all (show (-1 : Int) ≤ -1 by omega) HBI.out z hz).2
    have hzl := idx_len (show (-1 : Int) ≤ -1 by omega) HBI.out
    have hzl2 : zs.length ≤ fs.length := by omega
    clear HRB HP HLA hzl
    obtain ⟨cs, hcs⟩ : ∃ cs, chosenL fs zs = cs := ⟨_, rfl⟩
    obtain ⟨tb, htb⟩ : ∃ tb, troubleA ⟨bid, bwi, bde, bce, bhi, bbe⟩ cs 4 = tb := ⟨_, rfl⟩
    have hok1 := chosen_ok hok hzr
    have hn1 : (chosenL fs zs).length ≤ 5 := by rw [chosen_len]; omega
    rw [hcs] at hok1 hn1 hrb
    rw [htb] at hrb
    have hch : ∀ (W' : World), Below v1.heap.size v1 W' → Calls Tryz.prog 92 #[.slice la fs.length lc, .slice ra zs.length rc] W' (fun e w'' => ∃ u, e = .returned u ∧ Below W'.heap.size W' w'' ∧ w''.ownsRow v1.heap.size 34 4 u cs.length (cs.flatMap cellsF)) := fun W' hb => by
     rw [← hcs]; refine (rSome (hl1.below hb) (by omega) (hzn1.below hb) (by omega) hzr).mono ?_
     rintro e w'' ⟨u, rfl, h2, h3⟩
     exact ⟨u, rfl, h2, owns_base hb.size h3⟩
    have htr : ∀ (W' : World) (u : Value), W'.ownsRow v1.heap.size 34 4 u cs.length (cs.flatMap cellsF) → Calls Tryz.prog 90 #[.agg #[.int .i64 bid, .int .i64 bwi, .int .i64 bde, .int .i64 bce, .int .i64 bhi, .int .i64 bbe], u, .int .i64 4] W' (Ret W' (.bool tb)) := fun W' u h => rBad4 HX.out (feetAt_of_owns hok1 h) hok1 hn1 htb
    have HRS := hid hrb; have HCH := hid hch; have HTR := hid htr; have HZR := hid hzr; clear hrb hch htr hzr hok1 hn1 htb hcs
    go_upto_region 17 with fail
    refine wp_region_Rs [(4, fun v W => W.ownsRow v1.heap.size 34 4 v cs.length (cs.flatMap cellsF)), (7, fun v _ => v = .bool tb)] [0, 1, 2, 3, 4, 5, 6, 7, 8] 0 (by kernel_rfl) rfl (by simp only [List.forall_mem_cons]; exact ⟨keeps_owns, keeps_eq, fun _ h => by cases h⟩) (by kernel_rfl) ?_
    simp only [numbered, List.filterMap_cons, List.filterMap_nil, List.getElem?_toArray, List.getElem?_cons_succ, List.getElem?_cons_zero, Option.map_some]
    show wpS _ _ _ _ _ _ _ [(_, _), (_, _), (_, _), (_, _), (_, _), (_, _), (_, _), (_, _), (_, _)] _ _
    (refine wpS_quiet rfl rfl ?_; intro K hK inst hx; have sq0 := fun x => (fun _ => bkeep (BQ.below x) q0) (hx x); have sq1 := fun x => (fun _ => bkeep (BQ.below x) q1) (hx x); have sq2 := fun x => (fun _ => bkeep (BQ.below x) q2) (hx x); have sq3 := fun x => (fun _ => bkeep (BQ.below x) q3) (hx x); have sq4 := fun x => (fun _ => bkeep (BQ.below x) q4) (hx x); have sq5 := fun x => (fun _ => bkeep (BQ.below x) q5) (hx x); go_big_quiet_op; go_big_quiet_on; clear hx inst)
    (refine wpS_quiet rfl rfl ?_; intro K hK inst hx; go_big_quiet_op; go_big_quiet_on; clear hx inst)
    (refine wpS_quiet rfl rfl ?_; intro K hK inst hx; go_big_quiet_op; go_big_quiet_on; clear hx inst)
    (refine wpS_quiet rfl rfl ?_; intro K hK inst hx; have sq7 := fun x => (fun _ => bkeep (BQ.below x) q7) (hx x); go_big_quiet_op; go_big_quiet_on; clear hx inst)
    refine wpS_fresh rfl rfl (fun w' hb hF => ?_) ?_
    ·change freshAt _ _ _ (fun v W => W.ownsRow v1.heap.size 34 4 v cs.length (cs.flatMap cellsF)) _; unfold freshAt; go_simp; exact HCH.out _ hb
    intro v W hv; simp only [pOf, List.lookup_cons, Nat.reduceBEq, beq_self_eq_true] at hv; obtain ⟨ca, cc, rfl, -⟩ := owns_shape hv
    simp only [Act.put, List.setIfInBounds_toArray, List.set_cons_succ, List.set_cons_zero]
    (refine wpS_quiet rfl rfl ?_; intro K hK inst hx; go_big_quiet_op; go_big_quiet_on; clear hx inst)
    (refine wpS_quiet rfl rfl ?_; intro K hK inst hx; have sq6 := fun x => (fun _ => bkeep (BQ.below x) q6) (hx x); go_big_quiet_op; go_big_quiet_on; clear hx inst)
    refine wpS_fresh rfl rfl (fun w' hb hF => ?_) ?_
    ·change freshAt _ _ _ (fun v _ => v = .bool tb) _; have h4 := hF 4 _ rfl (by kernel_rfl); unfold freshAt; go_simp; exact HTR.out _ _ h4
    intro v W hv; simp only [pOf, List.lookup_cons, Nat.reduceBEq, beq_self_eq_true] at hv; subst hv
    simp only [Act.put, List.setIfInBounds_toArray, List.set_cons_succ, List.set_cons_zero]
    (refine wpS_quiet rfl rfl ?_; intro K hK inst hx; go_big_quiet_op; go_big_quiet_on; clear hx inst)
    refine wpS_nil ?_
    intro w2 hall
    have hb := hall.1
    clear hall
    refine wpAny_done (by kernel_rfl) ?_ _
    obtain ⟨v2, hv2⟩ : ∃ v, v = w2 := ⟨_, rfl⟩
    subst hv2
    replace hbv := bnext (w := w) hbv hb
    replace q0 := bkeep hb q0
    replace q1 := bkeep hb q1
    replace q2 := bkeep hb q2
    replace q3 := bkeep hb q3
    replace q4 := bkeep hb q4
    replace q5 := bkeep hb q5
    replace q6 := bkeep hb q6
    replace q7 := bkeep hb q7
    replace hl1 := hl1.below hb
    replace hzn1 := hzn1.below hb
    clear hb HCH HTR
    cases tb
    ·have hd : b = false := by rw [← HRS.out]; rfl
     subst hd
     clear HRS
     go_wp2_with fail
     go_ret
     exact ⟨rfl, hbv⟩
    ·have hrs : allNeed ⟨bid, bwi, bde, bce, bhi, bbe⟩ fs 4 zs zs.length = b := by rw [← HRS.out]; rfl
     have HRB := hid hrs; clear HRS hrs
     go_wp2_with fail
     go_loopg [9, 101] zs.length (fun gk _ kv wr => ∃ k : Nat, k ≤ zs.length ∧ gk = zs.length - k ∧ kv = .int .i64 k ∧ Hid (∀ j, j < k → troubleA ⟨bid, bwi, bde, bce, bhi, bbe⟩ (chosenL fs (zs.eraseIdx j)) 4 = false) ∧ Below v2.heap.size v2 wr)
     case atStart => exact ⟨0, Nat.zero_le _, rfl, rfl, (fun j h => by omega), Below.refl _ _⟩
     case round =>
      obtain ⟨k, hk, hgk, rfl, HT, hB⟩ := hrel
      have HGK := hid hgk; clear hgk
      have hb1 : Below w.heap.size w wr := bnext (w := w) hbv hB
      by_cases hlt : k < zs.length
      ·have hki : (k : Int) < (zs.length : Int) := by omega
       have hlw := hl1.below hB; have hzw := hzn1.below hB
       replace q0 := bkeep hB q0
       replace q1 := bkeep hB q1
       replace q2 := bkeep hB q2
       replace q3 := bkeep hB q3
       replace q4 := bkeep hB q4
       replace q5 := bkeep hB q5
       replace q6 := bkeep hB q6
       replace q7 := bkeep hB q7
       have hel : (zs.eraseIdx k).length = zs.length - 1 := by rw [List.length_eraseIdx_of_lt hlt]
       obtain ⟨l1, hl1e⟩ : ∃ l1, zs.eraseIdx k = l1 := ⟨_, rfl⟩
       obtain ⟨cs2, hcs⟩ : ∃ cs, chosenL fs l1 = cs := ⟨_, rfl⟩
       obtain ⟨tb2, htb⟩ : ∃ tb, troubleA ⟨bid, bwi, bde, bce, bhi, bbe⟩ cs2 4 = tb := ⟨_, rfl⟩
       have hz1 : ∀ z ∈ l1, 0 ≤ z ∧ z < (fs.length : Int) := fun z h => HZR.out z (List.mem_of_mem_eraseIdx (hl1e ▸ h))
       have hi1 : ∀ z ∈ l1, I64 z := fun z h => hzn1.i64 z (List.mem_of_mem_eraseIdx (hl1e ▸ h))
       have hok1 := chosen_ok hok hz1
       have hl1n : l1.length ≤ 5 := by rw [← hl1e, hel]; omega
       have hn1 : (chosenL fs l1).length ≤ 5 := by rw [chosen_len]; exact hl1n
       rw [hcs] at hok1 hn1
       have hwo : ∀ W' : World, Below wr.heap.size wr W' → Calls Tryz.prog 91 #[.slice ra zs.length rc, .int .i64 (k : Int)] W' (fun e w'' => ∃ u, e = .returned u ∧ Below W'.heap.size W' w'' ∧ w''.ownsRow wr.heap.size 3 1 u l1.length (l1.map (Value.int .i64))) := fun W' hb => by
        rw [← hl1e]; refine (rWithout (hzw.below hb) hlt (by omega)).mono ?_
        rintro e w'' ⟨u, rfl, h2, h3⟩
        exact ⟨u, rfl, h2, owns_base hb.size h3⟩
       have hch : ∀ (W' : World) (v : Value), Below wr.heap.size wr W' → W'.ownsRow wr.heap.size 3 1 v l1.length (l1.map (Value.int .i64)) → Calls Tryz.prog 92 #[.slice la fs.length lc, v] W' (fun e w'' => ∃ u, e = .returned u ∧ Below W'.heap.size W' w'' ∧ w''.ownsRow wr.heap.size 34 4 u cs2.length (cs2.flatMap cellsF)) := fun W' v hb hv => by
        rw [← hcs]; refine (rSome (hlw.below hb) (by omega) (numsAt_of_owns hi1 hv) (by omega) hz1).mono ?_
        rintro e w'' ⟨u, rfl, h2, h3⟩
        exact ⟨u, rfl, h2, owns_base hb.size h3⟩
       have htr : ∀ (W' : World) (u : Value), W'.ownsRow wr.heap.size 34 4 u cs2.length (cs2.flatMap cellsF) → Calls Tryz.prog 90 #[.agg #[.int .i64 bid, .int .i64 bwi, .int .i64 bde, .int .i64 bce, .int .i64 bhi, .int .i64 bbe], u, .int .i64 4] W' (Ret W' (.bool tb2)) := fun W' u h => rBad4 HX.out (feetAt_of_owns hok1 h) hok1 hn1 htb
       have htk : troubleA ⟨bid, bwi, bde, bce, bhi, bbe⟩ (chosenL fs (zs.eraseIdx k)) 4 = tb2 := by rw [hl1e, hcs, htb]
       have HTK := hid htk; have HWO := hid hwo; have HCH := hid hch; have HTR := hid htr; clear htk hwo hch htr hok1 hn1 htb hcs hz1 hi1 hel hl1e hl1n hlw hzw
       go_upto_region 22 with fail
       refine wp_region_Rs [(5, fun v W => W.ownsRow wr.heap.size 3 1 v l1.length (l1.map (Value.int .i64))), (6, fun v W => W.ownsRow wr.heap.size 34 4 v cs2.length (cs2.flatMap cellsF)), (9, fun v _ => v = .bool tb2)] [0, 1, 2, 3, 4, 5, 6, 7, 8, 9] 0 (by kernel_rfl) rfl (by simp only [List.forall_mem_cons]; exact ⟨keeps_owns, keeps_owns, keeps_eq, fun _ h => by cases h⟩) (by kernel_rfl) ?_
       simp only [numbered, List.filterMap_cons, List.filterMap_nil, List.getElem?_toArray, List.getElem?_cons_succ, List.getElem?_cons_zero, Option.map_some]
       show wpS _ _ _ _ _ _ _ [(_, _), (_, _), (_, _), (_, _), (_, _), (_, _), (_, _), (_, _), (_, _), (_, _)] _ _
       (refine wpS_quiet rfl rfl ?_; intro K hK inst hx; have sq0 := fun x => (fun _ => bkeep (BQ.below x) q0) (hx x); have sq1 := fun x => (fun _ => bkeep (BQ.below x) q1) (hx x); have sq2 := fun x => (fun _ => bkeep (BQ.below x) q2) (hx x); have sq3 := fun x => (fun _ => bkeep (BQ.below x) q3) (hx x); have sq4 := fun x => (fun _ => bkeep (BQ.below x) q4) (hx x); have sq5 := fun x => (fun _ => bkeep (BQ.below x) q5) (hx x); go_big_quiet_op; go_big_quiet_on; clear hx inst)
       (refine wpS_quiet rfl rfl ?_; intro K hK inst hx; go_big_quiet_op; go_big_quiet_on; clear hx inst)
       (refine wpS_quiet rfl rfl ?_; intro K hK inst hx; go_big_quiet_op; go_big_quiet_on; clear hx inst)
       (refine wpS_quiet rfl rfl ?_; intro K hK inst hx; have sq7 := fun x => (fun _ => bkeep (BQ.below x) q7) (hx x); go_big_quiet_op; go_big_quiet_on; clear hx inst)
       (refine wpS_quiet rfl rfl ?_; intro K hK inst hx; go_big_quiet_op; go_big_quiet_on; clear hx inst)
       refine wpS_fresh rfl rfl (fun w' hb hF => ?_) ?_
       ·change freshAt _ _ _ (fun v W => W.ownsRow wr.heap.size 3 1 v l1.length (l1.map (Value.int .i64))) _; unfold freshAt; go_simp; exact HWO.out _ hb
       intro v W hv; simp only [pOf, List.lookup_cons, Nat.reduceBEq, beq_self_eq_true] at hv; obtain ⟨ua, uc, rfl, -⟩ := owns_shape hv
       simp only [Act.put, List.setIfInBounds_toArray, List.set_cons_succ, List.set_cons_zero]
       refine wpS_fresh rfl rfl (fun w' hb hF => ?_) ?_
       ·change freshAt _ _ _ (fun v W => W.ownsRow wr.heap.size 34 4 v cs2.length (cs2.flatMap cellsF)) _; have h4 := hF 5 _ rfl (by kernel_rfl); unfold freshAt; go_simp; exact HCH.out _ _ hb h4
       intro v W hv; simp only [pOf, List.lookup_cons, Nat.reduceBEq, beq_self_eq_true] at hv; obtain ⟨ca, cc, rfl, -⟩ := owns_shape hv
       simp only [Act.put, List.setIfInBounds_toArray, List.set_cons_succ, List.set_cons_zero]
       (refine wpS_quiet rfl rfl ?_; intro K hK inst hx; go_big_quiet_op; go_big_quiet_on; clear hx inst)
       (refine wpS_quiet rfl rfl ?_; intro K hK inst hx; have sq6 := fun x => (fun _ => bkeep (BQ.below x) q6) (hx x); go_big_quiet_op; go_big_quiet_on; clear hx inst)
       refine wpS_fresh rfl rfl (fun w' hb hF => ?_) ?_
       ·change freshAt _ _ _ (fun v _ => v = .bool tb2) _; have h4 := hF 6 _ rfl (by kernel_rfl); unfold freshAt; go_simp; exact HTR.out _ _ h4
       intro v W hv; simp only [pOf, List.lookup_cons, Nat.reduceBEq, beq_self_eq_true] at hv; subst hv
       simp only [Act.put, List.setIfInBounds_toArray, List.set_cons_succ, List.set_cons_zero]
       refine wpS_nil ?_
       intro w8 hall
       have hb := hall.1
       clear hall
       refine wpAny_done (by kernel_rfl) ?_ _
       replace hb1 := bnext (w := w) hb1 hb
       replace hB := bnext (w := v2) hB hb
       clear hb HCH HTR HWO q0 q1 q2 q3 q4 q5 q6 q7
       cases tb2
       ·have HT2 := hid (show ∀ j, j < k + 1 → troubleA ⟨bid, bwi, bde, bce, bhi, bbe⟩ (chosenL fs (zs.eraseIdx j)) 4 = false from fun j hj => by (rcases Nat.lt_or_ge j k with h3 | h3); exact HT.out j h3; rw [show j = k by omega]; exact HTK.out)
        clear HT HTK
        go_wp2_with fail
        go_roundg (zs.length - (k + 1))
        case measure => have h := HGK.out; omega
        case rel => exact ⟨k + 1, by omega, rfl, by go_num, HT2, hB⟩
       ·have hd : b = false := by rw [← HRB.out, allNeed_down hlt HTK.out]
        subst hd
        clear HRB HT HTK
        go_wp2_with fail
        go_ret
        exact ⟨rfl, hb1⟩
      ·obtain rfl : k = zs.length := by omega
       have hd : b = true := by rw [← HRB.out, allNeed_all HT.out]
       subst hd
       clear HRB HT
       go_wp2_with fail
       go_ret
       exact ⟨rfl, hb1⟩
set_option maxRecDepth 100000 in
set_option maxHeartbeats 4000000 in
theorem rReason5 {w : World} {bid bwi bde bce bhi bbe : Int} {lv rv : Value} {fs : List Ft} {zs : List Int} {b : Bool} (hX : boxOk ⟨bid, bwi, bde, bce, bhi, bbe⟩ = true) (hl : FeetAt w lv fs) (hok : ∀ f ∈ fs, FtOk f) (hn : fs.length ≤ 5) (hzn : NumsAt w rv zs) (hb : reasonB ⟨bid, bwi, bde, bce, bhi, bbe⟩ fs 5 zs = b) :
  Calls Tryz.prog 99 #[.agg #[.int .i64 bid, .int .i64 bwi, .int .i64 bde, .int .i64 bce, .int .i64 bhi, .int .i64 bbe], lv, .agg #[.int .i64 5, rv]] w (Ret w (.bool b)) := by
 unfold Ret
 obtain ⟨ra, rc, rfl, hrl, hrc⟩ := hzn.shape
 obtain ⟨la, lc, rfl, hll⟩ := hl.shape
 rw [List.length_map] at hl hll ⊢
 by_cases hz0 : zs = []
 ·have hd : b = false := by rw [← hb, hz0, reason_nil hX]
  subst hd; subst hz0
  clear hb
  simp only [List.length_nil]
  go_enter Tryz.func99, Tryz.ntmps99
  go_wp2_with fail
  go_ret
  exact ⟨rfl, by go_grown⟩
 ·have hm0 : 0 < zs.length := List.length_pos_iff.2 hz0
  have hmi : ¬ (zs.length : Int) = 0 := by omega
  have hmb : ((zs.length : Int) == 0) = false := beq_eq_false_iff_ne.mpr hmi
  obtain ⟨bi, hbi⟩ : ∃ bi, idxB (fs.length : Int) (-1) zs = bi := ⟨_, rfl⟩
  have hrb : (bi && (troubleA ⟨bid, bwi, bde, bce, bhi, bbe⟩ (chosenL fs zs) 5 && allNeed ⟨bid, bwi, bde, bce, bhi, bbe⟩ fs 5 zs zs.length)) = b := by rw [← hb, ← hbi]; rfl
  have HRB := hid hrb; have HX := hid hX; have HBI := hid hbi; clear hb hrb hX hbi
  go_enter Tryz.func99, Tryz.ntmps99
  go_upto_region 1 with fail
  generalize hW : World.alloc (World.alloc w _) _ = v1
  have q0 : v1.cell? ⟨w.heap.size, 0, none⟩ = some (.int .i64 bid) := by rw [← hW]; simp [go_sem]
  have q1 : v1.cell? ⟨w.heap.size, 1, none⟩ = some (.int .i64 bwi) := by rw [← hW]; simp [go_sem]
  have q2 : v1.cell? ⟨w.heap.size, 2, none⟩ = some (.int .i64 bde) := by rw [← hW]; simp [go_sem]
  have q3 : v1.cell? ⟨w.heap.size, 3, none⟩ = some (.int .i64 bce) := by rw [← hW]; simp [go_sem]
  have q4 : v1.cell? ⟨w.heap.size, 4, none⟩ = some (.int .i64 bhi) := by rw [← hW]; simp [go_sem]
  have q5 : v1.cell? ⟨w.heap.size, 5, none⟩ = some (.int .i64 bbe) := by rw [← hW]; simp [go_sem]
  have q6 : v1.cell? ⟨w.heap.size + 1, 0, none⟩ = some (.int .i64 5) := by rw [← hW]; simp [go_sem]
  have q7 : v1.cell? ⟨w.heap.size + 1, 1, none⟩ = some (.slice ra zs.length rc) := by rw [← hW]; simp [go_sem]
  have hbv : Below w.heap.size w v1 := by rw [← hW]; go_grown
  clear hW
  have hl1 : FeetAt v1 (.slice la fs.length lc) fs := hl.below hbv
  have hzn1 : NumsAt v1 (.slice ra zs.length rc) zs := hzn.below hbv
  clear hl hzn
  go_wp2_with fail
  go_loopg [7, 8, 17] zs.length (fun gk _ _ kv wr => ∃ k : Nat, k ≤ zs.length ∧ gk = zs.length - k ∧ kv = .int .i64 k ∧ Hid (idxB (fs.length : Int) (lastZ zs k) (zs.drop k) = bi) ∧ Hid (-1 ≤ lastZ zs k) ∧ v1 = wr)
  case atStart => exact ⟨0, Nat.zero_le _, rfl, rfl, HBI.out, (by show (-1 : Int) ≤ -1; omega), rfl⟩
  case round =>
   obtain ⟨k, hk, hgk, rfl, HP, HLA, rfl⟩ := hrel
   have HGK := hid hgk; clear hgk
   by_cases hlt : k < zs.length
   ·have hki : (k : Int) < (zs.length : Int) := by omega
    obtain ⟨a', ha, r0⟩ := hzn1.elem hlt
    subst ha
    obtain ⟨z, hzk⟩ : ∃ z, zs[k] = z := ⟨_, rfl⟩
    have hzi := hzn1.i64 zs[k] (List.getElem_mem hlt)
    have hst := idx_step hlt HP.out
    rw [hzk] at r0 hst hzi
    have hzb := hzi.bd
    have hln : lastZ zs (k + 1) = z := (lastZ_at hlt).trans hzk
    obtain ⟨l0, hl0⟩ : ∃ l, lastZ zs k = l := ⟨_, rfl⟩
    have hla := HLA.out
    rw [hl0] at hst hla
    have HST := hid hst; have HLN := hid hln; have HL0 := hid hl0; have HZK := hid hzk; clear hst hln hl0 hzi HP HLA hzk
    by_cases hneg : z < 0
    ·have hbt : btw z (l0 + 1) ((fs.length : Int) - 1) = false := by rw [Bool.eq_false_iff]; intro h; have := btw_iff.1 h; omega
     have hbf : bi = false := by rw [HST.out, hbt, Bool.false_and]
     have hd : b = false := by rw [← HRB.out, hbf, Bool.false_and]
     subst hd
     clear HRB HBI HST hbf
     go_wp2_with fail
     go_ret
     exact ⟨rfl, hbv⟩
    ·by_cases hbig : (fs.length : Int) ≤ z
     ·have hbt : btw z (l0 + 1) ((fs.length : Int) - 1) = false := by rw [Bool.eq_false_iff]; intro h; have := btw_iff.1 h; omega
      have hbf : bi = false := by rw [HST.out, hbt, Bool.false_and]
      have hd : b = false := by rw [← HRB.out, hbf, Bool.false_and]
      subst hd
      clear HRB HBI HST hbf
      go_wp2_with fail
      go_ret
      exact ⟨rfl, hbv⟩
     ·by_cases hk0 : 0 < (k : Int)
      ·have hkp : 0 < k := by omega
       obtain ⟨k', hk'⟩ : ∃ k', k - 1 = k' := ⟨_, rfl⟩
       have hkl : k' < zs.length := by omega
       have hwk : wrap64 ((k : Int) - 1) = (k' : Int) := by rw [IntWalk.wrap64_in _ (by omega)]; omega
       have hwk2 : (k : Int) - 1 = (k' : Int) := by omega
       obtain ⟨a2, ha2, r1⟩ := hzn1.elem hkl
       injection ha2 with ha2; subst ha2
       obtain ⟨y, hyk⟩ : ∃ y, zs[k'] = y := ⟨_, rfl⟩
       rw [hyk] at r1
       have hyl : l0 = y := by rw [← HL0.out, show k = k' + 1 by omega]; exact (lastZ_at hkl).trans hyk
       subst hyl
       have hkli : (k' : Int) < (zs.length : Int) := by omega
       clear hyk hk' hkp
       by_cases hle : z ≤ l0
       ·have hbt : btw z (l0 + 1) ((fs.length : Int) - 1) = false := by rw [Bool.eq_false_iff]; intro h; have := btw_iff.1 h; omega
        have hbf : bi = false := by rw [HST.out, hbt, Bool.false_and]
        have hd : b = false := by rw [← HRB.out, hbf, Bool.false_and]
        subst hd
        clear HRB HBI HST hbf
        go_wp2_with fail
        go_ret
        exact ⟨rfl, hbv⟩
       ·have hbt : btw z (l0 + 1) ((fs.length : Int) - 1) = true := btw_iff.2 (by omega)
        have hs2 : idxB (fs.length : Int) (lastZ zs (k + 1)) (zs.drop (k + 1)) = bi := by rw [HLN.out, HST.out, hbt, Bool.true_and]
        have HS2 := hid hs2; clear hs2 hbt
        have HLA2 := hid (show -1 ≤ lastZ zs (k + 1) by rw [HLN.out]; omega)
        go_wp2_with fail
        go_roundg (zs.length - (k + 1))
        case measure => have h := HGK.out; omega
        case rel => exact ⟨k + 1, by omega, rfl, by go_num, HS2, HLA2, rfl⟩
      ·have hlz : l0 = -1 := by rw [← HL0.out, show k = 0 by omega]; rfl
       have hbt : btw z (l0 + 1) ((fs.length : Int) - 1) = true := btw_iff.2 (by omega)
       have hs2 : idxB (fs.length : Int) (lastZ zs (k + 1)) (zs.drop (k + 1)) = bi := by rw [HLN.out, HST.out, hbt, Bool.true_and]
       have HS2 := hid hs2; clear hs2 hbt
       have HLA2 := hid (show -1 ≤ lastZ zs (k + 1) by rw [HLN.out]; omega)
       go_wp2_with fail
       go_roundg (zs.length - (k + 1))
       case measure => have h := HGK.out; omega
       case rel => exact ⟨k + 1, by omega, rfl, by go_num, HS2, HLA2, rfl⟩
   ·obtain rfl : k = zs.length := by omega
    have hbt : bi = true := idx_end (Nat.le_refl _) HP.out
    subst hbt
    have hrb : (troubleA ⟨bid, bwi, bde, bce, bhi, bbe⟩ (chosenL fs zs) 5 && allNeed ⟨bid, bwi, bde, bce, bhi, bbe⟩ fs 5 zs zs.length) = b := by rw [← HRB.out, Bool.true_and]
    have hzr : ∀ z ∈ zs, 0 ≤ z ∧ z < (fs.length : Int) := fun z hz => (idx_all (show (-1 : Int) ≤ -1 by omega) HBI.out z hz).2
    have hzl := idx_len (show (-1 : Int) ≤ -1 by omega) HBI.out
    have hzl2 : zs.length ≤ fs.length := by omega
    clear HRB HP HLA hzl
    obtain ⟨cs, hcs⟩ : ∃ cs, chosenL fs zs = cs := ⟨_, rfl⟩
    obtain ⟨tb, htb⟩ : ∃ tb, troubleA ⟨bid, bwi, bde, bce, bhi, bbe⟩ cs 5 = tb := ⟨_, rfl⟩
    have hok1 := chosen_ok hok hzr
    have hn1 : (chosenL fs zs).length ≤ 5 := by rw [chosen_len]; omega
    rw [hcs] at hok1 hn1 hrb
    rw [htb] at hrb
    have hch : ∀ (W' : World), Below v1.heap.size v1 W' → Calls Tryz.prog 92 #[.slice la fs.length lc, .slice ra zs.length rc] W' (fun e w'' => ∃ u, e = .returned u ∧ Below W'.heap.size W' w'' ∧ w''.ownsRow v1.heap.size 34 4 u cs.length (cs.flatMap cellsF)) := fun W' hb => by
     rw [← hcs]; refine (rSome (hl1.below hb) (by omega) (hzn1.below hb) (by omega) hzr).mono ?_
     rintro e w'' ⟨u, rfl, h2, h3⟩
     exact ⟨u, rfl, h2, owns_base hb.size h3⟩
    have htr : ∀ (W' : World) (u : Value), W'.ownsRow v1.heap.size 34 4 u cs.length (cs.flatMap cellsF) → Calls Tryz.prog 90 #[.agg #[.int .i64 bid, .int .i64 bwi, .int .i64 bde, .int .i64 bce, .int .i64 bhi, .int .i64 bbe], u, .int .i64 5] W' (Ret W' (.bool tb)) := fun W' u h => rBad5 HX.out (feetAt_of_owns hok1 h) hok1 hn1 htb
    have HRS := hid hrb; have HCH := hid hch; have HTR := hid htr; have HZR := hid hzr; clear hrb hch htr hzr hok1 hn1 htb hcs
    go_upto_region 17 with fail
    refine wp_region_Rs [(4, fun v W => W.ownsRow v1.heap.size 34 4 v cs.length (cs.flatMap cellsF)), (7, fun v _ => v = .bool tb)] [0, 1, 2, 3, 4, 5, 6, 7, 8] 0 (by kernel_rfl) rfl (by simp only [List.forall_mem_cons]; exact ⟨keeps_owns, keeps_eq, fun _ h => by cases h⟩) (by kernel_rfl) ?_
    simp only [numbered, List.filterMap_cons, List.filterMap_nil, List.getElem?_toArray, List.getElem?_cons_succ, List.getElem?_cons_zero, Option.map_some]
    show wpS _ _ _ _ _ _ _ [(_, _), (_, _), (_, _), (_, _), (_, _), (_, _), (_, _), (_, _), (_, _)] _ _
    (refine wpS_quiet rfl rfl ?_; intro K hK inst hx; have sq0 := fun x => (fun _ => bkeep (BQ.below x) q0) (hx x); have sq1 := fun x => (fun _ => bkeep (BQ.below x) q1) (hx x); have sq2 := fun x => (fun _ => bkeep (BQ.below x) q2) (hx x); have sq3 := fun x => (fun _ => bkeep (BQ.below x) q3) (hx x); have sq4 := fun x => (fun _ => bkeep (BQ.below x) q4) (hx x); have sq5 := fun x => (fun _ => bkeep (BQ.below x) q5) (hx x); go_big_quiet_op; go_big_quiet_on; clear hx inst)
    (refine wpS_quiet rfl rfl ?_; intro K hK inst hx; go_big_quiet_op; go_big_quiet_on; clear hx inst)
    (refine wpS_quiet rfl rfl ?_; intro K hK inst hx; go_big_quiet_op; go_big_quiet_on; clear hx inst)
    (refine wpS_quiet rfl rfl ?_; intro K hK inst hx; have sq7 := fun x => (fun _ => bkeep (BQ.below x) q7) (hx x); go_big_quiet_op; go_big_quiet_on; clear hx inst)
    refine wpS_fresh rfl rfl (fun w' hb hF => ?_) ?_
    ·change freshAt _ _ _ (fun v W => W.ownsRow v1.heap.size 34 4 v cs.length (cs.flatMap cellsF)) _; unfold freshAt; go_simp; exact HCH.out _ hb
    intro v W hv; simp only [pOf, List.lookup_cons, Nat.reduceBEq, beq_self_eq_true] at hv; obtain ⟨ca, cc, rfl, -⟩ := owns_shape hv
    simp only [Act.put, List.setIfInBounds_toArray, List.set_cons_succ, List.set_cons_zero]
    (refine wpS_quiet rfl rfl ?_; intro K hK inst hx; go_big_quiet_op; go_big_quiet_on; clear hx inst)
    (refine wpS_quiet rfl rfl ?_; intro K hK inst hx; have sq6 := fun x => (fun _ => bkeep (BQ.below x) q6) (hx x); go_big_quiet_op; go_big_quiet_on; clear hx inst)
    refine wpS_fresh rfl rfl (fun w' hb hF => ?_) ?_
    ·change freshAt _ _ _ (fun v _ => v = .bool tb) _; have h4 := hF 4 _ rfl (by kernel_rfl); unfold freshAt; go_simp; exact HTR.out _ _ h4
    intro v W hv; simp only [pOf, List.lookup_cons, Nat.reduceBEq, beq_self_eq_true] at hv; subst hv
    simp only [Act.put, List.setIfInBounds_toArray, List.set_cons_succ, List.set_cons_zero]
    (refine wpS_quiet rfl rfl ?_; intro K hK inst hx; go_big_quiet_op; go_big_quiet_on; clear hx inst)
    refine wpS_nil ?_
    intro w2 hall
    have hb := hall.1
    clear hall
    refine wpAny_done (by kernel_rfl) ?_ _
    obtain ⟨v2, hv2⟩ : ∃ v, v = w2 := ⟨_, rfl⟩
    subst hv2
    replace hbv := bnext (w := w) hbv hb
    replace q0 := bkeep hb q0
    replace q1 := bkeep hb q1
    replace q2 := bkeep hb q2
    replace q3 := bkeep hb q3
    replace q4 := bkeep hb q4
    replace q5 := bkeep hb q5
    replace q6 := bkeep hb q6
    replace q7 := bkeep hb q7
    replace hl1 := hl1.below hb
    replace hzn1 := hzn1.below hb
    clear hb HCH HTR
    cases tb
    ·have hd : b = false := by rw [← HRS.out]; rfl
     subst hd
     clear HRS
     go_wp2_with fail
     go_ret
     exact ⟨rfl, hbv⟩
    ·have hrs : allNeed ⟨bid, bwi, bde, bce, bhi, bbe⟩ fs 5 zs zs.length = b := by rw [← HRS.out]; rfl
     have HRB := hid hrs; clear HRS hrs
     go_wp2_with fail
     go_loopg [9, 101] zs.length (fun gk _ kv wr => ∃ k : Nat, k ≤ zs.length ∧ gk = zs.length - k ∧ kv = .int .i64 k ∧ Hid (∀ j, j < k → troubleA ⟨bid, bwi, bde, bce, bhi, bbe⟩ (chosenL fs (zs.eraseIdx j)) 5 = false) ∧ Below v2.heap.size v2 wr)
     case atStart => exact ⟨0, Nat.zero_le _, rfl, rfl, (fun j h => by omega), Below.refl _ _⟩
     case round =>
      obtain ⟨k, hk, hgk, rfl, HT, hB⟩ := hrel
      have HGK := hid hgk; clear hgk
      have hb1 : Below w.heap.size w wr := bnext (w := w) hbv hB
      by_cases hlt : k < zs.length
      ·have hki : (k : Int) < (zs.length : Int) := by omega
       have hlw := hl1.below hB; have hzw := hzn1.below hB
       replace q0 := bkeep hB q0
       replace q1 := bkeep hB q1
       replace q2 := bkeep hB q2
       replace q3 := bkeep hB q3
       replace q4 := bkeep hB q4
       replace q5 := bkeep hB q5
       replace q6 := bkeep hB q6
       replace q7 := bkeep hB q7
       have hel : (zs.eraseIdx k).length = zs.length - 1 := by rw [List.length_eraseIdx_of_lt hlt]
       obtain ⟨l1, hl1e⟩ : ∃ l1, zs.eraseIdx k = l1 := ⟨_, rfl⟩
       obtain ⟨cs2, hcs⟩ : ∃ cs, chosenL fs l1 = cs := ⟨_, rfl⟩
       obtain ⟨tb2, htb⟩ : ∃ tb, troubleA ⟨bid, bwi, bde, bce, bhi, bbe⟩ cs2 5 = tb := ⟨_, rfl⟩
       have hz1 : ∀ z ∈ l1, 0 ≤ z ∧ z < (fs.length : Int) := fun z h => HZR.out z (List.mem_of_mem_eraseIdx (hl1e ▸ h))
       have hi1 : ∀ z ∈ l1, I64 z := fun z h => hzn1.i64 z (List.mem_of_mem_eraseIdx (hl1e ▸ h))
       have hok1 := chosen_ok hok hz1
       have hl1n : l1.length ≤ 5 := by rw [← hl1e, hel]; omega
       have hn1 : (chosenL fs l1).length ≤ 5 := by rw [chosen_len]; exact hl1n
       rw [hcs] at hok1 hn1
       have hwo : ∀ W' : World, Below wr.heap.size wr W' → Calls Tryz.prog 91 #[.slice ra zs.length rc, .int .i64 (k : Int)] W' (fun e w'' => ∃ u, e = .returned u ∧ Below W'.heap.size W' w'' ∧ w''.ownsRow wr.heap.size 3 1 u l1.length (l1.map (Value.int .i64))) := fun W' hb => by
        rw [← hl1e]; refine (rWithout (hzw.below hb) hlt (by omega)).mono ?_
        rintro e w'' ⟨u, rfl, h2, h3⟩
        exact ⟨u, rfl, h2, owns_base hb.size h3⟩
       have hch : ∀ (W' : World) (v : Value), Below wr.heap.size wr W' → W'.ownsRow wr.heap.size 3 1 v l1.length (l1.map (Value.int .i64)) → Calls Tryz.prog 92 #[.slice la fs.length lc, v] W' (fun e w'' => ∃ u, e = .returned u ∧ Below W'.heap.size W' w'' ∧ w''.ownsRow wr.heap.size 34 4 u cs2.length (cs2.flatMap cellsF)) := fun W' v hb hv => by
        rw [← hcs]; refine (rSome (hlw.below hb) (by omega) (numsAt_of_owns hi1 hv) (by omega) hz1).mono ?_
        rintro e w'' ⟨u, rfl, h2, h3⟩
        exact ⟨u, rfl, h2, owns_base hb.size h3⟩
       have htr : ∀ (W' : World) (u : Value), W'.ownsRow wr.heap.size 34 4 u cs2.length (cs2.flatMap cellsF) → Calls Tryz.prog 90 #[.agg #[.int .i64 bid, .int .i64 bwi, .int .i64 bde, .int .i64 bce, .int .i64 bhi, .int .i64 bbe], u, .int .i64 5] W' (Ret W' (.bool tb2)) := fun W' u h => rBad5 HX.out (feetAt_of_owns hok1 h) hok1 hn1 htb
       have htk : troubleA ⟨bid, bwi, bde, bce, bhi, bbe⟩ (chosenL fs (zs.eraseIdx k)) 5 = tb2 := by rw [hl1e, hcs, htb]
       have HTK := hid htk; have HWO := hid hwo; have HCH := hid hch; have HTR := hid htr; clear htk hwo hch htr hok1 hn1 htb hcs hz1 hi1 hel hl1e hl1n hlw hzw
       go_upto_region 22 with fail
       refine wp_region_Rs [(5, fun v W => W.ownsRow wr.heap.size 3 1 v l1.length (l1.map (Value.int .i64))), (6, fun v W => W.ownsRow wr.heap.size 34 4 v cs2.length (cs2.flatMap cellsF)), (9, fun v _ => v = .bool tb2)] [0, 1, 2, 3, 4, 5, 6, 7, 8, 9] 0 (by kernel_rfl) rfl (by simp only [List.forall_mem_cons]; exact ⟨keeps_owns, keeps_owns, keeps_eq, fun _ h => by cases h⟩) (by kernel_rfl) ?_
       simp only [numbered, List.filterMap_cons, List.filterMap_nil, List.getElem?_toArray, List.getElem?_cons_succ, List.getElem?_cons_zero, Option.map_some]
       show wpS _ _ _ _ _ _ _ [(_, _), (_, _), (_, _), (_, _), (_, _), (_, _), (_, _), (_, _), (_, _), (_, _)] _ _
       (refine wpS_quiet rfl rfl ?_; intro K hK inst hx; have sq0 := fun x => (fun _ => bkeep (BQ.below x) q0) (hx x); have sq1 := fun x => (fun _ => bkeep (BQ.below x) q1) (hx x); have sq2 := fun x => (fun _ => bkeep (BQ.below x) q2) (hx x); have sq3 := fun x => (fun _ => bkeep (BQ.below x) q3) (hx x); have sq4 := fun x => (fun _ => bkeep (BQ.below x) q4) (hx x); have sq5 := fun x => (fun _ => bkeep (BQ.below x) q5) (hx x); go_big_quiet_op; go_big_quiet_on; clear hx inst)
       (refine wpS_quiet rfl rfl ?_; intro K hK inst hx; go_big_quiet_op; go_big_quiet_on; clear hx inst)
       (refine wpS_quiet rfl rfl ?_; intro K hK inst hx; go_big_quiet_op; go_big_quiet_on; clear hx inst)
       (refine wpS_quiet rfl rfl ?_; intro K hK inst hx; have sq7 := fun x => (fun _ => bkeep (BQ.below x) q7) (hx x); go_big_quiet_op; go_big_quiet_on; clear hx inst)
       (refine wpS_quiet rfl rfl ?_; intro K hK inst hx; go_big_quiet_op; go_big_quiet_on; clear hx inst)
       refine wpS_fresh rfl rfl (fun w' hb hF => ?_) ?_
       ·change freshAt _ _ _ (fun v W => W.ownsRow wr.heap.size 3 1 v l1.length (l1.map (Value.int .i64))) _; unfold freshAt; go_simp; exact HWO.out _ hb
       intro v W hv; simp only [pOf, List.lookup_cons, Nat.reduceBEq, beq_self_eq_true] at hv; obtain ⟨ua, uc, rfl, -⟩ := owns_shape hv
       simp only [Act.put, List.setIfInBounds_toArray, List.set_cons_succ, List.set_cons_zero]
       refine wpS_fresh rfl rfl (fun w' hb hF => ?_) ?_
       ·change freshAt _ _ _ (fun v W => W.ownsRow wr.heap.size 34 4 v cs2.length (cs2.flatMap cellsF)) _; have h4 := hF 5 _ rfl (by kernel_rfl); unfold freshAt; go_simp; exact HCH.out _ _ hb h4
       intro v W hv; simp only [pOf, List.lookup_cons, Nat.reduceBEq, beq_self_eq_true] at hv; obtain ⟨ca, cc, rfl, -⟩ := owns_shape hv
       simp only [Act.put, List.setIfInBounds_toArray, List.set_cons_succ, List.set_cons_zero]
       (refine wpS_quiet rfl rfl ?_; intro K hK inst hx; go_big_quiet_op; go_big_quiet_on; clear hx inst)
       (refine wpS_quiet rfl rfl ?_; intro K hK inst hx; have sq6 := fun x => (fun _ => bkeep (BQ.below x) q6) (hx x); go_big_quiet_op; go_big_quiet_on; clear hx inst)
       refine wpS_fresh rfl rfl (fun w' hb hF => ?_) ?_
       ·change freshAt _ _ _ (fun v _ => v = .bool tb2) _; have h4 := hF 6 _ rfl (by kernel_rfl); unfold freshAt; go_simp; exact HTR.out _ _ h4
       intro v W hv; simp only [pOf, List.lookup_cons, Nat.reduceBEq, beq_self_eq_true] at hv; subst hv
       simp only [Act.put, List.setIfInBounds_toArray, List.set_cons_succ, List.set_cons_zero]
       refine wpS_nil ?_
       intro w8 hall
       have hb := hall.1
       clear hall
       refine wpAny_done (by kernel_rfl) ?_ _
       replace hb1 := bnext (w := w) hb1 hb
       replace hB := bnext (w := v2) hB hb
       clear hb HCH HTR HWO q0 q1 q2 q3 q4 q5 q6 q7
       cases tb2
       ·have HT2 := hid (show ∀ j, j < k + 1 → troubleA ⟨bid, bwi, bde, bce, bhi, bbe⟩ (chosenL fs (zs.eraseIdx j)) 5 = false from fun j hj => by (rcases Nat.lt_or_ge j k with h3 | h3); exact HT.out j h3; rw [show j = k by omega]; exact HTK.out)
        clear HT HTK
        go_wp2_with fail
        go_roundg (zs.length - (k + 1))
        case measure => have h := HGK.out; omega
        case rel => exact ⟨k + 1, by omega, rfl, by go_num, HT2, hB⟩
       ·have hd : b = false := by rw [← HRB.out, allNeed_down hlt HTK.out]
        subst hd
        clear HRB HT HTK
        go_wp2_with fail
        go_ret
        exact ⟨rfl, hb1⟩
      ·obtain rfl : k = zs.length := by omega
       have hd : b = true := by rw [← HRB.out, allNeed_all HT.out]
       subst hd
       clear HRB HT
       go_wp2_with fail
       go_ret
       exact ⟨rfl, hb1⟩
set_option maxRecDepth 100000 in
set_option maxHeartbeats 1000000 in
theorem rReason {w : World} {bid bwi bde bce bhi bbe kind : Int} {lv rv : Value} {fs : List Ft} {zs : List Int} {b : Bool} (hX : boxOk ⟨bid, bwi, bde, bce, bhi, bbe⟩ = true) (hl : FeetAt w lv fs) (hok : ∀ f ∈ fs, FtOk f) (hn : fs.length ≤ 5) (hzn : NumsAt w rv zs) (hb : reasonB ⟨bid, bwi, bde, bce, bhi, bbe⟩ fs kind zs = b) :
  Calls Tryz.prog 99 #[.agg #[.int .i64 bid, .int .i64 bwi, .int .i64 bde, .int .i64 bce, .int .i64 bhi, .int .i64 bbe], lv, .agg #[.int .i64 kind, rv]] w (Ret w (.bool b)) := by
 by_cases h1 : kind = 1
 ·subst h1; exact rReason1 hX hl hok hn hzn hb
 by_cases h2 : kind = 2
 ·subst h2; exact rReason2 hX hl hok hn hzn hb
 by_cases h3 : kind = 3
 ·subst h3; exact rReason3 hX hl hok hn hzn hb
 by_cases h4 : kind = 4
 ·subst h4; exact rReason4 hX hl hok hn hzn hb
 by_cases h5 : kind = 5
 ·subst h5; exact rReason5 hX hl hok hn hzn hb
 exact rReason0 hX hl hok hn hzn h1 h2 h3 h4 h5 hb
end Go.Proofs.YtodmidchpbcnpaaGreat