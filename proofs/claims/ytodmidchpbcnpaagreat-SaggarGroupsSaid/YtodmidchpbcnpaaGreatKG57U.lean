/- Part of a claim. -/
import Derived.Test.YtodmidchpbcnpaaGreatG56U
import Derived.Test.YtodmidchpbcnpaaGreatKG14U
import Derived.Test.YtodmidchpbcnpaaGreatG16U
import Derived.Test.YtodmidchpbcnpaaGreatW24U
import Derived.Test.YtodmidchpbcnpaaGreatG64U
import Derived.Test.YtodmidchpbcnpaaGreatKTjU
import Derived.Test.YtodmidchpbcnpaaGreatKSmU
import Derived.Lib.MinMax
set_option linter.unusedVariables false
set_option linter.unusedSimpArgs false
namespace Go.Proofs.YtodmidchpbcnpaaGreat
open Go.RowKit Go.Pb Go.Pb.Ware Go.Pb.Sag


set_option maxRecDepth 100000 in
set_option maxHeartbeats 2000000 in
theorem rPackable {w : World} {bid bwi bde bce bhi bbe : Int} {lv : Value} {fs : List Ft} (hX : boxOk ⟨bid, bwi, bde, bce, bhi, bbe⟩ = true) (hl : FeetAt w lv fs) (hok : ∀ f ∈ fs, FtOk f) (hn : fs.length ≤ 5) {b : Bool} (hb : fitsB ⟨bid, bwi, bde, bce, bhi, bbe⟩ fs = b) :
  Calls Tryz.prog 95 #[.agg #[.int .i64 bid, .int .i64 bwi, .int .i64 bde, .int .i64 bce, .int .i64 bhi, .int .i64 bbe], lv] w (Ret w (.bool b)) := by
 unfold Ret
 have hX2 := boxOk_iff.1 hX
 dsimp only at hX2
 obtain ⟨lo, hlo⟩ : ∃ z, lowB ⟨bid, bwi, bde, bce, bhi, bbe⟩ fs = z := ⟨_, rfl⟩
 obtain ⟨n0, hn0⟩ : ∃ z, areaL fs = z := ⟨_, rfl⟩
 obtain ⟨rb, hrb⟩ : ∃ z, roomB ⟨bid, bwi, bde, bce, bhi, bbe⟩ fs 0 = z := ⟨_, rfl⟩
 have hbb : (lo && (decide (n0 ≤ bwi * bde) && rb)) = b := by rw [← hb, ← packable_fits, hlo, hn0, hrb]
 have hbd : 0 ≤ n0 ∧ n0 ≤ 5 * 4410000 := by have h := areaL_bd hok fs.length; rw [List.take_length, hn0] at h; omega
 have hmm := mul_bd bwi bde 6 6 (by omega) (by omega) (by omega) (by omega)
 have h1 : ∀ W' : World, Below w.heap.size w W' → Calls Tryz.prog 135 #[.agg #[.int .i64 bid, .int .i64 bwi, .int .i64 bde, .int .i64 bce, .int .i64 bhi, .int .i64 bbe], lv] W' (Ret W' (.bool lo)) := fun W' hb => rLow (hl.below hb) hok (by omega) hlo
 have h2 : ∀ W' : World, Below w.heap.size w W' → Calls Tryz.prog 82 #[lv] W' (Ret W' (.int .i64 n0)) := fun W' hb => hn0 ▸ rArea (hl.below hb) hok (by omega)
 have h3 : ∀ W' : World, Below w.heap.size w W' → Calls Tryz.prog 148 #[.agg #[.int .i64 bid, .int .i64 bwi, .int .i64 bde, .int .i64 bce, .int .i64 bhi, .int .i64 bbe], lv, .int .i64 0] W' (Ret W' (.bool rb)) := fun W' hb => rRoom (u := 0) (t := 0) hX fs.length rfl hn (hl.below hb) hok (by decide) rel_zero hrb
 have H1 := hid h1; have H2 := hid h2; have H3 := hid h3; have HBB := hid hbb; clear h1 h2 h3 hbb hb hX hX2 hlo hn0 hrb hl hok hn
 go_enter Tryz.func95, Tryz.ntmps95
 go_upto_region 1 with fail
 generalize hW : World.alloc w _ = v1
 have c0 : v1.cell? ⟨w.heap.size, 0, none⟩ = some (.int .i64 bid) := by rw [← hW]; simp [go_sem]
 have c1 : v1.cell? ⟨w.heap.size, 1, none⟩ = some (.int .i64 bwi) := by rw [← hW]; simp [go_sem]
 have c2 : v1.cell? ⟨w.heap.size, 2, none⟩ = some (.int .i64 bde) := by rw [← hW]; simp [go_sem]
 have c3 : v1.cell? ⟨w.heap.size, 3, none⟩ = some (.int .i64 bce) := by rw [← hW]; simp [go_sem]
 have c4 : v1.cell? ⟨w.heap.size, 4, none⟩ = some (.int .i64 bhi) := by rw [← hW]; simp [go_sem]
 have c5 : v1.cell? ⟨w.heap.size, 5, none⟩ = some (.int .i64 bbe) := by rw [← hW]; simp [go_sem]
 have hbv : Below w.heap.size w v1 := by rw [← hW]; exact (Below.refl _ _).alloc (Nat.le_refl _) _
 clear hW
 have x0 := fun x : BW v1 => bkeep x.below c0
 have x1 := fun x : BW v1 => bkeep x.below c1
 have x2 := fun x : BW v1 => bkeep x.below c2
 have x3 := fun x : BW v1 => bkeep x.below c3
 have x4 := fun x : BW v1 => bkeep x.below c4
 have x5 := fun x : BW v1 => bkeep x.below c5
 have hw' := fun x : BW v1 => bnext (w := w) hbv x.below
 cases lo
 ·refine wp_region_qb (by kernel_rfl) (by kernel_rfl) fun hc => ?_
  repeat (go_big_quiet_step ((first | (go_at_call 135; exact BW.call _ (H1.out _ (hw' _))) | (go_at_call 82; exact BW.call _ (H2.out _ (hw' _))) | (go_at_call 148; exact BW.call _ (H3.out _ (hw' _))))))
  refine wpQuiet_nil ?_
  intro w9 hb
  replace hbv := bnext (w := w) hbv hb
  go_wp2_with fail
  go_ret
  exact ⟨ret_bool (by first | exact HBB.out | (rw [← HBB.out]; rfl) | (rw [← HBB.out]; simp [*])), hbv⟩
 ·by_cases hle : n0 ≤ bwi * bde
  ·have hd : decide (n0 ≤ bwi * bde) = true := decide_eq_true hle
   refine wp_region_qb (by kernel_rfl) (by kernel_rfl) fun hc => ?_
   repeat (go_big_quiet_step ((first | (go_at_call 135; exact BW.call _ (H1.out _ (hw' _))) | (go_at_call 82; exact BW.call _ (H2.out _ (hw' _))) | (go_at_call 148; exact BW.call _ (H3.out _ (hw' _))))))
   refine wpQuiet_nil ?_
   intro w9 hb
   replace hbv := bnext (w := w) hbv hb
   go_wp2_with fail
   go_ret
   exact ⟨ret_bool (by first | exact HBB.out | (rw [← HBB.out]; rfl) | (rw [← HBB.out]; simp [*])), hbv⟩
  ·have hd : decide (n0 ≤ bwi * bde) = false := decide_eq_false hle
   refine wp_region_qb (by kernel_rfl) (by kernel_rfl) fun hc => ?_
   repeat (go_big_quiet_step ((first | (go_at_call 135; exact BW.call _ (H1.out _ (hw' _))) | (go_at_call 82; exact BW.call _ (H2.out _ (hw' _))) | (go_at_call 148; exact BW.call _ (H3.out _ (hw' _))))))
   refine wpQuiet_nil ?_
   intro w9 hb
   replace hbv := bnext (w := w) hbv hb
   go_wp2_with fail
   go_ret
   exact ⟨ret_bool (by first | exact HBB.out | (rw [← HBB.out]; rfl) | (rw [← HBB.out]; simp [*])), hbv⟩
end Go.Proofs.YtodmidchpbcnpaaGreat
namespace Go.Proofs.YtodmidchpbcnpaaGreat
open Go.RowKit Go.Pb Go.Pb.Ware Go.Pb.Sag


set_option maxRecDepth 100000 in
set_option maxHeartbeats 2000000 in
theorem rSome {w : World} {lv v : Value} {fs : List Ft} {zs : List Int} (hl : FeetAt w lv fs) (hn : fs.length ≤ 1000) (hi : NumsAt w v zs) (hzn : zs.length ≤ 1000) (hz : ∀ z ∈ zs, 0 ≤ z ∧ z < (fs.length : Int)) :
  Calls Tryz.prog 92 #[lv, v] w (NewFeet 34 (chosenL fs zs) w) := by
 obtain ⟨i0, hi0, hz0, hz1, hz2⟩ := info_parts Tryz.infoF
 obtain ⟨a, cap, rfl, hl1, hl2⟩ := hi.shape
 obtain ⟨la, lc, rfl, hll⟩ := hl.shape
 rw [List.length_map] at hl hll ⊢
 unfold NewFeet
 go_enter Tryz.func92, Tryz.ntmps92
 go_wp2_with fail
 go_loopg [5, 7, 10] zs.length (fun gk fv _ iv wr => ∃ k : Nat, k ≤ zs.length ∧ gk = zs.length - k ∧ iv = .int .i64 k ∧ wr.ownsRow w.heap.size 34 4 fv k ((chosenL fs (zs.take k)).flatMap cellsF) ∧ Below w.heap.size w wr)
 case atStart => exact ⟨0, Nat.zero_le _, rfl, rfl, by simpa [chosenL] using World.ownsRow_nil _ _ _ _, Below.refl _ _⟩
 case round =>
  obtain ⟨k, hk, hgk, rfl, ho, hb0⟩ := hrel
  have HGK := hid hgk; clear hgk
  have hzr := hb0.size
  obtain ⟨ua, uc, rfl, hul⟩ := owns_shape ho
  by_cases hlt : k < zs.length
  ·obtain ⟨a', ha, r0⟩ := (hi.below hb0).elem hlt
   subst ha
   obtain ⟨m, hm⟩ : ∃ m : Nat, zs[k] = (m : Int) := ⟨zs[k].toNat, by have := hz zs[k] (List.getElem_mem hlt); omega⟩
   have hmb : m < fs.length := by have := hz zs[k] (List.getElem_mem hlt); omega
   rw [hm] at r0
   obtain ⟨b', hb', hrl, hc0, hcc⟩ := (show RowsAt 4 wr (.slice la (fs.map rowF).length lc) (fs.map rowF) by rw [List.length_map]; exact hl.below hb0).row (k := m) (by rw [List.length_map]; exact hmb)
   subst hb'
   obtain ⟨f, hf⟩ : ∃ f, f = fs[m] := ⟨_, rfl⟩
   have hfs : fs[m]? = some f := by rw [hf]; exact List.getElem?_eq_getElem hmb
   obtain ⟨fw, fd, fh, fg⟩ := f
   have hat : (fs.map rowF)[m]'(by rw [List.length_map]; exact hmb) = [fw, fd, fh, fg] := by rw [List.getElem_map, ← hf]; rfl
   rw [hat] at hc0 hcc
   have p0 := hc0 _ rfl
   have p1 := hcc 1 _ (by decide) rfl
   have p2 := hcc 2 _ (by decide) rfl
   have p3 := hcc 3 _ (by decide) rfl
   clear hc0 hcc hat hrl hf
   have HE := hid (chosen_snoc (fs := fs) hlt hm hfs)
   clear hm hfs
   have hkl : (k : Int) < (zs.length : Int) := by omega
   have hmi : (m : Int) < (fs.length : Int) := by omega
   go_wp2_with (at_builtin; go_must (refine wpList_append_own _ rfl _ _ 38 rfl w.heap.size 34 i0 (.agg #[.int .i64 0, .int .i64 0, .int .i64 0, .int .i64 0]) 4 32 Tryz.underlying38 hi0 hz0 hz1 hz2 rfl (by decide) _ _ _ rfl (ho.alloc _) ⟨wr.heap.size, 0, none⟩ 1 1 (cellsF (⟨fw, fd, fh, fg⟩ : Ft)) rfl rfl ?c1 one_cellsF (by unfold maxLen; omega) (by omega) (by simp; omega) ?_; (case c1 => exact new_cellsF wr (⟨fw, fd, fh, fg⟩ : Ft) 34); intro v' w4 ho4 hg4 hnil; replace hb0 := below_grown (hb0.alloc (by omega) _) hg4 (ho.alloc _) (by simp; omega) (by omega); clear hg4 hnil ho))
   rw [HE.out] at ho4
   have HO := hid ho4; clear ho4 HE
   go_roundg (zs.length - (k + 1))
   case measure => have h := HGK.out; omega
   case rel => exact ⟨k + 1, by omega, rfl, by go_num, HO.out, hb0⟩
  ·obtain rfl : k = zs.length := by omega
   rw [List.take_length] at ho
   go_wp2_with fail
   go_ret
   exact ⟨_, rfl, hb0, by rw [show (chosenL fs zs).length = zs.length from List.length_map ..]; exact ho⟩
def cellsI (z : Int) : List Value := [.int .i64 z]
theorem flatI (zs : List Int) : zs.flatMap cellsI = zs.map (Value.int .i64) := by
 induction zs with
 | nil => rfl
 | cons z zs ih => rw [List.flatMap_cons, ih]; rfl
end Go.Proofs.YtodmidchpbcnpaaGreat
namespace Go.Proofs.YtodmidchpbcnpaaGreat
open Go.RowKit Go.Pb Go.Pb.Ware Go.Pb.Sag


def PartRes (r : Option (List Nat × Nat)) (W : World) (e : Ending) (w' : World) : Prop := ∃ v, e = .returned v ∧ Below W.heap.size W w' ∧ ((∃ p, r = some p ∧ NumsAt w' v (castL p.1)) ∨ (r = none ∧ v = .slice none 0 0))
theorem PartRes.yes {r : Option (List Nat × Nat)} {W w' : World} {v : Value} {p : List Nat × Nat} (hb : Below W.heap.size W w') (hr : r = some p) (hn : NumsAt w' v (castL p.1)) : PartRes r W (.returned v) w' := ⟨v, rfl, hb, .inl ⟨p, hr, hn⟩⟩
theorem PartRes.no {r : Option (List Nat × Nat)} {W w' : World} (hb : Below W.heap.size W w') (hr : r = none) : PartRes r W (.returned (.slice none 0 0)) w' := ⟨_, rfl, hb, .inr ⟨hr, rfl⟩⟩
theorem castL_snoc (of : List Nat) (g : Nat) : castL (of ++ [g]) = castL of ++ [(g : Int)] := by unfold castL; rw [List.map_append]; rfl
theorem castL_small {of : List Nat} (h : ∀ x ∈ of, x < 1000) : ∀ z ∈ castL of, I64 z := fun z hz => by
 unfold castL at hz
 obtain ⟨x, hx, rfl⟩ := List.mem_map.1 hz
 have := h x hx
 exact I64.mk (by omega) (by omega)
set_option maxRecDepth 100000 in
set_option maxHeartbeats 1000000 in
theorem rPartition {bid bwi bde bce bhi bbe : Int} {fs : List Ft} {most : Nat} {fv : Value} (hX : boxOk ⟨bid, bwi, bde, bce, bhi, bbe⟩ = true) (hok : ∀ f ∈ fs, FtOk f) (hn : fs.length ≤ 5) (hm5 : most ≤ 5) : ∀ (d : Nat) (of : List Nat) (used : Nat) (v : Value) (w : World), of.length + d = fs.length → (∀ x ∈ of, x < used) → used ≤ most → FeetAt w fv fs → NumsAt w v (castL of) →
  Calls Tryz.prog 102 #[.agg #[.int .i64 bid, .int .i64 bwi, .int .i64 bde, .int .i64 bce, .int .i64 bhi, .int .i64 bbe], fv, v, .int .i64 (used : Int), .int .i64 (most : Int)] w (PartRes (partF ⟨bid, bwi, bde, bce, bhi, bbe⟩ fs most d of used) w) := by
 intro d
 induction d with
 | zero =>
  intro of used v w hd hlt hu hf ho
  obtain ⟨fa, fc, rfl, hfl⟩ := hf.shape
  rw [List.length_map] at hf hfl ⊢
  obtain ⟨oa, oc, rfl, hol1, hol2⟩ := ho.shape
  rw [castL_len] at hol1 ⊢
  obtain ⟨m, hmm⟩ : ∃ m, of.length = m := ⟨_, rfl⟩
  have hfm : fs.length = m := by omega
  have HM := hid hmm; have HFM := hid hfm
  rw [castL_len] at ho
  rw [hmm] at hol1 ho ⊢
  rw [hfm] at hf hfl ⊢
  clear hmm hfm hd
  have hm5' : m ≤ 5 := by have := HFM.out; omega
  have HLT := hid hlt; clear hlt
  go_enter Tryz.func102, Tryz.ntmps102
  go_upto_region 1 with fail
  generalize hW : World.alloc w _ = v1
  have c0 : v1.cell? ⟨w.heap.size, 0, none⟩ = some (.int .i64 bid) := by rw [← hW]; simp [go_sem]
  have c1 : v1.cell? ⟨w.heap.size, 1, none⟩ = some (.int .i64 bwi) := by rw [← hW]; simp [go_sem]
  have c2 : v1.cell? ⟨w.heap.size, 2, none⟩ = some (.int .i64 bde) := by rw [← hW]; simp [go_sem]
  have c3 : v1.cell? ⟨w.heap.size, 3, none⟩ = some (.int .i64 bce) := by rw [← hW]; simp [go_sem]
  have c4 : v1.cell? ⟨w.heap.size, 4, none⟩ = some (.int .i64 bhi) := by rw [← hW]; simp [go_sem]
  have c5 : v1.cell? ⟨w.heap.size, 5, none⟩ = some (.int .i64 bbe) := by rw [← hW]; simp [go_sem]
  have hb0 : Below w.heap.size w v1 := by rw [← hW]; exact (Below.refl _ _).alloc (Nat.le_refl _) _
  clear hW
  have HO0 := hid ho; have HF0 := hid hf
  go_wp2_with fail
  refine (rGrouped (of := of) (many := used) (show NumsAt v1 (.slice oa m oc) (castL of) from HO0.out.below hb0) HLT.out (by omega) (by have := HM.out; omega)).mono ?_
  rintro e w2 ⟨u, rfl, hb2, hg2⟩
  obtain ⟨us, hus, hrs⟩ := hg2
  rw [grouped_len] at hus
  obtain ⟨ga, gc, rfl, -⟩ := owns_shape hus
  replace c0 := bkeep hb2 c0
  replace c1 := bkeep hb2 c1
  replace c2 := bkeep hb2 c2
  replace c3 := bkeep hb2 c3
  replace c4 := bkeep hb2 c4
  replace c5 := bkeep hb2 c5
  have hb02 := bnext (w := w) hb0 hb2
  clear hb0 hb2 ho hf
  have HUS := hid hus; have HRS := hid hrs; clear hus hrs
  go_wp2_with fail
  go_loopg [12, 24] used (fun gk _ kv wr => ∃ k : Nat, k ≤ used ∧ gk = used - k ∧ kv = .int .i64 k ∧ Hid (fitG ⟨bid, bwi, bde, bce, bhi, bbe⟩ fs ((groupedL of used).take k) = true) ∧ Below w2.heap.size w2 wr)
  case atStart => exact ⟨0, Nat.zero_le _, rfl, rfl, (show fitG _ _ _ = true by rw [List.take_zero]; rfl), Below.refl _ _⟩
  case round =>
   obtain ⟨k, hk, hgk, rfl, HT, hB⟩ := hrel
   have HGK := hid hgk; clear hgk
   have hb3 : Below w.heap.size w wr := bnext (w := w) hb02 hB
   by_cases hlt : k < used
   ·have hki : (k : Int) < (used : Int) := by omega
    have b0 := bkeep hB c0
    have b1 := bkeep hB c1
    have b2 := bkeep hB c2
    have b3 := bkeep hB c3
    have b4 := bkeep hB c4
    have b5 := bkeep hB c5
    obtain ⟨gb, gcap, e1, hc1, hc2⟩ := own_some HUS.out (by omega)
    injection e1 with e1 _ e2
    subst e1; subst e2
    obtain ⟨u, hu⟩ : ∃ u, us[k]? = some u := ⟨_, List.getElem?_eq_getElem (by have := HUS.out.1; omega)⟩
    have hg : (groupedL of used)[k]? = some (whereL k 0 of) := grouped_at hlt
    have hrow := owns_below (HRS.out k u _ hu hg) hB
    have hzl : ∀ z ∈ whereL k 0 of, 0 ≤ z ∧ z < (fs.length : Int) := fun z hz => by have := where_ok z hz; have h1 := HM.out; have h2 := HFM.out; omega
    have hwl := where_len (g := k) (l := of) (i := 0)
    rw [HM.out] at hwl
    obtain ⟨row, hre⟩ : ∃ r, whereL k 0 of = r := ⟨_, rfl⟩
    rw [hre] at hg hrow hzl hwl
    have hnum := numsAt_of_owns (fun z hz => by have := hzl z hz; exact I64.mk (by omega) (by omega)) hrow
    obtain ⟨ra, rc, rfl, -⟩ := owns_shape hrow
    have q1 : wr.cell? ⟨gb, k, none⟩ = some (.slice ra row.length rc) := by have h := HUS.out.cells (g := gb) rfl k _ hu; rw [Go.WideShapes.add_plain, Nat.zero_add] at h; exact bkeep hB h
    obtain ⟨cs, hcs⟩ : ∃ cs, chosenL fs row = cs := ⟨_, rfl⟩
    obtain ⟨tb, htb⟩ : ∃ tb, fitsB ⟨bid, bwi, bde, bce, bhi, bbe⟩ cs = tb := ⟨_, rfl⟩
    have hok1 := chosen_ok hok hzl
    have hn1 : (chosenL fs row).length ≤ 5 := by unfold chosenL; rw [List.length_map]; omega
    rw [hcs] at hok1 hn1
    have hfm : FeetAt wr (.slice fa m fc) fs := (show FeetAt w (.slice fa m fc) fs from HF0.out).below hb3
    have hch : ∀ W' : World, Below wr.heap.size wr W' → Calls Tryz.prog 92 #[.slice fa m fc, .slice ra row.length rc] W' (fun e w'' => ∃ u, e = .returned u ∧ Below W'.heap.size W' w'' ∧ w''.ownsRow wr.heap.size 34 4 u cs.length (cs.flatMap cellsF)) := fun W' hb => by
     rw [← hcs]; refine (rSome (hfm.below hb) (by omega) (hnum.below hb) (by omega) hzl).mono ?_
     rintro e w'' ⟨u, rfl, h2, h3⟩
     exact ⟨u, rfl, h2, owns_base hb.size h3⟩
    have htr : ∀ (W' : World) (u : Value), W'.ownsRow wr.heap.size 34 4 u cs.length (cs.flatMap cellsF) → Calls Tryz.prog 95 #[.agg #[.int .i64 bid, .int .i64 bwi, .int .i64 bde, .int .i64 bce, .int .i64 bhi, .int .i64 bbe], u] W' (Ret W' (.bool tb)) := fun W' u h => rPackable hX (feetAt_of_owns hok1 h) hok1 hn1 htb
    have hft : fitsB ⟨bid, bwi, bde, bce, bhi, bbe⟩ (chosenL fs row) = tb := by rw [hcs, htb]
    have HFT := hid hft; have HCH := hid hch; have HTR := hid htr; have HG := hid hg; clear hft hch htr hok1 hn1 htb hcs hg hzl hnum hrow hre hu hfm
    go_upto_region 5 with fail
    refine wp_region_Rs [(3, fun v W => W.ownsRow wr.heap.size 34 4 v cs.length (cs.flatMap cellsF)), (4, fun v _ => v = .bool tb)] [0, 1, 2, 3, 4, 5] 0 (by kernel_rfl) rfl (by simp only [List.forall_mem_cons]; exact ⟨keeps_owns, keeps_eq, fun _ h => by cases h⟩) (by kernel_rfl) ?_
    simp only [numbered, List.filterMap_cons, List.filterMap_nil, List.getElem?_toArray, List.getElem?_cons_succ, List.getElem?_cons_zero, Option.map_some]
    show wpS _ _ _ _ _ _ _ [(_, _), (_, _), (_, _), (_, _), (_, _), (_, _)] _ _
    (refine wpS_quiet rfl rfl ?_; intro K hK inst hx; have s0 := fun x => (fun _ => bkeep (BQ.below x) b0) (hx x); have s1 := fun x => (fun _ => bkeep (BQ.below x) b1) (hx x); have s2 := fun x => (fun _ => bkeep (BQ.below x) b2) (hx x); have s3 := fun x => (fun _ => bkeep (BQ.below x) b3) (hx x); have s4 := fun x => (fun _ => bkeep (BQ.below x) b4) (hx x); have s5 := fun x => (fun _ => bkeep (BQ.below x) b5) (hx x); go_big_quiet_op; (first | go_big_quiet_on | (refine ⟨_, fun _ => rfl, ?_⟩; go_big_quiet_on)); clear hx inst)
    (refine wpS_quiet rfl rfl ?_; intro K hK inst hx; go_big_quiet_op; (first | go_big_quiet_on | (refine ⟨_, fun _ => rfl, ?_⟩; go_big_quiet_on)); clear hx inst)
    (refine wpS_quiet rfl rfl ?_; intro K hK inst hx; go_big_quiet_op; (first | go_big_quiet_on | (refine ⟨_, fun _ => rfl, ?_⟩; go_big_quiet_on)); clear hx inst)
    refine wpS_fresh rfl rfl (fun w' hb hF => ?_) ?_
    ·change freshAt _ _ _ (fun v W => W.ownsRow wr.heap.size 34 4 v cs.length (cs.flatMap cellsF)) _; unfold freshAt; go_simp; exact HCH.out _ hb
    intro v W hv; simp only [pOf, List.lookup_cons, Nat.reduceBEq, beq_self_eq_true] at hv; obtain ⟨ca, cc, rfl, -⟩ := owns_shape hv
    simp only [Act.put, List.setIfInBounds_toArray, List.set_cons_succ, List.set_cons_zero]
    refine wpS_fresh rfl rfl (fun w' hb hF => ?_) ?_
    ·change freshAt _ _ _ (fun v _ => v = .bool tb) _; have h4 := hF 3 _ rfl (by kernel_rfl); unfold freshAt; go_simp; exact HTR.out _ _ h4
    intro v W hv; simp only [pOf, List.lookup_cons, Nat.reduceBEq, beq_self_eq_true] at hv; subst hv
    simp only [Act.put, List.setIfInBounds_toArray, List.set_cons_succ, List.set_cons_zero]
    (refine wpS_quiet rfl rfl ?_; intro K hK inst hx; go_big_quiet_op; (first | go_big_quiet_on | (refine ⟨_, fun _ => rfl, ?_⟩; go_big_quiet_on)); clear hx inst)
    refine wpS_nil ?_
    intro w5 hall
    have hb := hall.1
    clear hall
    refine wpAny_done (by kernel_rfl) ?_ _
    have hB5 := bnext (w := w2) hB hb
    have hb5 := bnext (w := w) hb3 hb
    clear hb HCH HTR q1 b0 b1 b2 b3 b4 b5
    cases tb
    ·have hR : partF ⟨bid, bwi, bde, bce, bhi, bbe⟩ fs most 0 of used = none := by rw [part_zero, fit_not HG.out HFT.out]; rfl
     have HR := hid hR; clear hR
     go_wp2_with fail
     go_ret
     exact PartRes.no hb5 HR.out
    ·have HT2 := hid (fit_snoc HG.out HT.out HFT.out)
     clear HT
     go_wp2_with fail
     go_roundg (used - (k + 1))
     case measure => have h := HGK.out; omega
     case rel => exact ⟨k + 1, by omega, rfl, by go_num, HT2, hB5⟩
   ·obtain rfl : k = used := by omega
    have hR : partF ⟨bid, bwi, bde, bce, bhi, bbe⟩ fs most 0 of k = some (of, k) := by rw [part_zero, if_pos]; have h := HT.out; rw [List.take_of_length_le (by rw [grouped_len]; exact Nat.le_refl _)] at h; exact h
    have HR := hid hR; clear hR HT
    go_wp2_with fail
    go_ret
    exact PartRes.yes hb3 HR.out (HO0.out.below hb3)
 | succ d ih =>
  intro of used v w hd hlt hu hf ho
  obtain ⟨fa, fc, rfl, hfl⟩ := hf.shape
  rw [List.length_map] at hf hfl ih ⊢
  obtain ⟨oa, oc, rfl, hol1, hol2⟩ := ho.shape
  rw [castL_len] at hol1 ⊢
  obtain ⟨m, hmm⟩ : ∃ m, of.length = m := ⟨_, rfl⟩
  have HM := hid hmm
  rw [castL_len] at ho
  rw [hmm] at hol1 hd ho ⊢
  clear hmm
  have hne : ¬ (m : Int) = (fs.length : Int) := by omega
  have hne2 : ((m : Int) == (fs.length : Int)) = false := beq_eq_false_iff_ne.mpr hne
  have HIH := hid ih; have HLT := hid hlt; have HO0 := hid ho; have HF0 := hid hf; clear ih hlt ho hf
  obtain ⟨i1, hj, hy0, hy1, hy2⟩ := info_parts Tryz.infoI
  go_enter Tryz.func102, Tryz.ntmps102
  go_upto_region 1 with fail
  generalize hW : World.alloc w _ = v1
  have c0 : v1.cell? ⟨w.heap.size, 0, none⟩ = some (.int .i64 bid) := by rw [← hW]; simp [go_sem]
  have c1 : v1.cell? ⟨w.heap.size, 1, none⟩ = some (.int .i64 bwi) := by rw [← hW]; simp [go_sem]
  have c2 : v1.cell? ⟨w.heap.size, 2, none⟩ = some (.int .i64 bde) := by rw [← hW]; simp [go_sem]
  have c3 : v1.cell? ⟨w.heap.size, 3, none⟩ = some (.int .i64 bce) := by rw [← hW]; simp [go_sem]
  have c4 : v1.cell? ⟨w.heap.size, 4, none⟩ = some (.int .i64 bhi) := by rw [← hW]; simp [go_sem]
  have c5 : v1.cell? ⟨w.heap.size, 5, none⟩ = some (.int .i64 bbe) := by rw [← hW]; simp [go_sem]
  have hb0 : Below w.heap.size w v1 := by rw [← hW]; exact (Below.refl _ _).alloc (Nat.le_refl _) _
  clear hW
  go_wp2_with fail
  go_loopg [13, 14] (min (used + 1) most) (fun gk gv _ wr => ∃ g : Nat, g ≤ min (used + 1) most ∧ gk = min (used + 1) most - g ∧ gv = .int .i64 g ∧ (wr.cell? ⟨w.heap.size, 0, none⟩ = some (.int .i64 bid) ∧ wr.cell? ⟨w.heap.size, 1, none⟩ = some (.int .i64 bwi) ∧ wr.cell? ⟨w.heap.size, 2, none⟩ = some (.int .i64 bde) ∧ wr.cell? ⟨w.heap.size, 3, none⟩ = some (.int .i64 bce) ∧ wr.cell? ⟨w.heap.size, 4, none⟩ = some (.int .i64 bhi) ∧ wr.cell? ⟨w.heap.size, 5, none⟩ = some (.int .i64 bbe)) ∧ Below w.heap.size w wr ∧ w.heap.size + 1 ≤ wr.heap.size ∧ Hid (∀ j, j < g → partF ⟨bid, bwi, bde, bce, bhi, bbe⟩ fs most d (of ++ [j]) (max used (j + 1)) = none))
  case atStart => exact ⟨0, Nat.zero_le _, rfl, rfl, ⟨c0, c1, c2, c3, c4, c5⟩, hb0, by have := World.block_lt_of_cell? v1 _ c0; dsimp only at this; omega, fun j h => by omega⟩
  case round =>
   clear hb0 c0 c1 c2 c3 c4 c5
   obtain ⟨g, hg, hgk, rfl, ⟨c0, c1, c2, c3, c4, c5⟩, hB, hzz, HT⟩ := hrel
   have HGK := hid hgk; clear hgk
   by_cases hgu : g ≤ used
   ·by_cases hgm : g < most
    ·have hgi : (g : Int) ≤ (used : Int) := by omega
     have hgm2 : (g : Int) < (most : Int) := by omega
     have HOW := hid (show NumsAt wr (.slice oa m oc) (castL of) from HO0.out.below hB)
     go_upto_region 12 with fail
     refine wp_region_G (fun V => V.cell? ⟨w.heap.size, 0, none⟩ = some (.int .i64 bid) ∧ V.cell? ⟨w.heap.size, 1, none⟩ = some (.int .i64 bwi) ∧ V.cell? ⟨w.heap.size, 2, none⟩ = some (.int .i64 bde) ∧ V.cell? ⟨w.heap.size, 3, none⟩ = some (.int .i64 bce) ∧ V.cell? ⟨w.heap.size, 4, none⟩ = some (.int .i64 bhi) ∧ V.cell? ⟨w.heap.size, 5, none⟩ = some (.int .i64 bbe)) (fun V hV => ⟨bkeep hV c0, bkeep hV c1, bkeep hV c2, bkeep hV c3, bkeep hV c4, bkeep hV c5⟩) [0, 1, 8, 9, 10, 11, 12] (by kernel_rfl) [(2, NewEmpty wr.heap.size 3), (4, fun v W9 => W9.ownsRow wr.heap.size 3 1 v (castL of).length ((castL of).map (Value.int .i64))), (6, NewList wr.heap.size 1 [.int .i64 (g : Int)])] [2, 3, 4, 5, 6] 3 (by kernel_rfl) rfl (by simp only [List.forall_mem_cons]; exact ⟨keeps_empty, keeps_owns, keeps_list, fun _ h => by cases h⟩) (by kernel_rfl) ?_
     refine ⟨_, .agg #[.int .i64 bid, .int .i64 bwi, .int .i64 bde, .int .i64 bce, .int .i64 bhi, .int .i64 bbe], rfl, ⟨rfl, fun V hV => by (try dsimp only at hV); obtain ⟨h0, h1, h2, h3, h4, h5⟩ := hV; go_simp⟩, ?_⟩
     simp only [Act.put, List.getElem_toArray, List.getElem_cons_succ, List.getElem_cons_zero, List.setIfInBounds_toArray, List.set_cons_succ, List.set_cons_zero]
     refine ⟨_, .slice fa fs.length fc, rfl, ⟨rfl, fun V hV => by (try dsimp only at hV); go_simp⟩, ?_⟩
     simp only [Act.put, List.getElem_toArray, List.getElem_cons_succ, List.getElem_cons_zero, List.setIfInBounds_toArray, List.set_cons_succ, List.set_cons_zero]
     refine ⟨_, .int .i64 (used : Int), rfl, ⟨rfl, fun V hV => by (try dsimp only at hV); go_simp⟩, ?_⟩
     simp only [Act.put, List.getElem_toArray, List.getElem_cons_succ, List.getElem_cons_zero, List.setIfInBounds_toArray, List.set_cons_succ, List.set_cons_zero]
     refine ⟨_, .int .i64 (g : Int), rfl, ⟨rfl, fun V hV => by (try dsimp only at hV); go_simp⟩, ?_⟩
     simp only [Act.put, List.getElem_toArray, List.getElem_cons_succ, List.getElem_cons_zero, List.setIfInBounds_toArray, List.set_cons_succ, List.set_cons_zero]
     refine ⟨_, .int .i64 ((g : Int) + 1), rfl, ⟨rfl, fun V hV => by (try dsimp only at hV); go_simp; (try exact IntWalk.i64_in _ (by omega))⟩, ?_⟩
     simp only [Act.put, List.getElem_toArray, List.getElem_cons_succ, List.getElem_cons_zero, List.setIfInBounds_toArray, List.set_cons_succ, List.set_cons_zero]
     refine ⟨_, .int .i64 (max (used : Int) ((g : Int) + 1)), rfl, ⟨rfl, fun V hV => by (try dsimp only at hV); go_simp⟩, ?_⟩
     simp only [Act.put, List.getElem_toArray, List.getElem_cons_succ, List.getElem_cons_zero, List.setIfInBounds_toArray, List.set_cons_succ, List.set_cons_zero]
     refine ⟨_, .int .i64 (most : Int), rfl, ⟨rfl, fun V hV => by (try dsimp only at hV); go_simp⟩, ?_⟩
     simp only [Act.put, List.getElem_toArray, List.getElem_cons_succ, List.getElem_cons_zero, List.setIfInBounds_toArray, List.set_cons_succ, List.set_cons_zero]
     simp only [numbered, List.filterMap_cons, List.filterMap_nil, List.getElem?_toArray, List.getElem?_cons_succ, List.getElem?_cons_zero, Option.map_some]
     show wpS _ _ _ _ _ _ _ [(_, _), (_, _), (_, _), (_, _), (_, _)] _ _
     refine wpS_fresh rfl rfl (fun w' hb hF => ?_) ?_
     ·change freshAt _ _ _ (NewEmpty wr.heap.size 3) _; unfold freshAt; go_simp; exact empty_of hb
     intro v W hv; simp only [pOf, List.lookup_cons, Nat.reduceBEq, beq_self_eq_true] at hv; have hv0 := hv; obtain ⟨B0, hB0, rfl, -⟩ := hv
     simp only [Act.put, List.setIfInBounds_toArray, List.set_cons_succ, List.set_cons_zero]
     (refine wpS_quiet rfl rfl ?_; intro K hK inst hx; go_big_quiet_op; (first | go_big_quiet_on | (refine ⟨_, fun _ => rfl, ?_⟩; go_big_quiet_on)); clear hx inst)
     refine wpS_fresh rfl rfl (fun w' hb hF => ?_) ?_
     ·change freshAt _ _ _ (fun v W9 => W9.ownsRow wr.heap.size 3 1 v (castL of).length ((castL of).map (Value.int .i64))) _; have h0 : NewEmpty wr.heap.size 3 _ w' := hF 2 _ rfl (by kernel_rfl); exact fresh_append_nums (.tmp 48) (.tmp 49) 71 rfl wr.heap.size 3 i1 (.int .i64 0) 8 Tryz.underlying71 hj hy0 hy1 hy2 rfl (.slice (some ⟨B0, 0, none⟩) 0 0) rfl h0 _ (castL of) rfl (HOW.out.below hb) (by rw [castL_len, HM.out]; unfold maxLen; omega) (by rw [castL_len, HM.out]; omega) hb.size
     intro v W hv; simp only [pOf, List.lookup_cons, Nat.reduceBEq, beq_self_eq_true] at hv; have hv4 := hv; rw [castL_len, HM.out] at hv4; obtain ⟨la, lc, rfl, -⟩ := owns_shape hv4
     simp only [Act.put, List.setIfInBounds_toArray, List.set_cons_succ, List.set_cons_zero]
     (refine wpS_quiet rfl rfl ?_; intro K hK inst hx; go_big_quiet_op; (first | go_big_quiet_on | (refine ⟨_, fun _ => rfl, ?_⟩; go_big_quiet_on)); clear hx inst)
     refine wpS_fresh rfl rfl (fun w' hb hF => ?_) ?_
     ·change freshAt _ _ _ (NewList wr.heap.size 1 [.int .i64 (g : Int)]) _; unfold freshAt; go_simp; exact list_of hb
     intro v W hv; simp only [pOf, List.lookup_cons, Nat.reduceBEq, beq_self_eq_true] at hv; obtain ⟨B6, hB6, rfl, -⟩ := hv
     simp only [Act.put, List.setIfInBounds_toArray, List.set_cons_succ, List.set_cons_zero]
     refine wpS_nil ?_
     intro w2 hall
     have hb := hall.1
     have h4 : w2.ownsRow wr.heap.size 3 1 _ (castL of).length _ := hall.2 4 _ rfl
     rw [castL_len, HM.out] at h4
     have h6 : NewList wr.heap.size 1 [.int .i64 (g : Int)] _ w2 := hall.2 6 _ rfl
     obtain ⟨B', hB', hv', hn'⟩ := h6
     obtain rfl : B6 = B' := by simpa using hv'
     clear hall
     have x2 : (fun V => V.cell? ⟨w.heap.size, 0, none⟩ = some (.int .i64 bid) ∧ V.cell? ⟨w.heap.size, 1, none⟩ = some (.int .i64 bwi) ∧ V.cell? ⟨w.heap.size, 2, none⟩ = some (.int .i64 bde) ∧ V.cell? ⟨w.heap.size, 3, none⟩ = some (.int .i64 bce) ∧ V.cell? ⟨w.heap.size, 4, none⟩ = some (.int .i64 bhi) ∧ V.cell? ⟨w.heap.size, 5, none⟩ = some (.int .i64 bbe)) w2 := ⟨bkeep hb c0, bkeep hb c1, bkeep hb c2, bkeep hb c3, bkeep hb c4, bkeep hb c5⟩
     refine wpAnyC_op (r := 7) x2 (by kernel_rfl) rfl rfl (fun K hK => ?_)
     refine wp_append_own w2 (.tmp 50) (.tmp 52) 71 rfl wr.heap.size 3 i1 (.int .i64 0) 1 8 Tryz.underlying71 hj hy0 hy1 hy2 rfl (by decide) (.slice la m lc) m _ rfl h4 ⟨B6, 0, none⟩ 1 1 [.int .i64 (g : Int)] rfl rfl (fun j u h => by rw [Go.WideShapes.add_plain, Nat.zero_add]; exact (hn' j u h).1) (fun u h => by simp only [List.mem_cons, List.not_mem_nil, or_false] at h; rcases h with rfl; rfl) (by unfold maxLen; omega) (by omega) hb.size ?_
     intro v35 w3 ho3 hg3 hnil3
     refine hK _ _ ?_
     clear hK K hnil3
     have hb3 : Below wr.heap.size wr w3 := below_grown hb hg3 h4 hb.size (Nat.le_refl _)
     have x3 : (fun V => V.cell? ⟨w.heap.size, 0, none⟩ = some (.int .i64 bid) ∧ V.cell? ⟨w.heap.size, 1, none⟩ = some (.int .i64 bwi) ∧ V.cell? ⟨w.heap.size, 2, none⟩ = some (.int .i64 bde) ∧ V.cell? ⟨w.heap.size, 3, none⟩ = some (.int .i64 bce) ∧ V.cell? ⟨w.heap.size, 4, none⟩ = some (.int .i64 bhi) ∧ V.cell? ⟨w.heap.size, 5, none⟩ = some (.int .i64 bbe)) w3 := ⟨bkeep hb3 c0, bkeep hb3 c1, bkeep hb3 c2, bkeep hb3 c3, bkeep hb3 c4, bkeep hb3 c5⟩
     obtain ⟨xa, xc, rfl, -⟩ := owns_shape ho3
     have hnums : NumsAt w3 (.slice xa (m + 1) xc) (castL (of ++ [g])) := numsAt_of_owns (castL_small fun x hx => by (rcases List.mem_append.1 hx with h | h); (have := HLT.out x h; omega); (simp at h; omega)) (by rw [castL_len, List.length_append, List.length_singleton, HM.out, castL_snoc, List.map_append]; exact ho3)
     have hcall := HIH.out (of ++ [g]) (max used (g + 1)) _ w3 (by rw [List.length_append, List.length_singleton, HM.out]; omega) (fun x hx => by (rcases List.mem_append.1 hx with h | h); (have := HLT.out x h; omega); (simp at h; omega)) (by omega) (show FeetAt w3 (.slice fa fs.length fc) fs from (HF0.out.below hB).below hb3) hnums
     rw [show (((max used (g + 1) : Nat)) : Int) = max (used : Int) ((g : Int) + 1) by omega] at hcall
     have HC := hid hcall; clear hcall hnums ho3 hg3 h4 hb hn' x2
     refine wpAnyC_op (r := 13) x3 (by kernel_rfl) rfl rfl (fun K hK => ?_)
     go_simp
     refine HC.out.mono ?_
     rintro e w4 ⟨rv, rfl, hb4, hres⟩
     dsimp only
     refine hK _ _ ?_
     clear hK K HC
     have x4 : (fun V => V.cell? ⟨w.heap.size, 0, none⟩ = some (.int .i64 bid) ∧ V.cell? ⟨w.heap.size, 1, none⟩ = some (.int .i64 bwi) ∧ V.cell? ⟨w.heap.size, 2, none⟩ = some (.int .i64 bde) ∧ V.cell? ⟨w.heap.size, 3, none⟩ = some (.int .i64 bce) ∧ V.cell? ⟨w.heap.size, 4, none⟩ = some (.int .i64 bhi) ∧ V.cell? ⟨w.heap.size, 5, none⟩ = some (.int .i64 bbe)) w4 := ⟨bkeep hb4 x3.1, bkeep hb4 x3.2.1, bkeep hb4 x3.2.2.1, bkeep hb4 x3.2.2.2.1, bkeep hb4 x3.2.2.2.2.1, bkeep hb4 x3.2.2.2.2.2⟩
     refine wpAnyC_op (r := 14) x4 (by kernel_rfl) rfl rfl (fun K hK => ?_)
     go_simp
     refine hK _ _ ?_; clear hK K
     refine wpAnyC_end x4 (by kernel_rfl) ?_
     refine ⟨rfl, ?_⟩
     have hB4 : Below w.heap.size w w4 := bnext (w := w) hB (hb3.trans (hb4.mono hb3.size))
     have hz4 : w.heap.size + 1 ≤ w4.heap.size := by have h1 := hb3.size; have h2 := hb4.size; omega
     obtain ⟨d0, d1, d2, d3, d4, d5⟩ := x4
     clear x3 hb3 hb4 HOW c0 c1 c2 c3 c4 c5
     rcases hres with ⟨p, hp, hnp⟩ | ⟨hp, rfl⟩
     ·have hpl := (part_used _ _ _ _ (show max used (g + 1) ≤ most by omega) (fun x hx => by (rcases List.mem_append.1 hx with h | h); (have := HLT.out x h; omega); (simp at h; omega)) hp).2.2.1
      rw [List.length_append, List.length_singleton, HM.out] at hpl
      have HP := hid hp; have HNP := hid hnp; clear hp
      obtain ⟨pa, pc, rfl, -, -⟩ := hnp.shape
      rw [castL_len] at hnp ⊢
      obtain ⟨pl, hpe⟩ : ∃ pl, p.1.length = pl := ⟨_, rfl⟩
      have HPE := hid hpe
      rw [hpe] at hpl ⊢
      clear hnp hpe
      have hp0 : (0 : Int) < (pl : Int) := by omega
      go_wp2_with fail
      go_ret
      refine PartRes.yes hB4 (part_here (by omega) HT.out HP.out) ?_
      have h := HNP.out; rw [castL_len, HPE.out] at h; exact h
     ·have HT2 := hid (show ∀ j, j < g + 1 → partF ⟨bid, bwi, bde, bce, bhi, bbe⟩ fs most d (of ++ [j]) (max used (j + 1)) = none from fun j hj => by (rcases Nat.lt_or_ge j g with h3 | h3); exact HT.out j h3; (have e : j = g := by omega); subst e; exact hp)
      clear HT hp
      go_wp2_with fail
      go_roundg (min (used + 1) most - (g + 1))
      case measure => have h := HGK.out; omega
      case rel => exact ⟨g + 1, by omega, rfl, by go_num, ⟨d0, d1, d2, d3, d4, d5⟩, hB4, hz4, HT2⟩
    ·have hgi : (g : Int) ≤ (used : Int) := by omega
     have hgm2 : ¬ (g : Int) < (most : Int) := by omega
     have hR : partF ⟨bid, bwi, bde, bce, bhi, bbe⟩ fs most (d + 1) of used = none := part_no (fun j hj => HT.out j (by omega))
     have HR := hid hR; clear hR HT
     go_wp2_with fail
     go_ret
     exact PartRes.no hB HR.out
   ·have hgi : ¬ (g : Int) ≤ (used : Int) := by omega
    have hR : partF ⟨bid, bwi, bde, bce, bhi, bbe⟩ fs most (d + 1) of used = none := part_no (fun j hj => HT.out j (by omega))
    have HR := hid hR; clear hR HT
    go_wp2_with fail
    go_ret
    exact PartRes.no hB HR.out
end Go.Proofs.YtodmidchpbcnpaaGreat