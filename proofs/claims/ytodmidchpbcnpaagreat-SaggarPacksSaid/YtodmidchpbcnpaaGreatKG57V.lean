/- Part of a claim. -/
import Derived.Test.YtodmidchpbcnpaaGreatG56V
import Derived.Test.YtodmidchpbcnpaaGreatKG53V
import Derived.Test.YtodmidchpbcnpaaGreatKG14V
import Derived.Test.YtodmidchpbcnpaaGreatKTjV
import Derived.Deep.LoopGhost
set_option linter.unusedVariables false
set_option linter.unusedSimpArgs false
namespace Go.Proofs.YtodmidchpbcnpaaGreat
open Go.RowKit Go.Pb Go.Pb.Ware Go.Pb.Sag


set_option maxRecDepth 100000 in
set_option maxHeartbeats 2000000 in
theorem rPackable {w : World} {bid bwi bde bce bhi bbe : Int} {lv : Value} {fs : List Ft} (hX : boxOk ⟨bid, bwi, bde, bce, bhi, bbe⟩ = true) (hl : FeetAt w lv fs) (hok : ∀ f ∈ fs, FtOk f) (hn : fs.length ≤ 5) {b : Bool} (hb : fitsB ⟨bid, bwi, bde, bce, bhi, bbe⟩ fs = b) :
  Calls Tryz.prog 95 #[.agg #[.int .i64 bid, .int .i64 bwi, .int .i64 bde, .int .i64 bce, .int .i64 bhi, .int .i64 bbe], lv] w (Ret w (.bool b)) := by
 unfold Ret
 have hX2 := boxOk_iff.1 hX
 dsimp only at hX2
 obtain ⟨lo, hlo⟩ : ∃ z, lowB ⟨bid, bwi, bde, bce, bhi, bbe⟩ fs = z := ⟨_, rfl⟩
 obtain ⟨n0, hn0⟩ : ∃ z, areaL fs = z := ⟨_, rfl⟩
 obtain ⟨rb, hrb⟩ : ∃ z, roomB ⟨bid, bwi, bde, bce, bhi, bbe⟩ fs 0 = z := ⟨_, rfl⟩
 have hbb : (lo && (decide (n0 ≤ bwi * bde) && rb)) = b := by rw [← hb, ← packable_fits, hlo, hn0, hrb]
 have hbd : 0 ≤ n0 ∧ n0 ≤ 5 * 4410000 := by have h := areaL_bd hok fs.length; rw [List.take_length, hn0] at h; omega
 have hmm := mul_bd bwi bde 6 6 (by omega) (by omega) (by omega) (by omega)
 have h1 : ∀ W' : World, Below w.heap.size w W' → Calls Tryz.prog 135 #[.agg #[.int .i64 bid, .int .i64 bwi, .int .i64 bde, .int .i64 bce, .int .i64 bhi, .int .i64 bbe], lv] W' (Ret W' (.bool lo)) := fun W' hb => rLow (hl.below hb) hok (by omega) hlo
 have h2 : ∀ W' : World, Below w.heap.size w W' → Calls Tryz.prog 82 #[lv] W' (Ret W' (.int .i64 n0)) := fun W' hb => hn0 ▸ rArea (hl.below hb) hok (by omega)
 have h3 : ∀ W' : World, Below w.heap.size w W' → Calls Tryz.prog 148 #[.agg #[.int .i64 bid, .int .i64 bwi, .int .i64 bde, .int .i64 bce, .int .i64 bhi, .int .i64 bbe], lv, .int .i64 0] W' (Ret W' (.bool rb)) := fun W' hb => rRoom (u := 0) (t := 0) hX fs.length rfl hn (hl.below hb) hok (by decide) rel_zero hrb
 have H1 := hid h1; have H2 := hid h2; have H3 := hid h3; have HBB := hid hbb; clear h1 h2 h3 hbb hb hX hX2 hlo hn0 hrb hl hok hn
 go_enter Tryz.func95, Tryz.ntmps95
 go_upto_region 1 with fail
 generalize hW : World.alloc w _ = v1
 have c0 : v1.cell? ⟨w.heap.size, 0, none⟩ = some (.int .i64 bid) := by rw [← hW]; simp [go_sem]
 have c1 : v1.cell? ⟨w.heap.size, 1, none⟩ = some (.int .i64 bwi) := by rw [← hW]; simp [go_sem]
 have c2 : v1.cell? ⟨w.heap.size, 2, none⟩ = some (.int .i64 bde) := by rw [← hW]; simp [go_sem]
 have c3 : v1.cell? ⟨w.heap.size, 3, none⟩ = some (.int .i64 bce) := by rw [← hW]; simp [go_sem]
 have c4 : v1.cell? ⟨w.heap.size, 4, none⟩ = some (.int .i64 bhi) := by rw [← hW]; simp [go_sem]
 have c5 : v1.cell? ⟨w.heap.size, 5, none⟩ = some (.int .i64 bbe) := by rw [← hW]; simp [go_sem]
 have hbv : Below w.heap.size w v1 := by rw [← hW]; exact (Below.refl _ _).alloc (Nat.le_refl _) _
 clear hW
 have x0 := fun x : BW v1 => bkeep x.below c0
 have x1 := fun x : BW v1 => bkeep x.below c1
 have x2 := fun x : BW v1 => bkeep x.below c2
 have x3 := fun x : BW v1 => bkeep x.below c3
 have x4 := fun x : BW v1 => bkeep x.below c4
 have x5 := fun x : BW v1 => bkeep x.below c5
 have hw' := fun x : BW v1 => bnext (w := w) hbv x.below
 cases lo
 ·refine wp_region_qb (by kernel_rfl) (by kernel_rfl) fun hc => ?_
  repeat (go_big_quiet_step ((first | (go_at_call 135; exact BW.call _ (H1.out _ (hw' _))) | (go_at_call 82; exact BW.call _ (H2.out _ (hw' _))) | (go_at_call 148; exact BW.call _ (H3.out _ (hw' _))))))
  refine wpQuiet_nil ?_
  intro w9 hb
  replace hbv := bnext (w := w) hbv hb
  go_wp2_with fail
  go_ret
  exact ⟨ret_bool (by first | exact HBB.out | (rw [← HBB.out]; rfl) | (rw [← HBB.out]; simp [*])), hbv⟩
 ·by_cases hle : n0 ≤ bwi * bde
  ·have hd : decide (n0 ≤ bwi * bde) = true := decide_eq_true hle
   refine wp_region_qb (by kernel_rfl) (by kernel_rfl) fun hc => ?_
   repeat (go_big_quiet_step ((first | (go_at_call 135; exact BW.call _ (H1.out _ (hw' _))) | (go_at_call 82; exact BW.call _ (H2.out _ (hw' _))) | (go_at_call 148; exact BW.call _ (H3.out _ (hw' _))))))
   refine wpQuiet_nil ?_
   intro w9 hb
   replace hbv := bnext (w := w) hbv hb
   go_wp2_with fail
   go_ret
   exact ⟨ret_bool (by first | exact HBB.out | (rw [← HBB.out]; rfl) | (rw [← HBB.out]; simp [*])), hbv⟩
  ·have hd : decide (n0 ≤ bwi * bde) = false := decide_eq_false hle
   refine wp_region_qb (by kernel_rfl) (by kernel_rfl) fun hc => ?_
   repeat (go_big_quiet_step ((first | (go_at_call 135; exact BW.call _ (H1.out _ (hw' _))) | (go_at_call 82; exact BW.call _ (H2.out _ (hw' _))) | (go_at_call 148; exact BW.call _ (H3.out _ (hw' _))))))
   refine wpQuiet_nil ?_
   intro w9 hb
   replace hbv := bnext (w := w) hbv hb
   go_wp2_with fail
   go_ret
   exact ⟨ret_bool (by first | exact HBB.out | (rw [← HBB.out]; rfl) | (rw [← HBB.out]; simp [*])), hbv⟩
end Go.Proofs.YtodmidchpbcnpaaGreat
namespace Go.Proofs.YtodmidchpbcnpaaGreat
open Go.RowKit Go.Pb Go.Pb.Ware Go.Pb.Sag


theorem Tryz.infoSS : (Tryz.prog.info? 41).map (fun i => (i.zero, i.size, i.bytes)) = some (some (.slice none 0 0), 1, 24) := by kernel_rfl
theorem st_latP {w : World} {v : Value} {l : List St} (h : StAt w v (l.map toSq)) : LAt 3 w v l.length (l.flatMap cellsP) := by
 have h2 := st_lat h
 rw [List.length_map, ← flatP] at h2
 exact h2
theorem rows_lat {lo T n : Nat} {w : World} {v : Value} {us : List Value} (h : w.ownsRow lo T 1 v n us) (h1 : ∀ u ∈ us, u.oneCell' = true) : LAt 1 w v n us := by
 refine ⟨h.1, h1, ?_⟩
 rcases h.2 with ⟨h2, h3⟩ | ⟨g, cap, cur, h2, h3, h4, h5, h6, h7, h8⟩
 ·exact .inl ⟨h2, h3⟩
 ·refine .inr ⟨⟨g, 0, none⟩, cap, h2, h5, by unfold maxLen at h6; omega, fun j u hu => h.cells (g := g) (by rw [h2]; rfl) j u hu⟩
theorem row_one {lo T n : Nat} {w : World} {v : Value} {xs : List Value} (h : w.ownsRow lo T 3 v n xs) : v.oneCell' = true := by
 obtain ⟨a, c, rfl, _⟩ := owns_shape h
 rfl
theorem feet_of_lat {w : World} {v : Value} {m : Nat} {gs : List Ft} (hl : gs.length = m) (hok : ∀ f ∈ gs, FtOk f) (h : LAt 4 w v m (gs.flatMap cellsF)) : FeetAt w v gs := by
 rcases h.at' with ⟨h1, h2⟩ | ⟨a, cap, h1, h2, h3, h4⟩
 ·have e : gs = [] := List.length_eq_zero_iff.1 (by omega)
  subst e; exact .inl ⟨h1, rfl⟩
 ·refine .inr ⟨a, cap, by rw [List.length_map, hl]; exact h1, by rw [List.length_map, hl]; exact h2, h3, fun k r hr => ?_⟩
  rw [List.getElem?_map] at hr
  cases hg : gs[k]? with
  | none => rw [hg] at hr; cases hr
  | some f =>
   rw [hg] at hr
   injection hr with hr
   subst hr
   refine ⟨rfl, fun j z hz => ?_⟩
   have hj : j < 4 := by have := (List.getElem?_eq_some_iff.1 hz).1; simpa [rowF] using this
   have hF := hok f (List.mem_of_getElem? hg)
   unfold FtOk at hF
   have e := flat_get cellsF lenF' hg hj
   have hz2 : (cellsF f)[j]? = some (.int .i64 z) ∧ I64 z := by
    match j, hj with
    | 0, _ => injection hz with hz; subst hz; exact ⟨rfl, I64.mk (by omega) (by omega)⟩
    | 1, _ => injection hz with hz; subst hz; exact ⟨rfl, I64.mk (by omega) (by omega)⟩
    | 2, _ => injection hz with hz; subst hz; exact ⟨rfl, I64.mk (by omega) (by omega)⟩
    | 3, _ => injection hz with hz; subst hz; exact ⟨rfl, I64.mk (by omega) (by omega)⟩
   exact ⟨h4 _ _ (by rw [e]; exact hz2.1), hz2.2⟩
def PacksRes (rows : List (List St)) (W : World) (e : Ending) (w' : World) : Prop := ∃ v, e = .returned v ∧ Below W.heap.size W w' ∧ RowsQ W.heap.size 41 62 v rows w'
set_option maxRecDepth 100000 in
set_option maxHeartbeats 2000000 in
theorem rPacks {bid bwi bde bce bhi bbe : Int} (hX : boxOk ⟨bid, bwi, bde, bce, bhi, bbe⟩ = true) : ∀ (n : Nat) (w : World) (lv bv : Value) (fs : List Ft) (u t most : Nat) (begun : List St), fs.length = n → begun.length + n ≤ 5 → FeetAt w lv fs → (∀ f ∈ fs, FtOk f) → u < 2 ^ 36 → RelW bwi.toNat u t → StAt w bv (begun.map toSq) → 1 ≤ most → most ≤ 1000 →
  Calls Tryz.prog 127 #[.agg #[.int .i64 bid, .int .i64 bwi, .int .i64 bde, .int .i64 bce, .int .i64 bhi, .int .i64 bbe], lv, .int .i64 (u : Nat), bv, .int .i64 (most : Nat)] w (PacksRes (((packsF (List.map (spotsL ⟨bid, bwi, bde, bce, bhi, bbe⟩) fs) t).map (begun ++ ·)).take most) w) := by
 intro n
 induction n with
 | zero =>
  intro w lv bv fs u t most begun hn hb5 hl hok hu hr hst hm1 hm2k
  obtain rfl : fs = [] := List.length_eq_zero_iff.1 hn
  have hres : ((packsF (List.map (spotsL ⟨bid, bwi, bde, bce, bhi, bbe⟩) ([] : List Ft)) t).map (begun ++ ·)).take most = [begun] := by rw [List.map_nil, packsF, List.map_cons, List.map_nil, List.append_nil]; exact List.take_of_length_le (by simpa using hm1)
  rw [hres]
  unfold PacksRes
  obtain ⟨la, lc, rfl, hll⟩ := hl.shape
  obtain ⟨ba, bc, rfl, hb1, hb2⟩ := hst.shape
  rw [List.length_map] at hb1
  simp only [List.length_map, List.length_nil]
  have hlat := st_latP hst
  rw [List.length_map] at hlat
  clear hl hres hst hr
  obtain ⟨i0, hi, hz0, hzz1, hz2⟩ := info_parts Tryz.infoS
  obtain ⟨i2, hj, hy0, hy1, hy2⟩ := info_parts Tryz.infoSS
  (try simp only [List.map_nil, List.length_nil])
  go_enter Tryz.func127, Tryz.ntmps127
  go_upto_region 1 with fail
  generalize hW : World.alloc w _ = v1
  have q0 : v1.cell? ⟨w.heap.size, 0, none⟩ = some (.int .i64 bid) := by rw [← hW]; simp [go_sem]
  have q1 : v1.cell? ⟨w.heap.size, 1, none⟩ = some (.int .i64 bwi) := by rw [← hW]; simp [go_sem]
  have q2 : v1.cell? ⟨w.heap.size, 2, none⟩ = some (.int .i64 bde) := by rw [← hW]; simp [go_sem]
  have q3 : v1.cell? ⟨w.heap.size, 3, none⟩ = some (.int .i64 bce) := by rw [← hW]; simp [go_sem]
  have q4 : v1.cell? ⟨w.heap.size, 4, none⟩ = some (.int .i64 bhi) := by rw [← hW]; simp [go_sem]
  have q5 : v1.cell? ⟨w.heap.size, 5, none⟩ = some (.int .i64 bbe) := by rw [← hW]; simp [go_sem]
  have hbv : Below w.heap.size w v1 := by rw [← hW]; exact (Below.refl _ _).alloc (Nat.le_refl _) _
  have hz1 : w.heap.size ≤ v1.heap.size := hbv.size
  clear hW
  have hlat1 := hlat.below hbv
  have HL := hid hlat1; clear hlat hlat1
  have hm2 : begun.length ≤ 5 := by omega
  obtain ⟨m, hm⟩ : ∃ m, begun.length = m := ⟨_, rfl⟩
  have HM := hid hm
  rw [hm] at hm2 ⊢
  clear hm hb1 hb5 hn
  go_upto_region 2 with fail
  go_wp2_with (at_builtin; go_must (refine wpList_append_lat rfl _ _ 41 rfl v1.heap.size 62 i0 (.agg #[.int .i64 0, .int .i64 0, .bool false]) 3 24 Tryz.underlying41 hi hz0 hzz1 hz2 rfl (by decide) _ 0 [] rfl (owns_empty v1 62 3) _ m (begun.flatMap cellsP) rfl (by have h := HL.out; rw [HM.out] at h; exact h.below ((Below.refl _ _).alloc (Nat.le_refl _) _)) (by unfold maxLen; omega) (by omega) (by simp) ?_; intro v' w4 ho4 hg4; have hb4 : Below w.heap.size w w4 := below_grown (hbv.alloc hz1 _) hg4 (owns_empty v1 62 3) (by simp; omega) hz1; rw [Nat.zero_add, List.nil_append] at ho4; have HO4 := hid ho4; obtain ⟨xa, xc, rfl, -⟩ := owns_shape ho4; clear ho4 hg4))
  have hz4 := hb4.size
  go_ret
  exact ⟨_, rfl, by go_grown, RowsQ.one rfl (by have := hb4.size; omega) (by have h := HO4.out; rw [HM.out]; exact owns_base hz1 h)⟩
 | succ n ih =>
  intro w lv bv fs u t most begun hn hb5 hl hok hu hr hst hm1 hm2k
  have HIH := hid ih
  clear ih
  unfold PacksRes
  obtain ⟨f, gs, rfl⟩ : ∃ f gs, fs = f :: gs := by (cases fs with | nil => simp at hn | cons f gs => exact ⟨f, gs, rfl⟩)
  obtain ⟨sw, sd, sh, sg⟩ := f
  have hgl : gs.length = n := by simpa using hn
  have hso : FtOk ⟨sw, sd, sh, sg⟩ := hok _ (by simp)
  have hokg : ∀ f ∈ gs, FtOk f := fun f h => hok f (by simp [h])
  rw [packs_begun]
  obtain ⟨SL, hSL⟩ : ∃ l, standsL ⟨bid, bwi, bde, bce, bhi, bbe⟩ ⟨sw, sd, sh, sg⟩ = l := ⟨_, rfl⟩
  rw [hSL]
  have hsml : SL.length ≤ 72 := hSL ▸ stands_small hX
  obtain ⟨H, hH⟩ : ∃ h, hitL ⟨bid, bwi, bde, bce, bhi, bbe⟩ ⟨sw, sd, sh, sg⟩ gs t begun = h := ⟨_, rfl⟩
  rw [hH]
  have HSL := hid hSL; have HH := hid hH; clear hSL hH
  obtain ⟨la, lc, rfl, hll⟩ := hl.shape
  rw [List.length_map, List.length_cons, hgl] at hl hll ⊢
  obtain ⟨a', ha'⟩ : ∃ a', la = some a' := by (rcases hl with ⟨h1, h2⟩ | ⟨a0, c0, h1, _⟩); (simp at h2); (injection h1 with h1 _ _; exact ⟨a0, h1⟩)
  subst ha'
  obtain ⟨ba, bc, rfl, hbl, hbc⟩ := hst.shape
  rw [List.length_map] at hbl hst ⊢
  obtain ⟨m, hm⟩ : ∃ m, begun.length = m := ⟨_, rfl⟩
  have HM := hid hm; have HGL := hid hgl
  rw [hm] at hbl hst hb5 ⊢
  clear hm hgl hn hok
  obtain ⟨N, hN⟩ : ∃ N, n + 1 = N := ⟨_, rfl⟩
  have HN := hid hN
  rw [hN] at hl hll ⊢
  have hN0 : ¬ (N : Int) = 0 := by omega
  have hN1 : ((N : Int) == 0) = false := beq_eq_false_iff_ne.mpr hN0
  have hNp : (0 : Int) < (N : Int) := by omega
  have hnm : N - 1 = n := by omega
  have hNc : N ≤ lc := by (rcases hl with ⟨h1, h2⟩ | ⟨a0, c0, h1, h2, h3, _⟩); (simp at h2); (injection h1 with _ _ h1; subst h1; simp only [List.length_map, List.length_cons] at h2; have := HGL.out; omega)
  have hlc9 : lc ≤ 9223372036854775807 := by (rcases hl with ⟨h1, h2⟩ | ⟨a0, c0, h1, h2, h3, _⟩); (simp at h2); (injection h1 with _ _ h1; subst h1; exact h3)
  have hlci : (1 : Int) ≤ (lc : Int) := by omega
  have hNi1 : (1 : Int) ≤ (N : Int) := by omega
  obtain ⟨ad, had⟩ : ∃ ad, (if lc = 1 then some a' else some (a'.add 4)) = some ad := by split <;> exact ⟨_, rfl⟩
  have had1 : (if lc = 1 then some a' else some (⟨a'.block, a'.off + 4, none⟩ : Addr)) = some ad := by rw [← had]; split <;> simp [Addr.add]
  have hadq : 1 < N → ad = a'.add 4 := fun h => by rw [if_neg (by omega)] at had; injection had with had; exact had.symm
  have HADQ := hid hadq; clear had hadq
  have hn5 : n ≤ 5 := by omega
  clear hN
  obtain ⟨i0, hi, hz0, hzz1, hz2⟩ := info_parts Tryz.infoS
  obtain ⟨i2, hj, hy0, hy1, hy2⟩ := info_parts Tryz.infoSS
  have HX := hid hX; have HR := hid hr; have HST0 := hid hst; clear hX hr hst
  go_enter Tryz.func127, Tryz.ntmps127
  go_upto_region 1 with fail
  generalize hW : World.alloc w _ = v1
  have q0 : v1.cell? ⟨w.heap.size, 0, none⟩ = some (.int .i64 bid) := by rw [← hW]; simp [go_sem]
  have q1 : v1.cell? ⟨w.heap.size, 1, none⟩ = some (.int .i64 bwi) := by rw [← hW]; simp [go_sem]
  have q2 : v1.cell? ⟨w.heap.size, 2, none⟩ = some (.int .i64 bde) := by rw [← hW]; simp [go_sem]
  have q3 : v1.cell? ⟨w.heap.size, 3, none⟩ = some (.int .i64 bce) := by rw [← hW]; simp [go_sem]
  have q4 : v1.cell? ⟨w.heap.size, 4, none⟩ = some (.int .i64 bhi) := by rw [← hW]; simp [go_sem]
  have q5 : v1.cell? ⟨w.heap.size, 5, none⟩ = some (.int .i64 bbe) := by rw [← hW]; simp [go_sem]
  have hbv : Below w.heap.size w v1 := by rw [← hW]; exact (Below.refl _ _).alloc (Nat.le_refl _) _
  have hz1 : w.heap.size ≤ v1.heap.size := hbv.size
  clear hW
  have hl1 : FeetAt v1 (.slice (some a') N lc) (⟨sw, sd, sh, sg⟩ :: gs) := hl.below hbv
  clear hl
  go_upto_region 4 with fail
  obtain ⟨b0, hb0, hrl, hc0, hcc⟩ := (show RowsAt 4 v1 (.slice (some a') ((⟨sw, sd, sh, sg⟩ :: gs).map rowF).length lc) ((⟨sw, sd, sh, sg⟩ :: gs).map rowF) by rw [List.length_map, List.length_cons, HGL.out, HN.out]; exact hl1).row (k := 0) (by simp)
  injection hb0 with hb0; subst hb0
  have s0 := hc0 _ rfl
  have s1 := hcc 1 _ (by decide) rfl
  have s2 := hcc 2 _ (by decide) rfl
  have s3 := hcc 3 _ (by decide) rfl
  simp only [List.map_cons, List.getElem_cons_zero, rowF] at s0 s1 s2 s3
  have hz5 : a'.add (0 * 4) = a' := by cases a' with | mk b o l => cases l <;> simp [Addr.add]
  rw [hz5] at s0 s1 s2 s3
  clear hc0 hcc hrl hz5
  have hstc : ∀ W' : World, Below v1.heap.size v1 W' → Calls Tryz.prog 65 #[.agg #[.int .i64 bid, .int .i64 bwi, .int .i64 bde, .int .i64 bce, .int .i64 bhi, .int .i64 bbe], .agg #[.int .i64 sw, .int .i64 sd, .int .i64 sh, .int .i64 sg]] W' (fun e w'' => ∃ v, e = .returned v ∧ Below W'.heap.size W' w'' ∧ w''.ownsRow v1.heap.size 62 3 v SL.length (SL.flatMap cellsP)) := fun W' hb => by
   refine (rstands_any2 HX.out hso).mono ?_
   rintro e w'' ⟨v, rfl, h2, h3⟩
   rw [HSL.out] at h3
   exact ⟨v, rfl, h2, owns_base hb.size h3⟩
  have HST := hid hstc; clear hstc
  refine wp_region_Rs [(4, fun v W => W.ownsRow v1.heap.size 62 3 v SL.length (SL.flatMap cellsP))] [0, 1, 2, 3, 4, 5, 6] 0 (by kernel_rfl) rfl (by simp only [List.forall_mem_cons]; exact ⟨keeps_owns, fun _ h => by cases h⟩) (by kernel_rfl) ?_
  simp only [numbered, List.filterMap_cons, List.filterMap_nil, List.getElem?_toArray, List.getElem?_cons_succ, List.getElem?_cons_zero, Option.map_some]
  show wpS _ _ _ _ _ _ _ [(_, _), (_, _), (_, _), (_, _), (_, _), (_, _), (_, _)] _ _
  (refine wpS_quiet rfl rfl ?_; intro K hK inst hx; have zq0 := fun x => (fun _ => bkeep (BQ.below x) q0) (hx x); have zq1 := fun x => (fun _ => bkeep (BQ.below x) q1) (hx x); have zq2 := fun x => (fun _ => bkeep (BQ.below x) q2) (hx x); have zq3 := fun x => (fun _ => bkeep (BQ.below x) q3) (hx x); have zq4 := fun x => (fun _ => bkeep (BQ.below x) q4) (hx x); have zq5 := fun x => (fun _ => bkeep (BQ.below x) q5) (hx x); go_big_quiet_op; (first | go_big_quiet_on | (refine ⟨_, fun _ => rfl, ?_⟩; go_big_quiet_on)); clear hx inst)
  (refine wpS_quiet rfl rfl ?_; intro K hK inst hx; go_big_quiet_op; (first | go_big_quiet_on | (refine ⟨_, fun _ => rfl, ?_⟩; go_big_quiet_on)); clear hx inst)
  (refine wpS_quiet rfl rfl ?_; intro K hK inst hx; go_big_quiet_op; (first | go_big_quiet_on | (refine ⟨_, fun _ => rfl, ?_⟩; go_big_quiet_on)); clear hx inst)
  (refine wpS_quiet rfl rfl ?_; intro K hK inst hx; have zs0 := fun x => (fun _ => bkeep (BQ.below x) s0) (hx x); have zs1 := fun x => (fun _ => bkeep (BQ.below x) s1) (hx x); have zs2 := fun x => (fun _ => bkeep (BQ.below x) s2) (hx x); have zs3 := fun x => (fun _ => bkeep (BQ.below x) s3) (hx x); go_big_quiet_op; (first | go_big_quiet_on | (refine ⟨_, fun _ => rfl, ?_⟩; go_big_quiet_on)); clear hx inst)
  refine wpS_fresh rfl rfl (fun w' hb hF => ?_) ?_
  ·change freshAt _ _ _ (fun v W => W.ownsRow v1.heap.size 62 3 v SL.length (SL.flatMap cellsP)) _; unfold freshAt; go_simp; exact HST.out _ hb
  intro v W hv; simp only [pOf, List.lookup_cons, Nat.reduceBEq, beq_self_eq_true] at hv; obtain ⟨sa, sc, rfl, -⟩ := owns_shape hv
  simp only [Act.put, List.setIfInBounds_toArray, List.set_cons_succ, List.set_cons_zero]
  (refine wpS_quiet rfl rfl ?_; intro K hK inst hx; go_big_quiet_op; (first | go_big_quiet_on | (refine ⟨_, fun _ => rfl, ?_⟩; go_big_quiet_on)); clear hx inst)
  (refine wpS_quiet rfl rfl ?_; intro K hK inst hx; go_big_quiet_op; (first | go_big_quiet_on | (refine ⟨_, fun _ => rfl, ?_⟩; go_big_quiet_on)); clear hx inst)
  refine wpS_nil ?_
  intro w4 hall
  have hb := hall.1
  have hso4 : w4.ownsRow v1.heap.size 62 3 _ SL.length (SL.flatMap cellsP) := hall.2 4 _ rfl
  clear hall
  refine wpAny_done (by kernel_rfl) ?_ _
  have hbw := bnext (w := w) hbv hb
  replace q0 := bkeep hb q0
  replace q1 := bkeep hb q1
  replace q2 := bkeep hb q2
  replace q3 := bkeep hb q3
  replace q4 := bkeep hb q4
  replace q5 := bkeep hb q5
  replace s0 := bkeep hb s0
  replace s1 := bkeep hb s1
  replace s2 := bkeep hb s2
  replace s3 := bkeep hb s3
  have hl4 := hl1.below hb
  have hlt4 := stAt_cellsP hso4
  clear hb HST hso4 hl1 hbv
  obtain ⟨v4, hv4⟩ : ∃ v, v = w4 := ⟨_, rfl⟩
  subst hv4
  have hz4 : w.heap.size ≤ v4.heap.size := hbw.size
  go_wp2_with fail
  go_loopg [11, 13, 14, 15, 29] SL.length (fun gk ov _ _ _ kv wr => ∃ (j : Nat) (rows : List (List St)), j ≤ SL.length ∧ gk = SL.length - j ∧ kv = .int .i64 j ∧ rows.length < most ∧ Hid (rows = (SL.take j).flatMap H) ∧ RowsQ v4.heap.size 41 62 ov rows wr ∧ Below v4.heap.size v4 wr)
  case atStart => exact ⟨0, [], Nat.zero_le _, rfl, rfl, hm1, (by show [] = _; rw [List.take_zero]; rfl), RowsQ.nil, Below.refl _ _⟩
  case round =>
   obtain ⟨j, rows, hj', hgk, rfl, hrm, HA, hrows, hB4⟩ := hrel
   have HGK2 := hid hgk; clear hgk
   have hb1 : Below w.heap.size w wr := bnext (w := w) hbw hB4
   obtain ⟨us, hus, hqs⟩ := hrows
   obtain ⟨oa, oc, rfl, -⟩ := owns_shape hus
   by_cases hlj : j < SL.length
   ·have hjl : (j : Int) < (SL.length : Int) := by omega
    have p0 := bkeep hB4 q0
    have p1 := bkeep hB4 q1
    have p2 := bkeep hB4 q2
    have p3 := bkeep hB4 q3
    have p4 := bkeep hB4 q4
    have p5 := bkeep hB4 q5
    have r0 := bkeep hB4 s0
    have r1 := bkeep hB4 s1
    have r2 := bkeep hB4 s2
    have r3 := bkeep hB4 s3
    obtain ⟨⟨py, px, pt⟩, hpj⟩ : ∃ p, SL[j] = p := ⟨_, rfl⟩
    have hstr := (show StAt wr (.slice sa (SL.map toSq).length sc) (SL.map toSq) by rw [List.length_map]; exact hlt4.below hB4).row (k := j) (by rw [List.length_map]; exact hlj)
    obtain ⟨b', hb', e0, e1, e2⟩ := hstr
    simp only [List.getElem_map, hpj, toSq] at e0 e1 e2
    subst hb'
    have hmem : (⟨py, px, pt⟩ : St) ∈ standsL ⟨bid, bwi, bde, bce, bhi, bbe⟩ ⟨sw, sd, sh, sg⟩ := by rw [HSL.out, ← hpj]; exact List.getElem_mem hlj
    obtain ⟨mk, hmk⟩ : ∃ mk, maskW ⟨bid, bwi, bde, bce, bhi, bbe⟩ ⟨sw, sd, sh, sg⟩ ⟨py, px, pt⟩ = mk := ⟨_, rfl⟩
    obtain ⟨hrl1, hml⟩ := maskW_rel HX.out hso hmem
    rw [hmk] at hrl1 hml
    obtain ⟨mo, hmo⟩ : ∃ mo, maskOf ⟨sw, sd, sh, sg⟩ ⟨py, px, pt⟩ = mo := ⟨_, rfl⟩
    rw [hmo] at hrl1
    have HMO := hid hmo; have HMK := hid hmk; have HPJ := hid hpj; have HMEM := hid hmem; have HRL := hid hrl1; have HUS := hid hus; have HQS := hid hqs; clear hmo hmk hpj hmem hrl1 hus hqs
    go_upto_region 7 with fail
    generalize hW : World.alloc wr _ = v5
    have c0 : v5.cell? ⟨wr.heap.size, 0, none⟩ = some (.int .i64 py) := by rw [← hW]; simp [go_sem]
    have c1 : v5.cell? ⟨wr.heap.size, 1, none⟩ = some (.int .i64 px) := by rw [← hW]; simp [go_sem]
    have c2 : v5.cell? ⟨wr.heap.size, 2, none⟩ = some (.bool pt) := by rw [← hW]; simp [go_sem]
    have hb : Below wr.heap.size wr v5 := by rw [← hW]; exact (Below.refl _ _).alloc (Nat.le_refl _) _
    replace hB4 := bnext (w := v4) hB4 hb
    replace hb1 := bnext (w := w) hb1 hb
    replace p0 := bkeep hb p0
    replace p1 := bkeep hb p1
    replace p2 := bkeep hb p2
    replace p3 := bkeep hb p3
    replace p4 := bkeep hb p4
    replace p5 := bkeep hb p5
    replace r0 := bkeep hb r0
    replace r1 := bkeep hb r1
    replace r2 := bkeep hb r2
    replace r3 := bkeep hb r3
    have hus5 := owns_below HUS.out hb
    have HQ5 := hid (show ∀ (k : Nat) (u : Value) (q : List St), us[k]? = some u → rows[k]? = some q → v5.ownsRow v4.heap.size 62 3 u q.length (q.flatMap cellsP) from fun k u q h1 h2 => owns_below (HQS.out k u q h1 h2) hb)
    have HU5 := hid hus5
    clear hb hW e0 e1 e2 hus5 HUS HQS
    have xc0 := fun x : BW v5 => bkeep x.below c0
    have xc1 := fun x : BW v5 => bkeep x.below c1
    have xc2 := fun x : BW v5 => bkeep x.below c2
    have xp0 := fun x : BW v5 => bkeep x.below p0
    have xp1 := fun x : BW v5 => bkeep x.below p1
    have xp2 := fun x : BW v5 => bkeep x.below p2
    have xp3 := fun x : BW v5 => bkeep x.below p3
    have xp4 := fun x : BW v5 => bkeep x.below p4
    have xp5 := fun x : BW v5 => bkeep x.below p5
    have xr0 := fun x : BW v5 => bkeep x.below r0
    have xr1 := fun x : BW v5 => bkeep x.below r1
    have xr2 := fun x : BW v5 => bkeep x.below r2
    have xr3 := fun x : BW v5 => bkeep x.below r3
    refine wp_region_qb (by kernel_rfl) (by kernel_rfl) fun hc => ?_
    repeat (go_big_quiet_step ((go_at_call 80; exact BW.call _ (rCells_eq HX.out hso HMEM.out HMK.out))))
    refine wpQuiet_nil ?_
    intro w9 hb
    replace hB4 := bnext (w := v4) hB4 hb
    replace hb1 := bnext (w := w) hb1 hb
    replace p0 := bkeep hb p0
    replace p1 := bkeep hb p1
    replace p2 := bkeep hb p2
    replace p3 := bkeep hb p3
    replace p4 := bkeep hb p4
    replace p5 := bkeep hb p5
    replace c0 := bkeep hb c0
    replace c1 := bkeep hb c1
    replace c2 := bkeep hb c2
    have HU9 := hid (owns_below HU5.out hb)
    have HQ9 := hid (show ∀ (k : Nat) (u : Value) (q : List St), us[k]? = some u → rows[k]? = some q → w9.ownsRow v4.heap.size 62 3 u q.length (q.flatMap cellsP) from fun k u q h1 h2 => owns_below (HQ5.out k u q h1 h2) hb)
    clear hb hc HU5 HQ5 r0 r1 r2 r3 xc0 xc1 xc2 xp0 xp1 xp2 xp3 xp4 xp5 xr0 xr1 xr2 xr3
    have hand := i64_and_nat u mk (by omega) (by omega)
    have hor := i64_or_nat u mk (by omega) (by omega)
    have hrel0 := rel_and (box_w HX.out).1 (box_w HX.out).2 HR.out HRL.out
    have hstep : (SL.take (j + 1)).flatMap H = rows ++ H ⟨py, px, pt⟩ := by rw [flat_step hlj, HPJ.out, ← HA.out]
    have HSTEP := hid hstep; have HAND := hid hand; have HOR := hid hor; clear hstep hand hor
    have hfr : ∀ W' : World, Below w9.heap.size w9 W' → ∀ q : Addr, (1 < N → q = a'.add 4) → FeetAt W' (.slice (some q) n (lc - 1)) gs := fun W' hb q hq => by
     have h := ft_lat ((hl4.below hB4).below hb)
     rw [List.length_cons, HGL.out, HN.out] at h
     have h2 := h.tail (k := 1) (q := q) (by omega) hq
     rw [show N - 1 = n by have := HN.out; omega] at h2
     have e9 : ((⟨sw, sd, sh, sg⟩ :: gs).flatMap cellsF).drop (1 * 4) = gs.flatMap cellsF := by rw [List.flatMap_cons]; exact List.drop_left' rfl
     rw [e9] at h2
     exact feet_of_lat HGL.out hokg h2
    have HFR := hid hfr; clear hfr
    by_cases h0 : u &&& mk = 0
    ·have ht0 := hrel0.1 h0
     clear hrel0
     obtain ⟨rb, hrb⟩ : ∃ rb, roomB ⟨bid, bwi, bde, bce, bhi, bbe⟩ gs (t ||| mo) = rb := ⟨_, rfl⟩
     have HRBB := hid hrb; clear hrb
     have hz : ((u &&& mk : Nat) : Int) = 0 := by rw [h0]; rfl
     have ha2 : bits .and .i64 (u : Int) (mk : Int) = 0 := HAND.out.trans hz
     have ho2 := HOR.out
     clear hz h0 HAND HOR
     have hcall : ∀ (W' : World) (q : Addr), Below w9.heap.size w9 W' → (1 < N → q = a'.add 4) → Calls Tryz.prog 148 #[.agg #[.int .i64 bid, .int .i64 bwi, .int .i64 bde, .int .i64 bce, .int .i64 bhi, .int .i64 bbe], .slice (some q) n (lc - 1), .int .i64 ((u ||| mk : Nat) : Int)] W' (Ret W' (.bool rb)) := fun W' q hb hq => rRoom HX.out n HGL.out hn5 (HFR.out _ hb q hq) hokg (Nat.or_lt_two_pow hu hml) (rel_or HR.out HRL.out) HRBB.out
     have HC := hid hcall; clear hcall
     go_upto_region 8 with fail
     cases rb
     ·have xp0 := fun x : BW w9 => bkeep x.below p0
      have xp1 := fun x : BW w9 => bkeep x.below p1
      have xp2 := fun x : BW w9 => bkeep x.below p2
      have xp3 := fun x : BW w9 => bkeep x.below p3
      have xp4 := fun x : BW w9 => bkeep x.below p4
      have xp5 := fun x : BW w9 => bkeep x.below p5
      refine wp_region_qb (by kernel_rfl) (by kernel_rfl) fun hc => ?_
      repeat (go_big_quiet_step ((go_at_call 148; exact BW.call _ (HC.out _ _ (BW.below _) HADQ.out))))
      refine wpQuiet_nil ?_
      intro w7 hb
      replace hB4 := bnext (w := v4) hB4 hb
      have HU := hid (owns_below HU9.out hb)
      have HQ := hid (show ∀ (k : Nat) (u : Value) (q : List St), us[k]? = some u → rows[k]? = some q → w7.ownsRow v4.heap.size 62 3 u q.length (q.flatMap cellsP) from fun k u q h1 h2 => owns_below (HQ9.out k u q h1 h2) hb)
      clear hb hc ha2 ho2 HC
      have hnil : H ⟨py, px, pt⟩ = [] := by rw [← HH.out]; exact hit_room (by rw [HMO.out]; exact ht0) (by rw [HMO.out]; exact HRBB.out)
      have HA2 := hid (show rows = (SL.take (j + 1)).flatMap H by rw [HSTEP.out, hnil, List.append_nil])
      clear hnil HSTEP HA
      go_wp2_with fail
      go_roundg (SL.length - (j + 1))
      case measure => have h := HGK2.out; omega
      case rel => exact ⟨j + 1, rows, by omega, rfl, by go_num, hrm, HA2, ⟨us, HU.out, HQ.out⟩, hB4⟩
     ·have xp0 := fun x : BW w9 => bkeep x.below p0
      have xp1 := fun x : BW w9 => bkeep x.below p1
      have xp2 := fun x : BW w9 => bkeep x.below p2
      have xp3 := fun x : BW w9 => bkeep x.below p3
      have xp4 := fun x : BW w9 => bkeep x.below p4
      have xp5 := fun x : BW w9 => bkeep x.below p5
      refine wp_region_qb (by kernel_rfl) (by kernel_rfl) fun hc => ?_
      repeat (go_big_quiet_step ((go_at_call 148; exact BW.call _ (HC.out _ _ (BW.below _) HADQ.out))))
      refine wpQuiet_nil ?_
      intro w7 hb
      replace hB4 := bnext (w := v4) hB4 hb
      have HU := hid (owns_below HU9.out hb)
      have HQ := hid (show ∀ (k : Nat) (u : Value) (q : List St), us[k]? = some u → rows[k]? = some q → w7.ownsRow v4.heap.size 62 3 u q.length (q.flatMap cellsP) from fun k u q h1 h2 => owns_below (HQ9.out k u q h1 h2) hb)
      have hb7 := bnext (w := w) hb1 hb
      have d0 := bkeep hb p0
      have d1 := bkeep hb p1
      have d2 := bkeep hb p2
      have d3 := bkeep hb p3
      have d4 := bkeep hb p4
      have d5 := bkeep hb p5
      have e0 := bkeep hb c0
      have e1 := bkeep hb c1
      have e2 := bkeep hb c2
      have hb97 := hb
      have hl7 : LAt 3 w7 (.slice ba m bc) m (begun.flatMap cellsP) := by
       have h : StAt w (.slice ba m bc) (begun.map toSq) := HST0.out
       have h2 := st_latP (h.below hb7)
       rw [HM.out] at h2
       exact h2
      have HLB := hid hl7
      obtain ⟨mr, hmr⟩ : ∃ mr, most - rows.length = mr := ⟨_, rfl⟩
      have hsub : (most : Int) - (rows.length : Int) = (mr : Int) := by omega
      have hwsub : wrap64 ((most : Int) - (rows.length : Int)) = (mr : Int) := by rw [IntWalk.wrap64_in _ (by omega)]; exact hsub
      have hmr1 : 1 ≤ mr := by omega
      have hmrk : mr ≤ 1000 := by omega
      have HMR := hid hmr
      clear hb hc ha2 HC hmr hl7
      go_upto_region 9 with fail
      refine wp_region_G (fun V => V.cell? ⟨w.heap.size, 0, none⟩ = some (.int .i64 bid) ∧ V.cell? ⟨w.heap.size, 1, none⟩ = some (.int .i64 bwi) ∧ V.cell? ⟨w.heap.size, 2, none⟩ = some (.int .i64 bde) ∧ V.cell? ⟨w.heap.size, 3, none⟩ = some (.int .i64 bce) ∧ V.cell? ⟨w.heap.size, 4, none⟩ = some (.int .i64 bhi) ∧ V.cell? ⟨w.heap.size, 5, none⟩ = some (.int .i64 bbe)) (fun V hV => ⟨bkeep hV d0, bkeep hV d1, bkeep hV d2, bkeep hV d3, bkeep hV d4, bkeep hV d5⟩) [0, 1, 2, 3, 4, 5, 12, 13, 14, 15] (by kernel_rfl) [(6, NewEmpty w7.heap.size 62), (8, fun v W9 => W9.ownsRow w7.heap.size 62 3 v m (begun.flatMap cellsP)), (10, NewList w7.heap.size 1 [.int .i64 (py : Nat), .int .i64 (px : Nat), .bool pt])] [6, 7, 8, 9, 10] 3 (by kernel_rfl) rfl (by simp only [List.forall_mem_cons]; exact ⟨keeps_empty, keeps_owns, keeps_list, fun _ h => by cases h⟩) (by kernel_rfl) ?_
      refine ⟨_, .agg #[.int .i64 bid, .int .i64 bwi, .int .i64 bde, .int .i64 bce, .int .i64 bhi, .int .i64 bbe], rfl, ⟨rfl, fun V hV => by (try dsimp only at hV); obtain ⟨h0, h1, h2, h3, h4, h5⟩ := hV; go_simp⟩, ?_⟩
      simp only [Act.put, List.getElem_toArray, List.getElem_cons_succ, List.getElem_cons_zero, List.setIfInBounds_toArray, List.set_cons_succ, List.set_cons_zero]
      refine ⟨_, .slice (some a') N lc, rfl, ⟨rfl, fun V hV => by (try dsimp only at hV); go_simp⟩, ?_⟩
      simp only [Act.put, List.getElem_toArray, List.getElem_cons_succ, List.getElem_cons_zero, List.setIfInBounds_toArray, List.set_cons_succ, List.set_cons_zero]
      refine ⟨_, .slice (some ad) n (lc - 1), rfl, ⟨rfl, fun V hV => by (try dsimp only at hV); go_simp⟩, ?_⟩
      simp only [Act.put, List.getElem_toArray, List.getElem_cons_succ, List.getElem_cons_zero, List.setIfInBounds_toArray, List.set_cons_succ, List.set_cons_zero]
      refine ⟨_, .int .i64 (u : Nat), rfl, ⟨rfl, fun V hV => by (try dsimp only at hV); go_simp⟩, ?_⟩
      simp only [Act.put, List.getElem_toArray, List.getElem_cons_succ, List.getElem_cons_zero, List.setIfInBounds_toArray, List.set_cons_succ, List.set_cons_zero]
      refine ⟨_, .int .i64 (mk : Nat), rfl, ⟨rfl, fun V hV => by (try dsimp only at hV); go_simp⟩, ?_⟩
      simp only [Act.put, List.getElem_toArray, List.getElem_cons_succ, List.getElem_cons_zero, List.setIfInBounds_toArray, List.set_cons_succ, List.set_cons_zero]
      refine ⟨_, .int .i64 ((u ||| mk : Nat) : Int), rfl, ⟨rfl, fun V hV => by (try dsimp only at hV); go_simp⟩, ?_⟩
      simp only [Act.put, List.getElem_toArray, List.getElem_cons_succ, List.getElem_cons_zero, List.setIfInBounds_toArray, List.set_cons_succ, List.set_cons_zero]
      refine ⟨_, .int .i64 (most : Nat), rfl, ⟨rfl, fun V hV => by (try dsimp only at hV); go_simp⟩, ?_⟩
      simp only [Act.put, List.getElem_toArray, List.getElem_cons_succ, List.getElem_cons_zero, List.setIfInBounds_toArray, List.set_cons_succ, List.set_cons_zero]
      refine ⟨_, .slice oa rows.length oc, rfl, ⟨rfl, fun V hV => by (try dsimp only at hV); go_simp⟩, ?_⟩
      simp only [Act.put, List.getElem_toArray, List.getElem_cons_succ, List.getElem_cons_zero, List.setIfInBounds_toArray, List.set_cons_succ, List.set_cons_zero]
      refine ⟨_, .int .i64 (rows.length : Nat), rfl, ⟨rfl, fun V hV => by (try dsimp only at hV); go_simp⟩, ?_⟩
      simp only [Act.put, List.getElem_toArray, List.getElem_cons_succ, List.getElem_cons_zero, List.setIfInBounds_toArray, List.set_cons_succ, List.set_cons_zero]
      refine ⟨_, .int .i64 (mr : Nat), rfl, ⟨rfl, fun V hV => by (try dsimp only at hV); go_simp; (try exact IntWalk.i64_in _ (by omega))⟩, ?_⟩
      simp only [Act.put, List.getElem_toArray, List.getElem_cons_succ, List.getElem_cons_zero, List.setIfInBounds_toArray, List.set_cons_succ, List.set_cons_zero]
      simp only [numbered, List.filterMap_cons, List.filterMap_nil, List.getElem?_toArray, List.getElem?_cons_succ, List.getElem?_cons_zero, Option.map_some]
      show wpS _ _ _ _ _ _ _ [(_, _), (_, _), (_, _), (_, _), (_, _)] _ _
      refine wpS_fresh rfl rfl (fun w' hb hF => ?_) ?_
      ·change freshAt _ _ _ (NewEmpty w7.heap.size 62) _; unfold freshAt; go_simp; exact empty_of hb
      intro v W hv; simp only [pOf, List.lookup_cons, Nat.reduceBEq, beq_self_eq_true] at hv; have hv0 := hv; obtain ⟨B0, hB0, rfl, -⟩ := hv
      simp only [Act.put, List.setIfInBounds_toArray, List.set_cons_succ, List.set_cons_zero]
      (refine wpS_quiet rfl rfl ?_; intro K hK inst hx; go_big_quiet_op; (first | go_big_quiet_on | (refine ⟨_, fun _ => rfl, ?_⟩; go_big_quiet_on)); clear hx inst)
      refine wpS_fresh rfl rfl (fun w' hb hF => ?_) ?_
      ·change freshAt _ _ _ (fun v W9 => W9.ownsRow w7.heap.size 62 3 v m (begun.flatMap cellsP)) _; have h0 : NewEmpty w7.heap.size 62 _ w' := hF 6 _ rfl (by kernel_rfl); exact fresh_append_lat (.tmp 59) (.tmp 60) 41 rfl w7.heap.size 62 i0 (.agg #[.int .i64 0, .int .i64 0, .bool false]) 3 24 Tryz.underlying41 hi hz0 hzz1 hz2 rfl (by decide) (.slice (some ⟨B0, 0, none⟩) 0 0) rfl h0 _ m (begun.flatMap cellsP) rfl (HLB.out.below hb) (by unfold maxLen; omega) (by omega) hb.size
      intro v W hv; simp only [pOf, List.lookup_cons, Nat.reduceBEq, beq_self_eq_true] at hv; have hv8 := hv; obtain ⟨ba8, bc8, rfl, -⟩ := owns_shape hv8
      simp only [Act.put, List.setIfInBounds_toArray, List.set_cons_succ, List.set_cons_zero]
      (refine wpS_quiet rfl rfl ?_; intro K hK inst hx; have z0 := fun x => (fun _ => bkeep (BQ.below x) e0) (hx x); have z1 := fun x => (fun _ => bkeep (BQ.below x) e1) (hx x); have z2 := fun x => (fun _ => bkeep (BQ.below x) e2) (hx x); go_big_quiet_op; (first | go_big_quiet_on | (refine ⟨_, fun _ => rfl, ?_⟩; go_big_quiet_on)); clear hx inst)
      refine wpS_fresh rfl rfl (fun w' hb hF => ?_) ?_
      ·change freshAt _ _ _ (NewList w7.heap.size 1 [.int .i64 (py : Nat), .int .i64 (px : Nat), .bool pt]) _; unfold freshAt; go_simp; exact list_of hb
      intro v W hv; simp only [pOf, List.lookup_cons, Nat.reduceBEq, beq_self_eq_true] at hv; obtain ⟨B10, hB10, rfl, -⟩ := hv
      simp only [Act.put, List.setIfInBounds_toArray, List.set_cons_succ, List.set_cons_zero]
      refine wpS_nil ?_
      intro w8 hall
      have hb := hall.1
      have h8 : w8.ownsRow w7.heap.size 62 3 _ m _ := hall.2 8 _ rfl
      have h10 : NewList w7.heap.size 1 [.int .i64 (py : Nat), .int .i64 (px : Nat), .bool pt] _ w8 := hall.2 10 _ rfl
      obtain ⟨B', hB', hv', hn'⟩ := h10
      obtain rfl : B10 = B' := by simpa using hv'
      clear hall
      have x2 : (fun V => V.cell? ⟨w.heap.size, 0, none⟩ = some (.int .i64 bid) ∧ V.cell? ⟨w.heap.size, 1, none⟩ = some (.int .i64 bwi) ∧ V.cell? ⟨w.heap.size, 2, none⟩ = some (.int .i64 bde) ∧ V.cell? ⟨w.heap.size, 3, none⟩ = some (.int .i64 bce) ∧ V.cell? ⟨w.heap.size, 4, none⟩ = some (.int .i64 bhi) ∧ V.cell? ⟨w.heap.size, 5, none⟩ = some (.int .i64 bbe)) w8 := ⟨bkeep hb d0, bkeep hb d1, bkeep hb d2, bkeep hb d3, bkeep hb d4, bkeep hb d5⟩
      refine wpAnyC_op (r := 11) x2 (by kernel_rfl) rfl rfl (fun K hK => ?_)
      refine wp_append_own w8 (.tmp 61) (.tmp 63) 41 rfl w7.heap.size 62 i0 (.agg #[.int .i64 0, .int .i64 0, .bool false]) 3 24 Tryz.underlying41 hi hz0 hzz1 hz2 rfl (by decide) (.slice ba8 m bc8) m _ rfl h8 ⟨B10, 0, none⟩ 1 1 [.int .i64 (py : Nat), .int .i64 (px : Nat), .bool pt] rfl rfl (fun j u h => by rw [Go.WideShapes.add_plain, Nat.zero_add]; exact (hn' j u h).1) (fun u h => by simp only [List.mem_cons, List.not_mem_nil, or_false] at h; rcases h with rfl | rfl | rfl <;> rfl) (by unfold maxLen; omega) (by omega) hb.size ?_
      intro v35 w10 ho3 hg3 hnil3
      refine hK _ _ ?_
      clear hK K hnil3
      have hb3 : Below w7.heap.size w7 w10 := below_grown hb hg3 h8 hb.size (Nat.le_refl _)
      have x3 : (fun V => V.cell? ⟨w.heap.size, 0, none⟩ = some (.int .i64 bid) ∧ V.cell? ⟨w.heap.size, 1, none⟩ = some (.int .i64 bwi) ∧ V.cell? ⟨w.heap.size, 2, none⟩ = some (.int .i64 bde) ∧ V.cell? ⟨w.heap.size, 3, none⟩ = some (.int .i64 bce) ∧ V.cell? ⟨w.heap.size, 4, none⟩ = some (.int .i64 bhi) ∧ V.cell? ⟨w.heap.size, 5, none⟩ = some (.int .i64 bbe)) w10 := ⟨bkeep hb3 d0, bkeep hb3 d1, bkeep hb3 d2, bkeep hb3 d3, bkeep hb3 d4, bkeep hb3 d5⟩
      obtain ⟨xa, xc, rfl, -⟩ := owns_shape ho3
      have hst3 : StAt w10 (.slice xa (m + 1) xc) ((begun ++ [(⟨py, px, pt⟩ : St)]).map toSq) := by
       have hlen : (begun ++ [(⟨py, px, pt⟩ : St)]).length = m + 1 := by rw [List.length_append, HM.out]; rfl
       refine stAt_cellsP (T := 62) (base := w7.heap.size) ?_
       rw [hlen, List.flatMap_append, List.flatMap_singleton]; exact ho3
      have hcall := HIH.out w10 (.slice (some ad) n (lc - 1)) (.slice xa (m + 1) xc) gs (u ||| mk) (t ||| mo) mr (begun ++ [(⟨py, px, pt⟩ : St)]) HGL.out (by rw [List.length_append, HM.out]; simp; omega) (HFR.out _ (hb97.trans (hb3.mono hb97.size)) ad HADQ.out) hokg (Nat.or_lt_two_pow hu hml) (rel_or HR.out HRL.out) hst3 hmr1 hmrk
      unfold PacksRes at hcall
      have HCL := hid hcall; clear hcall hst3 ho3 hg3 h8 hb hn' x2
      refine wpAnyC_op (r := 16) x3 (by kernel_rfl) rfl rfl (fun K hK => ?_)
      go_simp
      refine HCL.out.mono ?_
      rintro e w11 ⟨rv, rfl, hb4, hres⟩
      dsimp only
      refine hK _ _ ?_
      clear hK K HCL
      have x4 : (fun V => V.cell? ⟨w.heap.size, 0, none⟩ = some (.int .i64 bid) ∧ V.cell? ⟨w.heap.size, 1, none⟩ = some (.int .i64 bwi) ∧ V.cell? ⟨w.heap.size, 2, none⟩ = some (.int .i64 bde) ∧ V.cell? ⟨w.heap.size, 3, none⟩ = some (.int .i64 bce) ∧ V.cell? ⟨w.heap.size, 4, none⟩ = some (.int .i64 bhi) ∧ V.cell? ⟨w.heap.size, 5, none⟩ = some (.int .i64 bbe)) w11 := ⟨bkeep hb4 x3.1, bkeep hb4 x3.2.1, bkeep hb4 x3.2.2.1, bkeep hb4 x3.2.2.2.1, bkeep hb4 x3.2.2.2.2.1, bkeep hb4 x3.2.2.2.2.2⟩
      refine wpAnyC_op (r := 17) x4 (by kernel_rfl) rfl rfl (fun K hK => ?_)
      go_simp
      refine hK _ _ ?_; clear hK K
      refine wpAnyC_end x4 (by kernel_rfl) ?_
      refine ⟨rfl, ?_⟩
      have hb711 : Below w7.heap.size w7 w11 := hb3.trans (hb4.mono hb3.size)
      have hb11 := bnext (w := w) hb7 hb711
      have hB11 := bnext (w := v4) hB4 hb711
      have hus11 := owns_below HU.out hb711
      have hz10 : v4.heap.size ≤ w10.heap.size := by have h1 := hB4.size; have h2 := hb3.size; omega
      have hhit : (packsF (List.map (spotsL ⟨bid, bwi, bde, bce, bhi, bbe⟩) gs) (t ||| mo)).map ((begun ++ [(⟨py, px, pt⟩ : St)]) ++ ·) = H ⟨py, px, pt⟩ := by rw [← HH.out, hit_packs (by rw [HMO.out]; exact ht0), HMO.out]
      rw [hhit] at hres
      obtain ⟨MR, hMR⟩ : ∃ l, (H ⟨py, px, pt⟩).take mr = l := ⟨_, rfl⟩
      rw [hMR] at hres
      have hsum : rows ++ MR = ((SL.take (j + 1)).flatMap H).take most := by rw [HSTEP.out, ← take_more hrm, HMR.out, hMR]
      have hmrl : MR.length ≤ mr := by rw [← hMR, List.length_take]; omega
      obtain ⟨ms, hms, hmq⟩ := hres.base (lo2 := v4.heap.size) hz10
      have hmsl : ms.length = MR.length := by have := hms.1; omega
      have hmlat := rows_lat hms (fun u hu => by obtain ⟨k, hk⟩ := List.getElem?_of_mem hu; have hkl := (List.getElem?_eq_some_iff.1 hk).1; exact row_one (hmq k u MR[k] hk (List.getElem?_eq_getElem (by omega))))
      have HSUM := hid hsum; have HQ11 := hid (show ∀ (k : Nat) (u : Value) (q : List St), us[k]? = some u → rows[k]? = some q → w11.ownsRow v4.heap.size 62 3 u q.length (q.flatMap cellsP) from fun k u q h1 h2 => owns_below (HQ.out k u q h1 h2) hb711)
      have HMQ := hid hmq; have HML := hid hmlat; have HMSL := hid hmsl
      obtain ⟨ra, rc, rfl, -⟩ := owns_shape hms
      obtain ⟨k9, hk9⟩ : ∃ k, MR.length = k := ⟨_, rfl⟩
      obtain ⟨r9, hr9⟩ : ∃ k, rows.length = k := ⟨_, rfl⟩
      have HK9 := hid hk9; have HR9 := hid hr9
      rw [hk9] at hmrl hms ⊢
      rw [hr9] at hrm hus11 hsub hwsub ⊢
      clear hsum hmq hmlat hmsl hk9 hr9 hres hhit hMR x3 x4 hb3 hb4 hb711 HLB hsub hwsub ho2 d0 d1 d2 d3 d4 d5 e0 e1 e2 p0 p1 p2 p3 p4 p5 c0 c1 c2
      have hrk : r9 + k9 ≤ 1000 := by have h1 := HMR.out; have h2 := HR9.out; omega
      go_upto_region 11 with (at_builtin; go_must (refine wpList_append_lat rfl _ _ 117 rfl v4.heap.size 41 i2 (.slice none 0 0) 1 24 Tryz.underlying117 hj hy0 hy1 hy2 rfl (by decide) _ r9 us rfl hus11 _ k9 ms rfl (by have h := HML.out; rw [HK9.out] at h; exact h) (by unfold maxLen; omega) (by omega) hB11.size ?_; intro v' w12 ho12 hg12; have hR12 : RowsQ v4.heap.size 41 62 v' (rows ++ MR) w12 := RowsQ.append (by decide) (by rw [HR9.out]; exact hus11) HQ11.out HMQ.out HMSL.out hg12 (by rw [HR9.out, HK9.out]; exact ho12); have hb12 : Below w.heap.size w w12 := below_grown hb11 hg12 hus11 hb11.size hz4; have hB12 : Below v4.heap.size v4 w12 := below_grown hB11 hg12 hus11 hB11.size (Nat.le_refl _); obtain ⟨ya, yc, rfl, -⟩ := owns_shape ho12; clear ho12 hg12))
      by_cases hdone : most ≤ r9 + k9
      ·have hd : (SL.flatMap H).take most = rows ++ MR := by rw [HSUM.out]; exact take_done (by rw [← HSUM.out, List.length_append, HR9.out, HK9.out]; exact hdone)
       have HD := hid hd; have HR12 := hid hR12; clear hd hR12 HSUM HSTEP HA
       have hdi : (most : Int) ≤ ((r9 + k9 : Nat) : Int) := by omega
       have hdi2 : (most : Int) ≤ (r9 : Int) + (k9 : Int) := by omega
       go_wp2_with fail
       go_ret
       rw [HD.out]
       exact ⟨_, rfl, hb12, HR12.out.base hz4⟩
      ·have hal : rows ++ MR = (SL.take (j + 1)).flatMap H := by
        have h := HSUM.out
        have h2 := congrArg List.length h
        rw [List.length_append, HR9.out, HK9.out, List.length_take] at h2
        rw [h]; exact List.take_of_length_le (by omega)
       have HA2 := hid hal; have HR12 := hid hR12; clear hal hR12 HSUM HSTEP HA
       have hdi : ¬ (most : Int) ≤ ((r9 + k9 : Nat) : Int) := by omega
       have hdi2 : ¬ (most : Int) ≤ (r9 : Int) + (k9 : Int) := by omega
       go_wp2_with fail
       go_roundg (SL.length - (j + 1))
       case measure => have h := HGK2.out; omega
       case rel => exact ⟨j + 1, rows ++ MR, by omega, rfl, by go_num, by rw [List.length_append, HR9.out, HK9.out]; omega, HA2, HR12.out, hB12⟩
    ·have ht0 : ¬ t &&& mo = 0 := fun e => h0 (hrel0.2 e)
     clear hrel0
     have hnil : H ⟨py, px, pt⟩ = [] := by rw [← HH.out]; exact hit_used (by rw [HMO.out]; exact ht0)
     have HA2 := hid (show rows = (SL.take (j + 1)).flatMap H by rw [HSTEP.out, hnil, List.append_nil])
     clear hnil HSTEP HA
     have hz : ¬ ((u &&& mk : Nat) : Int) = 0 := by omega
     have hand2 := HAND.out
     obtain ⟨ga2, hga2⟩ : ∃ z : Int, bits .and .i64 (u : Int) (mk : Int) = z := ⟨_, rfl⟩
     have hzg : ¬ ga2 = 0 := by rw [← hga2, hand2]; exact hz
     have hz3 : (ga2 == 0) = false := beq_eq_false_iff_ne.mpr hzg
     have hz6 : (ga2 != 0) = true := by simpa using hzg
     clear hand2 HAND HOR hz h0
     go_upto_region 8 with fail
     have xp0 := fun x : BW w9 => bkeep x.below p0
     have xp1 := fun x : BW w9 => bkeep x.below p1
     have xp2 := fun x : BW w9 => bkeep x.below p2
     have xp3 := fun x : BW w9 => bkeep x.below p3
     have xp4 := fun x : BW w9 => bkeep x.below p4
     have xp5 := fun x : BW w9 => bkeep x.below p5
     refine wp_region_qb (by kernel_rfl) (by kernel_rfl) fun hc => ?_
     repeat (go_big_quiet_step (fail))
     refine wpQuiet_nil ?_
     intro w7 hb
     replace hB4 := bnext (w := v4) hB4 hb
     have HU := hid (owns_below HU9.out hb)
     have HQ := hid (show ∀ (k : Nat) (u : Value) (q : List St), us[k]? = some u → rows[k]? = some q → w7.ownsRow v4.heap.size 62 3 u q.length (q.flatMap cellsP) from fun k u q h1 h2 => owns_below (HQ9.out k u q h1 h2) hb)
     clear hb hc
     go_wp2_with fail
     go_roundg (SL.length - (j + 1))
     case measure => have h := HGK2.out; omega
     case rel => exact ⟨j + 1, rows, by omega, rfl, by go_num, hrm, HA2, ⟨us, HU.out, HQ.out⟩, hB4⟩
   ·obtain rfl : j = SL.length := by omega
    have hd : (SL.flatMap H).take most = rows := by have h := HA.out; rw [List.take_of_length_le (Nat.le_refl _)] at h; rw [← h]; exact List.take_of_length_le (by omega)
    have HD := hid hd; have HU := hid hus; have HQ := hid hqs; clear hd HA hus hqs
    go_wp2_with fail
    go_ret
    rw [HD.out]
    exact ⟨_, rfl, hb1, RowsQ.base ⟨us, HU.out, HQ.out⟩ hz4⟩
end Go.Proofs.YtodmidchpbcnpaaGreat