/- Part of a claim. -/
import Derived.Test.YtodmidchpbcnpaaGreatG57R
import Derived.Test.YtodmidchpbcnpaaGreatKG14R
import Derived.Test.YtodmidchpbcnpaaGreatG16R
import Derived.Test.YtodmidchpbcnpaaGreatW24R
set_option linter.unusedVariables false
set_option linter.unusedSimpArgs false
namespace Go.Proofs.YtodmidchpbcnpaaGreat
open Go.RowKit Go.Pb Go.Pb.Ware Go.Pb.Sag


set_option maxRecDepth 100000 in
set_option maxHeartbeats 2000000 in
theorem rSome {w : World} {lv v : Value} {fs : List Ft} {zs : List Int} (hl : FeetAt w lv fs) (hn : fs.length ≤ 1000) (hi : NumsAt w v zs) (hzn : zs.length ≤ 1000) (hz : ∀ z ∈ zs, 0 ≤ z ∧ z < (fs.length : Int)) :
  Calls Tryz.prog 92 #[lv, v] w (NewFeet 34 (chosenL fs zs) w) := by
 obtain ⟨i0, hi0, hz0, hz1, hz2⟩ := info_parts Tryz.infoF
 obtain ⟨a, cap, rfl, hl1, hl2⟩ := hi.shape
 obtain ⟨la, lc, rfl, hll⟩ := hl.shape
 rw [List.length_map] at hl hll ⊢
 unfold NewFeet
 go_enter Tryz.func92, Tryz.ntmps92
 go_wp2_with fail
 go_loopg [5, 7, 10] zs.length (fun gk fv _ iv wr => ∃ k : Nat, k ≤ zs.length ∧ gk = zs.length - k ∧ iv = .int .i64 k ∧ wr.ownsRow w.heap.size 34 4 fv k ((chosenL fs (zs.take k)).flatMap cellsF) ∧ Below w.heap.size w wr)
 case atStart => exact ⟨0, Nat.zero_le _, rfl, rfl, by simpa [chosenL] using World.ownsRow_nil _ _ _ _, Below.refl _ _⟩
 case round =>
  obtain ⟨k, hk, hgk, rfl, ho, hb0⟩ := hrel
  have HGK := hid hgk; clear hgk
  have hzr := hb0.size
  obtain ⟨ua, uc, rfl, hul⟩ := owns_shape ho
  by_cases hlt : k < zs.length
  ·obtain ⟨a', ha, r0⟩ := (hi.below hb0).elem hlt
   subst ha
   obtain ⟨m, hm⟩ : ∃ m : Nat, zs[k] = (m : Int) := ⟨zs[k].toNat, by have := hz zs[k] (List.getElem_mem hlt); omega⟩
   have hmb : m < fs.length := by have := hz zs[k] (List.getElem_mem hlt); omega
   rw [hm] at r0
   obtain ⟨b', hb', hrl, hc0, hcc⟩ := (show RowsAt 4 wr (.slice la (fs.map rowF).length lc) (fs.map rowF) by rw [List.length_map]; exact hl.below hb0).row (k := m) (by rw [List.length_map]; exact hmb)
   subst hb'
   obtain ⟨f, hf⟩ : ∃ f, f = fs[m] := ⟨_, rfl⟩
   have hfs : fs[m]? = some f := by rw [hf]; exact List.getElem?_eq_getElem hmb
   obtain ⟨fw, fd, fh, fg⟩ := f
   have hat : (fs.map rowF)[m]'(by rw [List.length_map]; exact hmb) = [fw, fd, fh, fg] := by rw [List.getElem_map, ← hf]; rfl
   rw [hat] at hc0 hcc
   have p0 := hc0 _ rfl
   have p1 := hcc 1 _ (by decide) rfl
   have p2 := hcc 2 _ (by decide) rfl
   have p3 := hcc 3 _ (by decide) rfl
   clear hc0 hcc hat hrl hf
   have HE := hid (chosen_snoc (fs := fs) hlt hm hfs)
   clear hm hfs
   have hkl : (k : Int) < (zs.length : Int) := by omega
   have hmi : (m : Int) < (fs.length : Int) := by omega
   go_wp2_with (at_builtin; go_must (refine wpList_append_own _ rfl _ _ 38 rfl w.heap.size 34 i0 (.agg #[.int .i64 0, .int .i64 0, .int .i64 0, .int .i64 0]) 4 32 Tryz.underlying38 hi0 hz0 hz1 hz2 rfl (by decide) _ _ _ rfl (ho.alloc _) ⟨wr.heap.size, 0, none⟩ 1 1 (cellsF (⟨fw, fd, fh, fg⟩ : Ft)) rfl rfl ?c1 one_cellsF (by unfold maxLen; omega) (by omega) (by simp; omega) ?_; (case c1 => exact new_cellsF wr (⟨fw, fd, fh, fg⟩ : Ft) 34); intro v' w4 ho4 hg4 hnil; replace hb0 := below_grown (hb0.alloc (by omega) _) hg4 (ho.alloc _) (by simp; omega) (by omega); clear hg4 hnil ho))
   rw [HE.out] at ho4
   have HO := hid ho4; clear ho4 HE
   go_roundg (zs.length - (k + 1))
   case measure => have h := HGK.out; omega
   case rel => exact ⟨k + 1, by omega, rfl, by go_num, HO.out, hb0⟩
  ·obtain rfl : k = zs.length := by omega
   rw [List.take_length] at ho
   go_wp2_with fail
   go_ret
   exact ⟨_, rfl, hb0, by rw [show (chosenL fs zs).length = zs.length from List.length_map ..]; exact ho⟩
def cellsI (z : Int) : List Value := [.int .i64 z]
theorem lenI' (z : Int) : (cellsI z).length = 1 := rfl
theorem flatI (zs : List Int) : zs.flatMap cellsI = zs.map (Value.int .i64) := by
 induction zs with
 | nil => rfl
 | cons z zs ih => rw [List.flatMap_cons, ih]; rfl
theorem nums_lat {w : World} {a : Addr} {cap : Nat} {zs : List Int} (h : NumsAt w (.slice (some a) zs.length cap) zs) : LAt 1 w (.slice (some a) zs.length cap) zs.length (zs.flatMap cellsI) := by
 obtain ⟨_, _, e, h2, h3⟩ := h.shape
 injection e with _ _ e; subst e
 rw [flatI]
 refine ⟨by rw [List.length_map, Nat.mul_one], fun u hu => (by obtain ⟨z, _, rfl⟩ := List.mem_map.1 hu; rfl), .inr ⟨a, cap, rfl, h2, h3, fun j u hu => ?_⟩⟩
 rw [List.getElem?_map] at hu
 obtain ⟨hj, hz⟩ : ∃ hj : j < zs.length, u = .int .i64 zs[j] := by
  rcases Nat.lt_or_ge j zs.length with hj | hj
  ·rw [List.getElem?_eq_getElem hj] at hu; injection hu with hu; exact ⟨hj, hu.symm⟩
  ·rw [List.getElem?_eq_none hj] at hu; cases hu
 obtain ⟨a', e1, e2⟩ := h.elem hj
 injection e1 with e1; subst e1; rw [hz]; exact e2
set_option maxRecDepth 100000 in
set_option maxHeartbeats 4000000 in
theorem rWithout {a : Option Addr} {cap i : Nat} {zs : List Int} {w : World} (h : NumsAt w (.slice a zs.length cap) zs) (hi1 : i < zs.length) (hm : zs.length ≤ 1000) :
  Calls Tryz.prog 91 #[.slice a zs.length cap, .int .i64 i] w (OwnNums 3 (zs.eraseIdx i) w) := by
 obtain ⟨i0, hi, hz0, hz1, hz2⟩ := info_parts Tryz.infoI
 obtain ⟨a', rfl, -⟩ := h.elem hi1
 have hlat := nums_lat h
 obtain ⟨n, hn⟩ : ∃ n, zs.length = n := ⟨_, rfl⟩
 have hi2 : i < n := by omega
 have hle : i + (n - (i + 1)) = (zs.eraseIdx i).length := by rw [List.length_eraseIdx_of_lt hi1]; omega
 have hfe := flat_erase lenI' zs i
 have hli : ∀ z ∈ zs, I64 z := h.i64
 rw [hn] at hlat h hm ⊢
 unfold OwnNums
 have HLE := hid hle; have HFE := hid hfe; have HN := hid hn; clear hle hfe hn hi1 h
 go_enter Tryz.func91, Tryz.ntmps91
 go_upto_region 1 with fail
 obtain ⟨ad, had⟩ : ∃ ad, (if cap = i + 1 then some a' else some (a'.add ((i + 1) * 1))) = some ad := by split <;> exact ⟨_, rfl⟩
 have hlt0 : LAt 1 w (.slice (some a') n cap) n (zs.flatMap cellsI) := hlat
 have hcap : n ≤ cap ∧ cap ≤ 9223372036854775807 := by obtain ⟨_, _, e, x, y, _⟩ := hlt0.shape; injection e with _ _ e3; subst e3; exact ⟨x, y⟩
 have hc3 : (i : Int) ≤ (cap : Int) := by omega
 have hc4 : ((i : Int) + 1) ≤ (cap : Int) := by omega
 have hs1 := hlt0.head (k := i) (by omega)
 have hs2 := hlt0.tail (k := i + 1) (q := ad) (by omega) (fun hlt => by rw [if_neg (by omega)] at had; injection had with had; exact had.symm)
 have HS1 := hid hs1; have HS2 := hid hs2; clear hs1 hs2 hlt0
 have had1 : (if cap = i + 1 then some a' else some (⟨a'.block, a'.off + (i + 1), none⟩ : Addr)) = some ad := by rw [← had]; split <;> simp [Addr.add]
 refine wp_region_F [5, 6, 7, 8] (by kernel_rfl) [(0, NewEmpty w.heap.size 3), (4, fun v W9 => W9.ownsRow w.heap.size 3 1 v i ((zs.flatMap cellsI).take (i * 1)))] [0, 1, 2, 3, 4] 2 (by kernel_rfl) rfl (by simp only [List.forall_mem_cons]; exact ⟨keeps_empty, keeps_owns, fun _ h => by cases h⟩) (by kernel_rfl) ?_
 refine ⟨_, _, rfl, .inl ⟨rfl, fun w => rfl⟩, ?_⟩
 refine ⟨_, _, rfl, .inl ⟨rfl, fun w => rfl⟩, ?_⟩
 refine ⟨_, .int .i64 ((i : Int) + 1), rfl, .inl ⟨rfl, fun w => by go_simp; exact IntWalk.i64_in _ (by omega)⟩, ?_⟩
 refine ⟨_, .slice (some ad) (n - (i + 1)) (cap - (i + 1)), rfl, .inl ⟨rfl, fun w => by go_simp; intro h; exfalso; have := h (by omega); omega⟩, ?_⟩
 show wpS _ _ _ _ _ _ _ (numbered _ _) _ _
 (try simp only [Act.put, List.getElem_toArray, List.getElem_cons_succ, List.getElem_cons_zero, List.setIfInBounds_toArray, List.set_cons_succ, List.set_cons_zero])
 simp only [numbered, List.filterMap_cons, List.filterMap_nil, List.getElem?_toArray, List.getElem?_cons_succ, List.getElem?_cons_zero, Option.map_some]
 show wpS _ _ _ _ _ _ _ [(_, _), (_, _), (_, _), (_, _), (_, _)] _ _
 refine wpS_fresh rfl rfl (fun w' hb hF => ?_) ?_
 ·change freshAt _ _ _ (NewEmpty w.heap.size 3) _; unfold freshAt; go_simp; exact empty_of hb
 intro v W hv; simp only [pOf, List.lookup_cons, Nat.reduceBEq, beq_self_eq_true] at hv; have hv0 := hv; obtain ⟨B0, hB0, rfl, -⟩ := hv
 simp only [Act.put, List.setIfInBounds_toArray, List.set_cons_succ, List.set_cons_zero]
 (refine wpS_quiet rfl rfl ?_; intro K hK inst hx; go_big_quiet_op; (first | go_big_quiet_on | (refine ⟨_, fun _ => rfl, ?_⟩; go_big_quiet_on)); clear hx inst)
 (refine wpS_quiet rfl rfl ?_; intro K hK inst hx; go_big_quiet_op; (first | go_big_quiet_on | (refine ⟨_, fun _ => rfl, ?_⟩; go_big_quiet_on)); clear hx inst)
 (refine wpS_quiet rfl rfl ?_; intro K hK inst hx; go_big_quiet_op; (first | go_big_quiet_on | (refine ⟨_, fun _ => rfl, ?_⟩; go_big_quiet_on)); clear hx inst)
 refine wpS_fresh rfl rfl (fun w' hb hF => ?_) ?_
 ·change freshAt _ _ _ (fun v W9 => W9.ownsRow w.heap.size 3 1 v i ((zs.flatMap cellsI).take (i * 1))) _; have h0 : NewEmpty w.heap.size 3 _ w' := hF 0 _ rfl (by kernel_rfl); exact fresh_append (.tmp 5) (.tmp 8) 71 rfl w.heap.size 3 i0 (.int .i64 0) 1 8 Tryz.underlying71 hi hz0 hz1 hz2 rfl (by decide) (.slice (some ⟨B0, 0, none⟩) 0 0) rfl h0 a' i cap _ rfl HS1.out.len (fun j u h => bkeep hb (HS1.out.cells j u h)) HS1.out.one (by unfold maxLen; omega) (by omega) hb.size
 intro v W hv; simp only [pOf, List.lookup_cons, Nat.reduceBEq, beq_self_eq_true] at hv; obtain ⟨ga, gc, rfl, -⟩ := owns_shape hv
 simp only [Act.put, List.setIfInBounds_toArray, List.set_cons_succ, List.set_cons_zero]
 refine wpS_nil ?_
 intro w2 hall
 have hb := hall.1
 have h4 : w2.ownsRow w.heap.size 3 1 _ i ((zs.flatMap cellsI).take (i * 1)) := hall.2 4 _ rfl
 clear hall
 refine wpAny_ready (rs := [9]) (by kernel_rfl) (by simp) ?_
 refine AllReady.cons rfl (fun K hK => ?_) AllReady.nil
 refine (if_pos (show Region.wanted _ _ = true from rfl)).mpr ?_
 refine wp_append_own w2 (.tmp 9) (.tmp 13) 71 rfl w.heap.size 3 i0 (.int .i64 0) 1 8 Tryz.underlying71 hi hz0 hz1 hz2 rfl (by decide) (.slice ga i gc) i _ rfl h4 ad (n - (i + 1)) (cap - (i + 1)) ((zs.flatMap cellsI).drop ((i + 1) * 1)) rfl HS2.out.len (fun j u h => bkeep hb (HS2.out.cells j u h)) HS2.out.one (by unfold maxLen; omega) (by omega) hb.size ?_
 intro v52 w3 ho3 hg3 hnil3
 refine hK _ _ ?_
 clear hK K hnil3
 obtain ⟨xa, xc, rfl, -⟩ := owns_shape ho3
 have hb3 : Below w.heap.size w w3 := below_grown hb hg3 h4 hb.size (Nat.le_refl _)
 clear hb hg3 h4 HS1 HS2
 refine wpAny_ready (rs := [10]) (by kernel_rfl) (by simp) ?_
 refine AllReady.cons rfl (fun K hK => ?_) AllReady.nil
 go_simp
 refine hK _ _ ?_; clear hK K
 refine wpAny_done (by kernel_rfl) ?_ _
 refine ⟨rfl, ?_⟩
 rw [HFE.out, HLE.out, flatI] at ho3
 rw [HLE.out]
 go_wp2_with fail
 go_ret
 exact ⟨_, rfl, hb3, ho3⟩
end Go.Proofs.YtodmidchpbcnpaaGreat