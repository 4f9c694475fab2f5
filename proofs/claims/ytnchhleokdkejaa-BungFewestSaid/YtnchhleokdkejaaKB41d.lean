/- A copy of saggars. -/
import Derived.Test.YtnchhleokdkejaaKB46d
import Derived.Test.YtnchhleokdkejaaKB22d
import Derived.Test.YtnchhleokdkejaaKSud
import Derived.Test.YtnchhleokdkejaaKB10d
import Derived.Test.YtnchhleokdkejaaKScd
import Derived.Laws.AppendOwn
import Derived.OwnWalk
import Derived.Deep.LoopGhost
import Derived.Test.YtnchhleokdkejaaKBed
import Derived.Test.YtnchhleokdkejaaKLibDd
import Derived.Deep.DeepMust
import Derived.Deep.CutBlock
namespace Go.Proofs.Ytnchhleokdkejaa
open Go.RowKit Go.Pb Go.Pb.Ware Go.Pb.Sag
set_option linter.unusedVariables false
set_option linter.unusedSimpArgs false

open Go.Pb.Bung
theorem lenG (s : Sg) : (cellsG s).length = 8 := rfl
theorem sg_len (l : List Sg) : (l.flatMap cellsG).length = l.length * 8 := flat_len cellsG lenG l
theorem sg_one {l : List Sg} : ∀ u ∈ l.flatMap cellsG, u.oneCell' = true := fun u hu => by
  obtain ⟨s, _, h⟩ := List.mem_flatMap.1 hu
  exact one_cellsG s u h
theorem sg_lat {w : World} {v : Value} {l : List Sg} (h : RowsAt 8 w v (l.map rowG)) : LAt 8 w v l.length (l.flatMap cellsG) := by
  refine ⟨sg_len l, sg_one, ?_⟩
  rcases h with ⟨h1, h2⟩ | ⟨a, cap, h1, h2, h3, h4⟩
  · rw [List.map_eq_nil_iff] at h2; subst h2; exact .inl ⟨h1, rfl⟩
  · rw [List.length_map] at h1 h2
    refine .inr ⟨a, cap, h1, h2, h3, fun j u hu => ?_⟩
    have hj := (List.getElem?_eq_some_iff.1 hu).1
    rw [sg_len] at hj
    have hk : j / 8 < l.length := by omega
    have hx : l[j / 8]? = some l[j / 8] := List.getElem?_eq_getElem hk
    have e := flat_get cellsG lenG hx (show j % 8 < 8 by omega)
    rw [show j / 8 * 8 + j % 8 = j by omega] at e
    have hu2 : (cellsG l[j / 8])[j % 8]? = some u := by rw [← e]; exact hu
    have h5 := (h4 (j / 8) (rowG l[j / 8]) (by rw [List.getElem?_map, hx]; rfl)).2
    unfold cellsG at hu2
    rw [List.getElem?_map] at hu2
    obtain ⟨z, hz, rfl⟩ := Option.map_eq_some_iff.1 hu2
    have := (h5 (j % 8) z hz).1
    rwa [show j / 8 * 8 + j % 8 = j by omega] at this

end Go.Proofs.Ytnchhleokdkejaa

/- BungWithout returns true. -/
namespace Go.Proofs.Ytnchhleokdkejaa
open Go.RowKit Go.Pb Go.Pb.Ware Go.Pb.Sag
set_option linter.unusedVariables false
set_option linter.unusedSimpArgs false

open Go.Proofs Go.Pb.Bung
theorem len_cellsG (s : Sg) : (cellsG s).length = 8 := rfl
end Go.Proofs.Ytnchhleokdkejaa

/- BungFewest returns true. -/
namespace Go.Proofs.Ytnchhleokdkejaa
open Go.RowKit Go.Pb Go.Pb.Ware Go.Pb.Sag
set_option linter.unusedVariables false
set_option linter.unusedSimpArgs false

open Go.Proofs Go.Pb.Bung
set_option maxRecDepth 100000 in
set_option maxHeartbeats 1000000 in
theorem bungFewest_walk {w : World} {v : Value} {l : List Sg} {lo hi cr le : Int} (h : RowsAt 8 w v (l.map rowG)) :
    Calls Try.prog 10 #[.agg #[.int .i64 lo, .int .i64 hi, v, .int .i64 cr, .int .i64 le]] w (Ret w (.bool true)) := by
  unfold Ret
  obtain ⟨i0, hi0, hz0, hz1, hz2⟩ := info_parts Try.infoG
  have hlat := sg_lat h
  have hi64 := i64_rows h
  obtain ⟨a, cap, rfl, hll⟩ := h.shape
  rw [List.length_map] at h hll ⊢
  rw [List.length_map] at hlat
  have hcapx := hlat.shape
  obtain ⟨n, hn⟩ : ∃ n, l.length = n := ⟨_, rfl⟩
  have HN := hid hn
  rw [hn] at h hll hlat ⊢
  have HI64 : Hid (∀ s ∈ l, ∀ z ∈ rowG s, I64 z) := hid hi64
  have HLT := hid hlat
  clear hn hi64 hlat hcapx
  go_enter Try.func10, Try.ntmps10
  go_upto_region 1 with fail
  generalize hW : World.alloc w _ = v1
  have y0 : CellsAt v1 w.heap.size [.int .i64 lo, .int .i64 hi, .slice a n cap, .int .i64 cr, .int .i64 le] := by rw [← hW]; exact CellsAt.new w [.int .i64 lo, .int .i64 hi, .slice a n cap, .int .i64 cr, .int .i64 le] 75
  have hB : Below w.heap.size w v1 := by rw [← hW]; exact (Below.refl _ w).alloc (Nat.le_refl _) _
  clear hW
  have hl := h.below hB
  have q0 := (y0 0 _ rfl).1
  have q1 := (y0 1 _ rfl).1
  have q2 := (y0 2 _ rfl).1
  have q3 := (y0 3 _ rfl).1
  have q4 := (y0 4 _ rfl).1
  go_wp2_with fail
  refine (sane_any).mono ?_
  rintro e w1 ⟨rfl, hb⟩
  clear q0 q1 q2 q3 q4
  replace y0 := y0.below hb
  replace hl := hl.below hb
  replace hB := bnext (w := w) hB hb
  clear hb
  (try dsimp only)
  have q0 := (y0 0 _ rfl).1
  have q1 := (y0 1 _ rfl).1
  have q2 := (y0 2 _ rfl).1
  have q3 := (y0 3 _ rfl).1
  have q4 := (y0 4 _ rfl).1
  by_cases h7 : n ≤ 7
  · have h7i : ¬ (7 : Int) < (n : Int) := by omega
    obtain ⟨r, hr⟩ : ∃ r, fewA lo hi l cr le = r := ⟨_, rfl⟩
    have hsm := fewA_small hr
    have HR := hid hr
    obtain ⟨gs, f⟩ := r
    dsimp only at hsm
    have HSM := hid hsm; clear hr hsm
    go_wp2_with fail
    refine (Fewest_any hl HR.out).mono ?_
    rintro e w1 ⟨pv, rfl, hb, hgr⟩
    clear q0 q1 q2 q3 q4
    replace y0 := y0.below hb
    replace hl := hl.below hb
    replace hB := bnext (w := w) hB hb
    clear hb
    (try dsimp only)
    have q0 := (y0 0 _ rfl).1
    have q1 := (y0 1 _ rfl).1
    have q2 := (y0 2 _ rfl).1
    have q3 := (y0 3 _ rfl).1
    have q4 := (y0 4 _ rfl).1
    dsimp only at hgr
    have hpv := groupsAt_lists hgr HSM.out.2.2
    clear hgr
    go_wp2_with fail
    refine (rFewest_any hl HR.out).mono ?_
    rintro e w1 ⟨tv, rfl, hb, ht⟩
    clear q0 q1 q2 q3 q4
    replace y0 := y0.below hb
    replace hl := hl.below hb
    replace hpv := hpv.below hb
    replace hB := bnext (w := w) hB hb
    clear hb
    (try dsimp only)
    have q0 := (y0 0 _ rfl).1
    have q1 := (y0 1 _ rfl).1
    have q2 := (y0 2 _ rfl).1
    have q3 := (y0 3 _ rfl).1
    have q4 := (y0 4 _ rfl).1
    dsimp only at ht
    go_wp2_with fail
    refine (sameParts_any hpv ht HSM.out.1 HSM.out.2.1 (decide_eq_true rfl)).mono ?_
    rintro e w1 ⟨rfl, hb⟩
    clear q0 q1 q2 q3 q4
    replace y0 := y0.below hb
    replace hB := bnext (w := w) hB hb
    clear hb
    (try dsimp only)
    have q0 := (y0 0 _ rfl).1
    have q1 := (y0 1 _ rfl).1
    have q2 := (y0 2 _ rfl).1
    have q3 := (y0 3 _ rfl).1
    have q4 := (y0 4 _ rfl).1
    go_wp2_with fail
    go_ret
    exact ⟨rfl, hB⟩
  · have h7i : (7 : Int) < (n : Int) := by omega
    by_cases h9 : n ≤ 9
    · have h9i : (n : Int) ≤ 9 := by omega
      obtain ⟨a', rfl⟩ : ∃ a', a = some a' := by cases a with | none => (have := HLT.out.nil; omega) | some a' => exact ⟨a', rfl⟩
      have hcap : n ≤ cap := by obtain ⟨_, _, e, x, y, _⟩ := HLT.out.shape; injection e with _ _ e3; subst e3; exact x
      have hc7 : (7 : Int) ≤ (cap : Int) := by omega
      have hn7 : (7 : Int) ≤ (n : Int) := by omega
      have HL7 := hid (HLT.out.head (k := 7) (by omega))
      obtain ⟨v2, hv2⟩ : ∃ v, v = w1 := ⟨_, rfl⟩
      subst hv2
      go_upto_region 4 with (at_builtin; go_must (refine wpList_append_lat rfl _ _ 24 rfl v2.heap.size 33 i0 (.agg #[.int .i64 0, .int .i64 0, .int .i64 0, .int .i64 0, .int .i64 0, .int .i64 0, .int .i64 0, .int .i64 0]) 8 64 Try.underlying24 hi0 hz0 hz1 hz2 rfl (by decide) (.slice (some ⟨v2.heap.size, 0, none⟩) 0 0) 0 [] rfl (owns_empty v2 33 8) (.slice (some a') 7 cap) 7 _ rfl ((HL7.out.below hB).below ((Below.refl _ _).alloc (Nat.le_refl _) _)) (by unfold maxLen; omega) (by omega) (by simp) ?_; intro v24 w4 ho4 hg4; have hb4 := Pb.below_grown ((Below.refl v2.heap.size v2).alloc (Nat.le_refl _) _) hg4 (owns_empty v2 33 8) (by simp) (Nat.le_refl _); rw [Nat.zero_add, List.nil_append] at ho4; obtain ⟨xa, xc, rfl, -⟩ := owns_shape ho4; have yb4 := y0.below hb4; have c2 := (yb4 2 _ rfl).1; have f2 := (yb4 2 _ rfl).2; clear hg4))
      have hx : w.heap.size < v2.heap.size := World.block_lt_of_cell? v2 ⟨w.heap.size, 0, none⟩ q0
      have y9 := cells_store (o := 2) (u := .slice xa 7 xc) yb4
      have o9 := own_set (o := 2) (u := .slice xa 7 xc) ho4 hx
      have hB9 := (bnext (w := w) hB hb4).setCell (p := ⟨w.heap.size, 2, none⟩) (Nat.le_refl _) (.slice xa 7 xc)
      clear c2 f2 yb4 hb4 ho4 hl q0 q1 q2 q3 q4
      generalize (World.setCell _ _ _ : World) = w1 at *
      clear y0 hB
      have y0 : CellsAt w1 w.heap.size [.int .i64 lo, .int .i64 hi, .slice xa 7 xc, .int .i64 cr, .int .i64 le] := y9
      have hB := hB9
      have htl : (l.take 7).length = 7 := by rw [List.length_take, HN.out]; omega
      rw [(drop_take_erase len_cellsG (l := l) (k := 7)).1] at o9
      have hl := rows_of_owns (l := l.take 7) (by rw [htl]; exact o9) (fun s hs => HI64.out s (List.mem_of_mem_take hs))
      clear y9 hB9 o9 htl
      have q0 := (y0 0 _ rfl).1
      have q1 := (y0 1 _ rfl).1
      have q2 := (y0 2 _ rfl).1
      have q3 := (y0 3 _ rfl).1
      have q4 := (y0 4 _ rfl).1
      obtain ⟨r, hr⟩ : ∃ r, fewA lo hi (l.take 7) cr le = r := ⟨_, rfl⟩
      have hsm := fewA_small hr
      have HR := hid hr
      obtain ⟨gs, f⟩ := r
      dsimp only at hsm
      have HSM := hid hsm; clear hr hsm
      go_wp2_with fail
      refine (Fewest_any hl HR.out).mono ?_
      rintro e w1 ⟨pv, rfl, hb, hgr⟩
      clear q0 q1 q2 q3 q4
      replace y0 := y0.below hb
      replace hl := hl.below hb
      replace hB := bnext (w := w) hB hb
      clear hb
      (try dsimp only)
      have q0 := (y0 0 _ rfl).1
      have q1 := (y0 1 _ rfl).1
      have q2 := (y0 2 _ rfl).1
      have q3 := (y0 3 _ rfl).1
      have q4 := (y0 4 _ rfl).1
      dsimp only at hgr
      have hpv := groupsAt_lists hgr HSM.out.2.2
      clear hgr
      go_wp2_with fail
      refine (rFewest_any hl HR.out).mono ?_
      rintro e w1 ⟨tv, rfl, hb, ht⟩
      clear q0 q1 q2 q3 q4
      replace y0 := y0.below hb
      replace hl := hl.below hb
      replace hpv := hpv.below hb
      replace hB := bnext (w := w) hB hb
      clear hb
      (try dsimp only)
      have q0 := (y0 0 _ rfl).1
      have q1 := (y0 1 _ rfl).1
      have q2 := (y0 2 _ rfl).1
      have q3 := (y0 3 _ rfl).1
      have q4 := (y0 4 _ rfl).1
      dsimp only at ht
      go_wp2_with fail
      refine (sameParts_any hpv ht HSM.out.1 HSM.out.2.1 (decide_eq_true rfl)).mono ?_
      rintro e w1 ⟨rfl, hb⟩
      clear q0 q1 q2 q3 q4
      replace y0 := y0.below hb
      replace hB := bnext (w := w) hB hb
      clear hb
      (try dsimp only)
      have q0 := (y0 0 _ rfl).1
      have q1 := (y0 1 _ rfl).1
      have q2 := (y0 2 _ rfl).1
      have q3 := (y0 3 _ rfl).1
      have q4 := (y0 4 _ rfl).1
      go_wp2_with fail
      go_ret
      exact ⟨rfl, hB⟩
    · have h9i : ¬ (n : Int) ≤ 9 := by omega
      obtain ⟨r, hr⟩ : ∃ r, fewA lo hi l cr le = r := ⟨_, rfl⟩
      have hsm := fewA_small hr
      have HR := hid hr
      obtain ⟨gs, f⟩ := r
      dsimp only at hsm
      have HSM := hid hsm; clear hr hsm
      go_wp2_with fail
      refine (Fewest_any hl HR.out).mono ?_
      rintro e w1 ⟨pv, rfl, hb, hgr⟩
      clear q0 q1 q2 q3 q4
      replace y0 := y0.below hb
      replace hl := hl.below hb
      replace hB := bnext (w := w) hB hb
      clear hb
      (try dsimp only)
      have q0 := (y0 0 _ rfl).1
      have q1 := (y0 1 _ rfl).1
      have q2 := (y0 2 _ rfl).1
      have q3 := (y0 3 _ rfl).1
      have q4 := (y0 4 _ rfl).1
      dsimp only at hgr
      have hpv := groupsAt_lists hgr HSM.out.2.2
      clear hgr
      go_wp2_with fail
      refine (rFewest_any hl HR.out).mono ?_
      rintro e w1 ⟨tv, rfl, hb, ht⟩
      clear q0 q1 q2 q3 q4
      replace y0 := y0.below hb
      replace hl := hl.below hb
      replace hpv := hpv.below hb
      replace hB := bnext (w := w) hB hb
      clear hb
      (try dsimp only)
      have q0 := (y0 0 _ rfl).1
      have q1 := (y0 1 _ rfl).1
      have q2 := (y0 2 _ rfl).1
      have q3 := (y0 3 _ rfl).1
      have q4 := (y0 4 _ rfl).1
      dsimp only at ht
      go_wp2_with fail
      refine (sameParts_any hpv ht HSM.out.1 HSM.out.2.1 (decide_eq_true rfl)).mono ?_
      rintro e w1 ⟨rfl, hb⟩
      clear q0 q1 q2 q3 q4
      replace y0 := y0.below hb
      replace hB := bnext (w := w) hB hb
      clear hb
      (try dsimp only)
      have q0 := (y0 0 _ rfl).1
      have q1 := (y0 1 _ rfl).1
      have q2 := (y0 2 _ rfl).1
      have q3 := (y0 3 _ rfl).1
      have q4 := (y0 4 _ rfl).1
      go_wp2_with fail
      go_ret
      exact ⟨rfl, hB⟩

end Go.Proofs.Ytnchhleokdkejaa
