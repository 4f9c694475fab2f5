/- Part of a claim. -/
import Derived.Test.YtodmidchpbcnpaaGreatG30U
import Derived.Test.YtodmidchpbcnpaaGreatKTjU
import Derived.Test.YtodmidchpbcnpaaGreatW24U
import Derived.Deep.LoopGhost
set_option linter.unusedVariables false
set_option linter.unusedSimpArgs false
namespace Go.Proofs.YtodmidchpbcnpaaGreat
open Go.RowKit Go.Pb Go.Pb.Ware Go.Pb.Sag


def castL (of : List Nat) : List Int := of.map (fun x : Nat => (x : Int))
theorem castL_len (of : List Nat) : (castL of).length = of.length := by unfold castL; rw [List.length_map]
theorem castL_at {of : List Nat} {k : Nat} (h : k < of.length) : (castL of)[k]'(by rw [castL_len]; exact h) = (of[k] : Int) := by unfold castL; rw [List.getElem_map]
theorem grp_groups {lo : Nat} {gv : Value} {gs : List (List Int)} {W : World} (h : GrpAt lo 71 3 gv gs W) : GroupsAt lo gv gs W := by
 obtain ⟨vs, h1, h2, _⟩ := h
 exact ⟨vs, h1, h2⟩
theorem one_cell' (w : World) (x : Value) (t : TypeId) (n : Nat) (hn : w.heap.size = n) : ∀ j u, [x][j]? = some u → (w.alloc (.cells #[x] t)).cell? ((⟨n, 0, none⟩ : Addr).add j) = some u := by
 subst hn
 intro j u hu
 rw [Go.WideShapes.add_plain, Nat.zero_add]
 exact (CellsAt.new w [x] t j u hu).1
theorem where_len {g : Nat} : ∀ {l : List Nat} {i : Nat}, (whereL g i l).length ≤ l.length
 | [], _ => Nat.le_refl _
 | a :: l, i => by
  have ih := where_len (g := g) (l := l) (i := i + 1)
  rw [whereL]
  split
  ·rw [List.length_cons, List.length_cons]; omega
  ·rw [List.length_cons]; omega
set_option maxRecDepth 100000 in
set_option maxHeartbeats 1500000 in
theorem rGrouped {w : World} {v : Value} {of : List Nat} {many : Nat} (hi : NumsAt w v (castL of)) (hlt0 : ∀ x ∈ of, x < many) (hmy : many ≤ 1000) (hol : of.length ≤ 1000) :
  Calls Tryz.prog 103 #[v, .int .i64 (many : Int)] w (fun e w' => ∃ u, e = .returned u ∧ Below w.heap.size w w' ∧ GroupsAt w.heap.size u (groupedL of many) w') := by
 obtain ⟨a, cap, rfl, hl1, hl2⟩ := hi.shape
 rw [castL_len] at hl1 ⊢
 obtain ⟨m, hmm⟩ : ∃ m, of.length = m := ⟨_, rfl⟩
 rw [hmm] at hl1 hol ⊢
 have HM := hid hmm; clear hmm
 obtain ⟨i2, hq, ha0, ha1, ha2⟩ := info_parts Tryz.infoG
 obtain ⟨i1, hj, hy0, hy1, hy2⟩ := info_parts Tryz.infoI
 go_enter Tryz.func103, Tryz.ntmps103
 go_upto_region 2 with (at_make; refine wpList_make_full _ rfl _ _ 57 rfl w.heap.size 71 i2 (.slice none 0 0) 1 Tryz.underlying57 hq ha0 ha1 .i64 .i64 _ _ many rfl rfl rfl rfl (by rw [ha2]; omega) (by unfold maxLen; omega) (Nat.le_refl _) ?_; intro v1 ho1 hg1)
 have hB1 : Below w.heap.size w v1 := (Below.refl _ w).grown hg1 (Nat.le_refl _) (fun k h => by cases h)
 have hg0 : GrpAt w.heap.size 71 3 _ (groupedL [] many) v1 := GrpAt.new ho1
 clear ho1 hg1
 go_wp2_with fail
 go_loopg [6, 7, 12] m (fun gk _ _ kv wr => ∃ k : Nat, k ≤ m ∧ gk = m - k ∧ kv = .int .i64 k ∧ GrpAt w.heap.size 71 3 (.slice (some ⟨w.heap.size, 0, none⟩) many many) (groupedL (of.take k) many) wr ∧ Below w.heap.size w wr)
 case atStart => exact ⟨0, Nat.zero_le _, rfl, rfl, hg0, hB1⟩
 case round =>
  clear hg0 hB1
  obtain ⟨k, hk, hgk, rfl, hgr, hB⟩ := hrel
  have HGK := hid hgk; clear hgk
  have hzr := hB.size
  by_cases hlt : k < m
  ·have hki : (k : Int) < (m : Int) := by omega
   have hko : k < of.length := by rw [HM.out]; exact hlt
   obtain ⟨a', ha, r0⟩ := (hi.below hB).elem (k := k) (by rw [castL_len]; exact hko)
   subst ha
   rw [castL_at hko] at r0
   obtain ⟨g, hg⟩ : ∃ g, of[k] = g := ⟨_, rfl⟩
   have hgm : g < many := hg ▸ hlt0 _ (List.getElem_mem hko)
   rw [hg] at r0
   have hrow : (groupedL (of.take k) many)[g]? = some (whereL g 0 (of.take k)) := grouped_at hgm
   have htk : (of.take k).length = k := by rw [List.length_take]; omega
   have hnext : groupedL (of.take (k + 1)) many = (groupedL (of.take k) many).set g (whereL g 0 (of.take k) ++ [(k : Int)]) := by
    have h := grouped_old (of := of.take k) (many := many) hgm
    rw [htk] at h
    rw [List.take_succ_eq_append_getElem hko, hg, h]
   obtain ⟨row, hre⟩ : ∃ r, whereL g 0 (of.take k) = r := ⟨_, rfl⟩
   have hrl : row.length ≤ 1000 := by rw [← hre]; have := where_len (g := g) (l := of.take k) (i := 0); omega
   have hheads : ∀ (j : Nat) (g' : List Int) (x y : Int), j ≠ g → (groupedL (of.take k) many)[j]? = some g' → g'[0]? = some x → (row ++ [(k : Int)])[0]? = some y → x ≠ y := fun j g' x y hjg hj hx hy => by
    have hjm : j < many := by have := (List.getElem?_eq_some_iff.1 hj).1; rwa [grouped_len] at this
    rw [grouped_at hjm] at hj
    injection hj with hj
    subst hj
    have h := where_heads (l := of.take k) hjg hx (y := y) (by rw [htk, hre]; exact hy)
    exact h
   rw [hre] at hrow hnext
   obtain ⟨vs, ho, hr, hA, hE⟩ := hgr
   rw [grouped_len] at ho
   obtain ⟨v, hv⟩ : ∃ v, vs[g]? = some v := ⟨_, List.getElem?_eq_getElem (by have := ho.1; omega)⟩
   have hrw := hr g v row hv hrow
   obtain ⟨xa, xc, rfl, hgl⟩ := owns_shape hrw
   have q1 : wr.cell? ⟨w.heap.size, g, none⟩ = some (.slice xa row.length xc) := by have h := ho.cells (g := w.heap.size) rfl g _ hv; rw [Go.WideShapes.add_plain, Nat.zero_add] at h; exact h
   have hgi : (g : Int) < (many : Int) := by omega
   have HN := hid hnext; have HRO := hid hrow; have HR := hid hr; have HH := hid hheads; have HV := hid hv; clear hnext hrow hr hheads hre hv hg hgl hlt0
   go_upto_region 5 with fail
   go_upto_region 6 with (at_builtin; go_must (refine wpList_append_own _ rfl _ _ 71 rfl w.heap.size 3 i1 (.int .i64 0) 1 8 Tryz.underlying71 hj hy0 hy1 hy2 rfl (by decide) _ _ _ rfl (hrw.alloc _) ⟨wr.heap.size, 0, none⟩ 1 1 [.int .i64 (k : Int)] rfl rfl (one_cell' _ _ _ _ rfl) (fun u h => by simp only [List.mem_cons, List.not_mem_nil, or_false] at h; rcases h with rfl; rfl) (by unfold maxLen; omega) (by omega) (by simp; omega) ?_; intro v' w3 ho3 hg3 hnil; have hpush := GrpAt.push (TO := 71) (TI := 3) (i := k) (by decide) grouped_len HRO.out HV.out HH.out ho HR.out hA hE hzr ((Below.refl _ wr).alloc (Nat.le_refl _) _) hg3 ho3; obtain ⟨⟨p0, p1⟩, hgr2, hB2⟩ := hpush; obtain ⟨xb, xd, rfl, -⟩ := owns_shape ho3; clear ho3 hg3 hnil))
   rw [← HN.out] at hgr2
   have hB3 : Below w.heap.size w _ := hB.trans hB2
   have HGR := hid hgr2; have HB3 := hid hB3; clear hgr2 hB3 hB2 p0 p1 hrw q1 ho hA hE
   go_wp2_with fail
   go_roundg (m - (k + 1))
   case measure => have h := HGK.out; omega
   case rel => exact ⟨k + 1, by omega, rfl, by go_num, HGR.out, HB3.out⟩
  ·obtain rfl : k = m := by omega
   rw [List.take_of_length_le (by rw [HM.out]; exact Nat.le_refl _)] at hgr
   have HGR := hid hgr; clear hgr
   go_wp2_with fail
   go_ret
   exact ⟨_, rfl, hB, grp_groups HGR.out⟩
end Go.Proofs.YtodmidchpbcnpaaGreat