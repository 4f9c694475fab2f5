/- Part of a claim. -/
import Derived.Test.YtodmidchpbcnpaaGreatG23V
set_option linter.unusedVariables false
set_option linter.unusedSimpArgs false
namespace Go.Proofs.YtodmidchpbcnpaaGreat
open Go.RowKit Go.Pb Go.Pb.Ware Go.Pb.Sag


open Go.Shelf
attribute [local go_sem] Oper.semAt_some
set_option maxRecDepth 100000 in
set_option maxHeartbeats 1000000 in
theorem spots_none {w : World} {bid bwi bde bce bhi bbe : Int} {lv : Value} {fs : List Ft} (hf0 : fs = []) (hl : FeetAt w lv fs) :
  Calls Tryz.prog 129 #[.agg #[.int .i64 bid, .int .i64 bwi, .int .i64 bde, .int .i64 bce, .int .i64 bhi, .int .i64 bbe], lv] w (fun e W' => ∃ u, e = .returned u ∧ Below w.heap.size w W' ∧ SpotsIn w.heap.size W'.heap.size u (fs.map (spotsL ⟨bid, bwi, bde, bce, bhi, bbe⟩)) W' ∧ w.heap.size ≤ W'.heap.size) := by
 have hok : ∀ f ∈ fs, FtOk f := fun f h => by rw [hf0] at h; cases h
 have hn : fs.length ≤ 5 := by rw [hf0]; simp
 have HF0 := hid hf0; clear hf0
 obtain ⟨la, lc, rfl, hll⟩ := hl.shape
 have HL := hid hl
 rw [List.length_map] at hl hll ⊢
 obtain ⟨i0, hi, hz0, hz1, hz2⟩ := info_parts Tryz.infoA
 refine (callsIn_wide (n := 8)).1 ?_
 refine callsIn_of_wp_marks Tryz.func129 rfl trivial ?_ rfl
 simp only [Tryz.ntmps129, List.size_toArray, List.length_cons, List.length_nil, Nat.reduceAdd, Nat.reduceSub, Array.replicate_succ, Array.replicate_zero, List.push_toArray, List.append_toArray, List.nil_append, List.cons_append]
 refine (wpIn_wide (n := 8)).2 ?_
 go_wp2_with (at_make; refine wpList_make_full _ rfl _ _ 172 rfl (w.heap.size + 1) 178 i0 (.slice none 0 0) 1 Tryz.underlying172 hi hz0 hz1 .i64 .i64 _ _ fs.length rfl rfl rfl rfl (by rw [hz2]; omega) (by unfold maxLen; omega) (by simp) ?_; intro w5 ho5 hg5)
 have hb5 : Below (w.alloc (.cells #[.int .i64 bid, .int .i64 bwi, .int .i64 bde, .int .i64 bce, .int .i64 bhi, .int .i64 bbe] 27)).heap.size (w.alloc (.cells #[.int .i64 bid, .int .i64 bwi, .int .i64 bde, .int .i64 bce, .int .i64 bhi, .int .i64 bbe] 27)) w5 := (Below.refl _ _).grown hg5 (Nat.le_refl _) (fun k h => by cases h)
 have hbA : ∀ o, Below w5.heap.size w5 (w5.alloc o) := fun o => (Below.refl _ _).alloc (Nat.le_refl _) _
 have hb5w : Below w.heap.size w w5 := ((Below.refl w.heap.size w).alloc (Nat.le_refl _) _).trans (hb5.mono (by simp))
 have hc5 : CellsAt w5 w.heap.size [.int .i64 bid, .int .i64 bwi, .int .i64 bde, .int .i64 bce, .int .i64 bhi, .int .i64 bbe] := (CellsAt.new w [.int .i64 bid, .int .i64 bwi, .int .i64 bde, .int .i64 bce, .int .i64 bhi, .int .i64 bbe] 27).below hb5
 simp only [World.size_alloc] at ho5
 have hm5 := made_outer (B := w.heap.size + 1) ho5
 have hz5 : w.heap.size + 1 < w5.heap.size := by have := (World.ownsRow.lt ho5 (w.heap.size + 1) (by simp [Value.ownBlock])).2; exact this
 clear ho5 hg5
 obtain ⟨sp, hsp⟩ : ∃ sp, (fs.map (spotsL ⟨bid, bwi, bde, bce, bhi, bbe⟩)) = sp := ⟨_, rfl⟩
 obtain ⟨n, hnn⟩ : ∃ n, fs.length = n := ⟨_, rfl⟩
 have hspn : sp.length = n := by rw [← hsp, List.length_map, hnn]
 rw [hnn] at hn hm5 hl hll ⊢
 have HSP := hid hsp; have HNN := hid hnn; have HSN := hid hspn; clear hsp hnn hspn
 refine wp_loop_ghost_k (fun gk a wr => ∃ (i : Nat) (ds : List Nat) (u6 u7 u15 u16 u17 u18 u19 u20 u21 u37 : Value), (i ≤ n ∧ gk = n - i ∧ SpotsUpTo w.heap.size (w.heap.size + 1) n (sp.take i) wr ∧ Below w.heap.size w wr ∧ CellsAt wr w.heap.size [.int .i64 bid, .int .i64 bwi, .int .i64 bde, .int .i64 bce, .int .i64 bhi, .int .i64 bbe] ∧ CellsAt wr w5.heap.size [.slice (some ⟨w.heap.size + 1, 0, none⟩) n n] ∧ w5.heap.size < wr.heap.size ∧ Waits ds wr ∧ (∀ D ∈ ds, w.heap.size ≤ D)) ∧ a = { tmps := #[.agg #[.int .i64 bid, .int .i64 bwi, .int .i64 bde, .int .i64 bce, .int .i64 bhi, .int .i64 bbe], .slice la n lc, .pointer (some ⟨w.heap.size, 0, none⟩), undef, .slice none 0 0, .pointer (some ⟨w5.heap.size, 0, none⟩), u6, u7, undef, .slice la n lc, .int .i64 (n : Int), .slice (some ⟨w.heap.size + 1, 0, none⟩) n n, .slice la n lc, .int .i64 (n : Int), .int .i64 (i : Int), u15, u16, u17, u18, u19, u20, u21, undef, undef, undef, undef, undef, undef, undef, undef, undef, undef, undef, undef, undef, undef, undef, u37, undef], defers := marks ds }) n ⟨0, [], undef, undef, undef, undef, undef, undef, undef, undef, undef, undef, ?_, rfl⟩ ?_
 ·exact ⟨Nat.zero_le _, rfl, ⟨fun i l h => by simp at h, fun i _ h => bkeep (hbA _) (hm5 i h).1, fun i h => bfree (hbA _) (hm5 i h).1 (hm5 i h).2⟩, hb5w.trans ((hbA _).mono hb5w.size), hc5.below (hbA _), CellsAt.new w5 _ 172, by simp, Waits.nil, fun D h => by cases h⟩
 intro gk a0 wr hinv J K hJ hK
 obtain ⟨i, ds, u6, u7, u15, u16, u17, u18, u19, u20, u21, u37, ⟨hin, hgk, hU, hB, hC, hA, hzz, hW, hD⟩, rfl⟩ := hinv
 clear hm5 hbA hb5 hc5 hb5w
 by_cases hlt : i < n
 ·exfalso
  have h1 := HNN.out
  have h2 := HF0.out
  rw [h2] at h1
  simp at h1
  omega
 ·have hie : i = n := by omega
  have hnl : ¬ (i : Int) < (n : Int) := by omega
  have hfin : SpotsIn w.heap.size wr.heap.size (.slice (some ⟨w.heap.size + 1, 0, none⟩) n n) sp wr := ⟨w.heap.size + 1, ⟨by omega, by omega⟩, by rw [HSN.out], fun j l h => by
   obtain ⟨a, cap, c1, c0, c2⟩ := hU.1 j l (by rw [hie, ← HSN.out, List.take_length]; exact h)
   exact ⟨a, cap, c1, c0, fun k x hx => by obtain ⟨b, hb, e, h3⟩ := c2 k x hx; exact ⟨b, ⟨hb.1, hb.2.1⟩, e, h3⟩⟩⟩
  have HF := hid hfin; have HW := hid hW; have HD := hid hD; clear hfin hU hW hD
  have q0 := (hA 0 _ rfl).1
  go_wp2_with fail
  show LeavesInM _ _ _ _ _ _ (marks ds) .returning wr
  refine leaves_marks (by simp) ds wr HW.out (fun W3 hcl => ?_)
  exact ⟨.slice (some ⟨w.heap.size + 1, 0, none⟩) n n, by simp [results, Tryz.results129, go_sem], _, rfl, hB.trans (hcl.below HD.out), by rw [hcl.size, HSP.out]; exact HF.out.closed hcl HW.out, by rw [hcl.size]; exact hB.size⟩
end Go.Proofs.YtodmidchpbcnpaaGreat