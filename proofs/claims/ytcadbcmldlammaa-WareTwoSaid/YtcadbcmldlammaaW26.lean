/- Contract of sources; below the blocks that were there nothing turns. -/
import Derived.Test.YtcadbcmldlammaaW25
import Derived.Test.YtcadbcmldlammaaP7
import Derived.Test.YtcadbcmldlammaaShelf
import Derived.RangeFuncBox
namespace Go.Proofs.Ytcadbcmldlammaa
open Go.RowKit Go.Pb Go.Pb.Ware
set_option linter.unusedVariables false
set_option linter.unusedSimpArgs false

theorem sort_own {base cap g : Nat} {zs : List Int} {w : World} (ho : w.ownsRow base 3 1 (.slice (some ⟨g, 0, none⟩) zs.length cap) zs.length (zs.map (Value.int .i64))) (hz : zs.length ≤ 1000) :
    Calls Try.prog 86 #[.slice (some ⟨g, 0, none⟩) zs.length cap] w fun e w' => e = .returned (.tuple #[]) ∧ w.grownBy w' (some g) ∧ w'.ownsRow base 3 1 (.slice (some ⟨g, 0, none⟩) zs.length cap) zs.length ((sorted zs).map (Value.int .i64)) := by
  obtain ⟨hl, h⟩ := ho
  rcases h with ⟨h1, _⟩ | ⟨g', cap', cur, h1, h2, h3, h4, h5, h6, h7⟩
  · cases h1
  · injection h1 with e1 _ e3
    injection e1 with e1; injection e1 with e1
    subst e1; subst e3
    rw [Nat.mul_one] at h7
    refine (Go.Proofs.Try.slices_Sort_int g 0 cap zs w (holds_of_blockI h3 h7) (Array.getElem?_eq_some_iff.1 h3).1 (by omega)).mono ?_
    rintro e w' ⟨rfl, n, os, rfl⟩
    exact ⟨rfl, grownBy_sortedI _, ownsRow_sortedI (sorted_length zs) h2 h3 h4 h5 h6⟩
theorem compact_own {base cap g : Nat} {zs : List Int} {w : World} (hi : ∀ z ∈ zs, I64 z) (ho : w.ownsRow base 3 1 (.slice (some ⟨g, 0, none⟩) zs.length cap) zs.length (zs.map (Value.int .i64))) (hz : zs.length ≤ 1000) :
    Calls Try.prog 87 #[.slice (some ⟨g, 0, none⟩) zs.length cap] w fun e w' => e = .returned (.slice (some ⟨g, 0, none⟩) (Lib.compact zs).length cap) ∧ w.grownBy w' (some g) ∧ NumsAt w' (.slice (some ⟨g, 0, none⟩) (Lib.compact zs).length cap) (Lib.compact zs) := by
  obtain ⟨hl, h⟩ := ho
  rcases h with ⟨h1, _⟩ | ⟨g', cap', cur, h1, h2, h3, h4, h5, h6, h7⟩
  · cases h1
  · injection h1 with e1 _ e3
    injection e1 with e1; injection e1 with e1
    subst e1; subst e3
    rw [Nat.mul_one] at h7
    have hcl := Lib.compact_length_le zs
    refine (Go.Proofs.Try.slices_Compact_int g 0 cap zs w (holds_of_blockI h3 h7) (by omega) h4).mono ?_
    rintro e w' ⟨rfl, q, rfl⟩
    have hlen : (Lib.compact zs ++ List.replicate (zs.length - (Lib.compact zs).length) 0).length = zs.length := by simp; omega
    have e0 : ∀ W : World, W = Go.Sort.grow W #[] := fun W => (Go.Sort.grow_empty W).symm
    rw [e0 (Go.Sort.putRow _ _ _ _ _)]
    have h8 := ownsRow_sortedI (w := w) (base := base) (n := q) (os := #[]) hlen h2 h3 h4 h5 h6
    refine ⟨rfl, grownBy_sortedI _, ?_⟩
    have h9 : NumsAt (Go.Sort.grow (Go.Sort.putRow (Value.int .i64) (Go.Sort.ahead w q) g 0 (Lib.compact zs ++ List.replicate (zs.length - (Lib.compact zs).length) 0).toArray) #[]) (.slice (some ⟨g, 0, none⟩) (Lib.compact zs ++ List.replicate (zs.length - (Lib.compact zs).length) 0).length cap) (Lib.compact zs ++ List.replicate (zs.length - (Lib.compact zs).length) 0) := by
      refine numsAt_of_owns (base := base) (e := 3) (fun z hz => ?_) (by rw [hlen]; exact h8)
      rcases List.mem_append.1 hz with h | h
      · unfold Lib.compact Lib.compactUpTo at h
        obtain ⟨j, hj, rfl⟩ := List.mem_map.1 h
        have hj2 : j < zs.length := List.mem_range.1 (List.mem_filter.1 hj).1
        have : (zs.toArray)[j]! = zs[j] := by simp [hj2]
        rw [this]; exact hi _ (List.getElem_mem hj2)
      · rw [(List.mem_replicate.1 h).2]; exact I64.mk (by omega) (by omega)
    have h10 := h9.head (k := (Lib.compact zs).length) (by simp)
    rw [List.take_left'  rfl] at h10
    exact h10

theorem one_new (w : World) (x : Value) (t : TypeId) (n : Nat) (hn : w.heap.size = n) : ∀ j u, [x][j]? = some u → (w.alloc (.cells #[x] t)).cell? ((⟨n, 0, none⟩ : Addr).add j) = some u := by
  subst hn
  intro j u hu
  rw [Go.WideShapes.add_plain, Nat.zero_add]
  exact (CellsAt.new w [x] t j u hu).1
theorem sort_len {base cap g n : Nat} {zs : List Int} {w : World} (hl : zs.length = n) (ho : w.ownsRow base 3 1 (.slice (some ⟨g, 0, none⟩) n cap) n (zs.map (Value.int .i64))) (hz : n ≤ 1000) :
    Calls Try.prog 86 #[.slice (some ⟨g, 0, none⟩) n cap] w fun e w' => e = .returned (.tuple #[]) ∧ w.grownBy w' (some g) ∧ w'.ownsRow base 3 1 (.slice (some ⟨g, 0, none⟩) n cap) n ((sorted zs).map (Value.int .i64)) := by
  subst hl; exact sort_own ho hz
theorem compact_len {base cap g n : Nat} {zs : List Int} {w : World} (hl : zs.length = n) (hi : ∀ z ∈ zs, I64 z) (ho : w.ownsRow base 3 1 (.slice (some ⟨g, 0, none⟩) n cap) n (zs.map (Value.int .i64))) (hz : n ≤ 1000) :
    Calls Try.prog 87 #[.slice (some ⟨g, 0, none⟩) n cap] w fun e w' => e = .returned (.slice (some ⟨g, 0, none⟩) (Lib.compact zs).length cap) ∧ w.grownBy w' (some g) ∧ NumsAt w' (.slice (some ⟨g, 0, none⟩) (Lib.compact zs).length cap) (Lib.compact zs) := by
  subst hl; exact compact_own hi ho hz

set_option maxRecDepth 100000 in
set_option maxHeartbeats 4000000 in
theorem sources_any {v : Value} {ts : List TT} {w : World} (h : RowsAt 5 w v (ts.map rowT)) (hm : ts.length ≤ 30) :
    Calls Try.prog 43 #[v] w (NewNums (srcs ts) w) := by
  obtain ⟨a, cap, rfl, hlen⟩ := h.shape
  rw [List.length_map] at hlen
  simp only [List.length_map] at h ⊢
  obtain ⟨i0, hi, hz0, hz1, hz2⟩ := info_parts Try.infoI
  have hbt : i0.bytes * ts.length ≤ 281474976710656 := by rw [hz2]; omega
  go_enter Try.func43, Try.ntmps43
  go_wp2_with (refine wpList_make_own _ rfl _ _ 22 rfl w.heap.size 3 i0 (.int .i64 0) 1 Try.underlying22 hi hz0 hz1 .i64 .i64 (ts.length : Int) ts.length rfl rfl rfl hbt (by unfold maxLen; omega) (by omega) ?_; intro w1 ho hg1)
  have hb0 : Below w.heap.size w w1 := (Below.refl _ _).grown hg1 (Nat.le_refl _) (fun k hk => by cases hk)
  go_loopw [3, 11] (fun nv i wr => ∃ (k g cap : Nat), k ≤ ts.length ∧ i = .int .i64 k ∧ nv = .slice (some ⟨g, 0, none⟩) k cap ∧ wr.ownsRow w.heap.size 3 1 nv k (((ts.take k).map src).map (Value.int .i64)) ∧ Below w.heap.size w wr) (fun _ i _ => ts.length - (intOf i).toNat)
  case atStart => exact ⟨0, _, _, by omega, rfl, rfl, by simpa using ho, hb0⟩
  case round =>
    clear ho hb0 hg1
    obtain ⟨k, g, cap, hk, rfl, rfl, ho, hb0⟩ := hrel
    have hz0' := hb0.size
    by_cases hlt : k < ts.length
    · obtain ⟨a', ha, hl, hc0, hcc⟩ := (show RowsAt 5 _ (.slice a (ts.map rowT).length _) (ts.map rowT) by rw [List.length_map]; exact h.below hb0).row (k := k) (by simpa using hlt)
      rw [List.getElem_map] at hc0 hcc
      have r0 := hc0 _ rfl
      have r1 := hcc 1 _ (by decide) rfl
      have r2 := hcc 2 _ (by decide) rfl
      have r3 := hcc 3 _ (by decide) rfl
      have r4 := hcc 4 _ (by decide) rfl
      subst ha
      clear hc0 hcc hl
      go_wp2_with (at_builtin; go_must (refine wpList_append_own _ rfl _ _ 22 rfl w.heap.size 3 i0 (.int .i64 0) 1 8 Try.underlying22 hi hz0 hz1 hz2 rfl (by decide) _ _ _ rfl ((ho.alloc _).alloc _) ⟨wr.heap.size + 1, 0, none⟩ 1 1 [.int .i64 (ts[k]).1.source] rfl rfl (one_new _ _ _ _ (by simp)) (by simp [Value.oneCell']) (by unfold maxLen; omega) (by omega) (by simp; omega) ?_; intro v' w4 ho4 hg4 hnil; replace hb0 := below_grown ((hb0.alloc (by omega) _).alloc (by simp; omega) _) hg4 ((ho.alloc _).alloc _) (by simp; omega) (by omega); clear hg4 hnil; obtain ⟨g', cap', rfl⟩ := ownsRow_succ ho4))
      go_roundw
      case rel => exact ⟨k + 1, _, _, by omega, by go_num, rfl, by rw [List.take_succ_eq_append_getElem hlt, List.map_append, List.map_append]; exact ho4, hb0⟩
      case measure => first | (simp [intOf]; done) | (simp [intOf]; omega)
    · obtain rfl : k = ts.length := by omega
      rw [List.take_length] at ho
      go_wp2_with fail
      refine (sort_len (by simp) ho (by omega)).mono ?_
      rintro e w5 ⟨rfl, hg5, ho5⟩
      replace hb0 := below_grown (v := .slice (some ⟨g, 0, none⟩) ts.length cap) hb0 hg5 ho (by omega) (by omega)
      clear ho hg5
      have hz5 := hb0.size
      go_wp2_with fail
      refine (compact_len (by rw [sorted_length]; simp) (fun z hz => ?_) ho5 (by omega)).mono ?_
      · obtain ⟨t, _, rfl⟩ := List.mem_map.1 (Go.Pb.Ware.mem_sorted.1 hz)
        exact i64T (t := t) (z := src t) (List.Mem.head _)
      rintro e w6 ⟨rfl, hg6, hn⟩
      replace hb0 := below_grown (v := .slice (some ⟨g, 0, none⟩) ts.length cap) hb0 hg6 ho5 (by omega) (by omega)
      go_wp2_with fail
      go_ret
      exact ⟨_, rfl, hb0, hn⟩
end Go.Proofs.Ytcadbcmldlammaa
