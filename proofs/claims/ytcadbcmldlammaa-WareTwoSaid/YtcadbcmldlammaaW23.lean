/- Contracts of searches in slices of sources, of trialsBy and contradict; below the blocks that were there nothing turns. -/
import Derived.Test.YtcadbcmldlammaaW20
import Derived.Test.YtcadbcmldlammaaP6
namespace Go.Proofs.Ytcadbcmldlammaa
open Go.RowKit Go.Pb Go.Pb.Ware Go.Shelf
set_option linter.unusedVariables false
set_option linter.unusedSimpArgs false
attribute [local go_sem] Oper.semAt_some

/-- A place, from 0 on exactly if the number is there. -/
def Found (zs : List Int) (x : Int) (W : World) (e : Ending) (w' : World) : Prop := ∃ i : Int, e = .returned (.int .i64 i) ∧ (0 ≤ i ↔ zs.contains x = true) ∧ Below W.heap.size W w'

set_option maxHeartbeats 1000000 in
theorem index_any {w : World} {v : Value} {zs : List Int} {x : Int} (h : NumsAt w v zs) :
    Calls Try.prog 124 #[v, .int .i64 x] w (Found zs x w) := by
  obtain ⟨a, cap, rfl, hl1, hl2⟩ := h.shape
  have hl3 : zs.length ≤ 9223372036854775807 := by omega
  go_enter Try.func124, Try.ntmps124
  go_wp2_with fail
  go_loopw [8] (fun i wr => ∃ k : Nat, k ≤ zs.length ∧ i = .int .i64 k ∧ (zs.take k).contains x = false ∧ Below w.heap.size w wr) (fun i _ => zs.length - (intOf i).toNat)
  case atStart => exact ⟨0, by omega, rfl, by simp, by go_grown⟩
  case round =>
    obtain ⟨k, hk, rfl, hK, hb0⟩ := hrel
    have HK := hid hK; clear hK
    have hz0 := hb0.size
    by_cases hlt : k < zs.length
    · obtain ⟨a', ha, r0⟩ := (h.below hb0).elem hlt
      subst ha
      obtain ⟨z, hz⟩ : ∃ z, z = zs[k] := ⟨_, rfl⟩
      rw [← hz] at r0
      have HZ := hid hz; clear hz
      by_cases hx : z = x
      · have e1 : (z == x) = true := by simp [hx]
        have e2 : (x == z) = true := by simp [hx]
        have HX := hid (show zs[k] = x by rw [← HZ.out]; exact hx); clear hx
        go_wp2_with fail
        go_ret
        exact ⟨_, rfl, ⟨fun _ => has_yes hlt HX.out, fun _ => by omega⟩, by go_grown⟩
      · have e1 : (z == x) = false := by simp [hx]
        have e2 : (x == z) = false := by simp; exact fun e => hx e.symm
        have HX := hid (show ¬ zs[k] = x by rw [← HZ.out]; exact hx); clear hx
        go_wp2_with fail
        go_roundw
        case rel => exact ⟨k + 1, by omega, by go_num, has_no hlt HK.out HX.out, hb0⟩
        case measure => first | (simp [intOf]; done) | (simp [intOf]; omega)
    · go_wp2_with fail
      go_ret
      exact ⟨_, rfl, ⟨fun h => by omega, fun h => by rw [has_end hlt HK.out] at h; cases h⟩, by go_grown⟩

theorem contains_any {w : World} {v : Value} {zs : List Int} {x : Int} (h : NumsAt w v zs) :
    Calls Try.prog 92 #[v, .int .i64 x] w (Ret w (.bool (zs.contains x))) := by
  obtain ⟨a, cap, rfl, hl1, hl2⟩ := h.shape
  unfold Ret
  go_enter Try.func92, Try.ntmps92
  go_wp2_with fail
  refine (index_any h).mono ?_
  rintro e w1 ⟨i, rfl, hi, hb⟩
  by_cases h0 : 0 ≤ i
  · have HE := hid (hi.1 h0)
    clear hi
    go_wp2
    go_ret
    exact ⟨ret_bool HE.out.symm, hb⟩
  · have HE := hid (show zs.contains x = false by cases hc : zs.contains x; rfl; exact absurd (hi.2 hc) h0)
    have h1 : i < 0 := by omega
    clear hi
    go_wp2
    go_ret
    exact ⟨ret_bool (by rw [HE.out]; exact decide_eq_false (by omega)), hb⟩

theorem contains_eq {w : World} {v : Value} {zs : List Int} {x : Int} (h : NumsAt w v zs) {c : Bool} (hc : zs.contains x = c) :
    Calls Try.prog 92 #[v, .int .i64 x] w (Ret w (.bool c)) := by subst hc; exact contains_any h

theorem trialsBy_any {lv bv : Value} {w : World} {rows : List (List Int)} {b : List Int} (h : RowsAt 5 w lv rows) (hi : NumsAt w bv b) :
    Calls Try.prog 88 #[lv, bv] w fun e w' => e = .returned (.func (.func 122) #[] #[.pointer (some ⟨w.heap.size, 0, none⟩), .pointer (some ⟨w.heap.size + 1, 0, none⟩)]) ∧ w' = (w.alloc (.cells #[lv] 23)).alloc (.cells #[bv] 22) := by
  obtain ⟨a, cap, rfl, hlen⟩ := h.shape
  obtain ⟨a', cap', rfl, hlen', _⟩ := hi.shape
  go_enter Try.func88, Try.ntmps88
  go_wp2
  go_ret
  exact ⟨rfl, rfl⟩

set_option maxRecDepth 100000 in
set_option maxHeartbeats 4000000 in
theorem by_stops {n Bl Bb : Nat} (hn : 1 ≤ n) {w0 w : World} {lv bv : Value} {ts : List TT} {b : List Int} (h : RowsAt 5 w0 lv (ts.map rowT)) (hi : NumsAt w0 bv b) (hcl : w0.cell? ⟨Bl, 0, none⟩ = some lv) (hcb : w0.cell? ⟨Bb, 0, none⟩ = some bv) (h0 : Below w0.heap.size w0 w) :
    SeqStopsK Fence.wide n Try.prog 122 #[.pointer (some ⟨Bl, 0, none⟩), .pointer (some ⟨Bb, 0, none⟩)] encT (Below w0.heap.size) (fun ys => ys = only b ts) (fun pre => pre <+: only b ts) (only b ts).length w := fun l J Jx W hW hJ hJx hY hj0 => by
  have hW0 : Below w0.heap.size w0 W := h0.trans (hW.mono h0.size)
  have hc' := bkeep hW0 hcl
  obtain ⟨a, cap, rfl, hlen⟩ := h.shape
  obtain ⟨ia, icap, rfl, hil, hil2⟩ := hi.shape
  rw [List.length_map] at hc' hlen
  refine callsIn_of_wp Try.func122 rfl trivial ?_ rfl
  simp only [Try.ntmps122, List.size_toArray, List.length_cons, List.length_nil, Nat.reduceAdd, Nat.reduceSub, Array.replicate_succ, Array.replicate_zero, List.push_toArray, List.append_toArray, List.nil_append, List.cons_append]
  gi_wp2
  gi_loopw [8] (fun i wr => ∃ k : Nat, k ≤ ts.length ∧ i = .int .i64 k ∧ J (only b (ts.take k)) wr ∧ Below w0.heap.size w0 wr) (fun i _ => ts.length - (intOf i).toNat)
  case atStart => exact ⟨0, Nat.zero_le _, rfl, by simpa [only] using hj0, hW0⟩
  case round =>
    obtain ⟨k, hk, rfl, hJs, hb0⟩ := hrel
    by_cases hlt : k < ts.length
    · obtain ⟨a', ha, hl, hc0, hcc⟩ := (h.below hb0).row (k := k) (by simpa using hlt)
      rw [List.getElem_map] at hc0 hcc
      have r0 := hc0 _ rfl
      have r1 := hcc 1 _ (by decide) rfl
      have r2 := hcc 2 _ (by decide) rfl
      have r3 := hcc 3 _ (by decide) rfl
      have r4 := hcc 4 _ (by decide) rfl
      subst ha
      clear hc0 hcc hl
      have qb := bkeep hb0 hcb
      have hsz := hb0.size
      have hj1 : J (only b (ts.take k)) (wr.alloc (.cells (cellsT ts[k]).toArray 33)) := hJ _ _ _ none hJs (World.grownBy_alloc _ _ _) (fun r e => by cases e)
      cases hcn : b.contains (src ts[k])
      · have HC := hid hcn
        have HN := hid (only_snoc_no hlt hcn)
        clear hcn
        gi_wp2_with fail
        refine ⟨trivial, ?_⟩
        refine (callsIn_wide.2 (contains_eq (hi.below (hb0.alloc hsz _)) HC.out)).mono ?_
        rintro e w5 ⟨rfl, hb⟩
        have hj5 := hJ _ _ _ none hj1 (grown_of_below hb) (fun r e => by cases e)
        have hb5 := bnext (w := w0) (hb0.alloc hsz _) hb
        gi_wp2
        refine ⟨fun _ h => (by cases h), ?_⟩
        gi_wp2
        go_roundw
        case rel => exact ⟨k + 1, by omega, by go_num, by rw [HN.out]; exact hj5, hb5⟩
        case measure => first | (simp [intOf]; done) | (simp [intOf]; omega)
      · have HC := hid hcn
        have HN := hid (only_snoc_yes hlt hcn)
        have hlt2 := only_lt hlt hcn
        clear hcn
        gi_wp2_with fail
        refine ⟨trivial, ?_⟩
        refine (callsIn_wide.2 (contains_eq (hi.below (hb0.alloc hsz _)) HC.out)).mono ?_
        rintro e w5 ⟨rfl, hb⟩
        have hj5 := hJ _ _ _ none hj1 (grown_of_below hb) (fun r e => by cases e)
        have hb5 := bnext (w := w0) (hb0.alloc hsz _) hb
        have x0 := bkeep hb ((CellsAt.new wr (cellsT ts[k]) 33) 0 _ rfl).1
        have x1 := bkeep hb ((CellsAt.new wr (cellsT ts[k]) 33) 1 _ rfl).1
        have x2 := bkeep hb ((CellsAt.new wr (cellsT ts[k]) 33) 2 _ rfl).1
        have x3 := bkeep hb ((CellsAt.new wr (cellsT ts[k]) 33) 3 _ rfl).1
        have x4 := bkeep hb ((CellsAt.new wr (cellsT ts[k]) 33) 4 _ rfl).1
        clear hb
        obtain ⟨fn, tmps, assign, body, hy, hR⟩ := hY _ ts[k] _ hj5 hlt2
        simp only [encT] at hy
        gi_wp2
        refine hR.mono ?_
        rintro e W3 (⟨rfl, hJ3, hk3⟩ | ⟨rfl, hJx3⟩)
        · gi_wp2
          go_roundw
          case rel => exact ⟨k + 1, by omega, by go_num, by rw [HN.out]; exact hJ3, hb5.trans hk3⟩
          case measure => first | (simp [intOf]; done) | (simp [intOf]; omega)
        · gi_wp2
          refine bodyPost_ret (results_none rfl _ _ _) rfl ?_
          exact ⟨⟨_, rfl⟩, .inr ⟨_, by rw [← HN.out]; exact only_part _ _ _, hJx3⟩⟩
    · obtain rfl : k = ts.length := by omega
      gi_wp2
      go_end0
      exact ⟨⟨_, rfl⟩, .inl ⟨_, rfl, by simpa using hJs⟩⟩

end Go.Proofs.Ytcadbcmldlammaa
