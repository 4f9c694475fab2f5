/- Whether numbers are a break of saggars. -/
import Derived.Test.YtnchhleokdkejaaKB21X
import Derived.Test.YtnchhleokdkejaaKScX
import Derived.Laws.OwnMore
import Derived.Test.YtnchhleokdkejaaKBeX
import Derived.Test.YtnchhleokdkejaaKSuX
import Derived.Test.YtnchhleokdkejaaKLibX
import Derived.Laws.AppendOwn
import Derived.OwnWalk
import Derived.Test.YtnchhleokdkejaaKLibDX
import Derived.Deep.LoopGhost
namespace Go.Proofs.Ytnchhleokdkejaa
open Go.RowKit Go.Pb Go.Pb.Ware Go.Pb.Sag
set_option linter.unusedVariables false
set_option linter.unusedSimpArgs false

open Go.Pb.Bung
/-- The j-th weight above course c is one that the saggar may have. -/
def brAt (l : List Sg) (c : Nat) (ws : List Int) (j : Nat) : Bool := btw (ws.getD j 0) (l.getD (c + 1 + j) default).wl (l.getD (c + 1 + j) default).wh
def brB (l : List Sg) (co be : Int) (ws : List Int) : Bool := btw co 0 ((l.length : Int) - 1) && (decide ((ws.length : Int) = (l.length : Int) - 1 - co) && (btw be (l.getD co.toNat default).bl (l.getD co.toNat default).bh && ((List.range ws.length).all (brAt l co.toNat ws) && decide (be < ws.sum))))
theorem brB_no {l : List Sg} {co be : Int} {ws : List Int} (h : btw co 0 ((l.length : Int) - 1) = false) : brB l co be ws = false := by unfold brB; rw [h]; rfl
theorem brB_len {l : List Sg} {c : Nat} {be : Int} {ws : List Int} (h : ws.length + (c + 1) ≠ l.length) : brB l (c : Int) be ws = false := by
  unfold brB
  rw [decide_eq_false (show ¬ (ws.length : Int) = (l.length : Int) - 1 - (c : Int) by omega), Bool.false_and, Bool.and_false]
theorem getD_of {l : List Sg} {c : Nat} {s : Sg} (h : l[c]? = some s) : l.getD c default = s := by rw [List.getD_eq_getElem?_getD, h]; rfl
theorem brB_bears {l : List Sg} {c : Nat} {be : Int} {ws : List Int} {s : Sg} (hs : l[c]? = some s) (h : btw be s.bl s.bh = false) : brB l (c : Int) be ws = false := by
  unfold brB
  rw [Int.toNat_natCast, getD_of hs, h, Bool.false_and, Bool.and_false, Bool.and_false]
theorem brB_one {l : List Sg} {c j : Nat} {be : Int} {ws : List Int} (hj : j < ws.length) (h : brAt l c ws j = false) : brB l (c : Int) be ws = false := by
  unfold brB
  rw [Int.toNat_natCast, show (List.range ws.length).all (brAt l c ws) = false from List.all_eq_false.2 ⟨j, List.mem_range.2 hj, by rw [h]; simp⟩, Bool.false_and, Bool.and_false, Bool.and_false, Bool.and_false]
theorem brB_end {l : List Sg} {c : Nat} {be : Int} {ws : List Int} {s : Sg} (hl : ws.length + (c + 1) = l.length) (hs : l[c]? = some s) (h : btw be s.bl s.bh = true) (ha : ∀ j, j < ws.length → brAt l c ws j = true) : brB l (c : Int) be ws = decide (be < ws.sum) := by
  unfold brB
  rw [Int.toNat_natCast, getD_of hs, h, show (List.range ws.length).all (brAt l c ws) = true from List.all_eq_true.2 fun j hj => ha j (List.mem_range.1 hj), decide_eq_true (show (ws.length : Int) = (l.length : Int) - 1 - (c : Int) by omega), show btw (c : Int) 0 ((l.length : Int) - 1) = true from btw_iff.2 (by omega), Bool.true_and, Bool.true_and, Bool.true_and, Bool.true_and]
theorem brAt_of {l : List Sg} {c j : Nat} {ws : List Int} {s : Sg} {z : Int} (hs : l[c + 1 + j]? = some s) (hz : ws[j]? = some z) : brAt l c ws j = btw z s.wl s.wh := by
  unfold brAt
  rw [getD_of hs, List.getD_eq_getElem?_getD, hz]
  rfl
theorem brsum_next {ws : List Int} {k : Nat} {z : Int} (h : ws[k]? = some z) : (ws.take (k + 1)).sum = (ws.take k).sum + z := by
  rw [List.take_add_one, h, List.sum_append]
  simp

set_option maxRecDepth 100000 in
set_option maxHeartbeats 1000000 in
theorem isBrk_any {w : World} {v u : Value} {l : List Sg} {ws : List Int} {co be : Int} {r : Bool} (h : RowsAt 8 w v (l.map rowG)) (hu : NumsAt w u ws) (hk : listOk l = true) (hr : brB l co be ws = r) :
    Calls Try.prog 98 #[v, .agg #[.int .i64 co, .int .i64 be, u]] w (Ret w (.bool r)) := by
  unfold Ret
  obtain ⟨a, cap, rfl, hll⟩ := h.shape
  have hcap := RowsAt.caps h
  rw [List.length_map] at h hll hcap ⊢
  obtain ⟨b, cb, rfl, hbl1, hbl2⟩ := hu.shape
  have hl30 := (listOk_iff.1 hk).1
  obtain ⟨n, hn⟩ : ∃ n, l.length = n := ⟨_, rfl⟩
  obtain ⟨m, hm⟩ : ∃ m, ws.length = m := ⟨_, rfl⟩
  have HN : Hid (l.length = n) := hn
  have HM : Hid (ws.length = m) := hm
  have HSB : Hid (∀ s ∈ l, _) := hid (sg_bounds hk)
  have hr0 := hr
  have hr1 := fun h => hr.symm.trans (brB_no h)
  rw [hn] at h hll hl30 hcap hr1 ⊢
  obtain ⟨hcap1, hcap2⟩ := hcap
  rw [hm] at hu ⊢
  (try rw [hm] at hbl1)
  (try rw [hm] at hbl2)
  have HR : Hid (brB l co be ws = r) := hr
  clear hn hm hr0 hr hk
  have hwn : IntKind.i64.wrap ((n : Int) - 1) = (n : Int) - 1 := IntWalk.i64_in _ (by omega)
  obtain ⟨b1, hb1⟩ : ∃ b, btw co 0 ((n : Int) - 1) = b := ⟨_, rfl⟩
  have HB1 := hid hb1
  cases b1
  · obtain rfl : r = false := hr1 hb1
    clear hr1 hb1
    go_enter Try.func98, Try.ntmps98
    go_wp2_with fail
    refine (bB HB1.out).mono ?_
    rintro e w1 ⟨rfl, hb⟩
    replace hb0 := bnext (w := w) (by go_grown) hb; have hz := hb.size; (try simp only [World.size_alloc, World.size_setCell] at hz); replace q0 : w1.cell? ⟨w.heap.size, 0, none⟩ = some (.int .i64 co) := bkeep hb (by first | (with_reducible exact q0) | (with_reducible exact akeep q0) | simp [*, go_sem]); replace q1 : w1.cell? ⟨w.heap.size, 1, none⟩ = some (.int .i64 be) := bkeep hb (by first | (with_reducible exact q1) | (with_reducible exact akeep q1) | simp [*, go_sem]); replace q2 : w1.cell? ⟨w.heap.size, 2, none⟩ = some (.slice b m cb) := bkeep hb (by first | (with_reducible exact q2) | (with_reducible exact akeep q2) | simp [*, go_sem]); skip
    clear hb
    go_wp2_with fail
    go_ret
    exact ⟨rfl, hb0⟩
  · clear hr1
    have hco := btw_iff.1 hb1
    clear hb1
    obtain ⟨c, rfl⟩ : ∃ c : Nat, co = (c : Int) := ⟨co.toNat, by omega⟩
    have hc : c < n := by omega
    obtain ⟨s, hs⟩ : ∃ s, l[c]? = some s := ⟨_, List.getElem?_eq_getElem (by rw [HN.out]; exact hc)⟩
    obtain ⟨a', ha, r0, hcc, -⟩ := sg_row (by rw [HN.out]; exact h) hs
    subst ha
    have HS : Hid (l[c]? = some s) := hs
    obtain ⟨sid, swl, swh, sbl, sbh, shl, shh, sti⟩ := s
    dsimp only at r0
    have r3 := hcc 3 _ (by decide) rfl
    have r4 := hcc 4 _ (by decide) rfl
    dsimp only at r3 r4
    clear hcc hs r0
    go_enter Try.func98, Try.ntmps98
    go_upto_region 1 with fail
    generalize hW : World.alloc w _ = v1
    have y0 : CellsAt v1 w.heap.size [.int .i64 (c : Int), .int .i64 be, .slice b m cb] := by rw [← hW]; exact CellsAt.new w _ 54
    have hB : Below w.heap.size w v1 := by rw [← hW]; exact (Below.refl _ w).alloc (Nat.le_refl _) _
    clear hW
    replace r3 := bkeep hB r3; replace r4 := bkeep hB r4
    have q0 := (y0 0 _ rfl).1; have q1 := (y0 1 _ rfl).1; have q2 := (y0 2 _ rfl).1
    go_wp2_with fail
    refine (bB HB1.out).mono ?_
    rintro e v2 ⟨rfl, hb⟩
    replace r3 := bkeep hb r3; replace r4 := bkeep hb r4
    replace y0 := y0.below hb
    replace hB := bnext (w := w) hB hb
    clear hb q0 q1 q2
    have q0 := (y0 0 _ rfl).1; have q1 := (y0 1 _ rfl).1; have q2 := (y0 2 _ rfl).1
    go_upto_region 3 with fail
    obtain ⟨ad, had⟩ : ∃ ad, (if cap = c + 1 then some a' else some (a'.add ((c + 1) * 8))) = some ad := by split <;> exact ⟨_, rfl⟩
    have hcn : (c : Int) < (n : Int) := by omega
    have hc0 : (0 : Int) ≤ (c : Int) := by omega
    have hm1 : (c : Int) + 1 ≤ (n : Int) := by omega
    have hm2 : (c : Int) + 1 ≤ (cap : Int) := by omega
    have hm3 : (0 : Int) ≤ (c : Int) + 1 := by omega
    have hw1 : IntKind.i64.wrap ((c : Int) + 1) = (c : Int) + 1 := IntWalk.i64_in _ (by omega)
    obtain ⟨N, hN⟩ : ∃ N, n - (c + 1) = N := ⟨_, rfl⟩
    obtain ⟨C, hC⟩ : ∃ C, cap - (c + 1) = C := ⟨_, rfl⟩
    have HNN : Hid (n - (c + 1) = N) := hN; have HCC : Hid (cap - (c + 1) = C) := hC
    refine wp_region_H (fun V => Below v2.heap.size v2 V) (Below.refl _ _).drew [0, 1, 2, 3, 4, 5, 6, 7, 8, 9, 10] 3 (by kernel_rfl) (by kernel_rfl) rfl ?_
    refine ⟨_, .slice (some a') n cap, rfl, ⟨rfl, fun V hV => by (dsimp only at hV); skip; go_simp⟩, ?_⟩
    simp only [Act.put, List.getElem_toArray, List.getElem_cons_succ, List.getElem_cons_zero, List.setIfInBounds_toArray, List.set_cons_succ, List.set_cons_zero]
    refine ⟨_, .pointer (some ⟨w.heap.size, 0, none⟩), rfl, ⟨rfl, fun V hV => by (dsimp only at hV); skip; go_simp⟩, ?_⟩
    simp only [Act.put, List.getElem_toArray, List.getElem_cons_succ, List.getElem_cons_zero, List.setIfInBounds_toArray, List.set_cons_succ, List.set_cons_zero]
    refine ⟨_, .int .i64 (c : Int), rfl, ⟨rfl, fun V hV => by (dsimp only at hV); have s0 := bkeep hV q0; go_simp⟩, ?_⟩
    simp only [Act.put, List.getElem_toArray, List.getElem_cons_succ, List.getElem_cons_zero, List.setIfInBounds_toArray, List.set_cons_succ, List.set_cons_zero]
    refine ⟨_, .pointer (some (a'.add (c * 8))), rfl, ⟨rfl, fun V hV => by (dsimp only at hV); skip; go_simp⟩, ?_⟩
    simp only [Act.put, List.getElem_toArray, List.getElem_cons_succ, List.getElem_cons_zero, List.setIfInBounds_toArray, List.set_cons_succ, List.set_cons_zero]
    refine ⟨_, .pointer (some ⟨(a'.add (c * 8)).block, (a'.add (c * 8)).off + 3, none⟩), rfl, ⟨rfl, fun V hV => by (dsimp only at hV); skip; go_simp⟩, ?_⟩
    simp only [Act.put, List.getElem_toArray, List.getElem_cons_succ, List.getElem_cons_zero, List.setIfInBounds_toArray, List.set_cons_succ, List.set_cons_zero]
    refine ⟨_, .agg #[.int .i64 sbl, .int .i64 sbh], rfl, ⟨rfl, fun V hV => by (dsimp only at hV); have s0 := bkeep hV r3; have s1 := bkeep hV r4; go_simp⟩, ?_⟩
    simp only [Act.put, List.getElem_toArray, List.getElem_cons_succ, List.getElem_cons_zero, List.setIfInBounds_toArray, List.set_cons_succ, List.set_cons_zero]
    refine ⟨_, .slice (some a') n cap, rfl, ⟨rfl, fun V hV => by (dsimp only at hV); skip; go_simp⟩, ?_⟩
    simp only [Act.put, List.getElem_toArray, List.getElem_cons_succ, List.getElem_cons_zero, List.setIfInBounds_toArray, List.set_cons_succ, List.set_cons_zero]
    refine ⟨_, .pointer (some ⟨w.heap.size, 0, none⟩), rfl, ⟨rfl, fun V hV => by (dsimp only at hV); skip; go_simp⟩, ?_⟩
    simp only [Act.put, List.getElem_toArray, List.getElem_cons_succ, List.getElem_cons_zero, List.setIfInBounds_toArray, List.set_cons_succ, List.set_cons_zero]
    refine ⟨_, .int .i64 (c : Int), rfl, ⟨rfl, fun V hV => by (dsimp only at hV); have s0 := bkeep hV q0; go_simp⟩, ?_⟩
    simp only [Act.put, List.getElem_toArray, List.getElem_cons_succ, List.getElem_cons_zero, List.setIfInBounds_toArray, List.set_cons_succ, List.set_cons_zero]
    refine ⟨_, .int .i64 ((c : Int) + 1), rfl, ⟨rfl, fun V hV => by (dsimp only at hV); skip; go_simp⟩, ?_⟩
    simp only [Act.put, List.getElem_toArray, List.getElem_cons_succ, List.getElem_cons_zero, List.setIfInBounds_toArray, List.set_cons_succ, List.set_cons_zero]
    refine ⟨_, .slice (some ad) N C, rfl, ⟨rfl, fun V hV => by (dsimp only at hV); skip; go_simp⟩, ?_⟩
    simp only [Act.put, List.getElem_toArray, List.getElem_cons_succ, List.getElem_cons_zero, List.setIfInBounds_toArray, List.set_cons_succ, List.set_cons_zero]
    have C0 : Below v2.heap.size v2 v2.drew := (Below.refl _ _).drew
    refine wpAnyC_op (r := 11) C0 (by kernel_rfl) rfl rfl (fun K hK => ?_)
    go_simp
    refine hK _ _ ?_; clear hK K
    have g2 : Below v2.heap.size v2 (World.drew (World.alloc v2 (.cells #[.int .i64 0, .int .i64 0] 23))) := ((Below.refl v2.heap.size v2).alloc (Nat.le_refl _) _).drew
    have a0 : CellsAt (World.drew (World.alloc v2 (.cells #[.int .i64 0, .int .i64 0] 23))) v2.heap.size [.int .i64 0, .int .i64 0] := CellsAt.new v2 [.int .i64 0, .int .i64 0] 23
    generalize World.drew (World.alloc _ _) = V2 at *
    clear C0
    have t0 := (a0 0 _ rfl).1; have t1 := (a0 1 _ rfl).1; have f0 := (a0 0 _ rfl).2; have f1 := (a0 1 _ rfl).2
    refine wpAnyC_op (r := 12) g2 (by kernel_rfl) rfl rfl (fun K hK => ?_)
    go_simp
    refine hK _ _ ?_; clear hK K
    have y5 := cells_store (o := 1) (u := .int .i64 sbh) (cells_store (o := 0) (u := .int .i64 sbl) a0)
    have g3 := (g2.setCell (p := ⟨v2.heap.size, 0, none⟩) (Nat.le_refl _) (.int .i64 sbl)).setCell (p := ⟨v2.heap.size, 1, none⟩) (Nat.le_refl _) (.int .i64 sbh)
    clear t0 t1 f0 f1 a0 g2
    generalize (World.setCell _ _ _ : World) = v3 at *
    refine wpAnyC_op (r := 13) g3 (by kernel_rfl) rfl rfl (fun K hK => ?_)
    go_simp
    refine hK _ _ ?_; clear hK K
    refine wpAnyC_end g3 (by kernel_rfl) ?_
    refine ⟨rfl, ?_⟩
    replace y0 := y0.below g3
    replace hB := bnext (w := w) hB g3
    clear g3 q0 q1 q2 r3 r4
    have y5b : CellsAt v3 v2.heap.size [.int .i64 sbl, .int .i64 sbh] := y5
    clear y5
    have q0 := (y0 0 _ rfl).1; have q1 := (y0 1 _ rfl).1; have q2 := (y0 2 _ rfl).1
    have t0 := (y5b 0 _ rfl).1; have t1 := (y5b 1 _ rfl).1
    clear hwn
    by_cases hmN : m = N
    · subst hmN
      obtain ⟨b2, hb2⟩ : ∃ b, btw be sbl sbh = b := ⟨_, rfl⟩
      have HB2 := hid hb2
      go_wp2_with fail
      refine (bB HB2.out).mono ?_
      rintro e v4 ⟨rfl, hb⟩
      replace y0 := y0.below hb
      replace hB := bnext (w := w) hB hb
      clear hb q0 q1 q2 t0 t1 y5b
      have q0 := (y0 0 _ rfl).1; have q1 := (y0 1 _ rfl).1; have q2 := (y0 2 _ rfl).1
      cases b2
      · obtain rfl : r = false := HR.out.symm.trans (brB_bears HS.out hb2)
        clear hb2
        go_wp2_with fail
        go_ret
        exact ⟨rfl, hB⟩
      · have HB3 := hid hb2; clear hb2
        have hlen : m + (c + 1) = n := by have := HNN.out; omega
        go_wp2_with fail
        clear q0 q1 q2
        go_loopg [7, 47] m (fun gk lv iv wr => ∃ k : Nat, k ≤ m ∧ gk = m - k ∧ lv = .int .i64 (ws.take k).sum ∧ iv = .int .i64 k ∧ (0 ≤ (ws.take k).sum ∧ (ws.take k).sum ≤ 10000000 * k) ∧ Hid (∀ j, j < k → brAt l c ws j = true) ∧ CellsAt wr w.heap.size [.int .i64 (c : Int), .int .i64 be, .slice b m cb] ∧ Below w.heap.size w wr)
        case atStart => exact ⟨0, Nat.zero_le _, rfl, by simp, rfl, by simp, hid (fun j h => by omega), y0, hB⟩
        case round =>
          clear y0 hB
          obtain ⟨k, hk, hgk, rfl, rfl, hsum, HA, y0, hB⟩ := hrel
          have HGK := hid hgk; clear hgk
          obtain ⟨x, hx⟩ : ∃ x, (ws.take k).sum = x := ⟨_, rfl⟩
          rw [hx] at hsum ⊢
          have HX := hid hx; clear hx
          have q0 := (y0 0 _ rfl).1; have q1 := (y0 1 _ rfl).1; have q2 := (y0 2 _ rfl).1
          by_cases hlt : k < m
          · have hki : (k : Int) < (m : Int) := by omega
            obtain ⟨z, hz⟩ : ∃ z, ws[k]? = some z := ⟨_, List.getElem?_eq_getElem (by rw [HM.out]; exact hlt)⟩
            obtain ⟨b', hb', o0⟩ := (show NumsAt wr (.slice b ws.length cb) ws by rw [HM.out]; exact hu.below hB).elem (by rw [HM.out]; exact hlt)
            subst hb'
            rw [show ws[k]'(by rw [HM.out]; exact hlt) = z from Option.some.inj ((List.getElem?_eq_getElem _).symm.trans hz)] at o0
            obtain ⟨y, hy⟩ : ∃ s, l[c + 1 + k]? = some s := ⟨_, List.getElem?_eq_getElem (by rw [HN.out]; omega)⟩
            have hyb := HSB.out y (List.mem_of_getElem? hy)
            have hbr := brAt_of hy hz
            have hade : ad = a'.add ((c + 1) * 8) := by rw [if_neg (by omega)] at had; injection had with had; exact had.symm
            have T := rows_tail (k := c + 1) (h.below hB) HN.out (by omega)
            have hld : (l.drop (c + 1)).length = m := by rw [List.length_drop, HN.out]; omega
            rw [← hade, HNN.out, HCC.out] at T
            obtain ⟨a2, ha2, u0, hcc, -⟩ := sg_row (k := k) (by rw [hld]; exact T) (by rw [List.getElem?_drop]; exact hy)
            injection ha2 with ha2
            subst ha2
            obtain ⟨tid, twl, twh, tbl, tbh, thl, thh, tti⟩ := y
            dsimp only at hyb hbr
            have u1 := hcc 1 _ (by decide) rfl; have u2 := hcc 2 _ (by decide) rfl
            dsimp only at u1 u2
            have HZ := hid hz; clear hcc hy u0 T hz hld hade had
            obtain ⟨b4, hb4⟩ : ∃ b, btw z twl twh = b := ⟨_, rfl⟩
            rw [hb4] at hbr
            have HBR := hid hbr; have HB4 := hid hb4; clear hbr
            obtain ⟨v5, hv5⟩ : ∃ v, v = wr := ⟨_, rfl⟩
            subst hv5
            go_upto_region 10 with fail
            have c1 := fun z : BW v5 => bkeep z.below u1; have c2 := fun z : BW v5 => bkeep z.below u2
            refine wp_region_qb (by kernel_rfl) (by kernel_rfl) fun hc => ?_
            repeat (go_big_quiet_step ((go_at_call 76; exact BW.call _ (bB HB4.out))))
            refine wpQuiet_nil ?_
            intro v6 hb
            replace y0 := y0.below hb
            replace hB := bnext (w := w) hB hb
            clear hb c1 c2 u1 u2 q0 q1 q2 o0
            cases b4
            · obtain rfl : r = false := HR.out.symm.trans (brB_one (j := k) (by rw [HM.out]; exact hlt) HBR.out)
              go_wp2_with fail
              go_ret
              exact ⟨rfl, hB⟩
            · have hzb := btw_iff.1 HB4.out
              have hw9 : IntKind.i64.wrap (x + z) = x + z := IntWalk.i64_in _ (by omega)
              go_wp2_with fail
              go_roundg (m - (k + 1))
              case measure => have h := HGK.out; omega
              case rel => exact ⟨k + 1, by omega, rfl, by rw [brsum_next HZ.out, HX.out], by go_num, by rw [brsum_next HZ.out, HX.out]; omega, hid (fun j hj => by rcases Nat.lt_or_ge j k with h3 | h3; exact HA.out j h3; (have e : j = k := by omega); subst e; exact HBR.out), y0, hB⟩
          · obtain rfl : k = m := by omega
            have hmm : ¬ (k : Int) < (k : Int) := by omega
            have hrr : r = decide (be < x) := by rw [← HR.out, ← HX.out, brB_end (by rw [HM.out, HN.out]; omega) HS.out HB3.out (fun j hj => HA.out j (by rw [HM.out] at hj; exact hj)), List.take_of_length_le (by rw [HM.out]; exact Nat.le_refl _)]
            have HRR := hid hrr; clear hrr
            go_wp2_with fail
            go_ret
            exact ⟨ret_bool (by rw [HRR.out]), hB⟩
    · have hmb : ((m : Int) == (N : Int)) = false := beq_eq_false_iff_ne.mpr (by omega)
      have hmx : ¬ (m : Int) = (N : Int) := by omega
      have hmy : ¬ m = N := hmN
      obtain rfl : r = false := HR.out.symm.trans (brB_len (by rw [HM.out, HN.out]; have := HNN.out; omega))
      go_wp2_with fail
      go_ret
      exact ⟨rfl, hB⟩

end Go.Proofs.Ytnchhleokdkejaa

/- Whether numbers are a break of a bung, on both sides. -/
namespace Go.Proofs.Ytnchhleokdkejaa
open Go.RowKit Go.Pb Go.Pb.Ware Go.Pb.Sag
set_option linter.unusedVariables false
set_option linter.unusedSimpArgs false

open Go.Pb.Bung
def ckBr (lo hi : Int) (l : List Sg) (co be : Int) (ws : List Int) : Int := if bungOk lo hi l = true then (if brB l co be ws = true then 0 else 35) else 31

set_option maxRecDepth 100000 in
set_option maxHeartbeats 1000000 in
theorem ckBr_any {w : World} {v u : Value} {l : List Sg} {ws : List Int} {lo hi co be r : Int} (h : RowsAt 8 w v (l.map rowG)) (hu : NumsAt w u ws) (hr : ckBr lo hi l co be ws = r) :
    Calls Try.prog 44 #[.agg #[.int .i64 lo, .int .i64 hi, v], .agg #[.int .i64 co, .int .i64 be, u]] w (Ret w (.int .i64 r)) := by
  unfold Ret
  obtain ⟨a, cap, rfl, hll⟩ := h.shape
  rw [List.length_map] at h hll ⊢
  obtain ⟨b, cb, rfl, hbl1, hbl2⟩ := hu.shape
  obtain ⟨n, hn⟩ : ∃ n, l.length = n := ⟨_, rfl⟩
  obtain ⟨m, hm⟩ : ∃ m, ws.length = m := ⟨_, rfl⟩
  have HN : Hid (l.length = n) := hn
  have HM : Hid (ws.length = m) := hm
  rw [hn] at h hll ⊢
  rw [hm] at hu ⊢
  (try rw [hm] at hbl1)
  (try rw [hm] at hbl2)
  clear hn hm
  obtain ⟨o, ho⟩ : ∃ o, bungOk lo hi l = o := ⟨_, rfl⟩
  have hcb : ckBg lo hi l = if o = true then 0 else 31 := by unfold ckBg; rw [ho]
  have HC : Hid (ckBg lo hi l = if o = true then 0 else 31) := hcb; clear hcb
  obtain ⟨q, hq⟩ : ∃ q, brB l co be ws = q := ⟨_, rfl⟩
  have hr2 : r = if o = true then (if q = true then 0 else 35) else 31 := by rw [← hr]; unfold ckBr; rw [ho, hq]
  have HQ : Hid (brB l co be ws = q) := hq; clear hr hq
  cases o
  · obtain rfl : r = 31 := hr2
    clear ho
    have HC0 : Hid (ckBg lo hi l = 31) := hid (HC.out.trans (if_neg (by simp)))
    clear HC
    go_enter Try.func44, Try.ntmps44
    go_wp2_with fail
    refine (ckBg_any (h.below (by go_grown)) HC0.out).mono ?_
    rintro e w1 ⟨rfl, hb⟩
    replace hb0 := bnext (w := w) (by go_grown) hb; have hz := hb.size; (try simp only [World.size_alloc, World.size_setCell] at hz); replace q0 : w1.cell? ⟨w.heap.size, 0, none⟩ = some (.int .i64 lo) := bkeep hb (by first | (with_reducible exact q0) | (with_reducible exact akeep q0) | simp [*, go_sem]); replace q1 : w1.cell? ⟨w.heap.size, 1, none⟩ = some (.int .i64 hi) := bkeep hb (by first | (with_reducible exact q1) | (with_reducible exact akeep q1) | simp [*, go_sem]); replace q2 : w1.cell? ⟨w.heap.size, 2, none⟩ = some (.slice a n cap) := bkeep hb (by first | (with_reducible exact q2) | (with_reducible exact akeep q2) | simp [*, go_sem]); replace q3 : w1.cell? ⟨w.heap.size + 1, 0, none⟩ = some (.int .i64 co) := bkeep hb (by first | (with_reducible exact q3) | (with_reducible exact akeep q3) | simp [*, go_sem]); replace q4 : w1.cell? ⟨w.heap.size + 1, 1, none⟩ = some (.int .i64 be) := bkeep hb (by first | (with_reducible exact q4) | (with_reducible exact akeep q4) | simp [*, go_sem]); replace q5 : w1.cell? ⟨w.heap.size + 1, 2, none⟩ = some (.slice b m cb) := bkeep hb (by first | (with_reducible exact q5) | (with_reducible exact akeep q5) | simp [*, go_sem]); skip
    clear hb
    go_wp2_with fail
    go_ret
    exact ⟨rfl, by first | exact hb0 | go_grown⟩
  · have HK := hid (bungOk_list ho); clear ho
    have HC0 : Hid (ckBg lo hi l = 0) := hid (HC.out.trans (if_pos rfl))
    clear HC
    cases q
    · obtain rfl : r = 35 := hr2
      go_enter Try.func44, Try.ntmps44
      go_wp2_with fail
      refine (ckBg_any (h.below (by go_grown)) HC0.out).mono ?_
      rintro e w1 ⟨rfl, hb⟩
      replace hb0 := bnext (w := w) (by go_grown) hb; have hz := hb.size; (try simp only [World.size_alloc, World.size_setCell] at hz); replace q0 : w1.cell? ⟨w.heap.size, 0, none⟩ = some (.int .i64 lo) := bkeep hb (by first | (with_reducible exact q0) | (with_reducible exact akeep q0) | simp [*, go_sem]); replace q1 : w1.cell? ⟨w.heap.size, 1, none⟩ = some (.int .i64 hi) := bkeep hb (by first | (with_reducible exact q1) | (with_reducible exact akeep q1) | simp [*, go_sem]); replace q2 : w1.cell? ⟨w.heap.size, 2, none⟩ = some (.slice a n cap) := bkeep hb (by first | (with_reducible exact q2) | (with_reducible exact akeep q2) | simp [*, go_sem]); replace q3 : w1.cell? ⟨w.heap.size + 1, 0, none⟩ = some (.int .i64 co) := bkeep hb (by first | (with_reducible exact q3) | (with_reducible exact akeep q3) | simp [*, go_sem]); replace q4 : w1.cell? ⟨w.heap.size + 1, 1, none⟩ = some (.int .i64 be) := bkeep hb (by first | (with_reducible exact q4) | (with_reducible exact akeep q4) | simp [*, go_sem]); replace q5 : w1.cell? ⟨w.heap.size + 1, 2, none⟩ = some (.slice b m cb) := bkeep hb (by first | (with_reducible exact q5) | (with_reducible exact akeep q5) | simp [*, go_sem]); skip
      clear hb
      go_wp2_with fail
      refine (isBrk_any (h.below (by go_grown)) (hu.below (by go_grown)) HK.out HQ.out).mono ?_
      rintro e w1 ⟨rfl, hb⟩
      replace hb0 := bnext (w := w) (by go_grown) hb; have hz := hb.size; (try simp only [World.size_alloc, World.size_setCell] at hz); replace q0 : w1.cell? ⟨w.heap.size, 0, none⟩ = some (.int .i64 lo) := bkeep hb (by first | (with_reducible exact q0) | (with_reducible exact akeep q0) | simp [*, go_sem]); replace q1 : w1.cell? ⟨w.heap.size, 1, none⟩ = some (.int .i64 hi) := bkeep hb (by first | (with_reducible exact q1) | (with_reducible exact akeep q1) | simp [*, go_sem]); replace q2 : w1.cell? ⟨w.heap.size, 2, none⟩ = some (.slice a n cap) := bkeep hb (by first | (with_reducible exact q2) | (with_reducible exact akeep q2) | simp [*, go_sem]); replace q3 : w1.cell? ⟨w.heap.size + 1, 0, none⟩ = some (.int .i64 co) := bkeep hb (by first | (with_reducible exact q3) | (with_reducible exact akeep q3) | simp [*, go_sem]); replace q4 : w1.cell? ⟨w.heap.size + 1, 1, none⟩ = some (.int .i64 be) := bkeep hb (by first | (with_reducible exact q4) | (with_reducible exact akeep q4) | simp [*, go_sem]); replace q5 : w1.cell? ⟨w.heap.size + 1, 2, none⟩ = some (.slice b m cb) := bkeep hb (by first | (with_reducible exact q5) | (with_reducible exact akeep q5) | simp [*, go_sem]); skip
      clear hb
      go_wp2_with fail
      go_ret
      exact ⟨rfl, by first | exact hb0 | go_grown⟩
    · obtain rfl : r = 0 := hr2
      go_enter Try.func44, Try.ntmps44
      go_wp2_with fail
      refine (ckBg_any (h.below (by go_grown)) HC0.out).mono ?_
      rintro e w1 ⟨rfl, hb⟩
      replace hb0 := bnext (w := w) (by go_grown) hb; have hz := hb.size; (try simp only [World.size_alloc, World.size_setCell] at hz); replace q0 : w1.cell? ⟨w.heap.size, 0, none⟩ = some (.int .i64 lo) := bkeep hb (by first | (with_reducible exact q0) | (with_reducible exact akeep q0) | simp [*, go_sem]); replace q1 : w1.cell? ⟨w.heap.size, 1, none⟩ = some (.int .i64 hi) := bkeep hb (by first | (with_reducible exact q1) | (with_reducible exact akeep q1) | simp [*, go_sem]); replace q2 : w1.cell? ⟨w.heap.size, 2, none⟩ = some (.slice a n cap) := bkeep hb (by first | (with_reducible exact q2) | (with_reducible exact akeep q2) | simp [*, go_sem]); replace q3 : w1.cell? ⟨w.heap.size + 1, 0, none⟩ = some (.int .i64 co) := bkeep hb (by first | (with_reducible exact q3) | (with_reducible exact akeep q3) | simp [*, go_sem]); replace q4 : w1.cell? ⟨w.heap.size + 1, 1, none⟩ = some (.int .i64 be) := bkeep hb (by first | (with_reducible exact q4) | (with_reducible exact akeep q4) | simp [*, go_sem]); replace q5 : w1.cell? ⟨w.heap.size + 1, 2, none⟩ = some (.slice b m cb) := bkeep hb (by first | (with_reducible exact q5) | (with_reducible exact akeep q5) | simp [*, go_sem]); skip
      clear hb
      go_wp2_with fail
      refine (isBrk_any (h.below (by go_grown)) (hu.below (by go_grown)) HK.out HQ.out).mono ?_
      rintro e w1 ⟨rfl, hb⟩
      replace hb0 := bnext (w := w) (by go_grown) hb; have hz := hb.size; (try simp only [World.size_alloc, World.size_setCell] at hz); replace q0 : w1.cell? ⟨w.heap.size, 0, none⟩ = some (.int .i64 lo) := bkeep hb (by first | (with_reducible exact q0) | (with_reducible exact akeep q0) | simp [*, go_sem]); replace q1 : w1.cell? ⟨w.heap.size, 1, none⟩ = some (.int .i64 hi) := bkeep hb (by first | (with_reducible exact q1) | (with_reducible exact akeep q1) | simp [*, go_sem]); replace q2 : w1.cell? ⟨w.heap.size, 2, none⟩ = some (.slice a n cap) := bkeep hb (by first | (with_reducible exact q2) | (with_reducible exact akeep q2) | simp [*, go_sem]); replace q3 : w1.cell? ⟨w.heap.size + 1, 0, none⟩ = some (.int .i64 co) := bkeep hb (by first | (with_reducible exact q3) | (with_reducible exact akeep q3) | simp [*, go_sem]); replace q4 : w1.cell? ⟨w.heap.size + 1, 1, none⟩ = some (.int .i64 be) := bkeep hb (by first | (with_reducible exact q4) | (with_reducible exact akeep q4) | simp [*, go_sem]); replace q5 : w1.cell? ⟨w.heap.size + 1, 2, none⟩ = some (.slice b m cb) := bkeep hb (by first | (with_reducible exact q5) | (with_reducible exact akeep q5) | simp [*, go_sem]); skip
      clear hb
      go_wp2_with fail
      go_ret
      exact ⟨rfl, by first | exact hb0 | go_grown⟩

set_option maxRecDepth 100000 in
set_option maxHeartbeats 1000000 in
theorem rCkBr {w : World} {v u : Value} {l : List Sg} {ws : List Int} {lo hi co be r : Int} (h : RowsAt 8 w v (l.map rowG)) (hu : NumsAt w u ws) (hr : ckBr lo hi l co be ws = r) :
    Calls Try.prog 45 #[.agg #[.int .i64 lo, .int .i64 hi, v], .agg #[.int .i64 co, .int .i64 be, u]] w (Ret w (.int .i64 r)) := by
  unfold Ret
  obtain ⟨a, cap, rfl, hll⟩ := h.shape
  rw [List.length_map] at h hll ⊢
  obtain ⟨b, cb, rfl, hbl1, hbl2⟩ := hu.shape
  obtain ⟨n, hn⟩ : ∃ n, l.length = n := ⟨_, rfl⟩
  obtain ⟨m, hm⟩ : ∃ m, ws.length = m := ⟨_, rfl⟩
  have HN : Hid (l.length = n) := hn
  have HM : Hid (ws.length = m) := hm
  rw [hn] at h hll ⊢
  rw [hm] at hu ⊢
  (try rw [hm] at hbl1)
  (try rw [hm] at hbl2)
  clear hn hm
  obtain ⟨o, ho⟩ : ∃ o, bungOk lo hi l = o := ⟨_, rfl⟩
  have hcb : ckBg lo hi l = if o = true then 0 else 31 := by unfold ckBg; rw [ho]
  have HC : Hid (ckBg lo hi l = if o = true then 0 else 31) := hcb; clear hcb
  obtain ⟨q, hq⟩ : ∃ q, brB l co be ws = q := ⟨_, rfl⟩
  have hr2 : r = if o = true then (if q = true then 0 else 35) else 31 := by rw [← hr]; unfold ckBr; rw [ho, hq]
  have HQ : Hid (brB l co be ws = q) := hq; clear hr hq
  cases o
  · obtain rfl : r = 31 := hr2
    clear ho
    have HC0 : Hid (ckBg lo hi l = 31) := hid (HC.out.trans (if_neg (by simp)))
    clear HC
    go_enter Try.func45, Try.ntmps45
    go_wp2_with fail
    refine (rCkBg (h.below (by go_grown)) HC0.out).mono ?_
    rintro e w1 ⟨rfl, hb⟩
    replace hb0 := bnext (w := w) (by go_grown) hb; have hz := hb.size; (try simp only [World.size_alloc, World.size_setCell] at hz); replace q0 : w1.cell? ⟨w.heap.size, 0, none⟩ = some (.int .i64 lo) := bkeep hb (by first | (with_reducible exact q0) | (with_reducible exact akeep q0) | simp [*, go_sem]); replace q1 : w1.cell? ⟨w.heap.size, 1, none⟩ = some (.int .i64 hi) := bkeep hb (by first | (with_reducible exact q1) | (with_reducible exact akeep q1) | simp [*, go_sem]); replace q2 : w1.cell? ⟨w.heap.size, 2, none⟩ = some (.slice a n cap) := bkeep hb (by first | (with_reducible exact q2) | (with_reducible exact akeep q2) | simp [*, go_sem]); replace q3 : w1.cell? ⟨w.heap.size + 1, 0, none⟩ = some (.int .i64 co) := bkeep hb (by first | (with_reducible exact q3) | (with_reducible exact akeep q3) | simp [*, go_sem]); replace q4 : w1.cell? ⟨w.heap.size + 1, 1, none⟩ = some (.int .i64 be) := bkeep hb (by first | (with_reducible exact q4) | (with_reducible exact akeep q4) | simp [*, go_sem]); replace q5 : w1.cell? ⟨w.heap.size + 1, 2, none⟩ = some (.slice b m cb) := bkeep hb (by first | (with_reducible exact q5) | (with_reducible exact akeep q5) | simp [*, go_sem]); skip
    clear hb
    go_wp2_with fail
    go_ret
    exact ⟨rfl, by first | exact hb0 | go_grown⟩
  · have HC0 : Hid (ckBg lo hi l = 0) := hid (HC.out.trans (if_pos rfl))
    clear HC
    rw [if_pos rfl] at hr2
    have hk := bungOk_list ho
    have hl30 : n ≤ 30 := by have := bungOk_len ho; rw [HN.out] at this; exact this
    have HSB : Hid (∀ s ∈ l, _) := hid (sg_bounds hk)
    clear hk ho
    have hwn : IntKind.i64.wrap ((n : Int) - 1) = (n : Int) - 1 := IntWalk.i64_in _ (by omega)
    obtain ⟨b1, hb1⟩ : ∃ b, btw co 0 ((n : Int) - 1) = b := ⟨_, rfl⟩
    have HB1 := hid hb1
    cases b1
    · obtain rfl : q = false := HQ.out.symm.trans (brB_no (by rw [HN.out]; exact hb1))
      rw [if_neg (by simp)] at hr2
      clear hb1
      go_enter Try.func45, Try.ntmps45
      go_upto_region 1 with fail
      generalize hW : World.alloc (World.alloc w _) _ = v1
      have y0 : CellsAt v1 w.heap.size [.int .i64 lo, .int .i64 hi, .slice a n cap] := by rw [← hW]; exact (CellsAt.new w [.int .i64 lo, .int .i64 hi, .slice a n cap] 26).alloc _
      have y1 : CellsAt v1 (w.heap.size + 1) [.int .i64 co, .int .i64 be, .slice b m cb] := by rw [← hW]; have h := CellsAt.new (w.alloc (.cells #[.int .i64 lo, .int .i64 hi, .slice a n cap] 26)) [.int .i64 co, .int .i64 be, .slice b m cb] 54; rwa [World.size_alloc] at h
      have hB : Below w.heap.size w v1 := by rw [← hW]; exact ((Below.refl _ w).alloc (Nat.le_refl _) _).alloc (by simp) _
      clear hW
      have q0 := (y0 0 _ rfl).1; have q1 := (y0 1 _ rfl).1; have q2 := (y0 2 _ rfl).1
      have p0 := (y1 0 _ rfl).1; have p1 := (y1 1 _ rfl).1; have p2 := (y1 2 _ rfl).1
      go_wp2_with fail
      refine (rCkBg (h.below hB) HC0.out).mono ?_
      rintro e v2 ⟨rfl, hb⟩
      clear q0 q1 q2 p0 p1 p2
      replace y0 := y0.below hb; replace y1 := y1.below hb
      replace hB := bnext (w := w) hB hb
      clear hb
      have q0 := (y0 0 _ rfl).1; have q1 := (y0 1 _ rfl).1; have q2 := (y0 2 _ rfl).1
      have p0 := (y1 0 _ rfl).1; have p1 := (y1 1 _ rfl).1; have p2 := (y1 2 _ rfl).1
      go_upto_region 4 with fail
      have s0 := fun z : BW v2 => bkeep z.below q0
      have s1 := fun z : BW v2 => bkeep z.below q1
      have s2 := fun z : BW v2 => bkeep z.below q2
      have s3 := fun z : BW v2 => bkeep z.below p0
      have s4 := fun z : BW v2 => bkeep z.below p1
      have s5 := fun z : BW v2 => bkeep z.below p2
      refine wp_region_qb (by kernel_rfl) (by kernel_rfl) fun hcq => ?_
      repeat (go_big_quiet_step ((go_at_call 78; exact BW.call _ (rB HB1.out))))
      refine wpQuiet_nil ?_
      intro v3 hb
      clear s0 s1 s2 s3 s4 s5
      clear q0 q1 q2 p0 p1 p2
      replace y0 := y0.below hb; replace y1 := y1.below hb
      replace hB := bnext (w := w) hB hb
      clear hb
      obtain rfl : r = 35 := hr2
      go_wp2_with fail
      go_ret
      exact ⟨rfl, hB⟩
    · have hco := btw_iff.1 hb1
      clear hb1
      obtain ⟨c, rfl⟩ : ∃ c : Nat, co = (c : Int) := ⟨co.toNat, by omega⟩
      have hc : c < n := by omega
      obtain ⟨s, hs⟩ : ∃ s, l[c]? = some s := ⟨_, List.getElem?_eq_getElem (by rw [HN.out]; exact hc)⟩
      obtain ⟨a', ha, r0, hcc, -⟩ := sg_row (by rw [HN.out]; exact h) hs
      subst ha
      have HS : Hid (l[c]? = some s) := hs
      obtain ⟨sid, swl, swh, sbl, sbh, shl, shh, sti⟩ := s
      dsimp only at r0
      have r3 := hcc 3 _ (by decide) rfl
      have r4 := hcc 4 _ (by decide) rfl
      dsimp only at r3 r4
      clear hcc hs r0
      obtain ⟨N, hN⟩ : ∃ N, n - (c + 1) = N := ⟨_, rfl⟩
      have HNN : Hid (n - (c + 1) = N) := hN
      have hwN : IntKind.i64.wrap ((n : Int) - 1 - (c : Int)) = (N : Int) := (IntWalk.i64_in _ (by omega)).trans (by omega)
      have hcn : (c : Int) < (n : Int) := by omega
      have hc0 : (0 : Int) ≤ (c : Int) := by omega
      clear hN
      obtain ⟨b2, hb2⟩ : ∃ b, btw be sbl sbh = b := ⟨_, rfl⟩
      have HB2 := hid hb2
      by_cases hmN : m = N
      · subst hmN
        cases b2
        · obtain rfl : q = false := HQ.out.symm.trans (brB_bears HS.out hb2)
          rw [if_neg (by simp)] at hr2
          go_enter Try.func45, Try.ntmps45
          go_upto_region 1 with fail
          generalize hW : World.alloc (World.alloc w _) _ = v1
          have y0 : CellsAt v1 w.heap.size [.int .i64 lo, .int .i64 hi, .slice (some a') n cap] := by rw [← hW]; exact (CellsAt.new w [.int .i64 lo, .int .i64 hi, .slice (some a') n cap] 26).alloc _
          have y1 : CellsAt v1 (w.heap.size + 1) [.int .i64 (c : Int), .int .i64 be, .slice b m cb] := by rw [← hW]; have h := CellsAt.new (w.alloc (.cells #[.int .i64 lo, .int .i64 hi, .slice (some a') n cap] 26)) [.int .i64 (c : Int), .int .i64 be, .slice b m cb] 54; rwa [World.size_alloc] at h
          have hB : Below w.heap.size w v1 := by rw [← hW]; exact ((Below.refl _ w).alloc (Nat.le_refl _) _).alloc (by simp) _
          clear hW
          have q0 := (y0 0 _ rfl).1; have q1 := (y0 1 _ rfl).1; have q2 := (y0 2 _ rfl).1
          have p0 := (y1 0 _ rfl).1; have p1 := (y1 1 _ rfl).1; have p2 := (y1 2 _ rfl).1
          go_wp2_with fail
          refine (rCkBg (h.below hB) HC0.out).mono ?_
          rintro e v2 ⟨rfl, hb⟩
          clear q0 q1 q2 p0 p1 p2
          replace y0 := y0.below hb; replace y1 := y1.below hb
          replace hB := bnext (w := w) hB hb
          clear hb
          have q0 := (y0 0 _ rfl).1; have q1 := (y0 1 _ rfl).1; have q2 := (y0 2 _ rfl).1
          have p0 := (y1 0 _ rfl).1; have p1 := (y1 1 _ rfl).1; have p2 := (y1 2 _ rfl).1
          go_upto_region 4 with fail
          have r3b := bkeep hB r3; have r4b := bkeep hB r4
          have s0 := fun z : BW v2 => bkeep z.below q0
          have s1 := fun z : BW v2 => bkeep z.below q1
          have s2 := fun z : BW v2 => bkeep z.below q2
          have s3 := fun z : BW v2 => bkeep z.below p0
          have s4 := fun z : BW v2 => bkeep z.below p1
          have s5 := fun z : BW v2 => bkeep z.below p2
          have s6 := fun z : BW v2 => bkeep z.below r3b
          have s7 := fun z : BW v2 => bkeep z.below r4b
          refine wp_region_qb (by kernel_rfl) (by kernel_rfl) fun hcq => ?_
          repeat (go_big_quiet_step ((go_at_call 78; first | exact BW.call _ (rB HB1.out) | exact BW.call _ (rB HB2.out))))
          refine wpQuiet_nil ?_
          intro v3 hb
          clear s0 s1 s2 s3 s4 s5 s6 s7
          clear q0 q1 q2 p0 p1 p2 r3b r4b
          replace y0 := y0.below hb; replace y1 := y1.below hb
          replace hB := bnext (w := w) hB hb
          clear hb
          obtain rfl : r = 35 := hr2
          go_wp2_with fail
          go_ret
          exact ⟨rfl, hB⟩
        · clear hb2
          go_enter Try.func45, Try.ntmps45
          go_upto_region 1 with fail
          generalize hW : World.alloc (World.alloc w _) _ = v1
          have y0 : CellsAt v1 w.heap.size [.int .i64 lo, .int .i64 hi, .slice (some a') n cap] := by rw [← hW]; exact (CellsAt.new w [.int .i64 lo, .int .i64 hi, .slice (some a') n cap] 26).alloc _
          have y1 : CellsAt v1 (w.heap.size + 1) [.int .i64 (c : Int), .int .i64 be, .slice b m cb] := by rw [← hW]; have h := CellsAt.new (w.alloc (.cells #[.int .i64 lo, .int .i64 hi, .slice (some a') n cap] 26)) [.int .i64 (c : Int), .int .i64 be, .slice b m cb] 54; rwa [World.size_alloc] at h
          have hB : Below w.heap.size w v1 := by rw [← hW]; exact ((Below.refl _ w).alloc (Nat.le_refl _) _).alloc (by simp) _
          clear hW
          have q0 := (y0 0 _ rfl).1; have q1 := (y0 1 _ rfl).1; have q2 := (y0 2 _ rfl).1
          have p0 := (y1 0 _ rfl).1; have p1 := (y1 1 _ rfl).1; have p2 := (y1 2 _ rfl).1
          go_wp2_with fail
          refine (rCkBg (h.below hB) HC0.out).mono ?_
          rintro e v2 ⟨rfl, hb⟩
          clear q0 q1 q2 p0 p1 p2
          replace y0 := y0.below hb; replace y1 := y1.below hb
          replace hB := bnext (w := w) hB hb
          clear hb
          have q0 := (y0 0 _ rfl).1; have q1 := (y0 1 _ rfl).1; have q2 := (y0 2 _ rfl).1
          have p0 := (y1 0 _ rfl).1; have p1 := (y1 1 _ rfl).1; have p2 := (y1 2 _ rfl).1
          go_upto_region 4 with fail
          have r3b := bkeep hB r3; have r4b := bkeep hB r4
          have s0 := fun z : BW v2 => bkeep z.below q0
          have s1 := fun z : BW v2 => bkeep z.below q1
          have s2 := fun z : BW v2 => bkeep z.below q2
          have s3 := fun z : BW v2 => bkeep z.below p0
          have s4 := fun z : BW v2 => bkeep z.below p1
          have s5 := fun z : BW v2 => bkeep z.below p2
          have s6 := fun z : BW v2 => bkeep z.below r3b
          have s7 := fun z : BW v2 => bkeep z.below r4b
          refine wp_region_qb (by kernel_rfl) (by kernel_rfl) fun hcq => ?_
          repeat (go_big_quiet_step ((go_at_call 78; first | exact BW.call _ (rB HB1.out) | exact BW.call _ (rB HB2.out))))
          refine wpQuiet_nil ?_
          intro v3 hb
          clear s0 s1 s2 s3 s4 s5 s6 s7
          clear q0 q1 q2 p0 p1 p2 r3b r4b r3 r4
          replace y0 := y0.below hb; replace y1 := y1.below hb
          replace hB := bnext (w := w) hB hb
          clear hb
          have q0 := (y0 0 _ rfl).1; have q1 := (y0 1 _ rfl).1; have q2 := (y0 2 _ rfl).1
          have p0 := (y1 0 _ rfl).1; have p1 := (y1 1 _ rfl).1; have p2 := (y1 2 _ rfl).1
          have hlen : m + (c + 1) = n := by have := HNN.out; omega
          clear hwn hwN
          go_wp2_with fail
          clear q0 q1 q2 p0 p1 p2
          go_loopg [6, 7] m (fun gk lv iv wr => ∃ k : Nat, k ≤ m ∧ gk = m - k ∧ lv = .int .i64 (ws.take k).sum ∧ iv = .int .i64 k ∧ (0 ≤ (ws.take k).sum ∧ (ws.take k).sum ≤ 10000000 * k) ∧ Hid (∀ j, j < k → brAt l c ws j = true) ∧ CellsAt wr w.heap.size [.int .i64 lo, .int .i64 hi, .slice (some a') n cap] ∧ CellsAt wr (w.heap.size + 1) [.int .i64 (c : Int), .int .i64 be, .slice b m cb] ∧ Below w.heap.size w wr)
          case atStart => exact ⟨0, Nat.zero_le _, rfl, by simp, rfl, by simp, hid (fun j h => by omega), y0, y1, hB⟩
          case round =>
            clear y0 y1 hB
            obtain ⟨k, hk, hgk, rfl, rfl, hsum, HA, y0, y1, hB⟩ := hrel
            have HGK := hid hgk; clear hgk
            obtain ⟨x, hx⟩ : ∃ x, (ws.take k).sum = x := ⟨_, rfl⟩
            rw [hx] at hsum ⊢
            have HX := hid hx; clear hx
            have q0 := (y0 0 _ rfl).1; have q1 := (y0 1 _ rfl).1; have q2 := (y0 2 _ rfl).1
            have p0 := (y1 0 _ rfl).1; have p1 := (y1 1 _ rfl).1; have p2 := (y1 2 _ rfl).1
            by_cases hlt : k < m
            · have hki : (k : Int) < (m : Int) := by omega
              obtain ⟨i, hi⟩ : ∃ i, c + 1 + k = i := ⟨_, rfl⟩
              have hin : (i : Int) < (n : Int) := by omega
              have hwi : IntKind.i64.wrap ((c : Int) + 1 + (k : Int)) = (i : Int) := (IntWalk.i64_in _ (by omega)).trans (by omega)
              have hwc : IntKind.i64.wrap ((c : Int) + 1) = (c : Int) + 1 := IntWalk.i64_in _ (by omega)
              obtain ⟨z, hz⟩ : ∃ z, ws[k]? = some z := ⟨_, List.getElem?_eq_getElem (by rw [HM.out]; exact hlt)⟩
              obtain ⟨b', hb', o0⟩ := (show NumsAt wr (.slice b ws.length cb) ws by rw [HM.out]; exact hu.below hB).elem (by rw [HM.out]; exact hlt)
              subst hb'
              rw [show ws[k]'(by rw [HM.out]; exact hlt) = z from Option.some.inj ((List.getElem?_eq_getElem _).symm.trans hz)] at o0
              obtain ⟨y, hy⟩ : ∃ s, l[c + 1 + k]? = some s := ⟨_, List.getElem?_eq_getElem (by rw [HN.out]; omega)⟩
              have hyb := HSB.out y (List.mem_of_getElem? hy)
              have hbr := brAt_of hy hz
              rw [hi] at hy
              obtain ⟨a2, ha2, u0, hcc, -⟩ := sg_row (k := i) (by rw [HN.out]; exact h.below hB) hy
              injection ha2 with ha2
              subst ha2
              obtain ⟨tid, twl, twh, tbl, tbh, thl, thh, tti⟩ := y
              dsimp only at hyb hbr
              have u1 := hcc 1 _ (by decide) rfl; have u2 := hcc 2 _ (by decide) rfl
              dsimp only at u1 u2
              have HZ := hid hz; have HI := hid hi; clear hcc hy u0 hz hi
              obtain ⟨b4, hb4⟩ : ∃ b, btw z twl twh = b := ⟨_, rfl⟩
              rw [hb4] at hbr
              have HBR := hid hbr; have HB4 := hid hb4; clear hbr hb4
              obtain ⟨v5, hv5⟩ : ∃ v, v = wr := ⟨_, rfl⟩
              subst hv5
              go_upto_region 11 with fail
              generalize hW : World.alloc v5 _ = v6
              have t0 : CellsAt v6 v5.heap.size [.int .i64 twl, .int .i64 twh] := by rw [← hW]; exact CellsAt.new v5 [.int .i64 twl, .int .i64 twh] 23
              have hb : Below v5.heap.size v5 v6 := by rw [← hW]; exact (Below.refl _ _).alloc (Nat.le_refl _) _
              clear hW
              clear q0 q1 q2 p0 p1 p2
              replace o0 := bkeep hb o0
              replace y0 := y0.below hb; replace y1 := y1.below hb
              replace hB := bnext (w := w) hB hb
              clear hb
              have q0 := (y0 0 _ rfl).1; have q1 := (y0 1 _ rfl).1; have q2 := (y0 2 _ rfl).1
              have p0 := (y1 0 _ rfl).1; have p1 := (y1 1 _ rfl).1; have p2 := (y1 2 _ rfl).1
              have t1 := (t0 0 _ rfl).1; have t2 := (t0 1 _ rfl).1
              have s0 := fun z : BW v6 => bkeep z.below q0
              have s1 := fun z : BW v6 => bkeep z.below q1
              have s2 := fun z : BW v6 => bkeep z.below q2
              have s3 := fun z : BW v6 => bkeep z.below p0
              have s4 := fun z : BW v6 => bkeep z.below p1
              have s5 := fun z : BW v6 => bkeep z.below p2
              have s6 := fun z : BW v6 => bkeep z.below o0
              have s7 := fun z : BW v6 => bkeep z.below t1
              have s8 := fun z : BW v6 => bkeep z.below t2
              refine wp_region_qb (by kernel_rfl) (by kernel_rfl) fun hcq => ?_
              repeat (go_big_quiet_step ((go_at_call 78; exact BW.call _ (rB HB4.out))))
              refine wpQuiet_nil ?_
              intro v7 hb
              clear s0 s1 s2 s3 s4 s5 s6 s7 s8
              replace o0 := bkeep hb o0
              clear q0 q1 q2 p0 p1 p2 t1 t2 t0 u1 u2
              replace y0 := y0.below hb; replace y1 := y1.below hb
              replace hB := bnext (w := w) hB hb
              clear hb
              have q0 := (y0 0 _ rfl).1; have q1 := (y0 1 _ rfl).1; have q2 := (y0 2 _ rfl).1
              have p0 := (y1 0 _ rfl).1; have p1 := (y1 1 _ rfl).1; have p2 := (y1 2 _ rfl).1
              cases b4
              · obtain rfl : q = false := HQ.out.symm.trans (brB_one (j := k) (by rw [HM.out]; exact hlt) HBR.out)
                rw [if_neg (by simp)] at hr2
                obtain rfl : r = 35 := hr2
                go_wp2_with fail
                go_ret
                exact ⟨rfl, hB⟩
              · have hzb := btw_iff.1 HB4.out
                have hw9 : IntKind.i64.wrap (x + z) = x + z := IntWalk.i64_in _ (by omega)
                go_wp2_with fail
                go_roundg (m - (k + 1))
                case measure => have h := HGK.out; omega
                case rel => exact ⟨k + 1, by omega, rfl, by rw [brsum_next HZ.out, HX.out], by go_num, by rw [brsum_next HZ.out, HX.out]; omega, hid (fun j hj => by rcases Nat.lt_or_ge j k with h3 | h3; exact HA.out j h3; (have e : j = k := by omega); subst e; exact HBR.out), y0, y1, hB⟩
            · obtain rfl : k = m := by omega
              have hmm : ¬ (k : Int) < (k : Int) := by omega
              have hrr : q = decide (be < x) := by rw [← HQ.out, ← HX.out, brB_end (by rw [HM.out, HN.out]; omega) HS.out HB2.out (fun j hj => HA.out j (by rw [HM.out] at hj; exact hj)), List.take_of_length_le (by rw [HM.out]; exact Nat.le_refl _)]
              by_cases hbx : be < x
              · have hnx : ¬ x ≤ be := by omega
                rw [decide_eq_true hbx] at hrr
                subst hrr
                rw [if_pos rfl] at hr2
                obtain rfl : r = 0 := hr2
                go_wp2_with fail
                go_ret
                exact ⟨rfl, hB⟩
              · have hnx : x ≤ be := by omega
                rw [decide_eq_false hbx] at hrr
                subst hrr
                rw [if_neg (by simp)] at hr2
                obtain rfl : r = 35 := hr2
                go_wp2_with fail
                go_ret
                exact ⟨rfl, hB⟩
      · obtain rfl : q = false := HQ.out.symm.trans (brB_len (by rw [HM.out, HN.out]; have := HNN.out; omega))
        rw [if_neg (by simp)] at hr2
        have hmb : ((m : Int) == (N : Int)) = false := beq_eq_false_iff_ne.mpr (by omega)
        have hmc : ((m : Int) != (N : Int)) = true := bne_iff_ne.mpr (by omega)
        have hmx : ¬ (m : Int) = (N : Int) := by omega
        go_enter Try.func45, Try.ntmps45
        go_upto_region 1 with fail
        generalize hW : World.alloc (World.alloc w _) _ = v1
        have y0 : CellsAt v1 w.heap.size [.int .i64 lo, .int .i64 hi, .slice (some a') n cap] := by rw [← hW]; exact (CellsAt.new w [.int .i64 lo, .int .i64 hi, .slice (some a') n cap] 26).alloc _
        have y1 : CellsAt v1 (w.heap.size + 1) [.int .i64 (c : Int), .int .i64 be, .slice b m cb] := by rw [← hW]; have h := CellsAt.new (w.alloc (.cells #[.int .i64 lo, .int .i64 hi, .slice (some a') n cap] 26)) [.int .i64 (c : Int), .int .i64 be, .slice b m cb] 54; rwa [World.size_alloc] at h
        have hB : Below w.heap.size w v1 := by rw [← hW]; exact ((Below.refl _ w).alloc (Nat.le_refl _) _).alloc (by simp) _
        clear hW
        have q0 := (y0 0 _ rfl).1; have q1 := (y0 1 _ rfl).1; have q2 := (y0 2 _ rfl).1
        have p0 := (y1 0 _ rfl).1; have p1 := (y1 1 _ rfl).1; have p2 := (y1 2 _ rfl).1
        go_wp2_with fail
        refine (rCkBg (h.below hB) HC0.out).mono ?_
        rintro e v2 ⟨rfl, hb⟩
        clear q0 q1 q2 p0 p1 p2
        replace y0 := y0.below hb; replace y1 := y1.below hb
        replace hB := bnext (w := w) hB hb
        clear hb
        have q0 := (y0 0 _ rfl).1; have q1 := (y0 1 _ rfl).1; have q2 := (y0 2 _ rfl).1
        have p0 := (y1 0 _ rfl).1; have p1 := (y1 1 _ rfl).1; have p2 := (y1 2 _ rfl).1
        go_upto_region 4 with fail
        have r3b := bkeep hB r3; have r4b := bkeep hB r4
        have s0 := fun z : BW v2 => bkeep z.below q0
        have s1 := fun z : BW v2 => bkeep z.below q1
        have s2 := fun z : BW v2 => bkeep z.below q2
        have s3 := fun z : BW v2 => bkeep z.below p0
        have s4 := fun z : BW v2 => bkeep z.below p1
        have s5 := fun z : BW v2 => bkeep z.below p2
        have s6 := fun z : BW v2 => bkeep z.below r3b
        have s7 := fun z : BW v2 => bkeep z.below r4b
        refine wp_region_qb (by kernel_rfl) (by kernel_rfl) fun hcq => ?_
        repeat (go_big_quiet_step ((go_at_call 78; first | exact BW.call _ (rB HB1.out) | exact BW.call _ (rB HB2.out))))
        refine wpQuiet_nil ?_
        intro v3 hb
        clear s0 s1 s2 s3 s4 s5 s6 s7
        clear q0 q1 q2 p0 p1 p2 r3b r4b
        replace y0 := y0.below hb; replace y1 := y1.below hb
        replace hB := bnext (w := w) hB hb
        clear hb
        obtain rfl : r = 35 := hr2
        go_wp2_with fail
        go_ret
        exact ⟨rfl, hB⟩

end Go.Proofs.Ytnchhleokdkejaa

/- The chapter's example is so. -/
namespace Go.Proofs.Ytnchhleokdkejaa
open Go.RowKit Go.Pb Go.Pb.Ware Go.Pb.Sag
set_option linter.unusedVariables false
set_option linter.unusedSimpArgs false

open Go.Proofs Go.Pb.Bung
theorem ex_new {w : World} : ExP (.slice (some ⟨w.heap.size, 0, none⟩) 3 3) (w.alloc (.cells #[.int .i64 1, .int .i64 100, .int .i64 120, .int .i64 300, .int .i64 350, .int .i64 200, .int .i64 210, .int .i64 5, .int .i64 2, .int .i64 80, .int .i64 90, .int .i64 150, .int .i64 200, .int .i64 200, .int .i64 210, .int .i64 10, .int .i64 3, .int .i64 60, .int .i64 60, .int .i64 50, .int .i64 60, .int .i64 100, .int .i64 100, .int .i64 0] 33)) := by
  have h := owns_new (w := w) (lo := 0) (T := 33) (n := 3) (size := 8) (xs := exG.flatMap cellsG) (by rfl) (by unfold maxLen; omega) (Nat.zero_le _)
  exact rows_of_owns (l := exG) h (exB_small ex_list)

set_option maxRecDepth 100000 in
set_option maxHeartbeats 400000 in
theorem example_any {w : World}  :
    Calls Try.prog 75 #[] w (fun e w' => ∃ u, e = .returned u ∧ Below w.heap.size w w' ∧ ExP u w') := by
  go_enter Try.func75, Try.ntmps75
  go_wp2_with fail
  go_ret
  exact ⟨_, rfl, (Below.refl _ _).alloc (Nat.le_refl _) _, ex_new⟩

set_option maxRecDepth 100000 in
set_option maxHeartbeats 400000 in
theorem set_b {w : World} {v u : Value} (h : ExP v w) (hz : NumP [0, 1, 2] u w) :
    Calls Try.prog 50 #[.agg #[.int .i64 5, .int .i64 10], v, u] w (fun e w' => ∃ u, e = .returned u ∧ Below w.heap.size w w' ∧ SetP w.heap.size exB u w') := by
  refine (Set_good (l := exG) (zs := [0, 1, 2]) h hz (by kernel_rfl) ex_list (by decide) (by kernel_rfl) (by decide)).mono ?_
  unfold SetRes
  rintro e w' ⟨v, rfl, hb, ho, hr⟩
  exact ⟨_, rfl, hb, v, rfl, ho, hr⟩

set_option maxRecDepth 100000 in
set_option maxHeartbeats 400000 in
theorem set_c {w : World} {v u : Value} (h : ExP v w) (hz : NumP [1, 0, 2] u w) :
    Calls Try.prog 50 #[.agg #[.int .i64 5, .int .i64 10], v, u] w (fun e w' => ∃ u, e = .returned u ∧ Below w.heap.size w w' ∧ SetP w.heap.size exC u w') := by
  refine (Set_good (l := exG) (zs := [1, 0, 2]) h hz (by kernel_rfl) ex_list (by decide) (by kernel_rfl) (by decide)).mono ?_
  unfold SetRes
  rintro e w' ⟨v, rfl, hb, ho, hr⟩
  exact ⟨_, rfl, hb, v, rfl, ho, hr⟩

theorem few_i64 : ∀ g ∈ ([[0, 2], [1]] : List (List Int)), ∀ z ∈ g, I64 z := by
  have h : ∀ g ∈ ([[0, 2], [1]] : List (List Int)), ∀ z ∈ g, -100000 ≤ z ∧ z ≤ 100000 := by decide
  exact fun g hg z hz => i64_small (h g hg z hz).1 (h g hg z hz).2
theorem exB_list : listOk exB = true := by kernel_rfl
theorem exC_list : listOk exC = true := by kernel_rfl
theorem setP_base {B B2 : Nat} {l : List Sg} {v : Value} {W : World} (hb : B2 ≤ B) (h : SetP B l v W) : SetP B2 l v W := by
  obtain ⟨u, h1, h2, h3⟩ := h
  exact ⟨u, h1, owns_base hb h2, h3⟩

set_option maxRecDepth 100000 in
set_option maxHeartbeats 400000 in
theorem few_c {w : World} {v : Value} (h : ExP v w) :
    Calls Try.prog 59 #[.agg #[.int .i64 5, .int .i64 10], v, .agg #[.int .i64 400, .int .i64 9]] w (fun e w' => ∃ u, e = .returned u ∧ Below w.heap.size w w' ∧ LstP [[0, 2], [1]] u w') := by
  refine (Fewest_any h ex_few).mono ?_
  unfold FewRes
  rintro e w' ⟨v, rfl, hb, hg⟩
  exact ⟨_, rfl, hb, v, rfl, groupsAt_lists hg few_i64⟩

theorem ranges_new {w : World} : RowsAt 2 (w.alloc (.cells #[.int .i64 140, .int .i64 150, .int .i64 60, .int .i64 60, .int .i64 0, .int .i64 0] 23)) (.slice (some ⟨w.heap.size, 0, none⟩) 3 3) [[140, 150], [60, 60], [0, 0]] := by
  have h := owns_new (w := w) (lo := 0) (T := 23) (n := 3) (size := 2) (xs := ([[140, 150], [60, 60], [0, 0]] : List (List Int)).flatten.map (Value.int .i64)) (by rfl) (by unfold maxLen; omega) (Nat.zero_le _)
  have hs : ∀ r ∈ ([[140, 150], [60, 60], [0, 0]] : List (List Int)), r.length = 2 ∧ ∀ z ∈ r, -100000 ≤ z ∧ z ≤ 100000 := by decide
  exact rowsAt_of_owns (e := 23) (base := 0) (fun r hr => (hs r hr).1) h (fun r hr z hz => i64_small ((hs r hr).2 z hz).1 ((hs r hr).2 z hz).2)

theorem lists_new2 {w1 : World} {T1 T2 T3 : TypeId} : ListsAt (.slice (some ⟨w1.heap.size + 1 + 1, 0, none⟩) 2 2) [[0, 2], [1]] (((w1.alloc (.cells #[.int .i64 0, .int .i64 2] T1)).alloc (.cells #[.int .i64 1] T2)).alloc (.cells #[.slice (some ⟨w1.heap.size, 0, none⟩) 2 2, .slice (some ⟨w1.heap.size + 1, 0, none⟩) 1 1] T3)) := by
  have e1 := nums_new (w := w1) (T := T1) (zs := [0, 2]) rfl (by decide) (by decide)
  have e2 := nums_new (w := w1.alloc (.cells #[.int .i64 0, .int .i64 2] T1)) (B := w1.heap.size + 1) (T := T2) (zs := [1]) (by simp) (by decide) (by decide)
  refine ⟨some ⟨w1.heap.size + 1 + 1, 0, none⟩, 2, rfl, fun k g hg => ?_⟩
  match k, hg with
  | 0, hg =>
    simp at hg
    subst hg
    exact ⟨_, rfl, .slice (some ⟨w1.heap.size, 0, none⟩) 2 2, by simp [go_sem], e1.below (((Below.refl _ _).alloc (Nat.le_refl _) _).alloc (by simp) _)⟩
  | 1, hg =>
    simp at hg
    subst hg
    exact ⟨_, rfl, .slice (some ⟨w1.heap.size + 1, 0, none⟩) 1 1, by simp [go_sem], e2.below ((Below.refl _ _).alloc (Nat.le_refl _) _)⟩
  | k + 2, hg => simp at hg

set_option maxRecDepth 100000 in
set_option maxHeartbeats 2000000 in
theorem sane_any {w : World}  :
    Calls Try.prog 19 #[] w (Ret w (.bool true)) := by
  unfold Ret
  go_enter Try.func19, Try.ntmps19
  go_upto_region 2 with fail
  generalize hW : World.alloc w _ = v1
  have y0 : CellsAt v1 w.heap.size [.int .i64 5, .int .i64 10] := by rw [← hW]; exact CellsAt.new w [.int .i64 5, .int .i64 10] 23
  have hb0 : Below w.heap.size w v1 := by rw [← hW]; exact (Below.refl _ _).alloc (Nat.le_refl _) _
  have hlt0 : w.heap.size < v1.heap.size := by rw [← hW]; simp
  clear hW
  have q0 := (y0 0 _ rfl).1; have q1 := (y0 1 _ rfl).1
  refine wp_region_Rl (l' := _) 8 6 rfl rfl rfl rfl rfl (by kernel_rfl) [(1, ExP), (2, NumP [0, 1, 2]), (3, SetP v1.heap.size exB), (7, NewT v1.heap.size 26 [.int .i64 0, .int .i64 0, .slice none 0 0])] [0, 1, 2, 3, 4, 5, 6, 7] 2 (by kernel_rfl) rfl (by simp only [List.forall_mem_cons]; exact ⟨keeps_ex, keeps_num, keeps_set, keeps_newT, fun _ h => by cases h⟩) (by kernel_rfl) ?_
  simp only [numbered, bound, List.set_cons_succ, List.set_cons_zero, List.filterMap_cons, List.filterMap_nil, List.getElem?_toArray, List.getElem?_cons_succ, List.getElem?_cons_zero, Option.map_some]
  show wpS _ _ _ _ _ _ _ [(_, _), (_, _), (_, _), (_, _), (_, _), (_, _), (_, _), (_, _)] _ _
  (refine wpS_quiet rfl rfl ?_; intro K hK inst hx; have s0 := fun x => (fun _ => bkeep (BQ.below x) q0) (hx x); have s1 := fun x => (fun _ => bkeep (BQ.below x) q1) (hx x); go_big_quiet_op; (first | go_big_quiet_on | (refine ⟨_, fun _ => rfl, ?_⟩; go_big_quiet_on)); clear hx inst)
  refine wpS_fresh rfl rfl (fun w' hb hF => ?_) ?_
  · change freshAt _ _ _ (ExP) _; unfold freshAt; go_simp; exact example_any
  intro v W hv; simp only [pOf, List.lookup_cons, Nat.reduceBEq, beq_self_eq_true] at hv; obtain ⟨ea, ec, rfl, -⟩ := RowsAt.shape hv
  simp only [Act.put, List.setIfInBounds_toArray, List.set_cons_succ, List.set_cons_zero]
  refine wpS_fresh rfl rfl (fun w' hb hF => ?_) ?_
  · change freshAt _ _ _ (NumP [0, 1, 2]) _; unfold freshAt; go_simp; exact ⟨(Below.refl _ _).alloc (Nat.le_refl _) _, nums_new (zs := [0, 1, 2]) rfl (by decide) (by decide)⟩
  intro v W hv; simp only [pOf, List.lookup_cons, Nat.reduceBEq, beq_self_eq_true] at hv; obtain ⟨ia, ic, rfl, -⟩ := NumsAt.shape hv
  simp only [Act.put, List.setIfInBounds_toArray, List.set_cons_succ, List.set_cons_zero]
  refine wpS_fresh rfl rfl (fun w' hb hF => ?_) ?_
  · change freshAt _ _ _ (SetP v1.heap.size exB) _; have h1 := hF 1 _ rfl (by kernel_rfl); have h2 := hF 2 _ rfl (by kernel_rfl); unfold freshAt; go_simp; exact (set_b h1 h2).mono fun e W2 ⟨u, he, hb2, hs⟩ => ⟨u, he, hb2, setP_base hb.size hs⟩
  intro v W hv; simp only [pOf, List.lookup_cons, Nat.reduceBEq, beq_self_eq_true] at hv; obtain ⟨u, rfl, hu1, -⟩ := hv; obtain ⟨ub, cb, rfl, -⟩ := owns_shape hu1; clear hu1
  simp only [Act.put, List.setIfInBounds_toArray, List.set_cons_succ, List.set_cons_zero]
  (refine wpS_quiet rfl rfl ?_; intro K hK inst hx; go_big_quiet_op; (first | go_big_quiet_on | (refine ⟨_, fun _ => rfl, ?_⟩; go_big_quiet_on)); clear hx inst)
  (refine wpS_quiet rfl rfl ?_; intro K hK inst hx; go_big_quiet_op; (first | go_big_quiet_on | (refine ⟨_, fun _ => rfl, ?_⟩; go_big_quiet_on)); clear hx inst)
  (refine wpS_quiet rfl rfl ?_; intro K hK inst hx; go_big_quiet_op; (first | go_big_quiet_on | (refine ⟨_, fun _ => rfl, ?_⟩; go_big_quiet_on)); clear hx inst)
  refine wpS_fresh rfl rfl (fun w' hb hF => ?_) ?_
  · change freshAt _ _ _ (NewT v1.heap.size 26 [.int .i64 0, .int .i64 0, .slice none 0 0]) _; unfold freshAt; go_simp; exact newT_of hb
  intro v W hv; simp only [pOf, List.lookup_cons, Nat.reduceBEq, beq_self_eq_true] at hv; obtain ⟨Bb, hBb, rfl, _⟩ := hv
  simp only [Act.put, List.setIfInBounds_toArray, List.set_cons_succ, List.set_cons_zero]
  refine wpS_nil ?_
  intro w2 hall
  have hb := hall.1
  obtain ⟨u', eu, ho, hrb⟩ : SetP v1.heap.size exB _ w2 := hall.2 3 _ rfl
  obtain rfl : _ = u' := by simpa using eu
  obtain ⟨B', hB', hv', hn⟩ : NewT v1.heap.size 26 [.int .i64 0, .int .i64 0, .slice none 0 0] (.pointer (some ⟨Bb, 0, none⟩)) w2 := hall.2 7 _ rfl
  obtain rfl : Bb = B' := by simpa using hv'
  have hap := newT_apart hn ho (by decide)
  have yt := newT_cells hn
  clear hall hn hv' eu hrb
  have n0 := (yt 0 _ rfl).1; have n1 := (yt 1 _ rfl).1; have n2 := (yt 2 _ rfl).1; have m0 := (yt 0 _ rfl).2; have m1 := (yt 1 _ rfl).2; have m2 := (yt 2 _ rfl).2
  refine wpAny_ready (rs := [8]) (by kernel_rfl) (by simp) ?_
  refine AllReady.cons rfl (fun K hK => ?_) AllReady.nil
  go_simp
  refine hK _ _ ?_; clear hK K
  refine wpAny_ready (rs := [9]) (by kernel_rfl) (by simp) ?_
  refine AllReady.cons rfl (fun K hK => ?_) AllReady.nil
  go_simp
  refine hK _ _ ?_; clear hK K
  refine wpAny_done (by kernel_rfl) ?_ _
  refine ⟨rfl, ?_⟩
  clear n0 n1 n2 m0 m1 m2
  have hN : Below v1.heap.size v1 (((w2.setCell ⟨Bb, 0, none⟩ (.int .i64 5)).setCell ⟨Bb, 1, none⟩ (.int .i64 10)).setCell ⟨Bb, 2, none⟩ (.slice ub exB.length cb)) := ((hb.setCell (p := ⟨Bb, 0, none⟩) hB' _).setCell (p := ⟨Bb, 1, none⟩) hB' _).setCell (p := ⟨Bb, 2, none⟩) hB' _
  have yb : CellsAt (((w2.setCell ⟨Bb, 0, none⟩ (.int .i64 5)).setCell ⟨Bb, 1, none⟩ (.int .i64 10)).setCell ⟨Bb, 2, none⟩ (.slice ub exB.length cb)) Bb [.int .i64 5, .int .i64 10, .slice ub exB.length cb] := cells_store (o := 2) (cells_store (o := 1) (cells_store (o := 0) yt))
  have ho2 := own_store (o := 2) (u := .slice ub exB.length cb) (own_store (o := 1) (u := .int .i64 10) (own_store (o := 0) (u := .int .i64 5) ho hap) hap) hap
  have hrb := rows_of_owns ho2 (exB_small exB_list)
  clear ho ho2 hap yt hb q0 q1
  generalize World.setCell _ _ _ = v2 at *
  replace y0 := y0.below hN
  replace hb0 := bnext (w := w) hb0 hN
  clear hN
  have q0 := (y0 0 _ rfl).1; have q1 := (y0 1 _ rfl).1
  go_upto_region 3 with fail
  refine wp_region_Rl (l' := _) 8 6 rfl rfl rfl rfl rfl (by kernel_rfl) [(1, ExP), (2, NumP [1, 0, 2]), (3, SetP v2.heap.size exC), (7, NewT v2.heap.size 26 [.int .i64 0, .int .i64 0, .slice none 0 0])] [0, 1, 2, 3, 4, 5, 6, 7] 2 (by kernel_rfl) rfl (by simp only [List.forall_mem_cons]; exact ⟨keeps_ex, keeps_num, keeps_set, keeps_newT, fun _ h => by cases h⟩) (by kernel_rfl) ?_
  simp only [numbered, bound, List.set_cons_succ, List.set_cons_zero, List.filterMap_cons, List.filterMap_nil, List.getElem?_toArray, List.getElem?_cons_succ, List.getElem?_cons_zero, Option.map_some]
  show wpS _ _ _ _ _ _ _ [(_, _), (_, _), (_, _), (_, _), (_, _), (_, _), (_, _), (_, _)] _ _
  (refine wpS_quiet rfl rfl ?_; intro K hK inst hx; have s0 := fun x => (fun _ => bkeep (BQ.below x) q0) (hx x); have s1 := fun x => (fun _ => bkeep (BQ.below x) q1) (hx x); go_big_quiet_op; (first | go_big_quiet_on | (refine ⟨_, fun _ => rfl, ?_⟩; go_big_quiet_on)); clear hx inst)
  refine wpS_fresh rfl rfl (fun w' hb hF => ?_) ?_
  · change freshAt _ _ _ (ExP) _; unfold freshAt; go_simp; exact example_any
  intro v W hv; simp only [pOf, List.lookup_cons, Nat.reduceBEq, beq_self_eq_true] at hv; obtain ⟨ea, ec, rfl, -⟩ := RowsAt.shape hv
  simp only [Act.put, List.setIfInBounds_toArray, List.set_cons_succ, List.set_cons_zero]
  refine wpS_fresh rfl rfl (fun w' hb hF => ?_) ?_
  · change freshAt _ _ _ (NumP [1, 0, 2]) _; unfold freshAt; go_simp; exact ⟨(Below.refl _ _).alloc (Nat.le_refl _) _, nums_new (zs := [1, 0, 2]) rfl (by decide) (by decide)⟩
  intro v W hv; simp only [pOf, List.lookup_cons, Nat.reduceBEq, beq_self_eq_true] at hv; obtain ⟨ia, ic, rfl, -⟩ := NumsAt.shape hv
  simp only [Act.put, List.setIfInBounds_toArray, List.set_cons_succ, List.set_cons_zero]
  refine wpS_fresh rfl rfl (fun w' hb hF => ?_) ?_
  · change freshAt _ _ _ (SetP v2.heap.size exC) _; have h1 := hF 1 _ rfl (by kernel_rfl); have h2 := hF 2 _ rfl (by kernel_rfl); unfold freshAt; go_simp; exact (set_c h1 h2).mono fun e W2 ⟨u, he, hb2, hs⟩ => ⟨u, he, hb2, setP_base hb.size hs⟩
  intro v W hv; simp only [pOf, List.lookup_cons, Nat.reduceBEq, beq_self_eq_true] at hv; obtain ⟨u, rfl, hu1, -⟩ := hv; obtain ⟨uc, cc, rfl, -⟩ := owns_shape hu1; clear hu1
  simp only [Act.put, List.setIfInBounds_toArray, List.set_cons_succ, List.set_cons_zero]
  (refine wpS_quiet rfl rfl ?_; intro K hK inst hx; go_big_quiet_op; (first | go_big_quiet_on | (refine ⟨_, fun _ => rfl, ?_⟩; go_big_quiet_on)); clear hx inst)
  (refine wpS_quiet rfl rfl ?_; intro K hK inst hx; go_big_quiet_op; (first | go_big_quiet_on | (refine ⟨_, fun _ => rfl, ?_⟩; go_big_quiet_on)); clear hx inst)
  (refine wpS_quiet rfl rfl ?_; intro K hK inst hx; go_big_quiet_op; (first | go_big_quiet_on | (refine ⟨_, fun _ => rfl, ?_⟩; go_big_quiet_on)); clear hx inst)
  refine wpS_fresh rfl rfl (fun w' hb hF => ?_) ?_
  · change freshAt _ _ _ (NewT v2.heap.size 26 [.int .i64 0, .int .i64 0, .slice none 0 0]) _; unfold freshAt; go_simp; exact newT_of hb
  intro v W hv; simp only [pOf, List.lookup_cons, Nat.reduceBEq, beq_self_eq_true] at hv; obtain ⟨Bc, hBc, rfl, _⟩ := hv
  simp only [Act.put, List.setIfInBounds_toArray, List.set_cons_succ, List.set_cons_zero]
  refine wpS_nil ?_
  intro w2 hall
  have hb := hall.1
  obtain ⟨u', eu, ho, hrc⟩ : SetP v2.heap.size exC _ w2 := hall.2 3 _ rfl
  obtain rfl : _ = u' := by simpa using eu
  obtain ⟨B', hB', hv', hn⟩ : NewT v2.heap.size 26 [.int .i64 0, .int .i64 0, .slice none 0 0] (.pointer (some ⟨Bc, 0, none⟩)) w2 := hall.2 7 _ rfl
  obtain rfl : Bc = B' := by simpa using hv'
  have hap := newT_apart hn ho (by decide)
  have yt := newT_cells hn
  clear hall hn hv' eu hrc
  have n0 := (yt 0 _ rfl).1; have n1 := (yt 1 _ rfl).1; have n2 := (yt 2 _ rfl).1; have m0 := (yt 0 _ rfl).2; have m1 := (yt 1 _ rfl).2; have m2 := (yt 2 _ rfl).2
  refine wpAny_ready (rs := [8]) (by kernel_rfl) (by simp) ?_
  refine AllReady.cons rfl (fun K hK => ?_) AllReady.nil
  go_simp
  refine hK _ _ ?_; clear hK K
  refine wpAny_ready (rs := [9]) (by kernel_rfl) (by simp) ?_
  refine AllReady.cons rfl (fun K hK => ?_) AllReady.nil
  go_simp
  refine hK _ _ ?_; clear hK K
  refine wpAny_done (by kernel_rfl) ?_ _
  refine ⟨rfl, ?_⟩
  clear n0 n1 n2 m0 m1 m2
  have hN : Below v2.heap.size v2 (((w2.setCell ⟨Bc, 0, none⟩ (.int .i64 5)).setCell ⟨Bc, 1, none⟩ (.int .i64 10)).setCell ⟨Bc, 2, none⟩ (.slice uc exC.length cc)) := ((hb.setCell (p := ⟨Bc, 0, none⟩) hB' _).setCell (p := ⟨Bc, 1, none⟩) hB' _).setCell (p := ⟨Bc, 2, none⟩) hB' _
  have yc : CellsAt (((w2.setCell ⟨Bc, 0, none⟩ (.int .i64 5)).setCell ⟨Bc, 1, none⟩ (.int .i64 10)).setCell ⟨Bc, 2, none⟩ (.slice uc exC.length cc)) Bc [.int .i64 5, .int .i64 10, .slice uc exC.length cc] := cells_store (o := 2) (cells_store (o := 1) (cells_store (o := 0) yt))
  have ho2 := own_store (o := 2) (u := .slice uc exC.length cc) (own_store (o := 1) (u := .int .i64 10) (own_store (o := 0) (u := .int .i64 5) ho hap) hap) hap
  have hrc := rows_of_owns ho2 (exB_small exC_list)
  clear ho ho2 hap yt hb q0 q1
  generalize World.setCell _ _ _ = v3 at *
  replace y0 := y0.below hN
  replace yb := yb.below hN
  replace hrb := hrb.below hN
  replace hb0 := bnext (w := w) hb0 hN
  clear hN
  have q0 := (yb 0 _ rfl).1; have q1 := (yb 1 _ rfl).1; have q2 := (yb 2 _ rfl).1
  go_wp2_with fail
  refine (Loads_good hrb ex_b).mono ?_
  rintro e w1 ⟨lv, rfl, hb, hlo⟩
  replace y0 := y0.below hb
  replace yb := yb.below hb
  replace hrb := hrb.below hb
  replace yc := yc.below hb
  replace hrc := hrc.below hb
  replace hb0 := bnext (w := w) hb0 hb
  clear hb q0 q1 q2
  rw [ex_loads] at hlo
  have q0 := (yb 0 _ rfl).1; have q1 := (yb 1 _ rfl).1; have q2 := (yb 2 _ rfl).1
  go_wp2_with fail
  refine (Stands_any (r := (1, 0)) hrb ex_st1).mono ?_
  rintro e w1 ⟨rfl, hb⟩
  replace y0 := y0.below hb
  replace yb := yb.below hb
  replace hrb := hrb.below hb
  replace yc := yc.below hb
  replace hrc := hrc.below hb
  replace hlo := hlo.below hb
  replace hb0 := bnext (w := w) hb0 hb
  clear hb q0 q1 q2
  have q0 := (yc 0 _ rfl).1; have q1 := (yc 1 _ rfl).1; have q2 := (yc 2 _ rfl).1
  go_wp2_with fail
  refine (Stands_any (r := (2, 0)) hrc ex_st2).mono ?_
  rintro e w1 ⟨rfl, hb⟩
  replace y0 := y0.below hb
  replace yb := yb.below hb
  replace hrb := hrb.below hb
  replace yc := yc.below hb
  replace hrc := hrc.below hb
  replace hlo := hlo.below hb
  replace hb0 := bnext (w := w) hb0 hb
  clear hb q0 q1 q2
  have q0 := (yb 0 _ rfl).1; have q1 := (yb 1 _ rfl).1; have q2 := (yb 2 _ rfl).1
  go_wp2_with fail
  refine (Lean_any (r := (4, 0)) hrb ex_lean).mono ?_
  rintro e w1 ⟨rfl, hb⟩
  replace y0 := y0.below hb
  replace yb := yb.below hb
  replace hrb := hrb.below hb
  replace yc := yc.below hb
  replace hrc := hrc.below hb
  replace hlo := hlo.below hb
  replace hb0 := bnext (w := w) hb0 hb
  clear hb q0 q1 q2
  have q0 := (yc 0 _ rfl).1; have q1 := (yc 1 _ rfl).1; have q2 := (yc 2 _ rfl).1
  go_wp2_with fail
  refine (Breaks_good hrc ex_c ex_first (by decide) ex_bl).mono ?_
  rintro e w1 ⟨xv, rfl, hb, hxw⟩
  replace y0 := y0.below hb
  replace yb := yb.below hb
  replace hrb := hrb.below hb
  replace yc := yc.below hb
  replace hrc := hrc.below hb
  replace hlo := hlo.below hb
  replace hb0 := bnext (w := w) hb0 hb
  clear hb q0 q1 q2
  rw [ex_wh] at hxw
  obtain ⟨xa, xc, rfl, -⟩ := hxw.shape
  obtain ⟨v4, hv4⟩ : ∃ v, v = w1 := ⟨_, rfl⟩
  subst hv4
  go_upto_region 9 with fail
  generalize hW : World.alloc _ _ = v5
  have hN : Below v4.heap.size v4 v5 := by rw [← hW]; exact (Below.refl _ _).alloc (Nat.le_refl _) _
  have yx : CellsAt v5 v4.heap.size [.int .i64 0, .int .i64 150, .slice xa 2 xc] := by rw [← hW]; exact CellsAt.new v4 [.int .i64 0, .int .i64 150, .slice xa 2 xc] 54
  clear hW
  replace y0 := y0.below hN
  replace yb := yb.below hN
  replace hrb := hrb.below hN
  replace yc := yc.below hN
  replace hrc := hrc.below hN
  replace hlo := hlo.below hN
  replace hxw := hxw.below hN
  replace hb0 := bnext (w := w) hb0 hN
  clear hN
  have q0 := (y0 0 _ rfl).1; have q1 := (y0 1 _ rfl).1
  refine wp_region_Rs [(1, ExP), (3, LstP [[0, 2], [1]])] [0, 1, 2, 3, 4, 5, 6, 7, 8] 0 (by kernel_rfl) rfl (by simp only [List.forall_mem_cons]; exact ⟨keeps_ex, keeps_lst, fun _ h => by cases h⟩) (by kernel_rfl) ?_
  simp only [numbered, List.filterMap_cons, List.filterMap_nil, List.getElem?_toArray, List.getElem?_cons_succ, List.getElem?_cons_zero, Option.map_some]
  show wpS _ _ _ _ _ _ _ [(_, _), (_, _), (_, _), (_, _), (_, _), (_, _), (_, _), (_, _), (_, _)] _ _
  (refine wpS_quiet rfl rfl ?_; intro K hK inst hx; have s0 := fun x => (fun _ => bkeep (BQ.below x) q0) (hx x); have s1 := fun x => (fun _ => bkeep (BQ.below x) q1) (hx x); go_big_quiet_op; (first | go_big_quiet_on | (refine ⟨_, fun _ => rfl, ?_⟩; go_big_quiet_on)); clear hx inst)
  refine wpS_fresh rfl rfl (fun w' hb hF => ?_) ?_
  · change freshAt _ _ _ (ExP) _; unfold freshAt; go_simp; exact example_any
  intro v W hv; simp only [pOf, List.lookup_cons, Nat.reduceBEq, beq_self_eq_true] at hv; obtain ⟨ea, ec, rfl, -⟩ := RowsAt.shape hv
  simp only [Act.put, List.setIfInBounds_toArray, List.set_cons_succ, List.set_cons_zero]
  (refine wpS_quiet rfl rfl ?_; intro K hK inst hx; go_big_quiet_op; (first | go_big_quiet_on | (refine ⟨_, fun _ => rfl, ?_⟩; go_big_quiet_on)); clear hx inst)
  refine wpS_fresh rfl rfl (fun w' hb hF => ?_) ?_
  · change freshAt _ _ _ (LstP [[0, 2], [1]]) _; have h1 := hF 1 _ rfl (by kernel_rfl); unfold freshAt; go_simp; exact few_c h1
  intro v W hv; simp only [pOf, List.lookup_cons, Nat.reduceBEq, beq_self_eq_true] at hv; obtain ⟨pv, rfl, hp1⟩ := hv; clear hp1
  simp only [Act.put, List.setIfInBounds_toArray, List.set_cons_succ, List.set_cons_zero]
  (refine wpS_quiet rfl rfl ?_; intro K hK inst hx; go_big_quiet_op; (first | go_big_quiet_on | (refine ⟨_, fun _ => rfl, ?_⟩; go_big_quiet_on)); clear hx inst)
  (refine wpS_quiet rfl rfl ?_; intro K hK inst hx; go_big_quiet_op; (first | go_big_quiet_on | (refine ⟨_, fun _ => rfl, ?_⟩; go_big_quiet_on)); clear hx inst)
  (refine wpS_quiet rfl rfl ?_; intro K hK inst hx; go_big_quiet_op; (first | go_big_quiet_on | (refine ⟨_, fun _ => rfl, ?_⟩; go_big_quiet_on)); clear hx inst)
  (refine wpS_quiet rfl rfl ?_; intro K hK inst hx; go_big_quiet_op; (first | go_big_quiet_on | (refine ⟨_, fun _ => rfl, ?_⟩; go_big_quiet_on)); clear hx inst)
  (refine wpS_quiet rfl rfl ?_; intro K hK inst hx; go_big_quiet_op; (first | go_big_quiet_on | (refine ⟨_, fun _ => rfl, ?_⟩; go_big_quiet_on)); clear hx inst)
  refine wpS_nil ?_
  intro v6 hall
  have hb := hall.1
  obtain ⟨u', eu, hgp⟩ : LstP [[0, 2], [1]] _ v6 := hall.2 3 _ rfl
  obtain rfl : pv = u' := by simpa using eu
  clear hall eu q0 q1
  replace y0 := y0.below hb
  replace yb := yb.below hb
  replace hrb := hrb.below hb
  replace yc := yc.below hb
  replace hrc := hrc.below hb
  replace hlo := hlo.below hb
  replace hxw := hxw.below hb
  replace yx := yx.below hb
  replace hb0 := bnext (w := w) hb0 hb
  clear hb
  refine wpAny_done (by kernel_rfl) ?_ _
  have hzz := hb0.size
  go_wp2_with fail
  refine (sameRanges_any (b := true) (hlo.below (by go_grown)) ranges_new (by decide) (by decide)).mono ?_
  rintro e w1 ⟨rfl, hb⟩
  replace hb0 := bnext (w := w) (by go_grown) hb
  replace yx := (yx.below (by go_grown)).below hb
  replace hxw := (hxw.below (by go_grown)).below hb
  replace hgp := (hgp.below (by go_grown)).below hb
  clear hb hzz
  have hzz := hb0.size
  go_wp2_with fail
  refine (sameParts_any (b := true) (hgp.below (by go_grown)) lists_new2 (by decide) (by decide) (by decide)).mono ?_
  rintro e w1 ⟨rfl, hb⟩
  replace hb0 := bnext (w := w) (by go_grown) hb
  replace yx := (yx.below (by go_grown)).below hb
  replace hxw := (hxw.below (by go_grown)).below hb
  replace hgp := (hgp.below (by go_grown)).below hb
  clear hb hzz
  have q2 := (yx 2 _ rfl).1
  have hzz := hb0.size
  go_wp2_with fail
  refine (same01_any (b := true) (hxw.below (by go_grown)) (nums_new (zs := [120, 60]) (by simp) (by decide) (by decide)) (by decide) (by decide)).mono ?_
  rintro e w1 ⟨rfl, hb⟩
  replace hb0 := bnext (w := w) (by go_grown) hb
  replace yx := (yx.below (by go_grown)).below hb
  replace hxw := (hxw.below (by go_grown)).below hb
  replace hgp := (hgp.below (by go_grown)).below hb
  clear hb hzz
  have q0 := (yx 0 _ rfl).1; have q1 := (yx 1 _ rfl).1
  go_wp2_with fail
  go_ret
  exact ⟨rfl, hb0⟩

end Go.Proofs.Ytnchhleokdkejaa

/- The reference's load of a course. -/
namespace Go.Proofs.Ytnchhleokdkejaa
open Go.RowKit Go.Pb Go.Pb.Ware Go.Pb.Sag
set_option linter.unusedVariables false
set_option linter.unusedSimpArgs false

open Go.Pb.Bung
def upL (l : List Sg) (c j : Nat) : Int := (((l.drop (c + 1)).take j).map (·.wl)).sum
def upH (l : List Sg) (c j : Nat) : Int := (((l.drop (c + 1)).take j).map (·.wh)).sum
theorem up_next {l : List Sg} {c i j : Nat} {s : Sg} (hi : i = c + 1 + j) (h : l[i]? = some s) : upL l c (j + 1) = upL l c j + s.wl ∧ upH l c (j + 1) = upH l c j + s.wh := by
  subst hi
  have e : (l.drop (c + 1)).take (j + 1) = (l.drop (c + 1)).take j ++ [s] := by
    have h1 := List.take_add_one (i := j) (l := l.drop (c + 1))
    rw [List.getElem?_drop, h] at h1
    exact h1
  unfold upL upH
  rw [e]
  simp
theorem up_end {l : List Sg} {c j : Nat} (h : l.length ≤ c + 1 + j) : upL l c j = loadL l c ∧ upH l c j = loadH l c := by
  unfold upL upH loadL loadH
  rw [List.take_of_length_le (by rw [List.length_drop]; omega)]; exact ⟨rfl, rfl⟩
theorem up_small {l : List Sg} (h : ∀ s ∈ l, 0 ≤ s.wl ∧ s.wl ≤ 10000000 ∧ 0 ≤ s.wh ∧ s.wh ≤ 10000000) (c j : Nat) : 0 ≤ upL l c j ∧ upL l c j ≤ 10000000 * j ∧ 0 ≤ upH l c j ∧ upH l c j ≤ 10000000 * j := by
  have key : ∀ (f : Sg → Int) (m : List Sg), (∀ s ∈ m, 0 ≤ f s ∧ f s ≤ 10000000) → 0 ≤ (m.map f).sum ∧ (m.map f).sum ≤ 10000000 * m.length := by
    intro f m hm
    induction m with
    | nil => simp
    | cons s m ih =>
      have h1 := hm s (List.mem_cons_self ..)
      have h2 := ih fun x hx => hm x (List.mem_cons_of_mem _ hx)
      rw [List.map_cons, List.sum_cons, List.length_cons]
      omega
  have hd : ∀ s ∈ (l.drop (c + 1)).take j, s ∈ l := fun s hs => List.mem_of_mem_drop (List.mem_of_mem_take hs)
  have hl : ((l.drop (c + 1)).take j).length ≤ j := by rw [List.length_take]; omega
  have h1 := key (·.wl) _ fun s hs => ⟨(h s (hd s hs)).1, (h s (hd s hs)).2.1⟩
  have h2 := key (·.wh) _ fun s hs => ⟨(h s (hd s hs)).2.2.1, (h s (hd s hs)).2.2.2⟩
  unfold upL upH
  omega

set_option maxRecDepth 100000 in
set_option maxHeartbeats 1000000 in
theorem rLoad_any {w : World} {v : Value} {l : List Sg} {c : Nat} (h : RowsAt 8 w v (l.map rowG)) (hl : l.length ≤ 30) (hc : c < l.length) (hs : ∀ s ∈ l, 0 ≤ s.wl ∧ s.wl ≤ 10000000 ∧ 0 ≤ s.wh ∧ s.wh ≤ 10000000) :
    Calls Try.prog 85 #[v, .int .i64 (c : Int)] w (Ret w (.agg #[.int .i64 (loadL l c), .int .i64 (loadH l c)])) := by
  unfold Ret
  obtain ⟨a, cap, rfl, hll⟩ := h.shape
  rw [List.length_map] at h hll ⊢
  obtain ⟨n, hn⟩ : ∃ n, l.length = n := ⟨_, rfl⟩
  have HN := hid hn; have HS := hid hs
  rw [hn] at h hll hl hc ⊢
  clear hn hs
  go_enter Try.func85, Try.ntmps85
  go_upto_region 2 with fail
  generalize hW : World.alloc (World.alloc w _) _ = v1
  have y0 : CellsAt v1 w.heap.size [.int .i64 0, .int .i64 0] := by rw [← hW]; exact (CellsAt.new w [.int .i64 0, .int .i64 0] 23).alloc _
  have y1 : CellsAt v1 (w.heap.size + 1) [.int .i64 0, .int .i64 0] := by rw [← hW]; have h := CellsAt.new (w.alloc (.cells #[.int .i64 0, .int .i64 0] 23)) [.int .i64 0, .int .i64 0] 23; rwa [World.size_alloc] at h
  have hB1 : Below w.heap.size w v1 := by rw [← hW]; exact ((Below.refl _ w).alloc (Nat.le_refl _) _).alloc (by simp) _
  clear hW
  go_wp2_with fail
  go_loopg [6] (n - (c + 1)) (fun gk iv wr => ∃ i j : Nat, i = c + 1 + j ∧ i ≤ n ∧ gk = n - i ∧ iv = .int .i64 i ∧ CellsAt wr w.heap.size [.int .i64 0, .int .i64 0] ∧ CellsAt wr (w.heap.size + 1) [.int .i64 (upL l c j), .int .i64 (upH l c j)] ∧ Below w.heap.size w wr)
  case atStart => exact ⟨c + 1, 0, rfl, by omega, rfl, by go_num, y0, y1, hB1⟩
  case round =>
    clear y0 y1 hB1
    obtain ⟨i, j, hij, hin, hgk, rfl, y0, y1, hB⟩ := hrel
    have HGK := hid hgk; have HIJ := hid hij; clear hgk hij
    by_cases hlt : i < n
    · have hii : (i : Int) < (n : Int) := by omega
      have hil : i < l.length := by rw [HN.out]; exact hlt
      obtain ⟨s, hs⟩ : ∃ s, l[i]? = some s := ⟨_, List.getElem?_eq_getElem hil⟩
      have hsm := HS.out s (List.mem_of_getElem? hs)
      obtain ⟨a', ha, r0, hcc, -⟩ := sg_row (by rw [HN.out]; exact h.below hB) hs
      subst ha
      have hlt8 : (a'.add (i * 8)).block < w.heap.size := by obtain ⟨a2, e2, r9, -, -⟩ := sg_row (by rw [HN.out]; exact h) hs; injection e2 with e2; subst e2; exact World.block_lt_of_cell? w _ r9
      obtain ⟨hu1, hu2, hu3, hu4⟩ := up_small HS.out c j
      obtain ⟨hn1, hn2⟩ := up_next HIJ.out hs
      obtain ⟨x, hx⟩ : ∃ x, upL l c j = x := ⟨_, rfl⟩
      obtain ⟨y, hy⟩ : ∃ y, upH l c j = y := ⟨_, rfl⟩
      rw [hx] at y1 hu1 hu2 hn1; rw [hy] at y1 hu3 hu4 hn2
      have hjn : j ≤ 30 := by have := HIJ.out; omega
      obtain ⟨sid, swl, swh, sbl, sbh, shl, shh, sti⟩ := s
      dsimp only at hsm hn1 hn2
      have r1 := hcc 1 _ (by decide) rfl; have r2 := hcc 2 _ (by decide) rfl
      dsimp only at r1 r2
      have HN1 := hid hn1; have HN2 := hid hn2; clear hcc r0 hs hx hy hn1 hn2
      have hw1 : IntKind.i64.wrap (x + swl) = x + swl := IntWalk.i64_in _ (by omega)
      have hw2 : IntKind.i64.wrap (y + swh) = y + swh := IntWalk.i64_in _ (by omega)
      have q0 := (y1 0 _ rfl).1; have q1 := (y1 1 _ rfl).1; have f0 := (y1 0 _ rfl).2; have f1 := (y1 1 _ rfl).2
      go_upto_region 5 with fail
      refine wp_region_Rs [(8, fun v _ => v = .int .i64 (x + swl))] [0, 1, 2, 3, 4, 5, 6, 7, 8, 9] 1 (by kernel_rfl) rfl (by simp only [List.forall_mem_cons]; exact ⟨keeps_eq, fun _ h => by cases h⟩) (by kernel_rfl) ?_
      simp only [numbered, List.filterMap_cons, List.filterMap_nil, List.getElem?_toArray, List.getElem?_cons_succ, List.getElem?_cons_zero, Option.map_some]
      show wpS _ _ _ _ _ _ _ [(_, _), (_, _), (_, _), (_, _), (_, _), (_, _), (_, _), (_, _), (_, _), (_, _)] _ _
      (refine wpS_quiet rfl rfl ?_; intro K hK inst hx; have s0 := fun x => (fun _ => bkeep (BQ.below x) q0) (hx x); have s1 := fun x => (fun _ => bkeep (BQ.below x) r1) (hx x); go_big_quiet_op; (first | go_big_quiet_on | (refine ⟨_, fun _ => rfl, ?_⟩; go_big_quiet_on)); clear hx inst)
      (refine wpS_quiet rfl rfl ?_; intro K hK inst hx; have s0 := fun x => (fun _ => bkeep (BQ.below x) q0) (hx x); have s1 := fun x => (fun _ => bkeep (BQ.below x) r1) (hx x); go_big_quiet_op; (first | go_big_quiet_on | (refine ⟨_, fun _ => rfl, ?_⟩; go_big_quiet_on)); clear hx inst)
      (refine wpS_quiet rfl rfl ?_; intro K hK inst hx; have s0 := fun x => (fun _ => bkeep (BQ.below x) q0) (hx x); have s1 := fun x => (fun _ => bkeep (BQ.below x) r1) (hx x); go_big_quiet_op; (first | go_big_quiet_on | (refine ⟨_, fun _ => rfl, ?_⟩; go_big_quiet_on)); clear hx inst)
      (refine wpS_quiet rfl rfl ?_; intro K hK inst hx; have s0 := fun x => (fun _ => bkeep (BQ.below x) q0) (hx x); have s1 := fun x => (fun _ => bkeep (BQ.below x) r1) (hx x); go_big_quiet_op; (first | go_big_quiet_on | (refine ⟨_, fun _ => rfl, ?_⟩; go_big_quiet_on)); clear hx inst)
      (refine wpS_quiet rfl rfl ?_; intro K hK inst hx; have s0 := fun x => (fun _ => bkeep (BQ.below x) q0) (hx x); have s1 := fun x => (fun _ => bkeep (BQ.below x) r1) (hx x); go_big_quiet_op; (first | go_big_quiet_on | (refine ⟨_, fun _ => rfl, ?_⟩; go_big_quiet_on)); clear hx inst)
      (refine wpS_quiet rfl rfl ?_; intro K hK inst hx; have s0 := fun x => (fun _ => bkeep (BQ.below x) q0) (hx x); have s1 := fun x => (fun _ => bkeep (BQ.below x) r1) (hx x); go_big_quiet_op; (first | go_big_quiet_on | (refine ⟨_, fun _ => rfl, ?_⟩; go_big_quiet_on)); clear hx inst)
      (refine wpS_quiet rfl rfl ?_; intro K hK inst hx; have s0 := fun x => (fun _ => bkeep (BQ.below x) q0) (hx x); have s1 := fun x => (fun _ => bkeep (BQ.below x) r1) (hx x); go_big_quiet_op; (first | go_big_quiet_on | (refine ⟨_, fun _ => rfl, ?_⟩; go_big_quiet_on)); clear hx inst)
      (refine wpS_quiet rfl rfl ?_; intro K hK inst hx; have s0 := fun x => (fun _ => bkeep (BQ.below x) q0) (hx x); have s1 := fun x => (fun _ => bkeep (BQ.below x) r1) (hx x); go_big_quiet_op; (first | go_big_quiet_on | (refine ⟨_, fun _ => rfl, ?_⟩; go_big_quiet_on)); clear hx inst)
      refine wpS_fresh rfl rfl (fun w' hb hF => ?_) ?_
      · change freshAt _ _ _ (fun v _ => v = .int .i64 (x + swl)) _; unfold freshAt; go_simp; (first | exact Below.refl _ _ | exact ⟨Below.refl _ _, rfl⟩ | simp [*, Below.refl])
      intro v W hv; simp only [pOf, List.lookup_cons, Nat.reduceBEq, beq_self_eq_true] at hv; subst hv
      simp only [Act.put, List.setIfInBounds_toArray, List.set_cons_succ, List.set_cons_zero]
      (refine wpS_quiet rfl rfl ?_; intro K hK inst hx; have s0 := fun x => (fun _ => bkeep (BQ.below x) q0) (hx x); have s1 := fun x => (fun _ => bkeep (BQ.below x) r1) (hx x); go_big_quiet_op; (first | go_big_quiet_on | (refine ⟨_, fun _ => rfl, ?_⟩; go_big_quiet_on)); clear hx inst)
      refine wpS_nil ?_
      intro v3 hall
      have hb := hall.1
      clear hall
      replace y0 := y0.below hb; replace y1 := y1.below hb
      replace hB := hB.trans (hb.mono hB.size)
      replace r1 := bkeep hb r1; replace r2 := bkeep hb r2
      clear hb
      replace q0 := (y1 0 _ rfl).1; replace q1 := (y1 1 _ rfl).1; replace f0 := (y1 0 _ rfl).2; replace f1 := (y1 1 _ rfl).2
      refine wpAny_ready (rs := [10]) (by kernel_rfl) (by simp) ?_
      refine AllReady.cons rfl (fun K hK => ?_) AllReady.nil
      go_simp
      refine hK _ _ ?_; clear hK K
      refine wpAny_done (by kernel_rfl) ?_ _
      have z1 := cells_store (o := 0) (u := .int .i64 (x + swl)) y1
      replace y0 := y0.other (B' := w.heap.size + 1) (o' := 0) (by omega) (.int .i64 (x + swl))
      replace hB := hB.setCell (p := ⟨w.heap.size + 1, 0, none⟩) (Nat.le_succ _) (.int .i64 (x + swl))
      have r2b : (v3.setCell ⟨w.heap.size + 1, 0, none⟩ (.int .i64 (x + swl))).cell? ⟨(a'.add (i * 8)).block, (a'.add (i * 8)).off + 2, none⟩ = some (.int .i64 swh) := (World.cell?_setCell_other _ _ _ _ (by intro e; injection e with e _; omega)).trans r2
      clear y1 q0 q1 f0 f1 r1 r2
      generalize World.setCell _ _ _ = v4 at *
      have y1 : CellsAt v4 (w.heap.size + 1) [.int .i64 (x + swl), .int .i64 y] := z1
      clear z1
      have r1 := r2b; have r2 := r2b; clear r2b
      have q0 := (y1 0 _ rfl).1; have q1 := (y1 1 _ rfl).1; have f0 := (y1 0 _ rfl).2; have f1 := (y1 1 _ rfl).2
      go_upto_region 6 with fail
      refine wp_region_Rs [(8, fun v _ => v = .int .i64 (y + swh))] [0, 1, 2, 3, 4, 5, 6, 7, 8, 9] 1 (by kernel_rfl) rfl (by simp only [List.forall_mem_cons]; exact ⟨keeps_eq, fun _ h => by cases h⟩) (by kernel_rfl) ?_
      simp only [numbered, List.filterMap_cons, List.filterMap_nil, List.getElem?_toArray, List.getElem?_cons_succ, List.getElem?_cons_zero, Option.map_some]
      show wpS _ _ _ _ _ _ _ [(_, _), (_, _), (_, _), (_, _), (_, _), (_, _), (_, _), (_, _), (_, _), (_, _)] _ _
      (refine wpS_quiet rfl rfl ?_; intro K hK inst hx; have s0 := fun x => (fun _ => bkeep (BQ.below x) q1) (hx x); have s1 := fun x => (fun _ => bkeep (BQ.below x) r2) (hx x); go_big_quiet_op; (first | go_big_quiet_on | (refine ⟨_, fun _ => rfl, ?_⟩; go_big_quiet_on)); clear hx inst)
      (refine wpS_quiet rfl rfl ?_; intro K hK inst hx; have s0 := fun x => (fun _ => bkeep (BQ.below x) q1) (hx x); have s1 := fun x => (fun _ => bkeep (BQ.below x) r2) (hx x); go_big_quiet_op; (first | go_big_quiet_on | (refine ⟨_, fun _ => rfl, ?_⟩; go_big_quiet_on)); clear hx inst)
      (refine wpS_quiet rfl rfl ?_; intro K hK inst hx; have s0 := fun x => (fun _ => bkeep (BQ.below x) q1) (hx x); have s1 := fun x => (fun _ => bkeep (BQ.below x) r2) (hx x); go_big_quiet_op; (first | go_big_quiet_on | (refine ⟨_, fun _ => rfl, ?_⟩; go_big_quiet_on)); clear hx inst)
      (refine wpS_quiet rfl rfl ?_; intro K hK inst hx; have s0 := fun x => (fun _ => bkeep (BQ.below x) q1) (hx x); have s1 := fun x => (fun _ => bkeep (BQ.below x) r2) (hx x); go_big_quiet_op; (first | go_big_quiet_on | (refine ⟨_, fun _ => rfl, ?_⟩; go_big_quiet_on)); clear hx inst)
      (refine wpS_quiet rfl rfl ?_; intro K hK inst hx; have s0 := fun x => (fun _ => bkeep (BQ.below x) q1) (hx x); have s1 := fun x => (fun _ => bkeep (BQ.below x) r2) (hx x); go_big_quiet_op; (first | go_big_quiet_on | (refine ⟨_, fun _ => rfl, ?_⟩; go_big_quiet_on)); clear hx inst)
      (refine wpS_quiet rfl rfl ?_; intro K hK inst hx; have s0 := fun x => (fun _ => bkeep (BQ.below x) q1) (hx x); have s1 := fun x => (fun _ => bkeep (BQ.below x) r2) (hx x); go_big_quiet_op; (first | go_big_quiet_on | (refine ⟨_, fun _ => rfl, ?_⟩; go_big_quiet_on)); clear hx inst)
      (refine wpS_quiet rfl rfl ?_; intro K hK inst hx; have s0 := fun x => (fun _ => bkeep (BQ.below x) q1) (hx x); have s1 := fun x => (fun _ => bkeep (BQ.below x) r2) (hx x); go_big_quiet_op; (first | go_big_quiet_on | (refine ⟨_, fun _ => rfl, ?_⟩; go_big_quiet_on)); clear hx inst)
      (refine wpS_quiet rfl rfl ?_; intro K hK inst hx; have s0 := fun x => (fun _ => bkeep (BQ.below x) q1) (hx x); have s1 := fun x => (fun _ => bkeep (BQ.below x) r2) (hx x); go_big_quiet_op; (first | go_big_quiet_on | (refine ⟨_, fun _ => rfl, ?_⟩; go_big_quiet_on)); clear hx inst)
      refine wpS_fresh rfl rfl (fun w' hb hF => ?_) ?_
      · change freshAt _ _ _ (fun v _ => v = .int .i64 (y + swh)) _; unfold freshAt; go_simp; (first | exact Below.refl _ _ | exact ⟨Below.refl _ _, rfl⟩ | simp [*, Below.refl])
      intro v W hv; simp only [pOf, List.lookup_cons, Nat.reduceBEq, beq_self_eq_true] at hv; subst hv
      simp only [Act.put, List.setIfInBounds_toArray, List.set_cons_succ, List.set_cons_zero]
      (refine wpS_quiet rfl rfl ?_; intro K hK inst hx; have s0 := fun x => (fun _ => bkeep (BQ.below x) q1) (hx x); have s1 := fun x => (fun _ => bkeep (BQ.below x) r2) (hx x); go_big_quiet_op; (first | go_big_quiet_on | (refine ⟨_, fun _ => rfl, ?_⟩; go_big_quiet_on)); clear hx inst)
      refine wpS_nil ?_
      intro v5 hall
      have hb := hall.1
      clear hall
      replace y0 := y0.below hb; replace y1 := y1.below hb
      replace hB := hB.trans (hb.mono hB.size)
      replace r1 := bkeep hb r1; replace r2 := bkeep hb r2
      clear hb
      replace q0 := (y1 0 _ rfl).1; replace q1 := (y1 1 _ rfl).1; replace f0 := (y1 0 _ rfl).2; replace f1 := (y1 1 _ rfl).2
      refine wpAny_ready (rs := [10]) (by kernel_rfl) (by simp) ?_
      refine AllReady.cons rfl (fun K hK => ?_) AllReady.nil
      go_simp
      refine hK _ _ ?_; clear hK K
      refine wpAny_done (by kernel_rfl) ?_ _
      go_wp2_with fail
      go_roundg (n - (i + 1))
      case measure => have h := HGK.out; omega
      case rel => exact ⟨i + 1, j + 1, by have := HIJ.out; omega, by omega, rfl, by go_num, y0.other (by omega) _, by rw [HN1.out, HN2.out]; exact cells_store (o := 1) y1, hB.setCell (p := ⟨w.heap.size + 1, 1, none⟩) (Nat.le_succ _) _⟩
    · obtain ⟨hu1, hu2⟩ := up_end (l := l) (c := c) (j := j) (by have := HIJ.out; have := HN.out; omega)
      rw [hu1, hu2] at y1
      obtain ⟨x, hx⟩ : ∃ x, loadL l c = x := ⟨_, rfl⟩
      obtain ⟨y, hy⟩ : ∃ y, loadH l c = y := ⟨_, rfl⟩
      rw [hx, hy] at y1
      have HX := hid hx; have HY := hid hy; clear hx hy hu1 hu2
      have q0 := (y1 0 _ rfl).1; have q1 := (y1 1 _ rfl).1; have g0 := (y0 0 _ rfl).1; have g1 := (y0 1 _ rfl).1; have f0 := (y0 0 _ rfl).2; have f1 := (y0 1 _ rfl).2
      go_wp2_with fail
      have z1 := cells_store (o := 1) (u := .int .i64 y) (cells_store (o := 0) (u := .int .i64 x) y0)
      have d0 := (z1 0 _ rfl).1; have d1 := (z1 1 _ rfl).1
      exact bodyPost_ret (v := .agg #[.int .i64 x, .int .i64 y]) (by simp [results, Try.results85, go_sem, *]) rfl ⟨by rw [HX.out, HY.out], (hB.setCell (p := ⟨w.heap.size, 0, none⟩) (Nat.le_refl _) _).setCell (p := ⟨w.heap.size, 1, none⟩) (Nat.le_refl _) _⟩

end Go.Proofs.Ytnchhleokdkejaa

/- The reference's answers. -/
namespace Go.Proofs.Ytnchhleokdkejaa
open Go.RowKit Go.Pb Go.Pb.Ware Go.Pb.Sag
set_option linter.unusedVariables false
set_option linter.unusedSimpArgs false

open Go.Pb.Bung
set_option maxRecDepth 100000 in
set_option maxHeartbeats 1000000 in
theorem rAns_any {w : World} {v : Value} {l : List Sg} {c : Nat} {r : Int} (h : RowsAt 8 w v (l.map rowG)) (hl : l.length ≤ 30) (hc : c < l.length) (hs : ∀ s ∈ l, 0 ≤ s.wl ∧ s.wl ≤ 10000000 ∧ 0 ≤ s.wh ∧ s.wh ≤ 10000000) (hr : ansL l c = r) :
    Calls Try.prog 87 #[v, .int .i64 (c : Int)] w (Ret w (.int .i64 r)) := by
  unfold Ret
  obtain ⟨a, cap, rfl, hll⟩ := h.shape
  rw [List.length_map] at h hll ⊢
  obtain ⟨s, hsk⟩ : ∃ s, l[c]? = some s := ⟨_, List.getElem?_eq_getElem hc⟩
  obtain ⟨x, hx⟩ : ∃ x, loadL l c = x := ⟨_, rfl⟩
  obtain ⟨y, hy⟩ : ∃ y, loadH l c = y := ⟨_, rfl⟩
  have hr2 : (if y ≤ s.bl then 1 else if x > s.bh then 0 else 2) = r := by rw [← hr]; unfold ansL ansS; rw [hx, hy, show l.getD c default = s by rw [List.getD, hsk]; rfl]
  clear hr
  obtain ⟨n, hn⟩ : ∃ n, l.length = n := ⟨_, rfl⟩
  have HN : Hid (l.length = n) := hn
  have HH : Hid (RowsAt 8 w (.slice a l.length cap) (l.map rowG)) := h
  rw [hn] at hll hl hc ⊢
  clear hn h
  have hci : (c : Int) < (n : Int) := by omega
  go_enter Try.func87, Try.ntmps87
  go_wp2_with fail
  skip
  refine (rLoad_any (l := l) (c := c) (by have h := HH.out; rwa [HN.out] at h) (by rw [HN.out]; exact hl) (by rw [HN.out]; exact hc) hs).mono ?_
  rw [hx, hy]
  rintro e w1 ⟨rfl, hb⟩
  obtain ⟨a', ha, r0, hcc, -⟩ := sg_row (HH.out.below hb) hsk
  subst ha
  obtain ⟨sid, swl, swh, sbl, sbh, shl, shh, sti⟩ := s
  dsimp only at r0 hr2
  have r3 := hcc 3 _ (by decide) rfl; have r4 := hcc 4 _ (by decide) rfl
  dsimp only at r3 r4
  clear hcc hx hy
  go_upto_region 2 with fail
  generalize hW : World.alloc w1 _ = v2
  have y1 : CellsAt v2 w1.heap.size [.int .i64 x, .int .i64 y] := by rw [← hW]; exact CellsAt.new w1 [.int .i64 x, .int .i64 y] 23
  have hb2 : Below w1.heap.size w1 v2 := by rw [← hW]; exact (Below.refl _ _).alloc (Nat.le_refl _) _
  replace r3 := bkeep hb2 r3; replace r4 := bkeep hb2 r4
  have hB := hb.trans (hb2.mono hb.size)
  clear hW hb hb2
  have q0 := (y1 0 _ rfl).1; have q1 := (y1 1 _ rfl).1
  by_cases h1 : y ≤ sbl
  · rw [if_pos h1] at hr2
    subst hr2
    have h1d : decide (y ≤ sbl) = true := decide_eq_true h1
    have s0 := fun z : BW v2 => bkeep z.below q0
    have s1 := fun z : BW v2 => bkeep z.below q1
    have s3 := fun z : BW v2 => bkeep z.below r3
    have s4 := fun z : BW v2 => bkeep z.below r4
    refine wp_region_qb (by kernel_rfl) (by kernel_rfl) fun hc => ?_
    repeat (go_big_quiet_step (fail))
    refine wpQuiet_nil ?_
    intro v3 hb
    replace q0 := bkeep hb q0; replace q1 := bkeep hb q1; replace r3 := bkeep hb r3; replace r4 := bkeep hb r4
    replace hB := bnext (w := w) hB hb
    clear hb s0 s1 s3 s4
    go_wp2_with fail
    go_ret
    exact ⟨rfl, hB⟩
  · rw [if_neg h1] at hr2
    have h1d : decide (y ≤ sbl) = false := decide_eq_false h1
    have s0 := fun z : BW v2 => bkeep z.below q0
    have s1 := fun z : BW v2 => bkeep z.below q1
    have s3 := fun z : BW v2 => bkeep z.below r3
    have s4 := fun z : BW v2 => bkeep z.below r4
    refine wp_region_qb (by kernel_rfl) (by kernel_rfl) fun hc => ?_
    repeat (go_big_quiet_step (fail))
    refine wpQuiet_nil ?_
    intro v3 hb
    replace q0 := bkeep hb q0; replace q1 := bkeep hb q1; replace r3 := bkeep hb r3; replace r4 := bkeep hb r4
    replace hB := bnext (w := w) hB hb
    clear hb s0 s1 s3 s4
    go_upto_region 4 with fail
    by_cases h2 : x > sbh
    · rw [if_pos h2] at hr2
      subst hr2
      have h2l : sbh < x := h2
      have h2d : decide (sbh < x) = true := decide_eq_true h2
      have s0 := fun z : BW v3 => bkeep z.below q0
      have s1 := fun z : BW v3 => bkeep z.below q1
      have s3 := fun z : BW v3 => bkeep z.below r3
      have s4 := fun z : BW v3 => bkeep z.below r4
      refine wp_region_qb (by kernel_rfl) (by kernel_rfl) fun hc => ?_
      repeat (go_big_quiet_step (fail))
      refine wpQuiet_nil ?_
      intro v4 hb
      replace q0 := bkeep hb q0; replace q1 := bkeep hb q1; replace r3 := bkeep hb r3; replace r4 := bkeep hb r4
      replace hB := bnext (w := w) hB hb
      clear hb s0 s1 s3 s4
      go_wp2_with fail
      go_ret
      exact ⟨rfl, hB⟩
    · rw [if_neg h2] at hr2
      subst hr2
      have h2l : ¬ sbh < x := h2
      have h2d : decide (sbh < x) = false := decide_eq_false h2
      have s0 := fun z : BW v3 => bkeep z.below q0
      have s1 := fun z : BW v3 => bkeep z.below q1
      have s3 := fun z : BW v3 => bkeep z.below r3
      have s4 := fun z : BW v3 => bkeep z.below r4
      refine wp_region_qb (by kernel_rfl) (by kernel_rfl) fun hc => ?_
      repeat (go_big_quiet_step (fail))
      refine wpQuiet_nil ?_
      intro v4 hb
      replace q0 := bkeep hb q0; replace q1 := bkeep hb q1; replace r3 := bkeep hb r3; replace r4 := bkeep hb r4
      replace hB := bnext (w := w) hB hb
      clear hb s0 s1 s3 s4
      go_wp2_with fail
      go_ret
      exact ⟨rfl, hB⟩

end Go.Proofs.Ytnchhleokdkejaa

/- Loads of bungs, on both sides. -/
namespace Go.Proofs.Ytnchhleokdkejaa
open Go.RowKit Go.Pb Go.Pb.Ware Go.Pb.Sag
set_option linter.unusedVariables false
set_option linter.unusedSimpArgs false

open Go.Pb.Bung
theorem numsAt_nil (W : World) : NumsAt W (.slice none 0 0) [] := .inl ⟨rfl, rfl⟩
end Go.Proofs.Ytnchhleokdkejaa

/- Slices read as the cells that they hold, whatever an element is. -/
namespace Go.Pb
open Go Go.RowKit
set_option linter.unusedVariables false
/-- The slice v has m elements of n cells each, which hold cs. -/
structure LAt (n : Nat) (w : World) (v : Value) (m : Nat) (cs : List Value) : Prop where
  len : cs.length = m * n
  one : ∀ u ∈ cs, u.oneCell' = true
  at' : (v = .slice none 0 0 ∧ m = 0) ∨ ∃ (a : Addr) (cap : Nat), v = .slice (some a) m cap ∧ m ≤ cap ∧ cap ≤ 9223372036854775807 ∧ ∀ j u, cs[j]? = some u → w.cell? (a.add j) = some u
theorem LAt.below {n m : Nat} {w w' : World} {v : Value} {cs : List Value} (h : LAt n w v m cs) (hb : Below w.heap.size w w') : LAt n w' v m cs :=
  ⟨h.len, h.one, by
    rcases h.at' with h1 | ⟨a, cap, h1, h2, h3, h4⟩
    · exact .inl h1
    · exact .inr ⟨a, cap, h1, h2, h3, fun j u hu => bkeep hb (h4 j u hu)⟩⟩
theorem LAt.shape {n m : Nat} {w : World} {v : Value} {cs : List Value} (h : LAt n w v m cs) : ∃ (a : Option Addr) (cap : Nat), v = .slice a m cap ∧ m ≤ cap ∧ cap ≤ 9223372036854775807 ∧ (a = none → m = 0 ∧ cap = 0) := by
  rcases h.at' with ⟨h1, h2⟩ | ⟨a, cap, h1, h2, h3, h4⟩
  · subst h2; exact ⟨none, 0, h1, Nat.le_refl _, by omega, fun _ => ⟨rfl, rfl⟩⟩
  · exact ⟨some a, cap, h1, h2, h3, fun e => by cases e⟩
theorem LAt.cells {n m cap : Nat} {w : World} {a : Addr} {cs : List Value} (h : LAt n w (.slice (some a) m cap) m cs) : ∀ j u, cs[j]? = some u → w.cell? (a.add j) = some u := by
  rcases h.at' with ⟨h1, _⟩ | ⟨a', cap', h1, _, _, h4⟩
  · cases h1
  · injection h1 with h1 _ _; injection h1 with h1; subst h1; exact h4
theorem LAt.nil {n cap : Nat} {w : World} {cs : List Value} {m : Nat} (h : LAt n w (.slice none m cap) m cs) : m = 0 ∧ cap = 0 ∧ cs = [] := by
  rcases h.at' with ⟨h1, h2⟩ | ⟨a', cap', h1, _, _, h4⟩
  · injection h1 with _ _ h3; subst h2; exact ⟨rfl, h3, List.length_eq_zero_iff.1 (by rw [h.len]; simp)⟩
  · injection h1 with h1 _ _; cases h1
end Go.Pb
namespace Go.Pb.Sag
open Go Go.Pb Go.Pb.Ware Go.RowKit
set_option linter.unusedVariables false
end Go.Pb.Sag

/- The first packings, as the reference lists them; appends of whatever elements. -/
namespace Go.Pb
set_option linter.unusedVariables false
open Go Go.RowKit
end Go.Pb
namespace Go.Pb.Sag
open Go Go.Pb Go.Pb.Ware Go.RowKit
set_option linter.unusedVariables false
/-- Rows of stands in memory of the call's own. -/
def RowsQ (lo TQ TS : Nat) (v : Value) (rows : List (List St)) (W : World) : Prop := ∃ us : List Value, W.ownsRow lo TQ 1 v rows.length us ∧ ∀ (k : Nat) (u : Value) (q : List St), us[k]? = some u → rows[k]? = some q → W.ownsRow lo TS 3 u q.length (q.flatMap cellsP)
theorem RowsQ.below {lo TQ TS : Nat} {v : Value} {rows : List (List St)} {W W' : World} (h : RowsQ lo TQ TS v rows W) (hb : Below W.heap.size W W') : RowsQ lo TQ TS v rows W' := by
  obtain ⟨us, h1, h2⟩ := h
  exact ⟨us, owns_below h1 hb, fun k u q h3 h4 => owns_below (h2 k u q h3 h4) hb⟩
theorem RowsQ.nil {lo TQ TS : Nat} {W : World} : RowsQ lo TQ TS (.slice none 0 0) [] W := ⟨[], World.ownsRow_nil _ _ _ _, fun k u q h => by simp at h⟩
theorem RowsQ.shape {lo TQ TS : Nat} {v : Value} {rows : List (List St)} {W : World} (h : RowsQ lo TQ TS v rows W) : ∃ (a : Option Addr) (cap : Nat), v = .slice a rows.length cap ∧ rows.length ≤ 9223372036854775807 := by
  obtain ⟨us, h1, _⟩ := h
  exact owns_shape h1
/-- One row. -/
theorem RowsQ.one {lo TQ TS B : Nat} {u : Value} {q : List St} {W : World} (hB : W.heap.size = B) (hlo : lo ≤ B) (h : W.ownsRow lo TS 3 u q.length (q.flatMap cellsP)) : RowsQ lo TQ TS (.slice (some ⟨B, 0, none⟩) 1 1) [q] (W.alloc (.cells #[u] TQ)) := by
  subst hB
  refine ⟨[u], ⟨rfl, .inr ⟨W.heap.size, 1, #[u], rfl, hlo, World.alloc_heap_new W _, Nat.le_refl _, by unfold maxLen; omega, rfl, rfl⟩⟩, fun k x y hx hy => ?_⟩
  match k with
  | 0 =>
    injection hx with hx; injection hy with hy
    subst hx; subst hy
    exact h.alloc _
  | k + 1 => simp at hx
end Go.Pb.Sag

/- How bungs may break, on both sides. -/
namespace Go.Proofs.Ytnchhleokdkejaa
open Go.RowKit Go.Pb Go.Pb.Ware Go.Pb.Sag
set_option linter.unusedVariables false
set_option linter.unusedSimpArgs false

open Go.Proofs Go.Pb.Bung
def ansAll (l : List Sg) : List Int := (List.range l.length).map (ansL l)
def brkA (lo hi : Int) (l : List Sg) : ((Int × Int) × List Int) × Int := if bungOk lo hi l = true then (if firstN (ansAll l) < 0 then (((0, 0), []), 34) else (((firstN (ansAll l), (l.getD (firstN (ansAll l)).toNat default).bl), (l.drop ((firstN (ansAll l)).toNat + 1)).map (·.wh)), 0)) else (((0, 0), []), 31)
def BrRes (r : ((Int × Int) × List Int) × Int) (W : World) (e : Ending) (w' : World) : Prop := ∃ u, e = .returned (.tuple #[.agg #[.int .i64 r.1.1.1, .int .i64 r.1.1.2, u], .int .i64 r.2]) ∧ Below W.heap.size W w' ∧ NumsAt w' u r.1.2
theorem ansAll_at {l : List Sg} {k : Nat} (h : k < l.length) : (ansAll l)[k]? = some (ansL l k) := by
  unfold ansAll
  rw [List.getElem?_map, List.getElem?_range h]
  rfl
theorem first_at {l : List Sg} {k : Nat} (hk : k < l.length) (h : ∀ j, j < k → ansL l j = 1) (hx : ansL l k ≠ 1) : firstN (ansAll l) = (k : Int) := by
  refine first_hit (ansAll_at hk) (fun x hx => ?_) hx
  unfold ansAll at hx
  rw [← List.map_take, List.take_range] at hx
  obtain ⟨j, hj, rfl⟩ := List.mem_map.1 hx
  have := List.mem_range.1 hj
  exact h j (by omega)
theorem first_end {l : List Sg} (h : ∀ j, j < l.length → ansL l j = 1) : firstN (ansAll l) = -1 := by
  refine first_none (fun x hx => ?_)
  unfold ansAll at hx
  obtain ⟨j, hj, rfl⟩ := List.mem_map.1 hx
  exact h j (List.mem_range.1 hj)
theorem first_two (l : List Sg) : firstN (ansAll l) = -1 ∨ ∃ m, m < l.length ∧ ansL l m ≠ 1 ∧ firstN (ansAll l) = (m : Int) := by
  unfold firstN
  split
  · rename_i i h
    rw [List.findIdx?_eq_some_iff_getElem] at h
    obtain ⟨h1, h2, _⟩ := h
    have hl : i < l.length := by simpa [ansAll] using h1
    refine .inr ⟨i, hl, ?_, rfl⟩
    have e := Option.some.inj ((List.getElem?_eq_getElem h1).symm.trans (ansAll_at hl))
    rw [e] at h2
    simpa using h2
  · exact .inl rfl
theorem ans_last {l : List Sg} {m : Nat} (h : listOk l = true) (hm : m + 1 = l.length) : ansL l m = 1 := by
  have hlt : m < l.length := by omega
  have hb := (sg_small ((listOk_iff.1 h).2.1 _ (List.getElem_mem hlt))).2.2.1
  have e : l.getD m default = l[m] := by rw [List.getD_eq_getElem?_getD, List.getElem?_eq_getElem hlt]; rfl
  unfold ansL ansS
  rw [(load_top (by omega)).1, (load_top (by omega)).2, e]
  rw [if_pos hb.1]
theorem whs_next {l : List Sg} {k : Nat} {s : Sg} (h : l[k]? = some s) : (l.take (k + 1)).map (fun s => Value.int .i64 s.wh) = (l.take k).map (fun s => Value.int .i64 s.wh) ++ [.int .i64 s.wh] := by
  rw [List.take_add_one, h, List.map_append]
  rfl

set_option maxRecDepth 100000 in
set_option maxHeartbeats 1000000 in
theorem breaksP {w : World} {v : Value} {l : List Sg} {lo hi : Int} {r : _} (h : RowsAt 8 w v (l.map rowG)) (hr : brkA lo hi l = r) :
    Calls Try.prog 42 #[.agg #[.int .i64 lo, .int .i64 hi, v]] w (BrRes r w) := by
  unfold BrRes
  obtain ⟨a, cap, rfl, hll⟩ := h.shape
  rw [List.length_map] at hll ⊢
  have hn0 : (l.map rowG).length = l.length := List.length_map ..
  obtain ⟨n, hn⟩ : ∃ n, l.length = n := ⟨_, rfl⟩
  have HN : Hid (l.length = n) := hn
  rw [hn0] at h
  clear hn0
  have h0 : Hid (RowsAt 8 w (.slice a l.length cap) (l.map rowG)) := hid h
  obtain ⟨b, hb⟩ : ∃ b, bungOk lo hi l = b := ⟨_, rfl⟩
  have hcb : ckBg lo hi l = if b = true then 0 else 31 := by unfold ckBg; rw [hb]
  unfold brkA at hr
  rw [hb] at hr
  cases b
  · rw [if_neg (by simp)] at hr
    subst hr
    have HC : Hid (ckBg lo hi l = 31) := hid (hcb.trans (if_neg (by simp)))
    clear hcb hb
    rw [hn] at h hll ⊢
    clear hn
    go_enter Try.func42, Try.ntmps42
    go_wp2_with fail
    refine (ckBg_any (h.below (by go_grown)) HC.out).mono ?_
    rintro e w1 ⟨rfl, hb⟩
    replace hb0 := bnext (w := w) (by go_grown) hb; have hz := hb.size; (try simp only [World.size_alloc, World.size_setCell] at hz); replace q0 : w1.cell? ⟨w.heap.size, 0, none⟩ = some (.int .i64 lo) := bkeep hb (by first | (with_reducible exact q0) | (with_reducible exact akeep q0) | simp [*, go_sem]); replace q1 : w1.cell? ⟨w.heap.size, 1, none⟩ = some (.int .i64 hi) := bkeep hb (by first | (with_reducible exact q1) | (with_reducible exact akeep q1) | simp [*, go_sem]); replace q2 : w1.cell? ⟨w.heap.size, 2, none⟩ = some (.slice a n cap) := bkeep hb (by first | (with_reducible exact q2) | (with_reducible exact akeep q2) | simp [*, go_sem]); replace f3 : w1.frozen? ⟨w.heap.size + 1, 0, none⟩ = false := bfree (v := .int .i64 0) hb (by first | (with_reducible exact q3) | (with_reducible exact akeep q3) | simp [*, go_sem]) (by first | (with_reducible exact f3) | (with_reducible exact afree q3 f3) | simp [*, go_sem]); replace q3 : w1.cell? ⟨w.heap.size + 1, 0, none⟩ = some (.int .i64 0) := bkeep hb (by first | (with_reducible exact q3) | (with_reducible exact akeep q3) | simp [*, go_sem]); replace f4 : w1.frozen? ⟨w.heap.size + 1, 1, none⟩ = false := bfree (v := .int .i64 0) hb (by first | (with_reducible exact q4) | (with_reducible exact akeep q4) | simp [*, go_sem]) (by first | (with_reducible exact f4) | (with_reducible exact afree q4 f4) | simp [*, go_sem]); replace q4 : w1.cell? ⟨w.heap.size + 1, 1, none⟩ = some (.int .i64 0) := bkeep hb (by first | (with_reducible exact q4) | (with_reducible exact akeep q4) | simp [*, go_sem]); replace f5 : w1.frozen? ⟨w.heap.size + 1, 2, none⟩ = false := bfree (v := .slice none 0 0) hb (by first | (with_reducible exact q5) | (with_reducible exact akeep q5) | simp [*, go_sem]) (by first | (with_reducible exact f5) | (with_reducible exact afree q5 f5) | simp [*, go_sem]); replace q5 : w1.cell? ⟨w.heap.size + 1, 2, none⟩ = some (.slice none 0 0) := bkeep hb (by first | (with_reducible exact q5) | (with_reducible exact akeep q5) | simp [*, go_sem]); skip
    clear hb
    go_wp2_with fail
    exact bodyPost_ret (v := .tuple #[.agg #[.int .i64 0, .int .i64 0, .slice none 0 0], .int .i64 31]) (by simp [results, Try.results42, go_sem, *]) rfl ⟨_, rfl, by go_grown, numsAt_nil _⟩
  · rw [if_pos rfl] at hr
    have HC : Hid (ckBg lo hi l = 0) := hid (hcb.trans (if_pos rfl))
    clear hcb
    rcases first_two l with hf | ⟨m, hm, hx, hf⟩
    · rw [if_pos (by rw [hf]; decide)] at hr
      subst hr
      have HF : Hid (firstN (ansAll l) = -1) := hid hf
      have hk := bungOk_list hb
      have hl30 := (listOk_iff.1 hk).1
      have HSB : Hid (∀ s ∈ l, _) := hid (sg_bounds hk)
      clear hf hb hk
      rw [hn] at h hll hl30 ⊢
      clear hn
      go_enter Try.func42, Try.ntmps42
      go_wp2_with fail
      refine (ckBg_any (h.below (by go_grown)) HC.out).mono ?_
      rintro e w1 ⟨rfl, hb⟩
      replace hb0 := bnext (w := w) (by go_grown) hb; have hz := hb.size; (try simp only [World.size_alloc, World.size_setCell] at hz); replace q0 : w1.cell? ⟨w.heap.size, 0, none⟩ = some (.int .i64 lo) := bkeep hb (by first | (with_reducible exact q0) | (with_reducible exact akeep q0) | simp [*, go_sem]); replace q1 : w1.cell? ⟨w.heap.size, 1, none⟩ = some (.int .i64 hi) := bkeep hb (by first | (with_reducible exact q1) | (with_reducible exact akeep q1) | simp [*, go_sem]); replace q2 : w1.cell? ⟨w.heap.size, 2, none⟩ = some (.slice a n cap) := bkeep hb (by first | (with_reducible exact q2) | (with_reducible exact akeep q2) | simp [*, go_sem]); replace f3 : w1.frozen? ⟨w.heap.size + 1, 0, none⟩ = false := bfree (v := .int .i64 0) hb (by first | (with_reducible exact q3) | (with_reducible exact akeep q3) | simp [*, go_sem]) (by first | (with_reducible exact f3) | (with_reducible exact afree q3 f3) | simp [*, go_sem]); replace q3 : w1.cell? ⟨w.heap.size + 1, 0, none⟩ = some (.int .i64 0) := bkeep hb (by first | (with_reducible exact q3) | (with_reducible exact akeep q3) | simp [*, go_sem]); replace f4 : w1.frozen? ⟨w.heap.size + 1, 1, none⟩ = false := bfree (v := .int .i64 0) hb (by first | (with_reducible exact q4) | (with_reducible exact akeep q4) | simp [*, go_sem]) (by first | (with_reducible exact f4) | (with_reducible exact afree q4 f4) | simp [*, go_sem]); replace q4 : w1.cell? ⟨w.heap.size + 1, 1, none⟩ = some (.int .i64 0) := bkeep hb (by first | (with_reducible exact q4) | (with_reducible exact akeep q4) | simp [*, go_sem]); replace f5 : w1.frozen? ⟨w.heap.size + 1, 2, none⟩ = false := bfree (v := .slice none 0 0) hb (by first | (with_reducible exact q5) | (with_reducible exact akeep q5) | simp [*, go_sem]) (by first | (with_reducible exact f5) | (with_reducible exact afree q5 f5) | simp [*, go_sem]); replace q5 : w1.cell? ⟨w.heap.size + 1, 2, none⟩ = some (.slice none 0 0) := bkeep hb (by first | (with_reducible exact q5) | (with_reducible exact akeep q5) | simp [*, go_sem]); skip
      clear hb
      go_wp2_with fail
      refine (courses_any (h.below (by go_grown)) (by rw [HN.out]; exact hl30) HSB.out).mono ?_
      rintro e w1 ⟨u, rfl, hb, hnu⟩
      replace hb0 := bnext (w := w) (by go_grown) hb; have hz := hb.size; (try simp only [World.size_alloc, World.size_setCell] at hz); replace q0 : w1.cell? ⟨w.heap.size, 0, none⟩ = some (.int .i64 lo) := bkeep hb (by first | (with_reducible exact q0) | (with_reducible exact akeep q0) | simp [*, go_sem]); replace q1 : w1.cell? ⟨w.heap.size, 1, none⟩ = some (.int .i64 hi) := bkeep hb (by first | (with_reducible exact q1) | (with_reducible exact akeep q1) | simp [*, go_sem]); replace q2 : w1.cell? ⟨w.heap.size, 2, none⟩ = some (.slice a n cap) := bkeep hb (by first | (with_reducible exact q2) | (with_reducible exact akeep q2) | simp [*, go_sem]); replace f3 : w1.frozen? ⟨w.heap.size + 1, 0, none⟩ = false := bfree (v := .int .i64 0) hb (by first | (with_reducible exact q3) | (with_reducible exact akeep q3) | simp [*, go_sem]) (by first | (with_reducible exact f3) | (with_reducible exact afree q3 f3) | simp [*, go_sem]); replace q3 : w1.cell? ⟨w.heap.size + 1, 0, none⟩ = some (.int .i64 0) := bkeep hb (by first | (with_reducible exact q3) | (with_reducible exact akeep q3) | simp [*, go_sem]); replace f4 : w1.frozen? ⟨w.heap.size + 1, 1, none⟩ = false := bfree (v := .int .i64 0) hb (by first | (with_reducible exact q4) | (with_reducible exact akeep q4) | simp [*, go_sem]) (by first | (with_reducible exact f4) | (with_reducible exact afree q4 f4) | simp [*, go_sem]); replace q4 : w1.cell? ⟨w.heap.size + 1, 1, none⟩ = some (.int .i64 0) := bkeep hb (by first | (with_reducible exact q4) | (with_reducible exact akeep q4) | simp [*, go_sem]); replace f5 : w1.frozen? ⟨w.heap.size + 1, 2, none⟩ = false := bfree (v := .slice none 0 0) hb (by first | (with_reducible exact q5) | (with_reducible exact akeep q5) | simp [*, go_sem]) (by first | (with_reducible exact f5) | (with_reducible exact afree q5 f5) | simp [*, go_sem]); replace q5 : w1.cell? ⟨w.heap.size + 1, 2, none⟩ = some (.slice none 0 0) := bkeep hb (by first | (with_reducible exact q5) | (with_reducible exact akeep q5) | simp [*, go_sem]); skip
      clear hb
      go_wp2_with fail
      refine (first_any (r := -1) hnu HF.out).mono ?_
      rintro e w1 ⟨rfl, hb⟩
      replace hb0 := bnext (w := w) (by go_grown) hb; have hz := hb.size; (try simp only [World.size_alloc, World.size_setCell] at hz); replace q0 : w1.cell? ⟨w.heap.size, 0, none⟩ = some (.int .i64 lo) := bkeep hb (by first | (with_reducible exact q0) | (with_reducible exact akeep q0) | simp [*, go_sem]); replace q1 : w1.cell? ⟨w.heap.size, 1, none⟩ = some (.int .i64 hi) := bkeep hb (by first | (with_reducible exact q1) | (with_reducible exact akeep q1) | simp [*, go_sem]); replace q2 : w1.cell? ⟨w.heap.size, 2, none⟩ = some (.slice a n cap) := bkeep hb (by first | (with_reducible exact q2) | (with_reducible exact akeep q2) | simp [*, go_sem]); replace f3 : w1.frozen? ⟨w.heap.size + 1, 0, none⟩ = false := bfree (v := .int .i64 0) hb (by first | (with_reducible exact q3) | (with_reducible exact akeep q3) | simp [*, go_sem]) (by first | (with_reducible exact f3) | (with_reducible exact afree q3 f3) | simp [*, go_sem]); replace q3 : w1.cell? ⟨w.heap.size + 1, 0, none⟩ = some (.int .i64 0) := bkeep hb (by first | (with_reducible exact q3) | (with_reducible exact akeep q3) | simp [*, go_sem]); replace f4 : w1.frozen? ⟨w.heap.size + 1, 1, none⟩ = false := bfree (v := .int .i64 0) hb (by first | (with_reducible exact q4) | (with_reducible exact akeep q4) | simp [*, go_sem]) (by first | (with_reducible exact f4) | (with_reducible exact afree q4 f4) | simp [*, go_sem]); replace q4 : w1.cell? ⟨w.heap.size + 1, 1, none⟩ = some (.int .i64 0) := bkeep hb (by first | (with_reducible exact q4) | (with_reducible exact akeep q4) | simp [*, go_sem]); replace f5 : w1.frozen? ⟨w.heap.size + 1, 2, none⟩ = false := bfree (v := .slice none 0 0) hb (by first | (with_reducible exact q5) | (with_reducible exact akeep q5) | simp [*, go_sem]) (by first | (with_reducible exact f5) | (with_reducible exact afree q5 f5) | simp [*, go_sem]); replace q5 : w1.cell? ⟨w.heap.size + 1, 2, none⟩ = some (.slice none 0 0) := bkeep hb (by first | (with_reducible exact q5) | (with_reducible exact akeep q5) | simp [*, go_sem]); skip
      clear hb
      have hm1 : (-1 : Int) < 0 := by decide
      go_wp2_with fail
      exact bodyPost_ret (v := .tuple #[.agg #[.int .i64 0, .int .i64 0, .slice none 0 0], .int .i64 34]) (by simp [results, Try.results42, go_sem, *]) rfl ⟨_, rfl, by go_grown, numsAt_nil _⟩
    · rw [if_neg (by rw [hf]; omega), hf, Int.toNat_natCast] at hr
      subst hr
      have hml : m + 1 < l.length := by rcases Nat.lt_or_ge (m + 1) l.length with h3 | h3; exact h3; exact absurd (ans_last (bungOk_list hb) (by omega)) hx
      skip
      exact (Breaks_good h0.out hb hf hml rfl)

end Go.Proofs.Ytnchhleokdkejaa

/- How bungs may break, by the reference. -/
namespace Go.Proofs.Ytnchhleokdkejaa
open Go.RowKit Go.Pb Go.Pb.Ware Go.Pb.Sag
set_option linter.unusedVariables false
set_option linter.unusedSimpArgs false

open Go.Proofs Go.Pb.Bung
set_option maxRecDepth 100000 in
set_option maxHeartbeats 1000000 in
theorem rBreaksP {w : World} {v : Value} {l : List Sg} {lo hi : Int} {r : _} (h : RowsAt 8 w v (l.map rowG)) (hr : brkA lo hi l = r) :
    Calls Try.prog 43 #[.agg #[.int .i64 lo, .int .i64 hi, v]] w (BrRes r w) := by
  unfold BrRes
  obtain ⟨a, cap, rfl, hll⟩ := h.shape
  rw [List.length_map] at hll ⊢
  have hn0 : (l.map rowG).length = l.length := List.length_map ..
  obtain ⟨n, hn⟩ : ∃ n, l.length = n := ⟨_, rfl⟩
  have HN : Hid (l.length = n) := hn
  rw [hn0] at h
  clear hn0
  have h0 : Hid (RowsAt 8 w (.slice a l.length cap) (l.map rowG)) := hid h
  obtain ⟨b, hb⟩ : ∃ b, bungOk lo hi l = b := ⟨_, rfl⟩
  have hcb : ckBg lo hi l = if b = true then 0 else 31 := by unfold ckBg; rw [hb]
  unfold brkA at hr
  rw [hb] at hr
  cases b
  · rw [if_neg (by simp)] at hr
    subst hr
    have HC : Hid (ckBg lo hi l = 31) := hid (hcb.trans (if_neg (by simp)))
    clear hcb hb
    rw [hn] at h hll ⊢
    clear hn
    go_enter Try.func43, Try.ntmps43
    go_wp2_with fail
    refine (rCkBg (h.below (by go_grown)) HC.out).mono ?_
    rintro e w1 ⟨rfl, hb⟩
    replace hb0 := bnext (w := w) (by go_grown) hb; have hz := hb.size; (try simp only [World.size_alloc, World.size_setCell] at hz); replace q0 : w1.cell? ⟨w.heap.size, 0, none⟩ = some (.int .i64 lo) := bkeep hb (by first | (with_reducible exact q0) | (with_reducible exact akeep q0) | simp [*, go_sem]); replace q1 : w1.cell? ⟨w.heap.size, 1, none⟩ = some (.int .i64 hi) := bkeep hb (by first | (with_reducible exact q1) | (with_reducible exact akeep q1) | simp [*, go_sem]); replace q2 : w1.cell? ⟨w.heap.size, 2, none⟩ = some (.slice a n cap) := bkeep hb (by first | (with_reducible exact q2) | (with_reducible exact akeep q2) | simp [*, go_sem]); replace f3 : w1.frozen? ⟨w.heap.size + 1, 0, none⟩ = false := bfree (v := .int .i64 0) hb (by first | (with_reducible exact q3) | (with_reducible exact akeep q3) | simp [*, go_sem]) (by first | (with_reducible exact f3) | (with_reducible exact afree q3 f3) | simp [*, go_sem]); replace q3 : w1.cell? ⟨w.heap.size + 1, 0, none⟩ = some (.int .i64 0) := bkeep hb (by first | (with_reducible exact q3) | (with_reducible exact akeep q3) | simp [*, go_sem]); replace f4 : w1.frozen? ⟨w.heap.size + 1, 1, none⟩ = false := bfree (v := .int .i64 0) hb (by first | (with_reducible exact q4) | (with_reducible exact akeep q4) | simp [*, go_sem]) (by first | (with_reducible exact f4) | (with_reducible exact afree q4 f4) | simp [*, go_sem]); replace q4 : w1.cell? ⟨w.heap.size + 1, 1, none⟩ = some (.int .i64 0) := bkeep hb (by first | (with_reducible exact q4) | (with_reducible exact akeep q4) | simp [*, go_sem]); replace f5 : w1.frozen? ⟨w.heap.size + 1, 2, none⟩ = false := bfree (v := .slice none 0 0) hb (by first | (with_reducible exact q5) | (with_reducible exact akeep q5) | simp [*, go_sem]) (by first | (with_reducible exact f5) | (with_reducible exact afree q5 f5) | simp [*, go_sem]); replace q5 : w1.cell? ⟨w.heap.size + 1, 2, none⟩ = some (.slice none 0 0) := bkeep hb (by first | (with_reducible exact q5) | (with_reducible exact akeep q5) | simp [*, go_sem]); skip
    clear hb
    go_wp2_with fail
    exact bodyPost_ret (v := .tuple #[.agg #[.int .i64 0, .int .i64 0, .slice none 0 0], .int .i64 31]) (by simp [results, Try.results43, go_sem, *]) rfl ⟨_, rfl, by go_grown, numsAt_nil _⟩
  · have hiI := info_parts Try.infoInt
    obtain ⟨i1, hj, hy0, hy1, hy2⟩ := hiI
    rw [if_pos rfl] at hr
    have HC : Hid (ckBg lo hi l = 0) := hid (hcb.trans (if_pos rfl))
    clear hcb
    have hk := bungOk_list hb
    have hl30 := (listOk_iff.1 hk).1
    have HSB : Hid (∀ s ∈ l, _) := hid (sg_bounds hk)
    have HI64 : Hid (∀ s ∈ l, ∀ z ∈ rowG s, I64 z) := hid (i64_rows h)
    have HR : Hid ((if firstN (ansAll l) < 0 then (((0, 0), []), 34) else (((firstN (ansAll l), (l.getD (firstN (ansAll l)).toNat default).bl), (l.drop ((firstN (ansAll l)).toNat + 1)).map (·.wh)), 0)) = r) := hid hr
    clear hr hk hb
    rw [hn] at h hll hl30 ⊢
    clear hn
    go_enter Try.func43, Try.ntmps43
    go_upto_region 1 with fail
    generalize hW0 : World.alloc (World.alloc w _) _ = v1
    have y0 : CellsAt v1 w.heap.size [.int .i64 lo, .int .i64 hi, .slice a n cap] := by rw [← hW0]; exact (CellsAt.new w _ 26).alloc _
    have y1 : CellsAt v1 (w.heap.size + 1) [.int .i64 0, .int .i64 0, .slice none 0 0] := by rw [← hW0]; have h := CellsAt.new (w.alloc (.cells #[.int .i64 lo, .int .i64 hi, .slice a n cap] 26)) [.int .i64 0, .int .i64 0, .slice none 0 0] 54; rwa [World.size_alloc] at h
    have hB : Below w.heap.size w v1 := by rw [← hW0]; exact ((Below.refl _ w).alloc (Nat.le_refl _) _).alloc (by simp) _
    have hz : w.heap.size + 2 ≤ v1.heap.size := by rw [← hW0]; simp
    clear hW0
    have q0 := (y0 0 _ rfl).1; have q1 := (y0 1 _ rfl).1; have q2 := (y0 2 _ rfl).1
    go_wp2_with fail
    refine (rCkBg (h.below hB) HC.out).mono ?_
    rintro e v2 ⟨rfl, hb⟩
    replace y0 := y0.below hb; replace y1 := y1.below hb
    replace hB := bnext (w := w) hB hb
    replace hz := Nat.le_trans hz hb.size
    clear hb q0 q1 q2
    have q0 := (y0 0 _ rfl).1; have q1 := (y0 1 _ rfl).1; have q2 := (y0 2 _ rfl).1
    go_wp2_with fail
    clear q0 q1 q2
    go_loopg [4] n (fun gk iv wr => ∃ k : Nat, k ≤ n ∧ gk = n - k ∧ iv = .int .i64 k ∧ Hid (∀ j, j < k → ansL l j = 1) ∧ CellsAt wr w.heap.size [.int .i64 lo, .int .i64 hi, .slice a n cap] ∧ CellsAt wr (w.heap.size + 1) [.int .i64 0, .int .i64 0, .slice none 0 0] ∧ Below w.heap.size w wr ∧ w.heap.size + 2 ≤ wr.heap.size)
    case atStart => exact ⟨0, Nat.zero_le _, rfl, rfl, hid (fun j h => by omega), y0, y1, hB, hz⟩
    case round =>
      clear y0 y1 hB hz
      obtain ⟨k, hk, hgk, rfl, HA, y0, y1, hB, hz⟩ := hrel
      have HGK := hid hgk; clear hgk
      have q0 := (y0 0 _ rfl).1; have q1 := (y0 1 _ rfl).1; have q2 := (y0 2 _ rfl).1
      by_cases hlt : k < n
      · have hki : (k : Int) < (n : Int) := by omega
        obtain ⟨x, hx⟩ : ∃ x, ansL l k = x := ⟨_, rfl⟩
        have HX := hid hx; clear hx
        go_wp2_with fail
        refine (rAns_any (l := l) (c := k) (r := x) (h.below hB) (by rw [HN.out]; exact hl30) (by rw [HN.out]; exact hlt) HSB.out HX.out).mono ?_
        rintro e v3 ⟨rfl, hb⟩
        replace y0 := y0.below hb; replace y1 := y1.below hb
        replace hB := bnext (w := w) hB hb
        replace hz := Nat.le_trans hz hb.size
        clear hb q0 q1 q2
        have q0 := (y0 0 _ rfl).1; have q1 := (y0 1 _ rfl).1; have q2 := (y0 2 _ rfl).1
        by_cases hx1 : x = 1
        · subst hx1
          go_wp2_with fail
          go_roundg (n - (k + 1))
          case measure => have h := HGK.out; omega
          case rel => exact ⟨k + 1, by omega, rfl, by go_num, hid (fun j hj => by rcases Nat.lt_or_ge j k with h3 | h3; exact HA.out j h3; (have e : j = k := by omega); subst e; exact HX.out), y0, y1, hB, hz⟩
        · have hxb : (x == 1) = false := beq_eq_false_iff_ne.mpr hx1
          have hf := first_at (l := l) (k := k) (by rw [HN.out]; exact hlt) HA.out (by rw [HX.out]; exact hx1)
          have hR := HR.out
          rw [hf, if_neg (by omega), Int.toNat_natCast] at hR
          clear HR hf
          obtain ⟨s, hs⟩ : ∃ s, l[k]? = some s := ⟨_, List.getElem?_eq_getElem (by rw [HN.out]; exact hlt)⟩
          have hgd : l.getD k default = s := getD_of hs
          rw [hgd] at hR
          obtain ⟨a', ha, r0, hc, -⟩ := sg_row (by rw [HN.out]; exact h.below hB) hs
          subst ha
          obtain ⟨sid, swl, swh, sbl, sbh, shl, shh, sti⟩ := s
          dsimp only at hR
          have HR : Hid ((((((k : Int), sbl), (l.drop (k + 1)).map (·.wh)), 0) : ((Int × Int) × List Int) × Int) = r) := hid hR
          clear hR hgd
          have r3 := hc 3 _ (by decide) rfl
          dsimp only at r3
          clear hc r0 hs
          obtain ⟨v4, hv4⟩ : ∃ v, v = v3 := ⟨_, rfl⟩
          subst hv4
          go_upto_region 8 with fail
          generalize hW : World.alloc v4 _ = v5
          have yx : CellsAt v5 v4.heap.size [.int .i64 (k : Int), .int .i64 sbl, .slice none 0 0] := by rw [← hW]; exact CellsAt.new v4 [.int .i64 (k : Int), .int .i64 sbl, .slice none 0 0] 54
          have hb : Below v4.heap.size v4 v5 := by rw [← hW]; exact (Below.refl _ _).alloc (Nat.le_refl _) _
          have hz5 : v4.heap.size < v5.heap.size := by rw [← hW]; simp
          clear hW r3
          replace y0 := y0.below hb; replace y1 := y1.below hb
          replace hB := bnext (w := w) hB hb
          clear hb q0 q1 q2
          have hwk : IntKind.i64.wrap ((k : Int) + 1) = ((k + 1 : Nat) : Int) := (IntWalk.i64_in _ (by omega)).trans (by omega)
          obtain ⟨K1, hK1⟩ : ∃ K1, k + 1 = K1 := ⟨_, rfl⟩
          rw [hK1] at hwk
          have HK1 : Hid (k + 1 = K1) := hK1
          have q0 := (y0 0 _ rfl).1; have q1 := (y0 1 _ rfl).1; have q2 := (y0 2 _ rfl).1
          have hKn : K1 ≤ n := by omega
          clear hK1
          obtain ⟨GK, rfl⟩ : ∃ GK, GK = gk := ⟨_, rfl⟩
          go_wp2_with fail
          clear q0 q1 q2
          clear hwk
          go_loopg [6] (n - K1) (fun gk pv wr => ∃ (p : Nat) (u : Value), K1 ≤ p ∧ p ≤ n ∧ gk = n - p ∧ pv = .int .i64 p ∧ CellsAt wr v4.heap.size [.int .i64 (k : Int), .int .i64 sbl, u] ∧ wr.ownsRow v5.heap.size 3 1 u (p - K1) (((l.drop K1).take (p - K1)).map fun s => .int .i64 s.wh) ∧ CellsAt wr w.heap.size [.int .i64 lo, .int .i64 hi, .slice (some a') n cap] ∧ CellsAt wr (w.heap.size + 1) [.int .i64 0, .int .i64 0, .slice none 0 0] ∧ Below w.heap.size w wr ∧ v5.heap.size ≤ wr.heap.size)
          case atStart => exact ⟨K1, _, Nat.le_refl _, hKn, rfl, rfl, yx, by rw [Nat.sub_self]; exact World.ownsRow_nil _ _ _ _, y0, y1, hB, Nat.le_refl _⟩
          case round =>
            clear yx y0 y1 hB
            obtain ⟨p, u0, hKp, hp, hgp, rfl, yx, ho, y0, y1, hB, hzr⟩ := hrel
            have HGP := hid hgp; clear hgp
            obtain ⟨N, hN⟩ : ∃ N, p - K1 = N := ⟨_, rfl⟩
            rw [hN] at ho
            obtain ⟨ua, uc, rfl, hul⟩ := owns_shape ho
            have q0 := (y0 0 _ rfl).1; have q1 := (y0 1 _ rfl).1; have q2 := (y0 2 _ rfl).1
            by_cases hpn : p < n
            · have hpi : (p : Int) < (n : Int) := by omega
              obtain ⟨t, ht⟩ : ∃ s, l[p]? = some s := ⟨_, List.getElem?_eq_getElem (by rw [HN.out]; exact hpn)⟩
              have htb := HSB.out t (List.mem_of_getElem? ht)
              obtain ⟨a2, ha2, r0, hc, -⟩ := sg_row (by rw [HN.out]; exact h.below hB) ht
              injection ha2 with ha2
              subst ha2
              have hnx := whs_next (l := l.drop K1) (k := N) (by rw [List.getElem?_drop, show K1 + N = p by omega]; exact ht)
              obtain ⟨tid, twl, twh, tbl, tbh, thl, thh, tti⟩ := t
              dsimp only at hnx htb
              have r2 := hc 2 _ (by decide) rfl
              dsimp only at r2
              have HNX := hid hnx; clear hc r0 ht hnx
              have e2 := (yx 2 _ rfl).1
              have hxw : v4.heap.size < wr.heap.size := by omega
              go_upto_region 11 with fail
              refine wp_region_Rs [(9, NewList wr.heap.size 1 [.int .i64 twh])] [0, 1, 2, 3, 4, 5, 6, 7, 8, 9] 3 (by kernel_rfl) rfl (by simp only [List.forall_mem_cons]; exact ⟨keeps_list, fun _ h => by cases h⟩) (by kernel_rfl) ?_
              simp only [numbered, List.filterMap_cons, List.filterMap_nil, List.getElem?_toArray, List.getElem?_cons_succ, List.getElem?_cons_zero, Option.map_some]
              show wpS _ _ _ _ _ _ _ [(_, _), (_, _), (_, _), (_, _), (_, _), (_, _), (_, _), (_, _), (_, _), (_, _)] _ _
              (refine wpS_quiet rfl rfl ?_; intro K hK inst hx; have s0 := fun x => (fun _ => bkeep (BQ.below x) q0) (hx x); have s1 := fun x => (fun _ => bkeep (BQ.below x) q1) (hx x); have s2 := fun x => (fun _ => bkeep (BQ.below x) q2) (hx x); have s3 := fun x => (fun _ => bkeep (BQ.below x) e2) (hx x); have s4 := fun x => (fun _ => bkeep (BQ.below x) r2) (hx x); go_big_quiet_op; (first | go_big_quiet_on | (refine ⟨_, fun _ => rfl, ?_⟩; go_big_quiet_on)); clear hx inst)
              (refine wpS_quiet rfl rfl ?_; intro K hK inst hx; have s0 := fun x => (fun _ => bkeep (BQ.below x) q0) (hx x); have s1 := fun x => (fun _ => bkeep (BQ.below x) q1) (hx x); have s2 := fun x => (fun _ => bkeep (BQ.below x) q2) (hx x); have s3 := fun x => (fun _ => bkeep (BQ.below x) e2) (hx x); have s4 := fun x => (fun _ => bkeep (BQ.below x) r2) (hx x); go_big_quiet_op; (first | go_big_quiet_on | (refine ⟨_, fun _ => rfl, ?_⟩; go_big_quiet_on)); clear hx inst)
              (refine wpS_quiet rfl rfl ?_; intro K hK inst hx; have s0 := fun x => (fun _ => bkeep (BQ.below x) q0) (hx x); have s1 := fun x => (fun _ => bkeep (BQ.below x) q1) (hx x); have s2 := fun x => (fun _ => bkeep (BQ.below x) q2) (hx x); have s3 := fun x => (fun _ => bkeep (BQ.below x) e2) (hx x); have s4 := fun x => (fun _ => bkeep (BQ.below x) r2) (hx x); go_big_quiet_op; (first | go_big_quiet_on | (refine ⟨_, fun _ => rfl, ?_⟩; go_big_quiet_on)); clear hx inst)
              (refine wpS_quiet rfl rfl ?_; intro K hK inst hx; have s0 := fun x => (fun _ => bkeep (BQ.below x) q0) (hx x); have s1 := fun x => (fun _ => bkeep (BQ.below x) q1) (hx x); have s2 := fun x => (fun _ => bkeep (BQ.below x) q2) (hx x); have s3 := fun x => (fun _ => bkeep (BQ.below x) e2) (hx x); have s4 := fun x => (fun _ => bkeep (BQ.below x) r2) (hx x); go_big_quiet_op; (first | go_big_quiet_on | (refine ⟨_, fun _ => rfl, ?_⟩; go_big_quiet_on)); clear hx inst)
              (refine wpS_quiet rfl rfl ?_; intro K hK inst hx; have s0 := fun x => (fun _ => bkeep (BQ.below x) q0) (hx x); have s1 := fun x => (fun _ => bkeep (BQ.below x) q1) (hx x); have s2 := fun x => (fun _ => bkeep (BQ.below x) q2) (hx x); have s3 := fun x => (fun _ => bkeep (BQ.below x) e2) (hx x); have s4 := fun x => (fun _ => bkeep (BQ.below x) r2) (hx x); go_big_quiet_op; (first | go_big_quiet_on | (refine ⟨_, fun _ => rfl, ?_⟩; go_big_quiet_on)); clear hx inst)
              (refine wpS_quiet rfl rfl ?_; intro K hK inst hx; have s0 := fun x => (fun _ => bkeep (BQ.below x) q0) (hx x); have s1 := fun x => (fun _ => bkeep (BQ.below x) q1) (hx x); have s2 := fun x => (fun _ => bkeep (BQ.below x) q2) (hx x); have s3 := fun x => (fun _ => bkeep (BQ.below x) e2) (hx x); have s4 := fun x => (fun _ => bkeep (BQ.below x) r2) (hx x); go_big_quiet_op; (first | go_big_quiet_on | (refine ⟨_, fun _ => rfl, ?_⟩; go_big_quiet_on)); clear hx inst)
              (refine wpS_quiet rfl rfl ?_; intro K hK inst hx; have s0 := fun x => (fun _ => bkeep (BQ.below x) q0) (hx x); have s1 := fun x => (fun _ => bkeep (BQ.below x) q1) (hx x); have s2 := fun x => (fun _ => bkeep (BQ.below x) q2) (hx x); have s3 := fun x => (fun _ => bkeep (BQ.below x) e2) (hx x); have s4 := fun x => (fun _ => bkeep (BQ.below x) r2) (hx x); go_big_quiet_op; (first | go_big_quiet_on | (refine ⟨_, fun _ => rfl, ?_⟩; go_big_quiet_on)); clear hx inst)
              (refine wpS_quiet rfl rfl ?_; intro K hK inst hx; have s0 := fun x => (fun _ => bkeep (BQ.below x) q0) (hx x); have s1 := fun x => (fun _ => bkeep (BQ.below x) q1) (hx x); have s2 := fun x => (fun _ => bkeep (BQ.below x) q2) (hx x); have s3 := fun x => (fun _ => bkeep (BQ.below x) e2) (hx x); have s4 := fun x => (fun _ => bkeep (BQ.below x) r2) (hx x); go_big_quiet_op; (first | go_big_quiet_on | (refine ⟨_, fun _ => rfl, ?_⟩; go_big_quiet_on)); clear hx inst)
              (refine wpS_quiet rfl rfl ?_; intro K hK inst hx; have s0 := fun x => (fun _ => bkeep (BQ.below x) q0) (hx x); have s1 := fun x => (fun _ => bkeep (BQ.below x) q1) (hx x); have s2 := fun x => (fun _ => bkeep (BQ.below x) q2) (hx x); have s3 := fun x => (fun _ => bkeep (BQ.below x) e2) (hx x); have s4 := fun x => (fun _ => bkeep (BQ.below x) r2) (hx x); go_big_quiet_op; (first | go_big_quiet_on | (refine ⟨_, fun _ => rfl, ?_⟩; go_big_quiet_on)); clear hx inst)
              refine wpS_fresh rfl rfl (fun w' hb hF => ?_) ?_
              · change freshAt _ _ _ (NewList wr.heap.size 1 [.int .i64 twh]) _; unfold freshAt; go_simp; exact list_of hb
              intro v W hv; simp only [pOf, List.lookup_cons, Nat.reduceBEq, beq_self_eq_true] at hv; obtain ⟨B6, hB6, rfl, -⟩ := hv
              simp only [Act.put, List.setIfInBounds_toArray, List.set_cons_succ, List.set_cons_zero]
              refine wpS_nil ?_
              intro v6 hall
              have hb := hall.1
              have h6 : NewList wr.heap.size 1 [.int .i64 twh] _ v6 := hall.2 9 _ rfl
              obtain ⟨B', hB', hv', hn'⟩ := h6
              obtain rfl : B6 = B' := by simpa using hv'
              clear hall
              have ho6 := owns_below ho hb
              replace yx := yx.below hb; replace y0 := y0.below hb; replace y1 := y1.below hb
              replace hB := bnext (w := w) hB hb
              have hz6 := hb.size
              clear hb e2 r2 q0 q1 q2
              refine wpAny_ready (rs := [10]) (by kernel_rfl) (by simp) ?_
              refine AllReady.cons rfl (fun K hK => ?_) AllReady.nil
              refine (if_pos (show Region.wanted _ _ = true from rfl)).mpr ?_
              refine wp_append_own v6 (.tmp 42) (.tmp 50) 41 rfl v5.heap.size 3 i1 (.int .i64 0) 1 8 Try.underlying41 hj hy0 hy1 hy2 rfl (by decide) (.slice ua N uc) N _ rfl ho6 ⟨B6, 0, none⟩ 1 1 [.int .i64 twh] rfl rfl (fun j u h => by rw [Go.WideShapes.add_plain, Nat.zero_add]; exact (hn' j u h).1) (fun u h => by simp only [List.mem_cons, List.not_mem_nil, or_false] at h; rcases h with rfl; rfl) (by unfold maxLen; omega) (by omega) (by omega) ?_
              intro v39 w7 ho7 hg7 hnil7
              refine hK _ _ ?_
              clear hK K hnil7
              obtain ⟨xa, xc, rfl, -⟩ := owns_shape ho7
              have hb7 : Below v5.heap.size v6 w7 := Pb.below_grown (Below.refl _ v6) hg7 ho6 (by omega) (Nat.le_refl _)
              have hz7 := hb7.size
              replace yx := cells_low yx hb7 (by omega); replace y0 := cells_low y0 hb7 (by omega); replace y1 := cells_low y1 hb7 (by omega)
              replace hB := hB.trans (hb7.mono (by omega))
              have e2 := (yx 2 _ rfl).1; have f2 := (yx 2 _ rfl).2
              refine wpAny_ready (rs := [11]) (by kernel_rfl) (by simp) ?_
              refine AllReady.cons rfl (fun K hK => ?_) AllReady.nil
              go_simp
              refine hK _ _ ?_; clear hK K
              refine wpAny_ready (rs := [12]) (by kernel_rfl) (by simp) ?_
              refine AllReady.cons rfl (fun K hK => ?_) AllReady.nil
              go_simp
              refine hK _ _ ?_; clear hK K
              refine wpAny_done (by kernel_rfl) ?_ _
              clear e2 f2 hb7 hg7 ho6 hn'
              have z1 := cells_store (o := 2) (u := .slice xa (N + 1) xc) yx
              have o9 := own_set (o := 2) (u := .slice xa (N + 1) xc) ho7 (show v4.heap.size < v5.heap.size by omega)
              have yA := y0.other (o' := 2) (show w.heap.size ≠ v4.heap.size by omega) (.slice xa (N + 1) xc)
              have yB := y1.other (o' := 2) (show w.heap.size + 1 ≠ v4.heap.size by omega) (.slice xa (N + 1) xc)
              have hB9 := hB.setCell (p := ⟨v4.heap.size, 2, none⟩) (by show w.heap.size ≤ v4.heap.size; omega) (.slice xa (N + 1) xc)
              have hz9 : v5.heap.size ≤ (w7.setCell ⟨v4.heap.size, 2, none⟩ (.slice xa (N + 1) xc)).heap.size := by simp; omega
              clear yx y0 y1 hB ho7
              generalize World.setCell _ _ _ = w9 at *
              go_wp2_with fail
              go_roundg (n - (p + 1))
              case measure => have h := HGP.out; omega
              case rel => exact ⟨p + 1, .slice xa (N + 1) xc, by omega, by omega, rfl, by go_num, z1, by rw [show p + 1 - K1 = N + 1 by omega, HNX.out]; exact o9, yA, yB, hB9, hz9⟩
            · obtain rfl : p = n := by omega
              have hpp : ¬ (p : Int) < (p : Int) := by omega
              have p0 := (yx 0 _ rfl).1; have p1 := (yx 1 _ rfl).1; have p2 := (yx 2 _ rfl).1
              have f0 := (y1 0 _ rfl).2; have f1 := (y1 1 _ rfl).2; have f2 := (y1 2 _ rfl).2; have g0 := (y1 0 _ rfl).1; have g1 := (y1 1 _ rfl).1; have g2 := (y1 2 _ rfl).1
              have hld : (l.drop K1).length = N := by rw [List.length_drop, HN.out]; exact hN
              rw [List.take_of_length_le (by rw [hld]; exact Nat.le_refl _)] at ho
              have HLD := hid hld; clear hld
              go_wp2_with fail
              have z1 := cells_store (o := 2) (u := .slice ua N uc) (cells_store (o := 1) (u := .int .i64 sbl) (cells_store (o := 0) (u := .int .i64 (k : Int)) y1))
              have hB9 : Below w.heap.size w _ := ((hB.setCell (p := ⟨w.heap.size + 1, 0, none⟩) (Nat.le_succ _) (.int .i64 (k : Int))).setCell (p := ⟨w.heap.size + 1, 1, none⟩) (Nat.le_succ _) (.int .i64 sbl)).setCell (p := ⟨w.heap.size + 1, 2, none⟩) (Nat.le_succ _) (.slice ua N uc)
              have o9 := own_set (o := 2) (b := w.heap.size + 1) (u := .slice ua N uc) (own_set (o := 1) (b := w.heap.size + 1) (u := .int .i64 sbl) (own_set (o := 0) (u := .int .i64 (k : Int)) ho (b := w.heap.size + 1) (by omega)) (by omega)) (by omega)
              have hn9 : NumsAt _ (.slice ua N uc) ((l.drop K1).map (·.wh)) := nums_of_own HLD.out (by omega) o9 (fun s hs => HI64.out s (List.mem_of_mem_drop hs) s.wh (by simp [rowG]))
              have d0 := (z1 0 _ rfl).1; have d1 := (z1 1 _ rfl).1; have d2 := (z1 2 _ rfl).1
              have hRR := HR.out
              rw [HK1.out] at hRR
              subst hRR
              exact bodyPost_ret (v := .tuple #[.agg #[.int .i64 (k : Int), .int .i64 sbl, .slice ua N uc], .int .i64 0]) (by simp [results, Try.results43, go_sem, *]) rfl ⟨_, rfl, hB9, hn9⟩
      · obtain rfl : k = n := by omega
        have hkk : ¬ (k : Int) < (k : Int) := by omega
        have hf := first_end (l := l) (by rw [HN.out]; exact HA.out)
        have hR := HR.out
        rw [hf, if_pos (by decide)] at hR
        subst hR
        clear HR hf
        have f0 := (y1 0 _ rfl).2; have f1 := (y1 1 _ rfl).2; have f2 := (y1 2 _ rfl).2; have g0 := (y1 0 _ rfl).1; have g1 := (y1 1 _ rfl).1; have g2 := (y1 2 _ rfl).1
        go_wp2_with fail
        have z1 := cells_store (o := 2) (u := .slice none 0 0) (cells_store (o := 1) (u := .int .i64 0) (cells_store (o := 0) (u := .int .i64 0) y1))
        have hB9 : Below w.heap.size w _ := ((hB.setCell (p := ⟨w.heap.size + 1, 0, none⟩) (Nat.le_succ _) (.int .i64 0)).setCell (p := ⟨w.heap.size + 1, 1, none⟩) (Nat.le_succ _) (.int .i64 0)).setCell (p := ⟨w.heap.size + 1, 2, none⟩) (Nat.le_succ _) (.slice none 0 0)
        have d0 := (z1 0 _ rfl).1; have d1 := (z1 1 _ rfl).1; have d2 := (z1 2 _ rfl).1
        exact bodyPost_ret (v := .tuple #[.agg #[.int .i64 0, .int .i64 0, .slice none 0 0], .int .i64 34]) (by simp [results, Try.results43, go_sem, *]) rfl ⟨_, rfl, hB9, numsAt_nil _⟩

end Go.Proofs.Ytnchhleokdkejaa

/- BungBreaks returns true. -/
namespace Go.Proofs.Ytnchhleokdkejaa
open Go.RowKit Go.Pb Go.Pb.Ware Go.Pb.Sag
set_option linter.unusedVariables false
set_option linter.unusedSimpArgs false

open Go.Proofs Go.Pb.Bung
set_option maxRecDepth 100000 in
set_option maxHeartbeats 2000000 in
theorem bungBreaks_walk {w : World} {v u : Value} {l : List Sg} {ws : List Int} {lo hi co be : Int} (h : RowsAt 8 w v (l.map rowG)) (hu : NumsAt w u ws) :
    Calls Try.prog 6 #[.agg #[.int .i64 lo, .int .i64 hi, v], .agg #[.int .i64 co, .int .i64 be, u]] w (Ret w (.bool true)) := by
  unfold Ret
  obtain ⟨a, cap, rfl, hll⟩ := h.shape
  simp only [List.length_map] at h hll ⊢
  obtain ⟨b, cb, rfl, hb1, hb2⟩ := hu.shape
  have hlen : (brkA lo hi l).1.2.length ≤ 1000 := by unfold brkA; split; (rename_i hb; have := bungOk_len hb; split; simp; (simp; omega)); simp
  obtain ⟨n, hn⟩ : ∃ n, l.length = n := ⟨_, rfl⟩
  rw [hn] at h hll ⊢
  clear hn
  obtain ⟨m, hm⟩ : ∃ m, ws.length = m := ⟨_, rfl⟩
  rw [hm] at hu ⊢
  (try rw [hm] at hb1)
  (try rw [hm] at hb2)
  clear hm
  obtain ⟨r, hr⟩ : ∃ r, brkA lo hi l = r := ⟨_, rfl⟩
  rw [hr] at hlen
  have HR : Hid _ := hr; clear hr
  obtain ⟨⟨⟨g1, g2⟩, zs⟩, g3⟩ := r
  dsimp only at hlen
  obtain ⟨c, hc⟩ : ∃ c, ckBr lo hi l co be ws = c := ⟨_, rfl⟩
  have HCK : Hid _ := hc; clear hc
  go_enter Try.func6, Try.ntmps6
  go_wp2_with fail
  refine (sane_any).mono ?_
  (try unfold BrRes)
  rintro e w1 ⟨rfl, hb⟩
  replace hb0 := bnext (w := w) (by go_grown) hb; have hz := hb.size; (try simp only [World.size_alloc, World.size_setCell] at hz); replace q0 : w1.cell? ⟨w.heap.size, 0, none⟩ = some (.int .i64 lo) := bkeep hb (by first | (with_reducible exact q0) | (with_reducible exact akeep q0) | simp [*, go_sem]); replace q1 : w1.cell? ⟨w.heap.size, 1, none⟩ = some (.int .i64 hi) := bkeep hb (by first | (with_reducible exact q1) | (with_reducible exact akeep q1) | simp [*, go_sem]); replace q2 : w1.cell? ⟨w.heap.size, 2, none⟩ = some (.slice a n cap) := bkeep hb (by first | (with_reducible exact q2) | (with_reducible exact akeep q2) | simp [*, go_sem]); replace q3 : w1.cell? ⟨w.heap.size + 1, 0, none⟩ = some (.int .i64 co) := bkeep hb (by first | (with_reducible exact q3) | (with_reducible exact akeep q3) | simp [*, go_sem]); replace q4 : w1.cell? ⟨w.heap.size + 1, 1, none⟩ = some (.int .i64 be) := bkeep hb (by first | (with_reducible exact q4) | (with_reducible exact akeep q4) | simp [*, go_sem]); replace q5 : w1.cell? ⟨w.heap.size + 1, 2, none⟩ = some (.slice b m cb) := bkeep hb (by first | (with_reducible exact q5) | (with_reducible exact akeep q5) | simp [*, go_sem]); skip
  clear hb
  (try dsimp only)
  go_wp2_with fail
  refine (breaksP (h.below (by go_grown)) HR.out).mono ?_
  (try unfold BrRes)
  rintro e w1 ⟨u1, rfl, hb, hu1⟩
  replace hb0 := bnext (w := w) (by go_grown) hb; have hz := hb.size; (try simp only [World.size_alloc, World.size_setCell] at hz); replace q0 : w1.cell? ⟨w.heap.size, 0, none⟩ = some (.int .i64 lo) := bkeep hb (by first | (with_reducible exact q0) | (with_reducible exact akeep q0) | simp [*, go_sem]); replace q1 : w1.cell? ⟨w.heap.size, 1, none⟩ = some (.int .i64 hi) := bkeep hb (by first | (with_reducible exact q1) | (with_reducible exact akeep q1) | simp [*, go_sem]); replace q2 : w1.cell? ⟨w.heap.size, 2, none⟩ = some (.slice a n cap) := bkeep hb (by first | (with_reducible exact q2) | (with_reducible exact akeep q2) | simp [*, go_sem]); replace q3 : w1.cell? ⟨w.heap.size + 1, 0, none⟩ = some (.int .i64 co) := bkeep hb (by first | (with_reducible exact q3) | (with_reducible exact akeep q3) | simp [*, go_sem]); replace q4 : w1.cell? ⟨w.heap.size + 1, 1, none⟩ = some (.int .i64 be) := bkeep hb (by first | (with_reducible exact q4) | (with_reducible exact akeep q4) | simp [*, go_sem]); replace q5 : w1.cell? ⟨w.heap.size + 1, 2, none⟩ = some (.slice b m cb) := bkeep hb (by first | (with_reducible exact q5) | (with_reducible exact akeep q5) | simp [*, go_sem]); skip
  clear hb
  (try dsimp only)
  dsimp only at hu1
  obtain ⟨x1, x2, rfl, -⟩ := hu1.shape
  obtain ⟨vA, hv9⟩ : ∃ v, v = w1 := ⟨_, rfl⟩
  subst hv9
  go_upto_region 3 with fail
  generalize hW : World.alloc vA _ = vB
  have yA : CellsAt vB vA.heap.size [.int .i64 g1, .int .i64 g2, .slice x1 zs.length x2] := by rw [← hW]; exact CellsAt.new vA [.int .i64 g1, .int .i64 g2, .slice x1 zs.length x2] 54
  have hN : Below vA.heap.size vA vB := by rw [← hW]; exact (Below.refl _ _).alloc (Nat.le_refl _) _
  replace hu1 := hu1.below hN
  replace q0 := bkeep hN q0
  replace q1 := bkeep hN q1
  replace q2 := bkeep hN q2
  replace q3 := bkeep hN q3
  replace q4 := bkeep hN q4
  replace q5 := bkeep hN q5
  replace hb0 := bnext (w := w) hb0 hN
  clear hW hN
  go_wp2_with fail
  refine (rBreaksP (h.below (by go_grown)) HR.out).mono ?_
  (try unfold BrRes)
  rintro e w1 ⟨u2, rfl, hb, hu2⟩
  replace hb0 := bnext (w := w) (by go_grown) hb; have hz := hb.size; (try simp only [World.size_alloc, World.size_setCell] at hz); replace q0 : w1.cell? ⟨w.heap.size, 0, none⟩ = some (.int .i64 lo) := bkeep hb (by first | (with_reducible exact q0) | (with_reducible exact akeep q0) | simp [*, go_sem]); replace q1 : w1.cell? ⟨w.heap.size, 1, none⟩ = some (.int .i64 hi) := bkeep hb (by first | (with_reducible exact q1) | (with_reducible exact akeep q1) | simp [*, go_sem]); replace q2 : w1.cell? ⟨w.heap.size, 2, none⟩ = some (.slice a n cap) := bkeep hb (by first | (with_reducible exact q2) | (with_reducible exact akeep q2) | simp [*, go_sem]); replace q3 : w1.cell? ⟨w.heap.size + 1, 0, none⟩ = some (.int .i64 co) := bkeep hb (by first | (with_reducible exact q3) | (with_reducible exact akeep q3) | simp [*, go_sem]); replace q4 : w1.cell? ⟨w.heap.size + 1, 1, none⟩ = some (.int .i64 be) := bkeep hb (by first | (with_reducible exact q4) | (with_reducible exact akeep q4) | simp [*, go_sem]); replace q5 : w1.cell? ⟨w.heap.size + 1, 2, none⟩ = some (.slice b m cb) := bkeep hb (by first | (with_reducible exact q5) | (with_reducible exact akeep q5) | simp [*, go_sem]); skip
  replace hu1 := hu1.below hb
  replace yA := yA.below hb
  clear hb
  (try dsimp only)
  dsimp only at hu2
  obtain ⟨x3, x4, rfl, -⟩ := hu2.shape
  obtain ⟨vC, hv9⟩ : ∃ v, v = w1 := ⟨_, rfl⟩
  subst hv9
  go_upto_region 4 with fail
  generalize hW : World.alloc vC _ = vD
  have yC : CellsAt vD vC.heap.size [.int .i64 g1, .int .i64 g2, .slice x3 zs.length x4] := by rw [← hW]; exact CellsAt.new vC [.int .i64 g1, .int .i64 g2, .slice x3 zs.length x4] 54
  have hN : Below vC.heap.size vC vD := by rw [← hW]; exact (Below.refl _ _).alloc (Nat.le_refl _) _
  replace hu1 := hu1.below hN
  replace yA := yA.below hN
  replace hu2 := hu2.below hN
  replace q0 := bkeep hN q0
  replace q1 := bkeep hN q1
  replace q2 := bkeep hN q2
  replace q3 := bkeep hN q3
  replace q4 := bkeep hN q4
  replace q5 := bkeep hN q5
  replace hb0 := bnext (w := w) hb0 hN
  clear hW hN
  have a0 := (yA 0 _ rfl).1; have a1 := (yA 1 _ rfl).1; have a2 := (yA 2 _ rfl).1; have d0 := (yC 0 _ rfl).1; have d1 := (yC 1 _ rfl).1; have d2 := (yC 2 _ rfl).1
  go_wp2_with fail
  refine (same01_any (b := true) hu1 hu2 hlen (decide_eq_true rfl)).mono ?_
  (try unfold BrRes)
  rintro e w1 ⟨rfl, hb⟩
  replace hb0 := bnext (w := w) (by go_grown) hb; have hz := hb.size; (try simp only [World.size_alloc, World.size_setCell] at hz); replace q0 : w1.cell? ⟨w.heap.size, 0, none⟩ = some (.int .i64 lo) := bkeep hb (by first | (with_reducible exact q0) | (with_reducible exact akeep q0) | simp [*, go_sem]); replace q1 : w1.cell? ⟨w.heap.size, 1, none⟩ = some (.int .i64 hi) := bkeep hb (by first | (with_reducible exact q1) | (with_reducible exact akeep q1) | simp [*, go_sem]); replace q2 : w1.cell? ⟨w.heap.size, 2, none⟩ = some (.slice a n cap) := bkeep hb (by first | (with_reducible exact q2) | (with_reducible exact akeep q2) | simp [*, go_sem]); replace q3 : w1.cell? ⟨w.heap.size + 1, 0, none⟩ = some (.int .i64 co) := bkeep hb (by first | (with_reducible exact q3) | (with_reducible exact akeep q3) | simp [*, go_sem]); replace q4 : w1.cell? ⟨w.heap.size + 1, 1, none⟩ = some (.int .i64 be) := bkeep hb (by first | (with_reducible exact q4) | (with_reducible exact akeep q4) | simp [*, go_sem]); replace q5 : w1.cell? ⟨w.heap.size + 1, 2, none⟩ = some (.slice b m cb) := bkeep hb (by first | (with_reducible exact q5) | (with_reducible exact akeep q5) | simp [*, go_sem]); skip
  replace hu1 := hu1.below hb
  replace yA := yA.below hb
  replace hu2 := hu2.below hb
  replace yC := yC.below hb
  clear hb
  (try dsimp only)
  clear a0 a1 a2 d0 d1 d2
  have a0 := (yA 0 _ rfl).1; have a1 := (yA 1 _ rfl).1; have d0 := (yC 0 _ rfl).1; have d1 := (yC 1 _ rfl).1
  obtain ⟨vE, hv9⟩ : ∃ v, v = w1 := ⟨_, rfl⟩
  subst hv9
  go_upto_region 5 with fail
  have h9 := h.below hb0; have u9 := hu.below hb0
  have s0 := fun z : BW vE => bkeep z.below q0
  have s1 := fun z : BW vE => bkeep z.below q1
  have s2 := fun z : BW vE => bkeep z.below q2
  have s3 := fun z : BW vE => bkeep z.below q3
  have s4 := fun z : BW vE => bkeep z.below q4
  have s5 := fun z : BW vE => bkeep z.below q5
  have s6 := fun z : BW vE => bkeep z.below a0
  have s7 := fun z : BW vE => bkeep z.below a1
  have s8 := fun z : BW vE => bkeep z.below d0
  have s9 := fun z : BW vE => bkeep z.below d1
  refine wp_region_qb (by kernel_rfl) (by kernel_rfl) fun hcq => ?_
  repeat (go_big_quiet_step ((first | (go_at_call 44; exact BW.call _ (ckBr_any (h9.below (BW.below _)) (u9.below (BW.below _)) HCK.out)) | (go_at_call 45; exact BW.call _ (rCkBr (h9.below (BW.below _)) (u9.below (BW.below _)) HCK.out)))))
  refine wpQuiet_nil ?_
  intro vF hb
  replace hb0 := bnext (w := w) hb0 hb
  clear s0 s1 s2 s3 s4 s5 s6 s7 s8 s9
  go_wp2_with fail
  go_ret
  exact ⟨rfl, hb0⟩

end Go.Proofs.Ytnchhleokdkejaa
