/- Contracts of ranges over trials: slices.Values, and what all trials allow; below the blocks that were there nothing turns. -/
import Derived.Test.YtcadbcmldlammaaRf
import Derived.Test.YtcadbcmldlammaaW7
namespace Go.Proofs.Ytcadbcmldlammaa
open Go.RowKit Go.Pb Go.Pb.Ware Go.Shelf
set_option linter.unusedVariables false
set_option linter.unusedSimpArgs false
attribute [local go_sem] Oper.semAt_some

theorem values_any {v : Value} {w : World} {rows : List (List Int)} (h : RowsAt 5 w v rows) :
    Calls Try.prog 47 #[v] w fun e w' => e = .returned (.func (.func 91) #[] #[.pointer (some ⟨w.heap.size, 0, none⟩)]) ∧ w' = w.alloc (.cells #[v] 23) := by
  obtain ⟨a, cap, rfl, hlen⟩ := h.shape
  go_enter Try.func47, Try.ntmps47
  go_wp2
  go_ret
  exact ⟨rfl, rfl⟩

set_option maxRecDepth 100000 in
set_option maxHeartbeats 4000000 in
theorem values_stops {n Bs : Nat} (hn : 1 ≤ n) {w0 w : World} {sv : Value} {ts : List TT} (h : RowsAt 5 w0 sv (ts.map rowT)) (h0 : Below w0.heap.size w0 w) (hBs : Bs < w.heap.size) (hc : w.cell? ⟨Bs, 0, none⟩ = some sv) :
    SeqStopsK Fence.wide n Try.prog 91 #[.pointer (some ⟨Bs, 0, none⟩)] encT (Below w0.heap.size) (fun ys => ys = ts) (fun pre => pre <+: ts) ts.length w := fun l J Jx W hW hJ hJx hY hj0 => by
  have hc' := (hW.cell (p := ⟨Bs, 0, none⟩) hBs).trans hc
  have hW0 : Below w0.heap.size w0 W := h0.trans (hW.mono h0.size)
  obtain ⟨a, cap, rfl, hlen⟩ := h.shape
  rw [List.length_map] at hc' hlen
  refine callsIn_of_wp Try.func91 rfl trivial ?_ rfl
  simp only [Try.ntmps91, List.size_toArray, List.length_cons, List.length_nil, Nat.reduceAdd, Nat.reduceSub, Array.replicate_succ, Array.replicate_zero, List.push_toArray, List.append_toArray, List.nil_append, List.cons_append]
  gi_wp2
  gi_loopw [7] (fun i wr => ∃ k : Nat, k ≤ ts.length ∧ i = .int .i64 k ∧ J (ts.take k) wr ∧ Below w0.heap.size w0 wr) (fun i _ => ts.length - (intOf i).toNat)
  case atStart => exact ⟨0, Nat.zero_le _, rfl, hj0, hW0⟩
  case round =>
    obtain ⟨k, hk, rfl, hJs, hb0⟩ := hrel
    by_cases hlt : k < ts.length
    · obtain ⟨a', ha, hl, hc0, hcc⟩ := (h.below hb0).row (k := k) (by simpa using hlt)
      rw [List.getElem_map] at hc0 hcc
      have r0 := hc0 _ rfl
      have r1 := hcc 1 _ (by decide) rfl
      have r2 := hcc 2 _ (by decide) rfl
      have r3 := hcc 3 _ (by decide) rfl
      have r4 := hcc 4 _ (by decide) rfl
      subst ha
      clear hc0 hcc hl
      have hj1 : J (ts.take k) (wr.alloc (.cells (cellsT ts[k]).toArray 33)) := hJ _ _ _ none hJs (World.grownBy_alloc _ _ _) (fun r e => by cases e)
      obtain ⟨fn, tmps, assign, body, hy, hR⟩ := hY _ ts[k] _ hj1 (by rw [List.length_take]; omega)
      simp only [cellsT, encT] at hy hR
      gi_wp2
      refine hR.mono ?_
      rintro e W3 (⟨rfl, hJ3, hk3⟩ | ⟨rfl, hJx3⟩)
      · gi_wp2
        go_roundw
        case rel => exact ⟨k + 1, by omega, by go_num, by rw [List.take_succ_eq_append_getElem hlt]; exact hJ3, (hb0.alloc hb0.size _).trans hk3⟩
        case measure => first | (simp [intOf]; done) | (simp [intOf]; omega)
      · gi_wp2
        refine bodyPost_ret (results_none rfl _ _ _) rfl ?_
        exact ⟨⟨_, rfl⟩, .inr ⟨_, by rw [← List.take_succ_eq_append_getElem hlt]; exact List.take_prefix _ _, hJx3⟩⟩
    · obtain rfl : k = ts.length := by omega
      gi_wp2
      go_end0
      exact ⟨⟨_, rfl⟩, .inl ⟨_, rfl, by simpa using hJs⟩⟩

theorem told_eq {so wl wh dl dh : Int} {T : Rg} {w : World} (hT : trOk ⟨so, ⟨wl, wh⟩, ⟨dl, dh⟩⟩ = true) (h : common ⟨0, 200⟩ (toldR ⟨so, ⟨wl, wh⟩, ⟨dl, dh⟩⟩) = T) :
    Calls Try.prog 82 #[.agg #[.int .i64 so, .int .i64 wl, .int .i64 wh, .int .i64 dl, .int .i64 dh]] w (Ret w (.agg #[.int .i64 T.lo, .int .i64 T.hi])) := by subst h; exact told_in hT
theorem common_eq {a b r : Rg} {w : World} (h : common a b = r) :
    Calls Try.prog 90 #[.agg #[.int .i64 a.lo, .int .i64 a.hi], .agg #[.int .i64 b.lo, .int .i64 b.hi]] w (Ret w (.agg #[.int .i64 r.lo, .int .i64 r.hi])) := by subst h; exact common_any
theorem isEmpty_eq {r : Rg} {b : Bool} {w : World} (h : emptyB r = b) :
    Calls Try.prog 48 #[.agg #[.int .i64 r.lo, .int .i64 r.hi]] w (Ret w (.bool b)) := by subst h; exact isEmpty_any

set_option maxRecDepth 100000 in
set_option maxHeartbeats 8000000 in
theorem allowed_in {gf : Nat} {lb : Array Value} {c d : Int} {ts : List TT} {w : World} (eg : ∀ args w, (callFunc gf args).run Try.prog w = .ok (.enter gf args) w)
    (hs : ∀ W, Below w.heap.size w W → SeqStopsK Fence.wide 7 Try.prog gf lb encT (Below w.heap.size) (fun ys => ys = ts) (fun pre => pre <+: ts) ts.length W) :
    Calls Try.prog 46 #[.agg #[.int .i64 c, .int .i64 d], .func (.func gf) #[] lb] w fun e w' => ∃ r : Rg, e = .returned (.agg #[.int .i64 r.lo, .int .i64 r.hi]) ∧ Below w.heap.size w w' ∧
      emptyB r = emptyB (accR ts ⟨c, d⟩) ∧ (emptyB r = false → r = accR ts ⟨c, d⟩) := by
  refine (callsIn_wide (n := 8)).1 ?_
  refine callsIn_of_wp_marks Try.func46 rfl trivial ?_ rfl
  simp only [Try.ntmps46, List.size_toArray, List.length_cons, List.length_nil, Nat.reduceAdd, Nat.reduceSub, Array.replicate_succ, Array.replicate_zero, List.push_toArray, List.append_toArray, List.nil_append, List.cons_append]
  gi_wp2
  have bA := (CellsAt.new w [.int .i64 c, .int .i64 d] 25).alloc (.cells #[.int .i64 0, .int .i64 0] 25)
  have bB := CellsAt.new (w.alloc (.cells #[.int .i64 c, .int .i64 d] 25)) [.int .i64 0, .int .i64 0] 25
  rw [World.size_alloc] at bB
  have hB0 : Below w.heap.size w ((w.alloc (.cells #[.int .i64 c, .int .i64 d] 25)).alloc (.cells #[.int .i64 0, .int .i64 0] 25)) := ((Below.refl _ w).alloc (Nat.le_refl _) _).alloc (by simp) _
  have hsz : ((w.alloc (.cells #[.int .i64 c, .int .i64 d] 25)).alloc (.cells #[.int .i64 0, .int .i64 0] 25)).heap.size = w.heap.size + 2 := by simp
  obtain ⟨W0, hW0⟩ : ∃ W0, (w.alloc (.cells #[.int .i64 c, .int .i64 d] 25)).alloc (.cells #[.int .i64 0, .int .i64 0] 25) = W0 := ⟨_, rfl⟩
  simp only [List.toArray] at bA bB
  rw [hW0] at bA bB hB0 hsz ⊢
  clear hW0
  refine wpIn_rangeFunc_ownH (F := Fence.wide) (n := 8) rfl (by omega) (gf := gf) (lb := lb) rfl trivial eg (hs W0 hB0) belowK_t (belowK_b (by omega)) (Below.refl _ _) (fun _ => rfl)
    (fun pre W => (CellsAt W w.heap.size [.int .i64 (accR pre ⟨c, d⟩).lo, .int .i64 (accR pre ⟨c, d⟩).hi] ∧ CellsAt W (w.heap.size + 1) [.int .i64 0, .int .i64 0]) ∧ Below w.heap.size w W)
    (fun j pre W => ((CellsAt W w.heap.size [.int .i64 (accR pre ⟨c, d⟩).lo, .int .i64 (accR pre ⟨c, d⟩).hi] ∧ CellsAt W (w.heap.size + 1) [.int .i64 0, .int .i64 0]) ∧ Below w.heap.size w W) ∧ (j = .exit 0 ∧ emptyB (accR pre ⟨c, d⟩) = true))
    (OwnFrom.and (OwnFrom.and (Own.from (cells_own _ _) _) (Own.from (cells_own _ _) _)) (ownFrom_below (Nat.le_refl _) (by omega)))
    (fun j => OwnFrom.and (OwnFrom.and (OwnFrom.and (Own.from (cells_own _ _) _) (Own.from (cells_own _ _) _)) (ownFrom_below (Nat.le_refl _) (by omega))) (fun _ _ _ _ hs _ _ => hs))
    ⟨⟨bA, bB⟩, hB0⟩
    (fun x a' W => ∃ Bx, w.heap.size + 1 < Bx ∧ CellsAt W Bx (cellsT x) ∧ a' = { tmps := #[.agg #[.int .i64 c, .int .i64 d], .func (.func gf) #[] lb, .pointer (some ⟨w.heap.size, 0, none⟩), undef, .pointer (some ⟨w.heap.size + 1, 0, none⟩), .pointer (some ⟨Bx, 0, none⟩), .func (.func gf) #[] lb, (encT x)[0]!, undef, undef, undef, undef, undef, undef, undef], defers := [] })
    (fun x a' _ X Y row hs hg hr => by obtain ⟨Bx, h1, h2, h3⟩ := hs; exact ⟨Bx, h1, h2.kept hg (fun r e => (hr r e).2), h3⟩)
    ?assign ?body ?done ?stop
  case assign =>
    rintro l pre x W K ⟨⟨b1, b2⟩, hB1⟩ hK
    simp only [encT]
    gi_wp2
    have hsW := hB1.size
    have hlt : w.heap.size + 1 < W.heap.size := World.block_lt_of_cell? W _ (b2 0 _ rfl).1
    exact hK _ _ ((KeepsOthers.alloc _ _).from _) ((Below.refl _ W).alloc hsW _) ⟨⟨b1.alloc _, b2.alloc _⟩, hB1.alloc hsW _⟩ ⟨W.heap.size, hlt, CellsAt.new W (cellsT x) 33, rfl⟩
  case body =>
    rintro l pre x a' W hl ⟨r, hr⟩ ⟨⟨b1, b2⟩, hB1⟩ ⟨Bx, hBx, bX, rfl⟩ hlt
    have HS := hid (accR_snoc pre x ⟨c, d⟩)
    generalize accR pre ⟨c, d⟩ = R0 at *
    obtain ⟨r2, hr2⟩ : ∃ r2, common R0 (tol x) = r2 := ⟨_, rfl⟩
    rw [hr2] at HS
    obtain ⟨T, hT⟩ : ∃ T, tol x = T := ⟨_, rfl⟩
    rw [hT] at hr2
    obtain ⟨⟨so, ⟨wl, wh⟩, ⟨dl, dh⟩⟩, hx⟩ := x
    have HT := hid (show common ⟨0, 200⟩ (toldR ⟨so, ⟨wl, wh⟩, ⟨dl, dh⟩⟩) = T from hT); clear hT
    have HR := hid hr2; clear hr2
    simp only [cellsT] at bX
    have q0 := (b1 0 _ rfl).1
    have f0 := (b1 0 _ rfl).2
    have q1 := (b1 1 _ rfl).1
    have f1 := (b1 1 _ rfl).2
    have q2 := (bX 0 _ rfl).1
    have q3 := (bX 1 _ rfl).1
    have q4 := (bX 2 _ rfl).1
    have q5 := (bX 3 _ rfl).1
    have q6 := (bX 4 _ rfl).1
    clear bX
    have hm : Try.prog.follows .mixedOrders = true := by kernel_rfl
    have hd : 1 ≤ 8 - 1 - 1 := by omega
    have hb0 := hB1
    have hsW := hB1.size
    have hk0 : Below W.heap.size W W := Below.refl _ _
    gi_wp2_with fail
    gi_region_with_o (first | (refine ⟨trivial, ?_⟩; gi_at_call 82; refine (CallsIn.inRound l (callsIn_wide.2 (told_eq hx HT.out))).mono ?_; rintro e w1 ⟨rfl, hb⟩; replace hk0 := bnext (w := W) (by go_grown) hb; replace hb0 := bnext (w := w) (by go_grown) hb; have hz := hb.size; (try simp only [World.size_alloc, World.size_setCell] at hz); replace f0 : w1.frozen? ⟨w.heap.size, 0, none⟩ = false := bfree (v := .int .i64 R0.lo) hb (by first | (with_reducible exact q0) | (with_reducible exact akeep q0) | simp [*, go_sem]) (by first | (with_reducible exact f0) | (with_reducible exact afree q0 f0) | simp [*, go_sem]); replace q0 : w1.cell? ⟨w.heap.size, 0, none⟩ = some (.int .i64 R0.lo) := bkeep hb (by first | (with_reducible exact q0) | (with_reducible exact akeep q0) | simp [*, go_sem]); replace f1 : w1.frozen? ⟨w.heap.size, 1, none⟩ = false := bfree (v := .int .i64 R0.hi) hb (by first | (with_reducible exact q1) | (with_reducible exact akeep q1) | simp [*, go_sem]) (by first | (with_reducible exact f1) | (with_reducible exact afree q1 f1) | simp [*, go_sem]); replace q1 : w1.cell? ⟨w.heap.size, 1, none⟩ = some (.int .i64 R0.hi) := bkeep hb (by first | (with_reducible exact q1) | (with_reducible exact akeep q1) | simp [*, go_sem]); clear hb) | (refine ⟨trivial, ?_⟩; gi_at_call 90; refine (CallsIn.inRound l (callsIn_wide.2 (common_eq HR.out))).mono ?_; rintro e w1 ⟨rfl, hb⟩; replace hk0 := bnext (w := W) (by go_grown) hb; replace hb0 := bnext (w := w) (by go_grown) hb; have hz := hb.size; (try simp only [World.size_alloc, World.size_setCell] at hz); replace f0 : w1.frozen? ⟨w.heap.size, 0, none⟩ = false := bfree (v := .int .i64 R0.lo) hb (by first | (with_reducible exact q0) | (with_reducible exact akeep q0) | simp [*, go_sem]) (by first | (with_reducible exact f0) | (with_reducible exact afree q0 f0) | simp [*, go_sem]); replace q0 : w1.cell? ⟨w.heap.size, 0, none⟩ = some (.int .i64 R0.lo) := bkeep hb (by first | (with_reducible exact q0) | (with_reducible exact akeep q0) | simp [*, go_sem]); replace f1 : w1.frozen? ⟨w.heap.size, 1, none⟩ = false := bfree (v := .int .i64 R0.hi) hb (by first | (with_reducible exact q1) | (with_reducible exact akeep q1) | simp [*, go_sem]) (by first | (with_reducible exact f1) | (with_reducible exact afree q1 f1) | simp [*, go_sem]); replace q1 : w1.cell? ⟨w.heap.size, 1, none⟩ = some (.int .i64 R0.hi) := bkeep hb (by first | (with_reducible exact q1) | (with_reducible exact akeep q1) | simp [*, go_sem]); clear hb))
    all_goals
      have d1 := (CellsAt.pair q0 f0 q1 f1).store2 (a' := .int .i64 r2.lo) (b' := .int .i64 r2.hi)
      have d2 := ((b2.below hk0).other (B' := w.heap.size) (o' := 0) (by omega) (.int .i64 r2.lo)).other (B' := w.heap.size) (o' := 1) (by omega) (.int .i64 r2.hi)
      have e1 := (hb0.setCell (p := ⟨w.heap.size, 0, none⟩) (Nat.le_refl _) (.int .i64 r2.lo)).setCell (p := ⟨w.heap.size, 1, none⟩) (Nat.le_refl _) (.int .i64 r2.hi)
      have e2 := ((keeps_of_below hk0).trans (KeepsOthers.setCell _ ⟨w.heap.size, 0, none⟩ (.int .i64 r2.lo))).trans (KeepsOthers.setCell _ ⟨w.heap.size, 1, none⟩ (.int .i64 r2.hi))
      have e3 := ((hk0.mono hsW).setCell (p := ⟨w.heap.size, 0, none⟩) (Nat.le_refl _) (.int .i64 r2.lo)).setCell (p := ⟨w.heap.size, 1, none⟩) (Nat.le_refl _) (.int .i64 r2.hi)
      clear q0 f0 q1 f1 q2 q3 q4 q5 q6 b1 hb0 hk0 hz
      generalize (w1.setCell ⟨w.heap.size, 0, none⟩ (.int .i64 r2.lo)).setCell ⟨w.heap.size, 1, none⟩ (.int .i64 r2.hi) = W2 at *
      have q0 := (d1 0 _ rfl).1
      have q1 := (d1 1 _ rfl).1
      cases he : emptyB r2
      all_goals
        have HE := hid he; clear he
        gi_wp2_with (refine ⟨trivial, ?_⟩; gi_at_call 48; refine (CallsIn.inRound l (callsIn_wide.2 (isEmpty_eq HE.out))).mono ?_; rintro e w3 ⟨rfl, hb3⟩)
      · exact ⟨(e2.trans (keeps_of_below hb3)).from _, e3.trans (hb3.mono e1.size), ⟨⟨by rw [HS.out]; exact d1.below hb3, d2.below hb3⟩, bnext e1 hb3⟩⟩
      · exact ⟨(e2.trans (keeps_of_below hb3)).from _, ⟨⟨⟨by rw [HS.out]; exact d1.below hb3, d2.below hb3⟩, bnext e1 hb3⟩, rfl, by rw [HS.out]; exact HE.out⟩⟩
  case done =>
    rintro D zs W hD rfl ⟨⟨b1, b2⟩, hB1⟩ hK
    have q0 := (b1 0 _ rfl).1
    have q1 := (b1 1 _ rfl).1
    have q2 := (b2 0 _ rfl).1
    have f2 := (b2 0 _ rfl).2
    have q3 := (b2 1 _ rfl).1
    have f3 := (b2 1 _ rfl).2
    obtain ⟨R0, hR0⟩ : ∃ R0, accR zs ⟨c, d⟩ = R0 := ⟨_, rfl⟩
    rw [hR0] at b1 q0 q1
    have HR := hid hR0; clear hR0
    gi_wp2
    have hD2 : w.heap.size ≤ D := by omega
    have d2 := b2.store2 (a' := .int .i64 R0.lo) (b' := .int .i64 R0.hi)
    have e1 := (hB1.setCell (p := ⟨w.heap.size + 1, 0, none⟩) (by simp) (.int .i64 R0.lo)).setCell (p := ⟨w.heap.size + 1, 1, none⟩) (by simp) (.int .i64 R0.hi)
    have hK2 := ((KeepsOthers.setCell W ⟨w.heap.size + 1, 0, none⟩ (.int .i64 R0.lo)).trans (KeepsOthers.setCell _ ⟨w.heap.size + 1, 1, none⟩ (.int .i64 R0.hi))).same D _ hK rfl
    generalize (W.setCell ⟨w.heap.size + 1, 0, none⟩ (.int .i64 R0.lo)).setCell ⟨w.heap.size + 1, 1, none⟩ (.int .i64 R0.hi) = W2 at *
    refine ⟨by simp, .inl ⟨_, _, rfl, run_takeDeferred hK2, ?_⟩⟩
    have d3 := d2.kept (grownBy_putObj' W2 D (.deferred none)) (fun r e => by cases e; exact ⟨_, hK2, rfl⟩)
    have e3 := e1.trans (belowK_b (w := w) (Nat.le_refl _) W2 D _ (.deferred none) hD2 hK2 rfl rfl)
    have p0 := (d3 0 _ rfl).1
    have p1 := (d3 1 _ rfl).1
    exact ⟨.agg #[.int .i64 R0.lo, .int .i64 R0.hi], by simp [results, Try.results46, p0, p1, go_sem], R0, rfl, e3, by rw [HR.out], fun _ => HR.out.symm⟩
  case stop =>
    rintro D j pre W hD hpre ⟨⟨⟨b1, b2⟩, hB1⟩, rfl, he⟩ hK
    have q0 := (b1 0 _ rfl).1
    have q1 := (b1 1 _ rfl).1
    have q2 := (b2 0 _ rfl).1
    have f2 := (b2 0 _ rfl).2
    have q3 := (b2 1 _ rfl).1
    have f3 := (b2 1 _ rfl).2
    obtain ⟨R0, hR0⟩ : ∃ R0, accR pre ⟨c, d⟩ = R0 := ⟨_, rfl⟩
    have HE := hid (accR_part hpre he)
    rw [hR0] at b1 q0 q1 he
    have HF := hid he
    clear hR0 he hpre
    gi_wp2
    have hD2 : w.heap.size ≤ D := by omega
    have d2 := b2.store2 (a' := .int .i64 R0.lo) (b' := .int .i64 R0.hi)
    have e1 := (hB1.setCell (p := ⟨w.heap.size + 1, 0, none⟩) (by simp) (.int .i64 R0.lo)).setCell (p := ⟨w.heap.size + 1, 1, none⟩) (by simp) (.int .i64 R0.hi)
    have hK2 := ((KeepsOthers.setCell W ⟨w.heap.size + 1, 0, none⟩ (.int .i64 R0.lo)).trans (KeepsOthers.setCell _ ⟨w.heap.size + 1, 1, none⟩ (.int .i64 R0.hi))).same D _ hK rfl
    generalize (W.setCell ⟨w.heap.size + 1, 0, none⟩ (.int .i64 R0.lo)).setCell ⟨w.heap.size + 1, 1, none⟩ (.int .i64 R0.hi) = W2 at *
    refine ⟨by simp, .inl ⟨_, _, rfl, run_takeDeferred hK2, ?_⟩⟩
    have d3 := d2.kept (grownBy_putObj' W2 D (.deferred none)) (fun r e => by cases e; exact ⟨_, hK2, rfl⟩)
    have e3 := e1.trans (belowK_b (w := w) (Nat.le_refl _) W2 D _ (.deferred none) hD2 hK2 rfl rfl)
    have p0 := (d3 0 _ rfl).1
    have p1 := (d3 1 _ rfl).1
    exact ⟨.agg #[.int .i64 R0.lo, .int .i64 R0.hi], by simp [results, Try.results46, p0, p1, go_sem], R0, rfl, e3, by rw [HE.out, HF.out], fun h => by rw [HF.out] at h; cases h⟩

end Go.Proofs.Ytcadbcmldlammaa
