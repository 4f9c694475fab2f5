/- Part of a claim. -/
import Derived.Test.YtodmidchpbcnpaaGreatG4R
import Derived.Test.YtodmidchpbcnpaaGreatKSmR
import Derived.Test.YtodmidchpbcnpaaGreatKScR
import Derived.Deep.LoopGhost
set_option linter.unusedVariables false
set_option linter.unusedSimpArgs false
namespace Go.Proofs.YtodmidchpbcnpaaGreat
open Go.RowKit Go.Pb Go.Pb.Ware Go.Pb.Sag


def reps (n : Nat) (f : Ft) : List Value := (List.replicate n f).flatMap cellsF
theorem reps_len {n : Nat} {f : Ft} : (reps n f).length = n * 4 := by
 unfold reps
 induction n with
 | zero => rfl
 | succ n ih => rw [List.replicate_succ, List.flatMap_cons, List.length_append, ih]; show 4 + _ = _; omega
theorem reps_add {n k : Nat} {f : Ft} : reps n f ++ reps k f = reps (n + k) f := by unfold reps; rw [← List.flatMap_append, List.replicate_append_replicate]
theorem reps_one {n : Nat} {f : Ft} : ∀ v ∈ reps n f, v.oneCell' = true := fun v hv => by
 unfold reps at hv
 obtain ⟨g, hg, h⟩ := List.mem_flatMap.1 hv
 exact one_cellsF v h
def RepAt (B m n : Nat) (f : Ft) (T : Nat) (W : World) : Prop := ∃ cur : Array Value, W.heap[B]? = some (.cells cur T (0, 0)) ∧ cur.size = m * 4 ∧ cur.toList.take (n * 4) = reps n f
theorem rep_src {B m n k T : Nat} {f : Ft} {W : World} (h : RepAt B m n f T W) (hk : k ≤ n) : ∀ j v, (reps k f)[j]? = some v → W.cell? ((⟨B, 0, none⟩ : Addr).add j) = some v := by
 obtain ⟨cur, h1, h2, h3⟩ := h
 intro j v hv
 have hj : j < k * 4 := by rw [← reps_len (f := f)]; exact (List.getElem?_eq_some_iff.1 hv).1
 have h4 : (reps n f)[j]? = some v := by
  have e : n = k + (n - k) := by omega
  rw [e, ← reps_add, List.getElem?_append_left (by rw [reps_len]; exact hj)]
  exact hv
 rw [← h3, List.getElem?_take, if_pos (by omega)] at h4
 rw [Go.WideShapes.add_plain, Nat.zero_add]
 simp [World.cell?, h1]
 rw [← Array.getElem?_toList]
 exact h4
theorem rep_set {B m n k T : Nat} {f : Ft} {W : World} {cur : Array Value} (h1 : W.heap[B]? = some (.cells cur T (0, 0))) (h2 : cur.size = m * 4) (h3 : cur.toList.take (n * 4) = reps n f) (hk : n + k ≤ m) :
  RepAt B m (n + k) f T (W.setRow B (cur.toList.take (n * 4) ++ reps k f ++ cur.toList.drop (n * 4 + (reps k f).length)).toArray) := by
 refine ⟨_, setRow_heap W B cur _ T (0, 0) h1, ?_, ?_⟩
 ·simp [reps_len]; omega
 ·have e : (n + k) * 4 = (reps n f ++ reps k f).length := by rw [List.length_append, reps_len, reps_len, Nat.add_mul]
  rw [h3, e, ← reps_add]
  show List.take _ (reps n f ++ reps k f ++ _) = _
  rw [List.take_left']
  rfl
theorem rep_own {B m T lo : Nat} {f : Ft} {W : World} (h : RepAt B m m f T W) (hlo : lo ≤ B) (hm : m ≤ 1000) : W.ownsRow lo T 4 (.slice (some ⟨B, 0, none⟩) m m) m (reps m f) := by
 obtain ⟨cur, h1, h2, h3⟩ := h
 refine ⟨reps_len, .inr ⟨B, m, cur, rfl, hlo, h1, Nat.le_refl _, by unfold maxLen; omega, by omega, ?_⟩⟩
 exact h3
theorem rep_below {B m n T : Nat} {f : Ft} {W W' : World} (h : RepAt B m n f T W) (hb : Below W.heap.size W W') : RepAt B m n f T W' := by
 obtain ⟨cur, h1, h2⟩ := h
 exact ⟨cur, (hb.block B (Array.getElem?_eq_some_iff.1 h1).1).trans h1, h2⟩
set_option maxHeartbeats 400000 in
theorem mul64_1 (w : World) : Calls Tryz.prog 164 #[.int .u64 1, .int .u64 1] w (fun e w' => e = .returned (.tuple #[.int .u64 0, .int .u64 1]) ∧ w' = w) := by
 go_enter Tryz.func164, Tryz.ntmps164
 go_wp2
 go_ret2
 exact ⟨rfl, rfl⟩
set_option maxHeartbeats 400000 in
theorem mul_1 (w : World) : Calls Tryz.prog 147 #[.int .u64 1, .int .u64 1] w (fun e w' => e = .returned (.tuple #[.int .u64 0, .int .u64 1]) ∧ w = w') := by
 go_enter Tryz.func147, Tryz.ntmps147
 go_wp2_with (go_at_call 164; refine (mul64_1 _).mono ?_; rintro e w' ⟨rfl, rfl⟩)
 go_ret2
 exact ⟨rfl, rfl⟩
set_option maxHeartbeats 400000 in
theorem mul64_2 (w : World) : Calls Tryz.prog 164 #[.int .u64 1, .int .u64 2] w (fun e w' => e = .returned (.tuple #[.int .u64 0, .int .u64 2]) ∧ w' = w) := by
 go_enter Tryz.func164, Tryz.ntmps164
 go_wp2
 go_ret2
 exact ⟨rfl, rfl⟩
set_option maxHeartbeats 400000 in
theorem mul_2 (w : World) : Calls Tryz.prog 147 #[.int .u64 1, .int .u64 2] w (fun e w' => e = .returned (.tuple #[.int .u64 0, .int .u64 2]) ∧ w = w') := by
 go_enter Tryz.func147, Tryz.ntmps147
 go_wp2_with (go_at_call 164; refine (mul64_2 _).mono ?_; rintro e w' ⟨rfl, rfl⟩)
 go_ret2
 exact ⟨rfl, rfl⟩
set_option maxHeartbeats 400000 in
theorem mul64_3 (w : World) : Calls Tryz.prog 164 #[.int .u64 1, .int .u64 3] w (fun e w' => e = .returned (.tuple #[.int .u64 0, .int .u64 3]) ∧ w' = w) := by
 go_enter Tryz.func164, Tryz.ntmps164
 go_wp2
 go_ret2
 exact ⟨rfl, rfl⟩
set_option maxHeartbeats 400000 in
theorem mul_3 (w : World) : Calls Tryz.prog 147 #[.int .u64 1, .int .u64 3] w (fun e w' => e = .returned (.tuple #[.int .u64 0, .int .u64 3]) ∧ w = w') := by
 go_enter Tryz.func147, Tryz.ntmps147
 go_wp2_with (go_at_call 164; refine (mul64_3 _).mono ?_; rintro e w' ⟨rfl, rfl⟩)
 go_ret2
 exact ⟨rfl, rfl⟩
set_option maxHeartbeats 400000 in
theorem mul64_4 (w : World) : Calls Tryz.prog 164 #[.int .u64 1, .int .u64 4] w (fun e w' => e = .returned (.tuple #[.int .u64 0, .int .u64 4]) ∧ w' = w) := by
 go_enter Tryz.func164, Tryz.ntmps164
 go_wp2
 go_ret2
 exact ⟨rfl, rfl⟩
set_option maxHeartbeats 400000 in
theorem mul_4 (w : World) : Calls Tryz.prog 147 #[.int .u64 1, .int .u64 4] w (fun e w' => e = .returned (.tuple #[.int .u64 0, .int .u64 4]) ∧ w = w') := by
 go_enter Tryz.func147, Tryz.ntmps147
 go_wp2_with (go_at_call 164; refine (mul64_4 _).mono ?_; rintro e w' ⟨rfl, rfl⟩)
 go_ret2
 exact ⟨rfl, rfl⟩
set_option maxHeartbeats 400000 in
theorem mul64_5 (w : World) : Calls Tryz.prog 164 #[.int .u64 1, .int .u64 5] w (fun e w' => e = .returned (.tuple #[.int .u64 0, .int .u64 5]) ∧ w' = w) := by
 go_enter Tryz.func164, Tryz.ntmps164
 go_wp2
 go_ret2
 exact ⟨rfl, rfl⟩
set_option maxHeartbeats 400000 in
theorem mul_5 (w : World) : Calls Tryz.prog 147 #[.int .u64 1, .int .u64 5] w (fun e w' => e = .returned (.tuple #[.int .u64 0, .int .u64 5]) ∧ w = w') := by
 go_enter Tryz.func147, Tryz.ntmps147
 go_wp2_with (go_at_call 164; refine (mul64_5 _).mono ?_; rintro e w' ⟨rfl, rfl⟩)
 go_ret2
 exact ⟨rfl, rfl⟩
set_option maxRecDepth 100000 in
set_option maxHeartbeats 1000000 in
theorem repeat_1 {w : World} {q : Addr} {cap : Nat} {f : Ft} (hq : ∀ j v, (cellsF f)[j]? = some v → w.cell? (q.add j) = some v) : Calls Tryz.prog 94 #[.slice (some q) 1 cap, .int .i64 1] w (fun e w' => ∃ v, e = .returned v ∧ Below w.heap.size w w' ∧ w'.ownsRow w.heap.size 34 4 v 1 (reps 1 f)) := by
 obtain ⟨i0, hi0, hz0, hz1, hz2⟩ := info_parts Tryz.infoF
 have HQ := hid hq; clear hq
 go_enter Tryz.func94, Tryz.ntmps94
 go_upto_region 7 with (first | (go_at_call 147; refine (mul_1 _).mono ?_; rintro e w' ⟨rfl, rfl⟩) | (at_make; refine wpList_make_full _ rfl _ _ 38 rfl w.heap.size 34 i0 (.agg #[.int .i64 0, .int .i64 0, .int .i64 0, .int .i64 0]) 4 Tryz.underlying38 hi0 hz0 hz1 .i64 .i64 _ _ 1 rfl rfl rfl rfl (by rw [hz2]; omega) (by unfold maxLen; omega) (Nat.le_refl _) ?_; intro w1 ho hg))
 have hb : Below w.heap.size w w1 := (Below.refl _ w).grown hg (Nat.le_refl _) (fun k h => by cases h)
 obtain ⟨cur, hcur, hcs⟩ : ∃ cur, w1.heap[w.heap.size]? = some (.cells cur 34 (0, 0)) ∧ cur.size = 1 * 4 := by
  rcases ho.2 with ⟨h1, _⟩ | ⟨g', cap, cur, h1, _, h3, _, _, h6, _⟩
  ·cases h1
  ·injection h1 with h1 _ h2; injection h1 with h1; injection h1 with h1; subst h1; subst h2; exact ⟨cur, h3, h6⟩
 clear ho hg
 have hsrc : ∀ j u, (reps 1 f)[j]? = some u → w1.cell? (q.add j) = some u := fun j u h => bkeep hb (HQ.out j u (by simpa [reps] using h))
 have HSRC := hid hsrc; clear hsrc
 go_wp2_with (with_reducible refine wpList_copy_K rfl (.tmp 31) (.tmp 32) 38 38 rfl 34 Tryz.underlying38 4 1 (by kernel_rfl) w.heap.size 0 1 1 q 1 cap rfl rfl cur 34 hcur (reps 1 f) (by decide) reps_len HSRC.out (by rw [reps_len]; omega) reps_one ?_)
 have hr := rep_set (B := w.heap.size) (m := 1) (n := 0) (k := 1) (f := f) hcur hcs (by simp [reps]) (by omega)
 have hb2 := below_setRow hb (Nat.le_refl _) (cur.toList.take 0 ++ reps 1 f ++ cur.toList.drop (0 + (reps 1 f).length)).toArray
 simp only [Nat.zero_mul, List.take_zero, List.nil_append, Nat.zero_add] at hr hb2
 generalize hW : w1.setRow w.heap.size (reps 1 f ++ List.drop (reps 1 f).length cur.toList).toArray = v1 at *
 clear hW hcur hcs hb HSRC
 go_loopg [8] (1 - 1) (fun gk nv wr => ∃ n : Nat, ((n = 1 ∧ nv = .int .i64 1)) ∧ gk = 1 - n ∧ RepAt w.heap.size 1 n f 34 wr ∧ Below w.heap.size w wr)
 case atStart => exact ⟨1, ⟨rfl, rfl⟩, rfl, hr, hb2⟩
 case round =>
  clear hr hb2
  obtain ⟨n, hn, hgk, hR, hB⟩ := hrel
  have HGK := hid hgk; clear hgk
  obtain ⟨rfl, rfl⟩ := hn
  go_wp2_with fail
  go_ret
  exact ⟨_, rfl, hB, rep_own hR (Nat.le_refl _) (by omega)⟩
set_option maxRecDepth 100000 in
set_option maxHeartbeats 1000000 in
theorem repeat_2 {w : World} {q : Addr} {cap : Nat} {f : Ft} (hq : ∀ j v, (cellsF f)[j]? = some v → w.cell? (q.add j) = some v) : Calls Tryz.prog 94 #[.slice (some q) 1 cap, .int .i64 2] w (fun e w' => ∃ v, e = .returned v ∧ Below w.heap.size w w' ∧ w'.ownsRow w.heap.size 34 4 v 2 (reps 2 f)) := by
 obtain ⟨i0, hi0, hz0, hz1, hz2⟩ := info_parts Tryz.infoF
 have HQ := hid hq; clear hq
 go_enter Tryz.func94, Tryz.ntmps94
 go_upto_region 7 with (first | (go_at_call 147; refine (mul_2 _).mono ?_; rintro e w' ⟨rfl, rfl⟩) | (at_make; refine wpList_make_full _ rfl _ _ 38 rfl w.heap.size 34 i0 (.agg #[.int .i64 0, .int .i64 0, .int .i64 0, .int .i64 0]) 4 Tryz.underlying38 hi0 hz0 hz1 .i64 .i64 _ _ 2 rfl rfl rfl rfl (by rw [hz2]; omega) (by unfold maxLen; omega) (Nat.le_refl _) ?_; intro w1 ho hg))
 have hb : Below w.heap.size w w1 := (Below.refl _ w).grown hg (Nat.le_refl _) (fun k h => by cases h)
 obtain ⟨cur, hcur, hcs⟩ : ∃ cur, w1.heap[w.heap.size]? = some (.cells cur 34 (0, 0)) ∧ cur.size = 2 * 4 := by
  rcases ho.2 with ⟨h1, _⟩ | ⟨g', cap, cur, h1, _, h3, _, _, h6, _⟩
  ·cases h1
  ·injection h1 with h1 _ h2; injection h1 with h1; injection h1 with h1; subst h1; subst h2; exact ⟨cur, h3, h6⟩
 clear ho hg
 have hsrc : ∀ j u, (reps 1 f)[j]? = some u → w1.cell? (q.add j) = some u := fun j u h => bkeep hb (HQ.out j u (by simpa [reps] using h))
 have HSRC := hid hsrc; clear hsrc
 go_wp2_with (with_reducible refine wpList_copy_K rfl (.tmp 31) (.tmp 32) 38 38 rfl 34 Tryz.underlying38 4 1 (by kernel_rfl) w.heap.size 0 2 2 q 1 cap rfl rfl cur 34 hcur (reps 1 f) (by decide) reps_len HSRC.out (by rw [reps_len]; omega) reps_one ?_)
 have hr := rep_set (B := w.heap.size) (m := 2) (n := 0) (k := 1) (f := f) hcur hcs (by simp [reps]) (by omega)
 have hb2 := below_setRow hb (Nat.le_refl _) (cur.toList.take 0 ++ reps 1 f ++ cur.toList.drop (0 + (reps 1 f).length)).toArray
 simp only [Nat.zero_mul, List.take_zero, List.nil_append, Nat.zero_add] at hr hb2
 generalize hW : w1.setRow w.heap.size (reps 1 f ++ List.drop (reps 1 f).length cur.toList).toArray = v1 at *
 clear hW hcur hcs hb HSRC
 go_loopg [8] (2 - 1) (fun gk nv wr => ∃ n : Nat, ((n = 1 ∧ nv = .int .i64 1) ∨ (n = 2 ∧ nv = .int .i64 2)) ∧ gk = 2 - n ∧ RepAt w.heap.size 2 n f 34 wr ∧ Below w.heap.size w wr)
 case atStart => exact ⟨1, .inl ⟨rfl, rfl⟩, rfl, hr, hb2⟩
 case round =>
  clear hr hb2
  obtain ⟨n, hn, hgk, hR, hB⟩ := hrel
  have HGK := hid hgk; clear hgk
  rcases hn with ⟨rfl, rfl⟩ | ⟨rfl, rfl⟩
  ·go_upto_region 9 with fail
   refine wp_region_F [0] (by kernel_rfl) [] [1, 2, 3, 4, 5, 6] 3 (by kernel_rfl) rfl (fun x h => by cases h) (by kernel_rfl) ?_
   refine ⟨_, _, rfl, .inl ⟨rfl, fun w => rfl⟩, ?_⟩
   show wpS _ _ _ _ _ _ _ (numbered _ _) _ _
   (try simp only [Act.put, List.getElem_toArray, List.getElem_cons_succ, List.getElem_cons_zero, List.setIfInBounds_toArray, List.set_cons_succ, List.set_cons_zero])
   simp only [numbered, List.filterMap_cons, List.filterMap_nil, List.getElem?_toArray, List.getElem?_cons_succ, List.getElem?_cons_zero, Option.map_some]
   show wpS _ _ _ _ _ _ _ [(_, _), (_, _), (_, _), (_, _), (_, _), (_, _)] _ _
   (refine wpS_quiet rfl rfl ?_; intro K hK inst hx; go_big_quiet_op; (first | go_big_quiet_on | (refine ⟨_, fun _ => rfl, ?_⟩; go_big_quiet_on)); clear hx inst)
   (refine wpS_quiet rfl rfl ?_; intro K hK inst hx; go_big_quiet_op; (first | go_big_quiet_on | (refine ⟨_, fun _ => rfl, ?_⟩; go_big_quiet_on)); clear hx inst)
   (refine wpS_quiet rfl rfl ?_; intro K hK inst hx; go_big_quiet_op; (first | go_big_quiet_on | (refine ⟨_, fun _ => rfl, ?_⟩; go_big_quiet_on)); clear hx inst)
   (refine wpS_quiet rfl rfl ?_; intro K hK inst hx; go_big_quiet_op; (first | go_big_quiet_on | (refine ⟨_, fun _ => rfl, ?_⟩; go_big_quiet_on)); clear hx inst)
   (refine wpS_quiet rfl rfl ?_; intro K hK inst hx; go_big_quiet_op; (first | go_big_quiet_on | (refine ⟨_, fun _ => rfl, ?_⟩; go_big_quiet_on)); clear hx inst)
   (refine wpS_quiet rfl rfl ?_; intro K hK inst hx; go_big_quiet_op; (first | go_big_quiet_on | (refine ⟨_, fun _ => rfl, ?_⟩; go_big_quiet_on)); clear hx inst)
   refine wpS_nil ?_
   intro w2 hall
   have hb := hall.1
   clear hall
   replace hB := bnext (w := w) hB hb
   have hR2 := rep_below hR hb
   clear hR hb
   obtain ⟨cur, hcur, hcs, hct⟩ := id hR2
   have hsrc := rep_src (k := 1) hR2 (by omega)
   have HSRC := hid hsrc; clear hsrc
   refine wpAny_ready (rs := [7]) (by kernel_rfl) (by simp) ?_
   refine AllReady.cons rfl (fun K hK => ?_) AllReady.nil
   refine (if_pos (show Region.wanted _ _ = true from rfl)).mpr ?_
   refine wp_copy_K (.tmp 41) (.tmp 44) 38 38 rfl 34 Tryz.underlying38 4 1 (by kernel_rfl) w.heap.size (1 * 4) 1 1 ⟨w.heap.size, 0, none⟩ 1 2 rfl rfl cur 34 hcur (reps 1 f) (by decide) reps_len HSRC.out (by rw [reps_len]; omega) reps_one ?_
   refine hK _ _ ?_
   clear hK K
   have hr := rep_set (B := w.heap.size) (m := 2) (n := 1) (k := 1) (f := f) hcur hcs hct (by omega)
   have hb2 := below_setRow hB (Nat.le_refl _) (cur.toList.take (1 * 4) ++ reps 1 f ++ cur.toList.drop (1 * 4 + (reps 1 f).length)).toArray
   generalize hW : w2.setRow w.heap.size _ = v2 at *
   clear hW hcur hcs hct HSRC hR2 hB
   refine wpAny_ready (rs := [8]) (by kernel_rfl) (by simp) ?_
   refine AllReady.cons rfl (fun K hK => ?_) AllReady.nil
   go_simp
   refine hK _ _ ?_; clear hK K
   refine wpAny_ready (rs := [9]) (by kernel_rfl) (by simp) ?_
   refine AllReady.cons rfl (fun K hK => ?_) AllReady.nil
   go_simp
   refine hK _ _ ?_; clear hK K
   refine wpAny_done (by kernel_rfl) ?_ _
   refine ⟨rfl, ?_⟩
   go_wp2_with fail
   go_roundg (2 - 2)
   case measure => have h := HGK.out; omega
   case rel => exact ⟨2, .inr (⟨rfl, rfl⟩), rfl, hr, hb2⟩
  ·go_wp2_with fail
   go_ret
   exact ⟨_, rfl, hB, rep_own hR (Nat.le_refl _) (by omega)⟩
set_option maxRecDepth 100000 in
set_option maxHeartbeats 1000000 in
theorem repeat_3 {w : World} {q : Addr} {cap : Nat} {f : Ft} (hq : ∀ j v, (cellsF f)[j]? = some v → w.cell? (q.add j) = some v) : Calls Tryz.prog 94 #[.slice (some q) 1 cap, .int .i64 3] w (fun e w' => ∃ v, e = .returned v ∧ Below w.heap.size w w' ∧ w'.ownsRow w.heap.size 34 4 v 3 (reps 3 f)) := by
 obtain ⟨i0, hi0, hz0, hz1, hz2⟩ := info_parts Tryz.infoF
 have HQ := hid hq; clear hq
 go_enter Tryz.func94, Tryz.ntmps94
 go_upto_region 7 with (first | (go_at_call 147; refine (mul_3 _).mono ?_; rintro e w' ⟨rfl, rfl⟩) | (at_make; refine wpList_make_full _ rfl _ _ 38 rfl w.heap.size 34 i0 (.agg #[.int .i64 0, .int .i64 0, .int .i64 0, .int .i64 0]) 4 Tryz.underlying38 hi0 hz0 hz1 .i64 .i64 _ _ 3 rfl rfl rfl rfl (by rw [hz2]; omega) (by unfold maxLen; omega) (Nat.le_refl _) ?_; intro w1 ho hg))
 have hb : Below w.heap.size w w1 := (Below.refl _ w).grown hg (Nat.le_refl _) (fun k h => by cases h)
 obtain ⟨cur, hcur, hcs⟩ : ∃ cur, w1.heap[w.heap.size]? = some (.cells cur 34 (0, 0)) ∧ cur.size = 3 * 4 := by
  rcases ho.2 with ⟨h1, _⟩ | ⟨g', cap, cur, h1, _, h3, _, _, h6, _⟩
  ·cases h1
  ·injection h1 with h1 _ h2; injection h1 with h1; injection h1 with h1; subst h1; subst h2; exact ⟨cur, h3, h6⟩
 clear ho hg
 have hsrc : ∀ j u, (reps 1 f)[j]? = some u → w1.cell? (q.add j) = some u := fun j u h => bkeep hb (HQ.out j u (by simpa [reps] using h))
 have HSRC := hid hsrc; clear hsrc
 go_wp2_with (with_reducible refine wpList_copy_K rfl (.tmp 31) (.tmp 32) 38 38 rfl 34 Tryz.underlying38 4 1 (by kernel_rfl) w.heap.size 0 3 3 q 1 cap rfl rfl cur 34 hcur (reps 1 f) (by decide) reps_len HSRC.out (by rw [reps_len]; omega) reps_one ?_)
 have hr := rep_set (B := w.heap.size) (m := 3) (n := 0) (k := 1) (f := f) hcur hcs (by simp [reps]) (by omega)
 have hb2 := below_setRow hb (Nat.le_refl _) (cur.toList.take 0 ++ reps 1 f ++ cur.toList.drop (0 + (reps 1 f).length)).toArray
 simp only [Nat.zero_mul, List.take_zero, List.nil_append, Nat.zero_add] at hr hb2
 generalize hW : w1.setRow w.heap.size (reps 1 f ++ List.drop (reps 1 f).length cur.toList).toArray = v1 at *
 clear hW hcur hcs hb HSRC
 go_loopg [8] (3 - 1) (fun gk nv wr => ∃ n : Nat, ((n = 1 ∧ nv = .int .i64 1) ∨ (n = 2 ∧ nv = .int .i64 2) ∨ (n = 3 ∧ nv = .int .i64 3)) ∧ gk = 3 - n ∧ RepAt w.heap.size 3 n f 34 wr ∧ Below w.heap.size w wr)
 case atStart => exact ⟨1, .inl ⟨rfl, rfl⟩, rfl, hr, hb2⟩
 case round =>
  clear hr hb2
  obtain ⟨n, hn, hgk, hR, hB⟩ := hrel
  have HGK := hid hgk; clear hgk
  rcases hn with ⟨rfl, rfl⟩ | ⟨rfl, rfl⟩ | ⟨rfl, rfl⟩
  ·go_upto_region 9 with fail
   refine wp_region_F [0] (by kernel_rfl) [] [1, 2, 3, 4, 5, 6] 3 (by kernel_rfl) rfl (fun x h => by cases h) (by kernel_rfl) ?_
   refine ⟨_, _, rfl, .inl ⟨rfl, fun w => rfl⟩, ?_⟩
   show wpS _ _ _ _ _ _ _ (numbered _ _) _ _
   (try simp only [Act.put, List.getElem_toArray, List.getElem_cons_succ, List.getElem_cons_zero, List.setIfInBounds_toArray, List.set_cons_succ, List.set_cons_zero])
   simp only [numbered, List.filterMap_cons, List.filterMap_nil, List.getElem?_toArray, List.getElem?_cons_succ, List.getElem?_cons_zero, Option.map_some]
   show wpS _ _ _ _ _ _ _ [(_, _), (_, _), (_, _), (_, _), (_, _), (_, _)] _ _
   (refine wpS_quiet rfl rfl ?_; intro K hK inst hx; go_big_quiet_op; (first | go_big_quiet_on | (refine ⟨_, fun _ => rfl, ?_⟩; go_big_quiet_on)); clear hx inst)
   (refine wpS_quiet rfl rfl ?_; intro K hK inst hx; go_big_quiet_op; (first | go_big_quiet_on | (refine ⟨_, fun _ => rfl, ?_⟩; go_big_quiet_on)); clear hx inst)
   (refine wpS_quiet rfl rfl ?_; intro K hK inst hx; go_big_quiet_op; (first | go_big_quiet_on | (refine ⟨_, fun _ => rfl, ?_⟩; go_big_quiet_on)); clear hx inst)
   (refine wpS_quiet rfl rfl ?_; intro K hK inst hx; go_big_quiet_op; (first | go_big_quiet_on | (refine ⟨_, fun _ => rfl, ?_⟩; go_big_quiet_on)); clear hx inst)
   (refine wpS_quiet rfl rfl ?_; intro K hK inst hx; go_big_quiet_op; (first | go_big_quiet_on | (refine ⟨_, fun _ => rfl, ?_⟩; go_big_quiet_on)); clear hx inst)
   (refine wpS_quiet rfl rfl ?_; intro K hK inst hx; go_big_quiet_op; (first | go_big_quiet_on | (refine ⟨_, fun _ => rfl, ?_⟩; go_big_quiet_on)); clear hx inst)
   refine wpS_nil ?_
   intro w2 hall
   have hb := hall.1
   clear hall
   replace hB := bnext (w := w) hB hb
   have hR2 := rep_below hR hb
   clear hR hb
   obtain ⟨cur, hcur, hcs, hct⟩ := id hR2
   have hsrc := rep_src (k := 1) hR2 (by omega)
   have HSRC := hid hsrc; clear hsrc
   refine wpAny_ready (rs := [7]) (by kernel_rfl) (by simp) ?_
   refine AllReady.cons rfl (fun K hK => ?_) AllReady.nil
   refine (if_pos (show Region.wanted _ _ = true from rfl)).mpr ?_
   refine wp_copy_K (.tmp 41) (.tmp 44) 38 38 rfl 34 Tryz.underlying38 4 1 (by kernel_rfl) w.heap.size (1 * 4) 2 2 ⟨w.heap.size, 0, none⟩ 1 3 rfl rfl cur 34 hcur (reps 1 f) (by decide) reps_len HSRC.out (by rw [reps_len]; omega) reps_one ?_
   refine hK _ _ ?_
   clear hK K
   have hr := rep_set (B := w.heap.size) (m := 3) (n := 1) (k := 1) (f := f) hcur hcs hct (by omega)
   have hb2 := below_setRow hB (Nat.le_refl _) (cur.toList.take (1 * 4) ++ reps 1 f ++ cur.toList.drop (1 * 4 + (reps 1 f).length)).toArray
   generalize hW : w2.setRow w.heap.size _ = v2 at *
   clear hW hcur hcs hct HSRC hR2 hB
   refine wpAny_ready (rs := [8]) (by kernel_rfl) (by simp) ?_
   refine AllReady.cons rfl (fun K hK => ?_) AllReady.nil
   go_simp
   refine hK _ _ ?_; clear hK K
   refine wpAny_ready (rs := [9]) (by kernel_rfl) (by simp) ?_
   refine AllReady.cons rfl (fun K hK => ?_) AllReady.nil
   go_simp
   refine hK _ _ ?_; clear hK K
   refine wpAny_done (by kernel_rfl) ?_ _
   refine ⟨rfl, ?_⟩
   go_wp2_with fail
   go_roundg (3 - 2)
   case measure => have h := HGK.out; omega
   case rel => exact ⟨2, .inr (.inl ⟨rfl, rfl⟩), rfl, hr, hb2⟩
  ·go_upto_region 9 with fail
   refine wp_region_F [0] (by kernel_rfl) [] [1, 2, 3, 4, 5, 6] 3 (by kernel_rfl) rfl (fun x h => by cases h) (by kernel_rfl) ?_
   refine ⟨_, _, rfl, .inl ⟨rfl, fun w => rfl⟩, ?_⟩
   show wpS _ _ _ _ _ _ _ (numbered _ _) _ _
   (try simp only [Act.put, List.getElem_toArray, List.getElem_cons_succ, List.getElem_cons_zero, List.setIfInBounds_toArray, List.set_cons_succ, List.set_cons_zero])
   simp only [numbered, List.filterMap_cons, List.filterMap_nil, List.getElem?_toArray, List.getElem?_cons_succ, List.getElem?_cons_zero, Option.map_some]
   show wpS _ _ _ _ _ _ _ [(_, _), (_, _), (_, _), (_, _), (_, _), (_, _)] _ _
   (refine wpS_quiet rfl rfl ?_; intro K hK inst hx; go_big_quiet_op; (first | go_big_quiet_on | (refine ⟨_, fun _ => rfl, ?_⟩; go_big_quiet_on)); clear hx inst)
   (refine wpS_quiet rfl rfl ?_; intro K hK inst hx; go_big_quiet_op; (first | go_big_quiet_on | (refine ⟨_, fun _ => rfl, ?_⟩; go_big_quiet_on)); clear hx inst)
   (refine wpS_quiet rfl rfl ?_; intro K hK inst hx; go_big_quiet_op; (first | go_big_quiet_on | (refine ⟨_, fun _ => rfl, ?_⟩; go_big_quiet_on)); clear hx inst)
   (refine wpS_quiet rfl rfl ?_; intro K hK inst hx; go_big_quiet_op; (first | go_big_quiet_on | (refine ⟨_, fun _ => rfl, ?_⟩; go_big_quiet_on)); clear hx inst)
   (refine wpS_quiet rfl rfl ?_; intro K hK inst hx; go_big_quiet_op; (first | go_big_quiet_on | (refine ⟨_, fun _ => rfl, ?_⟩; go_big_quiet_on)); clear hx inst)
   (refine wpS_quiet rfl rfl ?_; intro K hK inst hx; go_big_quiet_op; (first | go_big_quiet_on | (refine ⟨_, fun _ => rfl, ?_⟩; go_big_quiet_on)); clear hx inst)
   refine wpS_nil ?_
   intro w2 hall
   have hb := hall.1
   clear hall
   replace hB := bnext (w := w) hB hb
   have hR2 := rep_below hR hb
   clear hR hb
   obtain ⟨cur, hcur, hcs, hct⟩ := id hR2
   have hsrc := rep_src (k := 1) hR2 (by omega)
   have HSRC := hid hsrc; clear hsrc
   refine wpAny_ready (rs := [7]) (by kernel_rfl) (by simp) ?_
   refine AllReady.cons rfl (fun K hK => ?_) AllReady.nil
   refine (if_pos (show Region.wanted _ _ = true from rfl)).mpr ?_
   refine wp_copy_K (.tmp 41) (.tmp 44) 38 38 rfl 34 Tryz.underlying38 4 1 (by kernel_rfl) w.heap.size (2 * 4) 1 1 ⟨w.heap.size, 0, none⟩ 2 3 rfl rfl cur 34 hcur (reps 1 f) (by decide) reps_len HSRC.out (by rw [reps_len]; omega) reps_one ?_
   refine hK _ _ ?_
   clear hK K
   have hr := rep_set (B := w.heap.size) (m := 3) (n := 2) (k := 1) (f := f) hcur hcs hct (by omega)
   have hb2 := below_setRow hB (Nat.le_refl _) (cur.toList.take (2 * 4) ++ reps 1 f ++ cur.toList.drop (2 * 4 + (reps 1 f).length)).toArray
   generalize hW : w2.setRow w.heap.size _ = v2 at *
   clear hW hcur hcs hct HSRC hR2 hB
   refine wpAny_ready (rs := [8]) (by kernel_rfl) (by simp) ?_
   refine AllReady.cons rfl (fun K hK => ?_) AllReady.nil
   go_simp
   refine hK _ _ ?_; clear hK K
   refine wpAny_ready (rs := [9]) (by kernel_rfl) (by simp) ?_
   refine AllReady.cons rfl (fun K hK => ?_) AllReady.nil
   go_simp
   refine hK _ _ ?_; clear hK K
   refine wpAny_done (by kernel_rfl) ?_ _
   refine ⟨rfl, ?_⟩
   go_wp2_with fail
   go_roundg (3 - 3)
   case measure => have h := HGK.out; omega
   case rel => exact ⟨3, .inr (.inr (⟨rfl, rfl⟩)), rfl, hr, hb2⟩
  ·go_wp2_with fail
   go_ret
   exact ⟨_, rfl, hB, rep_own hR (Nat.le_refl _) (by omega)⟩
set_option maxRecDepth 100000 in
set_option maxHeartbeats 1000000 in
theorem repeat_4 {w : World} {q : Addr} {cap : Nat} {f : Ft} (hq : ∀ j v, (cellsF f)[j]? = some v → w.cell? (q.add j) = some v) : Calls Tryz.prog 94 #[.slice (some q) 1 cap, .int .i64 4] w (fun e w' => ∃ v, e = .returned v ∧ Below w.heap.size w w' ∧ w'.ownsRow w.heap.size 34 4 v 4 (reps 4 f)) := by
 obtain ⟨i0, hi0, hz0, hz1, hz2⟩ := info_parts Tryz.infoF
 have HQ := hid hq; clear hq
 go_enter Tryz.func94, Tryz.ntmps94
 go_upto_region 7 with (first | (go_at_call 147; refine (mul_4 _).mono ?_; rintro e w' ⟨rfl, rfl⟩) | (at_make; refine wpList_make_full _ rfl _ _ 38 rfl w.heap.size 34 i0 (.agg #[.int .i64 0, .int .i64 0, .int .i64 0, .int .i64 0]) 4 Tryz.underlying38 hi0 hz0 hz1 .i64 .i64 _ _ 4 rfl rfl rfl rfl (by rw [hz2]; omega) (by unfold maxLen; omega) (Nat.le_refl _) ?_; intro w1 ho hg))
 have hb : Below w.heap.size w w1 := (Below.refl _ w).grown hg (Nat.le_refl _) (fun k h => by cases h)
 obtain ⟨cur, hcur, hcs⟩ : ∃ cur, w1.heap[w.heap.size]? = some (.cells cur 34 (0, 0)) ∧ cur.size = 4 * 4 := by
  rcases ho.2 with ⟨h1, _⟩ | ⟨g', cap, cur, h1, _, h3, _, _, h6, _⟩
  ·cases h1
  ·injection h1 with h1 _ h2; injection h1 with h1; injection h1 with h1; subst h1; subst h2; exact ⟨cur, h3, h6⟩
 clear ho hg
 have hsrc : ∀ j u, (reps 1 f)[j]? = some u → w1.cell? (q.add j) = some u := fun j u h => bkeep hb (HQ.out j u (by simpa [reps] using h))
 have HSRC := hid hsrc; clear hsrc
 go_wp2_with (with_reducible refine wpList_copy_K rfl (.tmp 31) (.tmp 32) 38 38 rfl 34 Tryz.underlying38 4 1 (by kernel_rfl) w.heap.size 0 4 4 q 1 cap rfl rfl cur 34 hcur (reps 1 f) (by decide) reps_len HSRC.out (by rw [reps_len]; omega) reps_one ?_)
 have hr := rep_set (B := w.heap.size) (m := 4) (n := 0) (k := 1) (f := f) hcur hcs (by simp [reps]) (by omega)
 have hb2 := below_setRow hb (Nat.le_refl _) (cur.toList.take 0 ++ reps 1 f ++ cur.toList.drop (0 + (reps 1 f).length)).toArray
 simp only [Nat.zero_mul, List.take_zero, List.nil_append, Nat.zero_add] at hr hb2
 generalize hW : w1.setRow w.heap.size (reps 1 f ++ List.drop (reps 1 f).length cur.toList).toArray = v1 at *
 clear hW hcur hcs hb HSRC
 go_loopg [8] (4 - 1) (fun gk nv wr => ∃ n : Nat, ((n = 1 ∧ nv = .int .i64 1) ∨ (n = 2 ∧ nv = .int .i64 2) ∨ (n = 4 ∧ nv = .int .i64 4)) ∧ gk = 4 - n ∧ RepAt w.heap.size 4 n f 34 wr ∧ Below w.heap.size w wr)
 case atStart => exact ⟨1, .inl ⟨rfl, rfl⟩, rfl, hr, hb2⟩
 case round =>
  clear hr hb2
  obtain ⟨n, hn, hgk, hR, hB⟩ := hrel
  have HGK := hid hgk; clear hgk
  rcases hn with ⟨rfl, rfl⟩ | ⟨rfl, rfl⟩ | ⟨rfl, rfl⟩
  ·go_upto_region 9 with fail
   refine wp_region_F [0] (by kernel_rfl) [] [1, 2, 3, 4, 5, 6] 3 (by kernel_rfl) rfl (fun x h => by cases h) (by kernel_rfl) ?_
   refine ⟨_, _, rfl, .inl ⟨rfl, fun w => rfl⟩, ?_⟩
   show wpS _ _ _ _ _ _ _ (numbered _ _) _ _
   (try simp only [Act.put, List.getElem_toArray, List.getElem_cons_succ, List.getElem_cons_zero, List.setIfInBounds_toArray, List.set_cons_succ, List.set_cons_zero])
   simp only [numbered, List.filterMap_cons, List.filterMap_nil, List.getElem?_toArray, List.getElem?_cons_succ, List.getElem?_cons_zero, Option.map_some]
   show wpS _ _ _ _ _ _ _ [(_, _), (_, _), (_, _), (_, _), (_, _), (_, _)] _ _
   (refine wpS_quiet rfl rfl ?_; intro K hK inst hx; go_big_quiet_op; (first | go_big_quiet_on | (refine ⟨_, fun _ => rfl, ?_⟩; go_big_quiet_on)); clear hx inst)
   (refine wpS_quiet rfl rfl ?_; intro K hK inst hx; go_big_quiet_op; (first | go_big_quiet_on | (refine ⟨_, fun _ => rfl, ?_⟩; go_big_quiet_on)); clear hx inst)
   (refine wpS_quiet rfl rfl ?_; intro K hK inst hx; go_big_quiet_op; (first | go_big_quiet_on | (refine ⟨_, fun _ => rfl, ?_⟩; go_big_quiet_on)); clear hx inst)
   (refine wpS_quiet rfl rfl ?_; intro K hK inst hx; go_big_quiet_op; (first | go_big_quiet_on | (refine ⟨_, fun _ => rfl, ?_⟩; go_big_quiet_on)); clear hx inst)
   (refine wpS_quiet rfl rfl ?_; intro K hK inst hx; go_big_quiet_op; (first | go_big_quiet_on | (refine ⟨_, fun _ => rfl, ?_⟩; go_big_quiet_on)); clear hx inst)
   (refine wpS_quiet rfl rfl ?_; intro K hK inst hx; go_big_quiet_op; (first | go_big_quiet_on | (refine ⟨_, fun _ => rfl, ?_⟩; go_big_quiet_on)); clear hx inst)
   refine wpS_nil ?_
   intro w2 hall
   have hb := hall.1
   clear hall
   replace hB := bnext (w := w) hB hb
   have hR2 := rep_below hR hb
   clear hR hb
   obtain ⟨cur, hcur, hcs, hct⟩ := id hR2
   have hsrc := rep_src (k := 1) hR2 (by omega)
   have HSRC := hid hsrc; clear hsrc
   refine wpAny_ready (rs := [7]) (by kernel_rfl) (by simp) ?_
   refine AllReady.cons rfl (fun K hK => ?_) AllReady.nil
   refine (if_pos (show Region.wanted _ _ = true from rfl)).mpr ?_
   refine wp_copy_K (.tmp 41) (.tmp 44) 38 38 rfl 34 Tryz.underlying38 4 1 (by kernel_rfl) w.heap.size (1 * 4) 3 3 ⟨w.heap.size, 0, none⟩ 1 4 rfl rfl cur 34 hcur (reps 1 f) (by decide) reps_len HSRC.out (by rw [reps_len]; omega) reps_one ?_
   refine hK _ _ ?_
   clear hK K
   have hr := rep_set (B := w.heap.size) (m := 4) (n := 1) (k := 1) (f := f) hcur hcs hct (by omega)
   have hb2 := below_setRow hB (Nat.le_refl _) (cur.toList.take (1 * 4) ++ reps 1 f ++ cur.toList.drop (1 * 4 + (reps 1 f).length)).toArray
   generalize hW : w2.setRow w.heap.size _ = v2 at *
   clear hW hcur hcs hct HSRC hR2 hB
   refine wpAny_ready (rs := [8]) (by kernel_rfl) (by simp) ?_
   refine AllReady.cons rfl (fun K hK => ?_) AllReady.nil
   go_simp
   refine hK _ _ ?_; clear hK K
   refine wpAny_ready (rs := [9]) (by kernel_rfl) (by simp) ?_
   refine AllReady.cons rfl (fun K hK => ?_) AllReady.nil
   go_simp
   refine hK _ _ ?_; clear hK K
   refine wpAny_done (by kernel_rfl) ?_ _
   refine ⟨rfl, ?_⟩
   go_wp2_with fail
   go_roundg (4 - 2)
   case measure => have h := HGK.out; omega
   case rel => exact ⟨2, .inr (.inl ⟨rfl, rfl⟩), rfl, hr, hb2⟩
  ·go_upto_region 9 with fail
   refine wp_region_F [0] (by kernel_rfl) [] [1, 2, 3, 4, 5, 6] 3 (by kernel_rfl) rfl (fun x h => by cases h) (by kernel_rfl) ?_
   refine ⟨_, _, rfl, .inl ⟨rfl, fun w => rfl⟩, ?_⟩
   show wpS _ _ _ _ _ _ _ (numbered _ _) _ _
   (try simp only [Act.put, List.getElem_toArray, List.getElem_cons_succ, List.getElem_cons_zero, List.setIfInBounds_toArray, List.set_cons_succ, List.set_cons_zero])
   simp only [numbered, List.filterMap_cons, List.filterMap_nil, List.getElem?_toArray, List.getElem?_cons_succ, List.getElem?_cons_zero, Option.map_some]
   show wpS _ _ _ _ _ _ _ [(_, _), (_, _), (_, _), (_, _), (_, _), (_, _)] _ _
   (refine wpS_quiet rfl rfl ?_; intro K hK inst hx; go_big_quiet_op; (first | go_big_quiet_on | (refine ⟨_, fun _ => rfl, ?_⟩; go_big_quiet_on)); clear hx inst)
   (refine wpS_quiet rfl rfl ?_; intro K hK inst hx; go_big_quiet_op; (first | go_big_quiet_on | (refine ⟨_, fun _ => rfl, ?_⟩; go_big_quiet_on)); clear hx inst)
   (refine wpS_quiet rfl rfl ?_; intro K hK inst hx; go_big_quiet_op; (first | go_big_quiet_on | (refine ⟨_, fun _ => rfl, ?_⟩; go_big_quiet_on)); clear hx inst)
   (refine wpS_quiet rfl rfl ?_; intro K hK inst hx; go_big_quiet_op; (first | go_big_quiet_on | (refine ⟨_, fun _ => rfl, ?_⟩; go_big_quiet_on)); clear hx inst)
   (refine wpS_quiet rfl rfl ?_; intro K hK inst hx; go_big_quiet_op; (first | go_big_quiet_on | (refine ⟨_, fun _ => rfl, ?_⟩; go_big_quiet_on)); clear hx inst)
   (refine wpS_quiet rfl rfl ?_; intro K hK inst hx; go_big_quiet_op; (first | go_big_quiet_on | (refine ⟨_, fun _ => rfl, ?_⟩; go_big_quiet_on)); clear hx inst)
   refine wpS_nil ?_
   intro w2 hall
   have hb := hall.1
   clear hall
   replace hB := bnext (w := w) hB hb
   have hR2 := rep_below hR hb
   clear hR hb
   obtain ⟨cur, hcur, hcs, hct⟩ := id hR2
   have hsrc := rep_src (k := 2) hR2 (by omega)
   have HSRC := hid hsrc; clear hsrc
   refine wpAny_ready (rs := [7]) (by kernel_rfl) (by simp) ?_
   refine AllReady.cons rfl (fun K hK => ?_) AllReady.nil
   refine (if_pos (show Region.wanted _ _ = true from rfl)).mpr ?_
   refine wp_copy_K (.tmp 41) (.tmp 44) 38 38 rfl 34 Tryz.underlying38 4 2 (by kernel_rfl) w.heap.size (2 * 4) 2 2 ⟨w.heap.size, 0, none⟩ 2 4 rfl rfl cur 34 hcur (reps 2 f) (by decide) reps_len HSRC.out (by rw [reps_len]; omega) reps_one ?_
   refine hK _ _ ?_
   clear hK K
   have hr := rep_set (B := w.heap.size) (m := 4) (n := 2) (k := 2) (f := f) hcur hcs hct (by omega)
   have hb2 := below_setRow hB (Nat.le_refl _) (cur.toList.take (2 * 4) ++ reps 2 f ++ cur.toList.drop (2 * 4 + (reps 2 f).length)).toArray
   generalize hW : w2.setRow w.heap.size _ = v2 at *
   clear hW hcur hcs hct HSRC hR2 hB
   refine wpAny_ready (rs := [8]) (by kernel_rfl) (by simp) ?_
   refine AllReady.cons rfl (fun K hK => ?_) AllReady.nil
   go_simp
   refine hK _ _ ?_; clear hK K
   refine wpAny_ready (rs := [9]) (by kernel_rfl) (by simp) ?_
   refine AllReady.cons rfl (fun K hK => ?_) AllReady.nil
   go_simp
   refine hK _ _ ?_; clear hK K
   refine wpAny_done (by kernel_rfl) ?_ _
   refine ⟨rfl, ?_⟩
   go_wp2_with fail
   go_roundg (4 - 4)
   case measure => have h := HGK.out; omega
   case rel => exact ⟨4, .inr (.inr (⟨rfl, rfl⟩)), rfl, hr, hb2⟩
  ·go_wp2_with fail
   go_ret
   exact ⟨_, rfl, hB, rep_own hR (Nat.le_refl _) (by omega)⟩
set_option maxRecDepth 100000 in
set_option maxHeartbeats 1000000 in
theorem repeat_5 {w : World} {q : Addr} {cap : Nat} {f : Ft} (hq : ∀ j v, (cellsF f)[j]? = some v → w.cell? (q.add j) = some v) : Calls Tryz.prog 94 #[.slice (some q) 1 cap, .int .i64 5] w (fun e w' => ∃ v, e = .returned v ∧ Below w.heap.size w w' ∧ w'.ownsRow w.heap.size 34 4 v 5 (reps 5 f)) := by
 obtain ⟨i0, hi0, hz0, hz1, hz2⟩ := info_parts Tryz.infoF
 have HQ := hid hq; clear hq
 go_enter Tryz.func94, Tryz.ntmps94
 go_upto_region 7 with (first | (go_at_call 147; refine (mul_5 _).mono ?_; rintro e w' ⟨rfl, rfl⟩) | (at_make; refine wpList_make_full _ rfl _ _ 38 rfl w.heap.size 34 i0 (.agg #[.int .i64 0, .int .i64 0, .int .i64 0, .int .i64 0]) 4 Tryz.underlying38 hi0 hz0 hz1 .i64 .i64 _ _ 5 rfl rfl rfl rfl (by rw [hz2]; omega) (by unfold maxLen; omega) (Nat.le_refl _) ?_; intro w1 ho hg))
 have hb : Below w.heap.size w w1 := (Below.refl _ w).grown hg (Nat.le_refl _) (fun k h => by cases h)
 obtain ⟨cur, hcur, hcs⟩ : ∃ cur, w1.heap[w.heap.size]? = some (.cells cur 34 (0, 0)) ∧ cur.size = 5 * 4 := by
  rcases ho.2 with ⟨h1, _⟩ | ⟨g', cap, cur, h1, _, h3, _, _, h6, _⟩
  ·cases h1
  ·injection h1 with h1 _ h2; injection h1 with h1; injection h1 with h1; subst h1; subst h2; exact ⟨cur, h3, h6⟩
 clear ho hg
 have hsrc : ∀ j u, (reps 1 f)[j]? = some u → w1.cell? (q.add j) = some u := fun j u h => bkeep hb (HQ.out j u (by simpa [reps] using h))
 have HSRC := hid hsrc; clear hsrc
 go_wp2_with (with_reducible refine wpList_copy_K rfl (.tmp 31) (.tmp 32) 38 38 rfl 34 Tryz.underlying38 4 1 (by kernel_rfl) w.heap.size 0 5 5 q 1 cap rfl rfl cur 34 hcur (reps 1 f) (by decide) reps_len HSRC.out (by rw [reps_len]; omega) reps_one ?_)
 have hr := rep_set (B := w.heap.size) (m := 5) (n := 0) (k := 1) (f := f) hcur hcs (by simp [reps]) (by omega)
 have hb2 := below_setRow hb (Nat.le_refl _) (cur.toList.take 0 ++ reps 1 f ++ cur.toList.drop (0 + (reps 1 f).length)).toArray
 simp only [Nat.zero_mul, List.take_zero, List.nil_append, Nat.zero_add] at hr hb2
 generalize hW : w1.setRow w.heap.size (reps 1 f ++ List.drop (reps 1 f).length cur.toList).toArray = v1 at *
 clear hW hcur hcs hb HSRC
 go_loopg [8] (5 - 1) (fun gk nv wr => ∃ n : Nat, ((n = 1 ∧ nv = .int .i64 1) ∨ (n = 2 ∧ nv = .int .i64 2) ∨ (n = 4 ∧ nv = .int .i64 4) ∨ (n = 5 ∧ nv = .int .i64 5)) ∧ gk = 5 - n ∧ RepAt w.heap.size 5 n f 34 wr ∧ Below w.heap.size w wr)
 case atStart => exact ⟨1, .inl ⟨rfl, rfl⟩, rfl, hr, hb2⟩
 case round =>
  clear hr hb2
  obtain ⟨n, hn, hgk, hR, hB⟩ := hrel
  have HGK := hid hgk; clear hgk
  rcases hn with ⟨rfl, rfl⟩ | ⟨rfl, rfl⟩ | ⟨rfl, rfl⟩ | ⟨rfl, rfl⟩
  ·go_upto_region 9 with fail
   refine wp_region_F [0] (by kernel_rfl) [] [1, 2, 3, 4, 5, 6] 3 (by kernel_rfl) rfl (fun x h => by cases h) (by kernel_rfl) ?_
   refine ⟨_, _, rfl, .inl ⟨rfl, fun w => rfl⟩, ?_⟩
   show wpS _ _ _ _ _ _ _ (numbered _ _) _ _
   (try simp only [Act.put, List.getElem_toArray, List.getElem_cons_succ, List.getElem_cons_zero, List.setIfInBounds_toArray, List.set_cons_succ, List.set_cons_zero])
   simp only [numbered, List.filterMap_cons, List.filterMap_nil, List.getElem?_toArray, List.getElem?_cons_succ, List.getElem?_cons_zero, Option.map_some]
   show wpS _ _ _ _ _ _ _ [(_, _), (_, _), (_, _), (_, _), (_, _), (_, _)] _ _
   (refine wpS_quiet rfl rfl ?_; intro K hK inst hx; go_big_quiet_op; (first | go_big_quiet_on | (refine ⟨_, fun _ => rfl, ?_⟩; go_big_quiet_on)); clear hx inst)
   (refine wpS_quiet rfl rfl ?_; intro K hK inst hx; go_big_quiet_op; (first | go_big_quiet_on | (refine ⟨_, fun _ => rfl, ?_⟩; go_big_quiet_on)); clear hx inst)
   (refine wpS_quiet rfl rfl ?_; intro K hK inst hx; go_big_quiet_op; (first | go_big_quiet_on | (refine ⟨_, fun _ => rfl, ?_⟩; go_big_quiet_on)); clear hx inst)
   (refine wpS_quiet rfl rfl ?_; intro K hK inst hx; go_big_quiet_op; (first | go_big_quiet_on | (refine ⟨_, fun _ => rfl, ?_⟩; go_big_quiet_on)); clear hx inst)
   (refine wpS_quiet rfl rfl ?_; intro K hK inst hx; go_big_quiet_op; (first | go_big_quiet_on | (refine ⟨_, fun _ => rfl, ?_⟩; go_big_quiet_on)); clear hx inst)
   (refine wpS_quiet rfl rfl ?_; intro K hK inst hx; go_big_quiet_op; (first | go_big_quiet_on | (refine ⟨_, fun _ => rfl, ?_⟩; go_big_quiet_on)); clear hx inst)
   refine wpS_nil ?_
   intro w2 hall
   have hb := hall.1
   clear hall
   replace hB := bnext (w := w) hB hb
   have hR2 := rep_below hR hb
   clear hR hb
   obtain ⟨cur, hcur, hcs, hct⟩ := id hR2
   have hsrc := rep_src (k := 1) hR2 (by omega)
   have HSRC := hid hsrc; clear hsrc
   refine wpAny_ready (rs := [7]) (by kernel_rfl) (by simp) ?_
   refine AllReady.cons rfl (fun K hK => ?_) AllReady.nil
   refine (if_pos (show Region.wanted _ _ = true from rfl)).mpr ?_
   refine wp_copy_K (.tmp 41) (.tmp 44) 38 38 rfl 34 Tryz.underlying38 4 1 (by kernel_rfl) w.heap.size (1 * 4) 4 4 ⟨w.heap.size, 0, none⟩ 1 5 rfl rfl cur 34 hcur (reps 1 f) (by decide) reps_len HSRC.out (by rw [reps_len]; omega) reps_one ?_
   refine hK _ _ ?_
   clear hK K
   have hr := rep_set (B := w.heap.size) (m := 5) (n := 1) (k := 1) (f := f) hcur hcs hct (by omega)
   have hb2 := below_setRow hB (Nat.le_refl _) (cur.toList.take (1 * 4) ++ reps 1 f ++ cur.toList.drop (1 * 4 + (reps 1 f).length)).toArray
   generalize hW : w2.setRow w.heap.size _ = v2 at *
   clear hW hcur hcs hct HSRC hR2 hB
   refine wpAny_ready (rs := [8]) (by kernel_rfl) (by simp) ?_
   refine AllReady.cons rfl (fun K hK => ?_) AllReady.nil
   go_simp
   refine hK _ _ ?_; clear hK K
   refine wpAny_ready (rs := [9]) (by kernel_rfl) (by simp) ?_
   refine AllReady.cons rfl (fun K hK => ?_) AllReady.nil
   go_simp
   refine hK _ _ ?_; clear hK K
   refine wpAny_done (by kernel_rfl) ?_ _
   refine ⟨rfl, ?_⟩
   go_wp2_with fail
   go_roundg (5 - 2)
   case measure => have h := HGK.out; omega
   case rel => exact ⟨2, .inr (.inl ⟨rfl, rfl⟩), rfl, hr, hb2⟩
  ·go_upto_region 9 with fail
   refine wp_region_F [0] (by kernel_rfl) [] [1, 2, 3, 4, 5, 6] 3 (by kernel_rfl) rfl (fun x h => by cases h) (by kernel_rfl) ?_
   refine ⟨_, _, rfl, .inl ⟨rfl, fun w => rfl⟩, ?_⟩
   show wpS _ _ _ _ _ _ _ (numbered _ _) _ _
   (try simp only [Act.put, List.getElem_toArray, List.getElem_cons_succ, List.getElem_cons_zero, List.setIfInBounds_toArray, List.set_cons_succ, List.set_cons_zero])
   simp only [numbered, List.filterMap_cons, List.filterMap_nil, List.getElem?_toArray, List.getElem?_cons_succ, List.getElem?_cons_zero, Option.map_some]
   show wpS _ _ _ _ _ _ _ [(_, _), (_, _), (_, _), (_, _), (_, _), (_, _)] _ _
   (refine wpS_quiet rfl rfl ?_; intro K hK inst hx; go_big_quiet_op; (first | go_big_quiet_on | (refine ⟨_, fun _ => rfl, ?_⟩; go_big_quiet_on)); clear hx inst)
   (refine wpS_quiet rfl rfl ?_; intro K hK inst hx; go_big_quiet_op; (first | go_big_quiet_on | (refine ⟨_, fun _ => rfl, ?_⟩; go_big_quiet_on)); clear hx inst)
   (refine wpS_quiet rfl rfl ?_; intro K hK inst hx; go_big_quiet_op; (first | go_big_quiet_on | (refine ⟨_, fun _ => rfl, ?_⟩; go_big_quiet_on)); clear hx inst)
   (refine wpS_quiet rfl rfl ?_; intro K hK inst hx; go_big_quiet_op; (first | go_big_quiet_on | (refine ⟨_, fun _ => rfl, ?_⟩; go_big_quiet_on)); clear hx inst)
   (refine wpS_quiet rfl rfl ?_; intro K hK inst hx; go_big_quiet_op; (first | go_big_quiet_on | (refine ⟨_, fun _ => rfl, ?_⟩; go_big_quiet_on)); clear hx inst)
   (refine wpS_quiet rfl rfl ?_; intro K hK inst hx; go_big_quiet_op; (first | go_big_quiet_on | (refine ⟨_, fun _ => rfl, ?_⟩; go_big_quiet_on)); clear hx inst)
   refine wpS_nil ?_
   intro w2 hall
   have hb := hall.1
   clear hall
   replace hB := bnext (w := w) hB hb
   have hR2 := rep_below hR hb
   clear hR hb
   obtain ⟨cur, hcur, hcs, hct⟩ := id hR2
   have hsrc := rep_src (k := 2) hR2 (by omega)
   have HSRC := hid hsrc; clear hsrc
   refine wpAny_ready (rs := [7]) (by kernel_rfl) (by simp) ?_
   refine AllReady.cons rfl (fun K hK => ?_) AllReady.nil
   refine (if_pos (show Region.wanted _ _ = true from rfl)).mpr ?_
   refine wp_copy_K (.tmp 41) (.tmp 44) 38 38 rfl 34 Tryz.underlying38 4 2 (by kernel_rfl) w.heap.size (2 * 4) 3 3 ⟨w.heap.size, 0, none⟩ 2 5 rfl rfl cur 34 hcur (reps 2 f) (by decide) reps_len HSRC.out (by rw [reps_len]; omega) reps_one ?_
   refine hK _ _ ?_
   clear hK K
   have hr := rep_set (B := w.heap.size) (m := 5) (n := 2) (k := 2) (f := f) hcur hcs hct (by omega)
   have hb2 := below_setRow hB (Nat.le_refl _) (cur.toList.take (2 * 4) ++ reps 2 f ++ cur.toList.drop (2 * 4 + (reps 2 f).length)).toArray
   generalize hW : w2.setRow w.heap.size _ = v2 at *
   clear hW hcur hcs hct HSRC hR2 hB
   refine wpAny_ready (rs := [8]) (by kernel_rfl) (by simp) ?_
   refine AllReady.cons rfl (fun K hK => ?_) AllReady.nil
   go_simp
   refine hK _ _ ?_; clear hK K
   refine wpAny_ready (rs := [9]) (by kernel_rfl) (by simp) ?_
   refine AllReady.cons rfl (fun K hK => ?_) AllReady.nil
   go_simp
   refine hK _ _ ?_; clear hK K
   refine wpAny_done (by kernel_rfl) ?_ _
   refine ⟨rfl, ?_⟩
   go_wp2_with fail
   go_roundg (5 - 4)
   case measure => have h := HGK.out; omega
   case rel => exact ⟨4, .inr (.inr (.inl ⟨rfl, rfl⟩)), rfl, hr, hb2⟩
  ·go_upto_region 9 with fail
   refine wp_region_F [0] (by kernel_rfl) [] [1, 2, 3, 4, 5, 6] 3 (by kernel_rfl) rfl (fun x h => by cases h) (by kernel_rfl) ?_
   refine ⟨_, _, rfl, .inl ⟨rfl, fun w => rfl⟩, ?_⟩
   show wpS _ _ _ _ _ _ _ (numbered _ _) _ _
   (try simp only [Act.put, List.getElem_toArray, List.getElem_cons_succ, List.getElem_cons_zero, List.setIfInBounds_toArray, List.set_cons_succ, List.set_cons_zero])
   simp only [numbered, List.filterMap_cons, List.filterMap_nil, List.getElem?_toArray, List.getElem?_cons_succ, List.getElem?_cons_zero, Option.map_some]
   show wpS _ _ _ _ _ _ _ [(_, _), (_, _), (_, _), (_, _), (_, _), (_, _)] _ _
   (refine wpS_quiet rfl rfl ?_; intro K hK inst hx; go_big_quiet_op; (first | go_big_quiet_on | (refine ⟨_, fun _ => rfl, ?_⟩; go_big_quiet_on)); clear hx inst)
   (refine wpS_quiet rfl rfl ?_; intro K hK inst hx; go_big_quiet_op; (first | go_big_quiet_on | (refine ⟨_, fun _ => rfl, ?_⟩; go_big_quiet_on)); clear hx inst)
   (refine wpS_quiet rfl rfl ?_; intro K hK inst hx; go_big_quiet_op; (first | go_big_quiet_on | (refine ⟨_, fun _ => rfl, ?_⟩; go_big_quiet_on)); clear hx inst)
   (refine wpS_quiet rfl rfl ?_; intro K hK inst hx; go_big_quiet_op; (first | go_big_quiet_on | (refine ⟨_, fun _ => rfl, ?_⟩; go_big_quiet_on)); clear hx inst)
   (refine wpS_quiet rfl rfl ?_; intro K hK inst hx; go_big_quiet_op; (first | go_big_quiet_on | (refine ⟨_, fun _ => rfl, ?_⟩; go_big_quiet_on)); clear hx inst)
   (refine wpS_quiet rfl rfl ?_; intro K hK inst hx; go_big_quiet_op; (first | go_big_quiet_on | (refine ⟨_, fun _ => rfl, ?_⟩; go_big_quiet_on)); clear hx inst)
   refine wpS_nil ?_
   intro w2 hall
   have hb := hall.1
   clear hall
   replace hB := bnext (w := w) hB hb
   have hR2 := rep_below hR hb
   clear hR hb
   obtain ⟨cur, hcur, hcs, hct⟩ := id hR2
   have hsrc := rep_src (k := 1) hR2 (by omega)
   have HSRC := hid hsrc; clear hsrc
   refine wpAny_ready (rs := [7]) (by kernel_rfl) (by simp) ?_
   refine AllReady.cons rfl (fun K hK => ?_) AllReady.nil
   refine (if_pos (show Region.wanted _ _ = true from rfl)).mpr ?_
   refine wp_copy_K (.tmp 41) (.tmp 44) 38 38 rfl 34 Tryz.underlying38 4 1 (by kernel_rfl) w.heap.size (4 * 4) 1 1 ⟨w.heap.size, 0, none⟩ 4 5 rfl rfl cur 34 hcur (reps 1 f) (by decide) reps_len HSRC.out (by rw [reps_len]; omega) reps_one ?_
   refine hK _ _ ?_
   clear hK K
   have hr := rep_set (B := w.heap.size) (m := 5) (n := 4) (k := 1) (f := f) hcur hcs hct (by omega)
   have hb2 := below_setRow hB (Nat.le_refl _) (cur.toList.take (4 * 4) ++ reps 1 f ++ cur.toList.drop (4 * 4 + (reps 1 f).length)).toArray
   generalize hW : w2.setRow w.heap.size _ = v2 at *
   clear hW hcur hcs hct HSRC hR2 hB
   refine wpAny_ready (rs := [8]) (by kernel_rfl) (by simp) ?_
   refine AllReady.cons rfl (fun K hK => ?_) AllReady.nil
   go_simp
   refine hK _ _ ?_; clear hK K
   refine wpAny_ready (rs := [9]) (by kernel_rfl) (by simp) ?_
   refine AllReady.cons rfl (fun K hK => ?_) AllReady.nil
   go_simp
   refine hK _ _ ?_; clear hK K
   refine wpAny_done (by kernel_rfl) ?_ _
   refine ⟨rfl, ?_⟩
   go_wp2_with fail
   go_roundg (5 - 5)
   case measure => have h := HGK.out; omega
   case rel => exact ⟨5, .inr (.inr (.inr (⟨rfl, rfl⟩))), rfl, hr, hb2⟩
  ·go_wp2_with fail
   go_ret
   exact ⟨_, rfl, hB, rep_own hR (Nat.le_refl _) (by omega)⟩
end Go.Proofs.YtodmidchpbcnpaaGreat