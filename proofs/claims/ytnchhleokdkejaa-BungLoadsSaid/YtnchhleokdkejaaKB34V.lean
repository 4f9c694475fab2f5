/- Loads of bungs, on both sides. -/
import Derived.Test.YtnchhleokdkejaaKB21V
import Derived.Test.YtnchhleokdkejaaKSuV
import Derived.Laws.AppendOwn
import Derived.OwnWalk
namespace Go.Proofs.Ytnchhleokdkejaa
open Go.RowKit Go.Pb Go.Pb.Ware Go.Pb.Sag
set_option linter.unusedVariables false
set_option linter.unusedSimpArgs false

open Go.Pb.Bung
def LdRes (r : List (List Int) × Int) (W : World) (e : Ending) (w' : World) : Prop := ∃ u, e = .returned (.tuple #[u, .int .i64 r.2]) ∧ Below W.heap.size W w' ∧ RowsAt 2 w' u r.1
def CrRes (r : List Int × Int) (W : World) (e : Ending) (w' : World) : Prop := ∃ u, e = .returned (.tuple #[u, .int .i64 r.2]) ∧ Below W.heap.size W w' ∧ NumsAt w' u r.1
theorem rowsAt_nil {n : Nat} (W : World) : RowsAt n W (.slice none 0 0) [] := .inl ⟨rfl, rfl⟩
theorem numsAt_nil (W : World) : NumsAt W (.slice none 0 0) [] := .inl ⟨rfl, rfl⟩
def ldRows (l : List Sg) (k : Nat) : List (List Int) := (List.range k).map fun i => [loadL l i, loadH l i]
theorem ldRows_next (l : List Sg) (k : Nat) : (ldRows l (k + 1)).flatten.map (Value.int .i64) = (ldRows l k).flatten.map (Value.int .i64) ++ [.int .i64 (loadL l k), .int .i64 (loadH l k)] := by
  unfold ldRows
  rw [List.range_succ, List.map_append, List.flatten_append, List.map_append]
  rfl
theorem ldRows_len (l : List Sg) (k : Nat) : (ldRows l k).length = k := by unfold ldRows; simp
def crNums (l : List Sg) (k : Nat) : List Int := (List.range k).map (ansL l)
theorem crNums_next (l : List Sg) (k : Nat) : (crNums l (k + 1)).map (Value.int .i64) = (crNums l k).map (Value.int .i64) ++ [.int .i64 (ansL l k)] := by
  unfold crNums
  rw [List.range_succ, List.map_append, List.map_append]
  rfl
theorem crNums_len (l : List Sg) (k : Nat) : (crNums l k).length = k := by unfold crNums; simp
theorem ld_i64 {l : List Sg} (hl : l.length ≤ 30) (h : ∀ s ∈ l, 0 ≤ s.wl ∧ s.wl ≤ 10000000 ∧ 0 ≤ s.wh ∧ s.wh ≤ 10000000) (i : Nat) : I64 (loadL l i) ∧ I64 (loadH l i) := by
  have := load_small h i
  exact ⟨I64.mk (by omega) (by omega), I64.mk (by omega) (by omega)⟩

theorem rLoad_at {w : World} {v : Value} {l : List Sg} {c : Nat} {x y : Int} (h : RowsAt 8 w v (l.map rowG)) (hl : l.length ≤ 30) (hc : c < l.length) (hs : ∀ s ∈ l, 0 ≤ s.wl ∧ s.wl ≤ 10000000 ∧ 0 ≤ s.wh ∧ s.wh ≤ 10000000) (hx : loadL l c = x) (hy : loadH l c = y) : Calls Try.prog 85 #[v, .int .i64 (c : Int)] w (Ret w (.agg #[.int .i64 x, .int .i64 y])) := by
  subst hx; subst hy; exact rLoad_any h hl hc hs
set_option maxRecDepth 100000 in
set_option maxHeartbeats 800000 in
theorem loadsP {w : World} {v : Value} {l : List Sg} {wl wh : Int} (h : RowsAt 8 w v (l.map rowG)) {r : _} (hr : ldA wl wh l = r) :
    Calls Try.prog 28 #[.agg #[.int .i64 wl, .int .i64 wh, v]] w (LdRes r w) := by
  obtain ⟨a, cap, rfl, hll⟩ := h.shape
  rw [List.length_map] at hll ⊢
  obtain ⟨n, hn⟩ : ∃ n, l.length = n := ⟨_, rfl⟩
  have HN : Hid (l.length = n) := hn
  rw [List.length_map] at h
  have HH : Hid (RowsAt 8 w (.slice a l.length cap) (l.map rowG)) := h
  obtain ⟨b, hb⟩ : ∃ b, bungOk wl wh l = b := ⟨_, rfl⟩
  have hcb : ckBg wl wh l = if b = true then 0 else 31 := by unfold ckBg; rw [hb]
  have hr2 : r = if b = true then ((List.range l.length).map (fun i => [loadL l i, loadH l i]), 0) else ([], 31) := by rw [← hr]; unfold ldA; rw [hb]
  clear hr
  unfold LdRes
  cases b
  · rw [if_neg (by simp)] at hcb hr2
    subst hr2
    have HC := hid hcb; clear hcb
    rw [hn] at h hll ⊢
    go_enter Try.func28, Try.ntmps28
    go_wp2_with fail
    refine (ckBg_any (h.below (by go_grown)) HC.out).mono ?_
    rintro e w1 ⟨rfl, hb⟩
    replace hb0 := bnext (w := w) (by go_grown) hb; have hz := hb.size; (try simp only [World.size_alloc, World.size_setCell] at hz); replace q0 : w1.cell? ⟨w.heap.size, 0, none⟩ = some (.int .i64 wl) := bkeep hb (by first | (with_reducible exact q0) | (with_reducible exact akeep q0) | simp [*, go_sem]); replace q1 : w1.cell? ⟨w.heap.size, 1, none⟩ = some (.int .i64 wh) := bkeep hb (by first | (with_reducible exact q1) | (with_reducible exact akeep q1) | simp [*, go_sem]); replace q2 : w1.cell? ⟨w.heap.size, 2, none⟩ = some (.slice a n cap) := bkeep hb (by first | (with_reducible exact q2) | (with_reducible exact akeep q2) | simp [*, go_sem]); skip
    clear hb
    go_wp2_with fail
    go_ret2
    exact ⟨_, rfl, by first | exact hb0 | go_grown, rowsAt_nil _⟩
  · rw [if_pos rfl] at hr2
    subst hr2
    refine (Loads_good h hb).mono ?_
    rintro e w' ⟨u, rfl, hb, hu⟩
    exact ⟨u, rfl, hb, hu⟩

set_option maxRecDepth 100000 in
set_option maxHeartbeats 800000 in
theorem coursesP {w : World} {v : Value} {l : List Sg} {wl wh : Int} (h : RowsAt 8 w v (l.map rowG)) {r : _} (hr : crA wl wh l = r) :
    Calls Try.prog 30 #[.agg #[.int .i64 wl, .int .i64 wh, v]] w (CrRes r w) := by
  obtain ⟨a, cap, rfl, hll⟩ := h.shape
  rw [List.length_map] at hll ⊢
  obtain ⟨n, hn⟩ : ∃ n, l.length = n := ⟨_, rfl⟩
  have HN : Hid (l.length = n) := hn
  rw [List.length_map] at h
  have HH : Hid (RowsAt 8 w (.slice a l.length cap) (l.map rowG)) := h
  obtain ⟨b, hb⟩ : ∃ b, bungOk wl wh l = b := ⟨_, rfl⟩
  have hcb : ckBg wl wh l = if b = true then 0 else 31 := by unfold ckBg; rw [hb]
  have hr2 : r = if b = true then ((List.range l.length).map (ansL l), 0) else ([], 31) := by rw [← hr]; unfold crA; rw [hb]
  clear hr
  unfold CrRes
  cases b
  · rw [if_neg (by simp)] at hcb hr2
    subst hr2
    have HC := hid hcb; clear hcb
    rw [hn] at h hll ⊢
    go_enter Try.func30, Try.ntmps30
    go_wp2_with fail
    refine (ckBg_any (h.below (by go_grown)) HC.out).mono ?_
    rintro e w1 ⟨rfl, hb⟩
    replace hb0 := bnext (w := w) (by go_grown) hb; have hz := hb.size; (try simp only [World.size_alloc, World.size_setCell] at hz); replace q0 : w1.cell? ⟨w.heap.size, 0, none⟩ = some (.int .i64 wl) := bkeep hb (by first | (with_reducible exact q0) | (with_reducible exact akeep q0) | simp [*, go_sem]); replace q1 : w1.cell? ⟨w.heap.size, 1, none⟩ = some (.int .i64 wh) := bkeep hb (by first | (with_reducible exact q1) | (with_reducible exact akeep q1) | simp [*, go_sem]); replace q2 : w1.cell? ⟨w.heap.size, 2, none⟩ = some (.slice a n cap) := bkeep hb (by first | (with_reducible exact q2) | (with_reducible exact akeep q2) | simp [*, go_sem]); skip
    clear hb
    go_wp2_with fail
    go_ret2
    exact ⟨_, rfl, by first | exact hb0 | go_grown, numsAt_nil _⟩
  · rw [if_pos rfl] at hr2
    subst hr2
    have HC := hid hcb; have HL := hid (bungOk_len hb); have HK := hid (bungOk_list hb); clear hcb hb
    rw [hn] at h hll ⊢
    go_enter Try.func30, Try.ntmps30
    go_wp2_with fail
    refine (ckBg_any (h.below (by go_grown)) HC.out).mono ?_
    rintro e w1 ⟨rfl, hb⟩
    replace hb0 := bnext (w := w) (by go_grown) hb; have hz := hb.size; (try simp only [World.size_alloc, World.size_setCell] at hz); replace q0 : w1.cell? ⟨w.heap.size, 0, none⟩ = some (.int .i64 wl) := bkeep hb (by first | (with_reducible exact q0) | (with_reducible exact akeep q0) | simp [*, go_sem]); replace q1 : w1.cell? ⟨w.heap.size, 1, none⟩ = some (.int .i64 wh) := bkeep hb (by first | (with_reducible exact q1) | (with_reducible exact akeep q1) | simp [*, go_sem]); replace q2 : w1.cell? ⟨w.heap.size, 2, none⟩ = some (.slice a n cap) := bkeep hb (by first | (with_reducible exact q2) | (with_reducible exact akeep q2) | simp [*, go_sem]); skip
    clear hb
    go_wp2_with fail
    refine (courses_any (l := l) (h.below hb0) HL.out (sg_bounds HK.out)).mono ?_
    rintro e w3 ⟨u, rfl, hb, hu⟩
    replace hb0 := bnext (w := w) hb0 hb
    go_wp2_with fail
    go_ret2
    exact ⟨u, rfl, hb0, by rw [← HN.out]; exact hu⟩

set_option maxRecDepth 100000 in
set_option maxHeartbeats 1000000 in
theorem rLoadsP {w : World} {v : Value} {l : List Sg} {wl wh : Int} (h : RowsAt 8 w v (l.map rowG)) {r : _} (hr : ldA wl wh l = r) :
    Calls Try.prog 29 #[.agg #[.int .i64 wl, .int .i64 wh, v]] w (LdRes r w) := by
  obtain ⟨i0, hi0, hz0, hz1, hz2⟩ := info_parts Try.infoRng
  obtain ⟨a, cap, rfl, hll⟩ := h.shape
  rw [List.length_map] at hll ⊢
  obtain ⟨n, hn⟩ : ∃ n, l.length = n := ⟨_, rfl⟩
  have HN : Hid (l.length = n) := hn
  rw [List.length_map] at h
  have HH : Hid (RowsAt 8 w (.slice a l.length cap) (l.map rowG)) := h
  obtain ⟨b, hb⟩ : ∃ b, bungOk wl wh l = b := ⟨_, rfl⟩
  have hcb : ckBg wl wh l = if b = true then 0 else 31 := by unfold ckBg; rw [hb]
  have hr2 : r = if b = true then ((List.range l.length).map (fun i => [loadL l i, loadH l i]), 0) else ([], 31) := by rw [← hr]; unfold ldA; rw [hb]
  clear hr
  unfold LdRes
  cases b
  · rw [if_neg (by simp)] at hcb hr2
    subst hr2
    have HC := hid hcb; clear hcb
    rw [hn] at h hll ⊢
    go_enter Try.func29, Try.ntmps29
    go_wp2_with fail
    refine (rCkBg (h.below (by go_grown)) HC.out).mono ?_
    rintro e w1 ⟨rfl, hb⟩
    replace hb0 := bnext (w := w) (by go_grown) hb; have hz := hb.size; (try simp only [World.size_alloc, World.size_setCell] at hz); replace q0 : w1.cell? ⟨w.heap.size, 0, none⟩ = some (.int .i64 wl) := bkeep hb (by first | (with_reducible exact q0) | (with_reducible exact akeep q0) | simp [*, go_sem]); replace q1 : w1.cell? ⟨w.heap.size, 1, none⟩ = some (.int .i64 wh) := bkeep hb (by first | (with_reducible exact q1) | (with_reducible exact akeep q1) | simp [*, go_sem]); replace q2 : w1.cell? ⟨w.heap.size, 2, none⟩ = some (.slice a n cap) := bkeep hb (by first | (with_reducible exact q2) | (with_reducible exact akeep q2) | simp [*, go_sem]); skip
    clear hb
    go_wp2_with fail
    go_ret2
    exact ⟨_, rfl, by first | exact hb0 | go_grown, rowsAt_nil _⟩
  · rw [if_pos rfl] at hcb hr2
    subst hr2
    have HC := hid hcb; have HL := hid (bungOk_len hb); have HK := hid (bungOk_list hb); clear hcb hb
    have hl30 : n ≤ 30 := by rw [← hn]; exact HL.out
    rw [hn] at h hll ⊢
    clear hn
    go_enter Try.func29, Try.ntmps29
    go_wp2_with fail
    refine (rCkBg (h.below (by go_grown)) HC.out).mono ?_
    rintro e w1 ⟨rfl, hb⟩
    replace hb0 := bnext (w := w) (by go_grown) hb; have hz := hb.size; (try simp only [World.size_alloc, World.size_setCell] at hz); replace q0 : w1.cell? ⟨w.heap.size, 0, none⟩ = some (.int .i64 wl) := bkeep hb (by first | (with_reducible exact q0) | (with_reducible exact akeep q0) | simp [*, go_sem]); replace q1 : w1.cell? ⟨w.heap.size, 1, none⟩ = some (.int .i64 wh) := bkeep hb (by first | (with_reducible exact q1) | (with_reducible exact akeep q1) | simp [*, go_sem]); replace q2 : w1.cell? ⟨w.heap.size, 2, none⟩ = some (.slice a n cap) := bkeep hb (by first | (with_reducible exact q2) | (with_reducible exact akeep q2) | simp [*, go_sem]); skip
    clear hb
    go_wp2_with fail
    go_loopg [4, 5] n (fun gk fv iv wr => ∃ k : Nat, k ≤ n ∧ gk = n - k ∧ iv = .int .i64 k ∧ wr.ownsRow (w.heap.size + 1) 23 2 fv k ((ldRows l k).flatten.map (Value.int .i64)) ∧ Below w.heap.size w wr ∧ wr.cell? ⟨w.heap.size, 0, none⟩ = some (.int .i64 wl) ∧ wr.cell? ⟨w.heap.size, 1, none⟩ = some (.int .i64 wh) ∧ wr.cell? ⟨w.heap.size, 2, none⟩ = some (.slice a n cap))
    case atStart => exact ⟨0, Nat.zero_le _, rfl, rfl, World.ownsRow_nil _ _ _ _, hb0, q0, q1, q2⟩
    case round =>
      clear hb0 q0 q1 q2
      obtain ⟨k, hk, hgk, rfl, ho, hb0, q0, q1, q2⟩ := hrel
      have HGK := hid hgk; clear hgk
      obtain ⟨ua, uc, rfl, hul⟩ := owns_shape ho
      have hzr : w.heap.size < wr.heap.size := World.block_lt_of_cell? wr ⟨w.heap.size, 0, none⟩ q0
      by_cases hlt : k < n
      · have hki : (k : Int) < (n : Int) := by omega
        obtain ⟨x, hx⟩ : ∃ x, loadL l k = x := ⟨_, rfl⟩
        obtain ⟨y, hy⟩ : ∃ y, loadH l k = y := ⟨_, rfl⟩
        have hnx := ldRows_next l k
        rw [hx, hy] at hnx
        have HNX := hid hnx; have HX := hid hx; have HY := hid hy; clear hnx hx hy
        go_wp2_with fail
        refine (rLoad_at (l := l) (c := k) (h.below hb0) (by rw [HN.out]; exact hl30) (by rw [HN.out]; exact hlt) (sg_bounds HK.out) HX.out HY.out).mono ?_
        rintro e w1 ⟨rfl, hb⟩
        replace ho := owns_below ho hb
        replace hb0 := bnext (w := w) hb0 hb
        replace q0 := bkeep hb q0; replace q1 := bkeep hb q1; replace q2 := bkeep hb q2
        have hz1' : w.heap.size < w1.heap.size := World.block_lt_of_cell? w1 ⟨w.heap.size, 0, none⟩ q0
        clear hb
        go_wp2_with (at_builtin; go_must (refine wpList_append_own _ rfl _ _ 38 rfl (w.heap.size + 1) 23 i0 (.agg #[.int .i64 0, .int .i64 0]) 2 16 Try.underlying38 hi0 hz0 hz1 hz2 rfl (by decide) _ _ _ rfl (ho.alloc _) ⟨w1.heap.size, 0, none⟩ 1 1 [.int .i64 x, .int .i64 y] rfl rfl (fun j u h => by rw [Go.WideShapes.add_plain, Nat.zero_add]; exact (CellsAt.new w1 [.int .i64 x, .int .i64 y] 23 j u h).1) (fun u h => by simp only [List.mem_cons, List.not_mem_nil, or_false] at h; rcases h with rfl | rfl <;> rfl) (by unfold maxLen; omega) (by omega) (by simp; omega) ?_; intro v' w4 ho4 hg4 hnil))
        have hb4 := Pb.below_grown (hb0.alloc (by omega) (.cells #[.int .i64 x, .int .i64 y] 23)) hg4 (ho.alloc _) (by simp; omega) (by omega)
        have hkp : ∀ (o : Nat) (u : Value), w1.cell? ⟨w.heap.size, o, none⟩ = some u → w4.cell? ⟨w.heap.size, o, none⟩ = some u := fun o u hu => grown_kept hg4 (akeep hu) (fun e => by have h9 := (World.ownsRow.lt (ho.alloc (.cells #[.int .i64 x, .int .i64 y] 23)) _ e.symm).1; omega)
        go_roundg (n - (k + 1))
        case measure => have h := HGK.out; omega
        case rel => exact ⟨k + 1, by omega, rfl, by go_num, by rw [HNX.out]; exact ho4, hb4, hkp _ _ q0, hkp _ _ q1, hkp _ _ q2⟩
      · obtain rfl : k = n := by omega
        go_wp2_with fail
        go_ret2
        have hi := ld_i64 HL.out (sg_bounds HK.out)
        exact ⟨_, rfl, hb0, by (try rw [HN.out]); exact rowsAt_of_owns (rows := ldRows l k) (fun r hr => by unfold ldRows at hr; obtain ⟨i, _, rfl⟩ := List.mem_map.1 hr; rfl) (by rw [ldRows_len]; exact ho) (fun r hr z hz => by unfold ldRows at hr; obtain ⟨i, _, rfl⟩ := List.mem_map.1 hr; simp only [List.mem_cons, List.not_mem_nil, or_false] at hz; rcases hz with rfl | rfl; exact (hi i).1; exact (hi i).2)⟩

set_option maxRecDepth 100000 in
set_option maxHeartbeats 1000000 in
theorem rCoursesP {w : World} {v : Value} {l : List Sg} {wl wh : Int} (h : RowsAt 8 w v (l.map rowG)) {r : _} (hr : crA wl wh l = r) :
    Calls Try.prog 31 #[.agg #[.int .i64 wl, .int .i64 wh, v]] w (CrRes r w) := by
  obtain ⟨i0, hi0, hz0, hz1, hz2⟩ := info_parts Try.infoInt
  obtain ⟨a, cap, rfl, hll⟩ := h.shape
  rw [List.length_map] at hll ⊢
  obtain ⟨n, hn⟩ : ∃ n, l.length = n := ⟨_, rfl⟩
  have HN : Hid (l.length = n) := hn
  rw [List.length_map] at h
  have HH : Hid (RowsAt 8 w (.slice a l.length cap) (l.map rowG)) := h
  obtain ⟨b, hb⟩ : ∃ b, bungOk wl wh l = b := ⟨_, rfl⟩
  have hcb : ckBg wl wh l = if b = true then 0 else 31 := by unfold ckBg; rw [hb]
  have hr2 : r = if b = true then ((List.range l.length).map (ansL l), 0) else ([], 31) := by rw [← hr]; unfold crA; rw [hb]
  clear hr
  unfold CrRes
  cases b
  · rw [if_neg (by simp)] at hcb hr2
    subst hr2
    have HC := hid hcb; clear hcb
    rw [hn] at h hll ⊢
    go_enter Try.func31, Try.ntmps31
    go_wp2_with fail
    refine (rCkBg (h.below (by go_grown)) HC.out).mono ?_
    rintro e w1 ⟨rfl, hb⟩
    replace hb0 := bnext (w := w) (by go_grown) hb; have hz := hb.size; (try simp only [World.size_alloc, World.size_setCell] at hz); replace q0 : w1.cell? ⟨w.heap.size, 0, none⟩ = some (.int .i64 wl) := bkeep hb (by first | (with_reducible exact q0) | (with_reducible exact akeep q0) | simp [*, go_sem]); replace q1 : w1.cell? ⟨w.heap.size, 1, none⟩ = some (.int .i64 wh) := bkeep hb (by first | (with_reducible exact q1) | (with_reducible exact akeep q1) | simp [*, go_sem]); replace q2 : w1.cell? ⟨w.heap.size, 2, none⟩ = some (.slice a n cap) := bkeep hb (by first | (with_reducible exact q2) | (with_reducible exact akeep q2) | simp [*, go_sem]); skip
    clear hb
    go_wp2_with fail
    go_ret2
    exact ⟨_, rfl, by first | exact hb0 | go_grown, numsAt_nil _⟩
  · rw [if_pos rfl] at hcb hr2
    subst hr2
    have HC := hid hcb; have HL := hid (bungOk_len hb); have HK := hid (bungOk_list hb); clear hcb hb
    have hl30 : n ≤ 30 := by rw [← hn]; exact HL.out
    rw [hn] at h hll ⊢
    clear hn
    go_enter Try.func31, Try.ntmps31
    go_wp2_with fail
    refine (rCkBg (h.below (by go_grown)) HC.out).mono ?_
    rintro e w1 ⟨rfl, hb⟩
    replace hb0 := bnext (w := w) (by go_grown) hb; have hz := hb.size; (try simp only [World.size_alloc, World.size_setCell] at hz); replace q0 : w1.cell? ⟨w.heap.size, 0, none⟩ = some (.int .i64 wl) := bkeep hb (by first | (with_reducible exact q0) | (with_reducible exact akeep q0) | simp [*, go_sem]); replace q1 : w1.cell? ⟨w.heap.size, 1, none⟩ = some (.int .i64 wh) := bkeep hb (by first | (with_reducible exact q1) | (with_reducible exact akeep q1) | simp [*, go_sem]); replace q2 : w1.cell? ⟨w.heap.size, 2, none⟩ = some (.slice a n cap) := bkeep hb (by first | (with_reducible exact q2) | (with_reducible exact akeep q2) | simp [*, go_sem]); skip
    clear hb
    go_wp2_with fail
    go_loopg [4, 5] n (fun gk fv iv wr => ∃ k : Nat, k ≤ n ∧ gk = n - k ∧ iv = .int .i64 k ∧ wr.ownsRow (w.heap.size + 1) 3 1 fv k ((crNums l k).map (Value.int .i64)) ∧ Below w.heap.size w wr ∧ wr.cell? ⟨w.heap.size, 0, none⟩ = some (.int .i64 wl) ∧ wr.cell? ⟨w.heap.size, 1, none⟩ = some (.int .i64 wh) ∧ wr.cell? ⟨w.heap.size, 2, none⟩ = some (.slice a n cap))
    case atStart => exact ⟨0, Nat.zero_le _, rfl, rfl, World.ownsRow_nil _ _ _ _, hb0, q0, q1, q2⟩
    case round =>
      clear hb0 q0 q1 q2
      obtain ⟨k, hk, hgk, rfl, ho, hb0, q0, q1, q2⟩ := hrel
      have HGK := hid hgk; clear hgk
      obtain ⟨ua, uc, rfl, hul⟩ := owns_shape ho
      have hzr : w.heap.size < wr.heap.size := World.block_lt_of_cell? wr ⟨w.heap.size, 0, none⟩ q0
      by_cases hlt : k < n
      · have hki : (k : Int) < (n : Int) := by omega
        obtain ⟨x, hx⟩ : ∃ x, ansL l k = x := ⟨_, rfl⟩
        have hnx := crNums_next l k
        rw [hx] at hnx
        have HNX := hid hnx; have HX := hid hx; clear hnx hx
        go_wp2_with fail
        refine (rAns_any (l := l) (c := k) (r := x) (h.below hb0) (by rw [HN.out]; exact hl30) (by rw [HN.out]; exact hlt) (sg_bounds HK.out) HX.out).mono ?_
        rintro e w1 ⟨rfl, hb⟩
        replace ho := owns_below ho hb
        replace hb0 := bnext (w := w) hb0 hb
        replace q0 := bkeep hb q0; replace q1 := bkeep hb q1; replace q2 := bkeep hb q2
        have hz1' : w.heap.size < w1.heap.size := World.block_lt_of_cell? w1 ⟨w.heap.size, 0, none⟩ q0
        clear hb
        go_wp2_with (at_builtin; go_must (refine wpList_append_own _ rfl _ _ 41 rfl (w.heap.size + 1) 3 i0 (.int .i64 0) 1 8 Try.underlying41 hi0 hz0 hz1 hz2 rfl (by decide) _ _ _ rfl (ho.alloc _) ⟨w1.heap.size, 0, none⟩ 1 1 [.int .i64 x] rfl rfl (fun j u h => by rw [Go.WideShapes.add_plain, Nat.zero_add]; exact (CellsAt.new w1 [.int .i64 x] 3 j u h).1) (fun u h => by simp only [List.mem_cons, List.not_mem_nil, or_false] at h; rcases h with rfl; rfl) (by unfold maxLen; omega) (by omega) (by simp; omega) ?_; intro v' w4 ho4 hg4 hnil))
        have hb4 := Pb.below_grown (hb0.alloc (by omega) (.cells #[.int .i64 x] 3)) hg4 (ho.alloc _) (by simp; omega) (by omega)
        have hkp : ∀ (o : Nat) (u : Value), w1.cell? ⟨w.heap.size, o, none⟩ = some u → w4.cell? ⟨w.heap.size, o, none⟩ = some u := fun o u hu => grown_kept hg4 (akeep hu) (fun e => by have h9 := (World.ownsRow.lt (ho.alloc (.cells #[.int .i64 x] 3)) _ e.symm).1; omega)
        go_roundg (n - (k + 1))
        case measure => have h := HGK.out; omega
        case rel => exact ⟨k + 1, by omega, rfl, by go_num, by rw [HNX.out]; exact ho4, hb4, hkp _ _ q0, hkp _ _ q1, hkp _ _ q2⟩
      · obtain rfl : k = n := by omega
        go_wp2_with fail
        go_ret2
        exact ⟨_, rfl, hb0, by (try rw [HN.out]); exact numsAt_of_owns (zs := crNums l k) (fun z hz => by unfold crNums at hz; obtain ⟨i, _, rfl⟩ := List.mem_map.1 hz; exact ans_i64 _ _ _) (by rw [crNums_len]; exact ho)⟩

end Go.Proofs.Ytnchhleokdkejaa

/- BungLoads returns true. -/
namespace Go.Proofs.Ytnchhleokdkejaa
open Go.RowKit Go.Pb Go.Pb.Ware Go.Pb.Sag
set_option linter.unusedVariables false
set_option linter.unusedSimpArgs false

open Go.Proofs Go.Pb.Bung
set_option maxRecDepth 100000 in
set_option maxHeartbeats 2000000 in
theorem bungLoads_walk {w : World} {v : Value} {l : List Sg} {lo hi : Int} (h : RowsAt 8 w v (l.map rowG)) :
    Calls Try.prog 4 #[.agg #[.int .i64 lo, .int .i64 hi, v]] w (Ret w (.bool true)) := by
  unfold Ret
  obtain ⟨a, cap, rfl, hll⟩ := h.shape
  simp only [List.length_map] at h hll ⊢
  have hlen1 : (ldA lo hi l).1.length ≤ 1000 := by unfold ldA; split; (rename_i hb; have := bungOk_len hb; simp; omega); simp
  have hlen2 : (crA lo hi l).1.length ≤ 1000 := by unfold crA; split; (rename_i hb; have := bungOk_len hb; simp; omega); simp
  obtain ⟨n, hn⟩ : ∃ n, l.length = n := ⟨_, rfl⟩
  rw [hn] at h hll ⊢
  clear hn
  obtain ⟨ld, hld⟩ : ∃ r, ldA lo hi l = r := ⟨_, rfl⟩
  obtain ⟨cr, hcr⟩ : ∃ r, crA lo hi l = r := ⟨_, rfl⟩
  rw [hld] at hlen1; rw [hcr] at hlen2
  obtain ⟨ld1, ld2⟩ := ld
  obtain ⟨cr1, cr2⟩ := cr
  have HLD : Hid _ := hld; have HCR : Hid _ := hcr; clear hld hcr
  dsimp only at hlen1 hlen2
  obtain ⟨⟨s1, s2⟩, hs⟩ : ∃ r : Int × Int, (if bungOk lo hi l = true then (stA l, (0 : Int)) else (0, 31)) = r := ⟨_, rfl⟩
  obtain ⟨⟨⟨g1, g2⟩, g3⟩, hg⟩ : ∃ r, hgA lo hi l = r := ⟨_, rfl⟩
  obtain ⟨⟨m1, m2⟩, hm⟩ : ∃ r : Int × Int, (if bungOk lo hi l = true then (lnA l hi, (0 : Int)) else (0, 31)) = r := ⟨_, rfl⟩
  have HS : Hid _ := hs; have HG : Hid _ := hg; have HM : Hid _ := hm; clear hs hg hm
  go_enter Try.func4, Try.ntmps4
  go_wp2_with fail
  refine (sane_any).mono ?_
  (try unfold LdRes)
  (try unfold CrRes)
  rintro e w1 ⟨rfl, hb⟩
  replace hb0 := bnext (w := w) (by go_grown) hb; have hz := hb.size; (try simp only [World.size_alloc, World.size_setCell] at hz); replace q0 : w1.cell? ⟨w.heap.size, 0, none⟩ = some (.int .i64 lo) := bkeep hb (by first | (with_reducible exact q0) | (with_reducible exact akeep q0) | simp [*, go_sem]); replace q1 : w1.cell? ⟨w.heap.size, 1, none⟩ = some (.int .i64 hi) := bkeep hb (by first | (with_reducible exact q1) | (with_reducible exact akeep q1) | simp [*, go_sem]); replace q2 : w1.cell? ⟨w.heap.size, 2, none⟩ = some (.slice a n cap) := bkeep hb (by first | (with_reducible exact q2) | (with_reducible exact akeep q2) | simp [*, go_sem]); skip
  clear hb
  (try dsimp only)
  go_wp2_with fail
  refine (loadsP (h.below (by go_grown)) HLD.out).mono ?_
  (try unfold LdRes)
  (try unfold CrRes)
  rintro e w1 ⟨u1, rfl, hb, hu1⟩
  replace hb0 := bnext (w := w) (by go_grown) hb; have hz := hb.size; (try simp only [World.size_alloc, World.size_setCell] at hz); replace q0 : w1.cell? ⟨w.heap.size, 0, none⟩ = some (.int .i64 lo) := bkeep hb (by first | (with_reducible exact q0) | (with_reducible exact akeep q0) | simp [*, go_sem]); replace q1 : w1.cell? ⟨w.heap.size, 1, none⟩ = some (.int .i64 hi) := bkeep hb (by first | (with_reducible exact q1) | (with_reducible exact akeep q1) | simp [*, go_sem]); replace q2 : w1.cell? ⟨w.heap.size, 2, none⟩ = some (.slice a n cap) := bkeep hb (by first | (with_reducible exact q2) | (with_reducible exact akeep q2) | simp [*, go_sem]); skip
  clear hb
  (try dsimp only)
  dsimp only at hu1
  go_wp2_with fail
  refine (rLoadsP (h.below (by go_grown)) HLD.out).mono ?_
  (try unfold LdRes)
  (try unfold CrRes)
  rintro e w1 ⟨u2, rfl, hb, hu2⟩
  replace hb0 := bnext (w := w) (by go_grown) hb; have hz := hb.size; (try simp only [World.size_alloc, World.size_setCell] at hz); replace q0 : w1.cell? ⟨w.heap.size, 0, none⟩ = some (.int .i64 lo) := bkeep hb (by first | (with_reducible exact q0) | (with_reducible exact akeep q0) | simp [*, go_sem]); replace q1 : w1.cell? ⟨w.heap.size, 1, none⟩ = some (.int .i64 hi) := bkeep hb (by first | (with_reducible exact q1) | (with_reducible exact akeep q1) | simp [*, go_sem]); replace q2 : w1.cell? ⟨w.heap.size, 2, none⟩ = some (.slice a n cap) := bkeep hb (by first | (with_reducible exact q2) | (with_reducible exact akeep q2) | simp [*, go_sem]); skip
  replace hu1 := hu1.below hb
  clear hb
  (try dsimp only)
  dsimp only at hu2
  go_wp2_with fail
  refine (coursesP (h.below (by go_grown)) HCR.out).mono ?_
  (try unfold LdRes)
  (try unfold CrRes)
  rintro e w1 ⟨u3, rfl, hb, hu3⟩
  replace hb0 := bnext (w := w) (by go_grown) hb; have hz := hb.size; (try simp only [World.size_alloc, World.size_setCell] at hz); replace q0 : w1.cell? ⟨w.heap.size, 0, none⟩ = some (.int .i64 lo) := bkeep hb (by first | (with_reducible exact q0) | (with_reducible exact akeep q0) | simp [*, go_sem]); replace q1 : w1.cell? ⟨w.heap.size, 1, none⟩ = some (.int .i64 hi) := bkeep hb (by first | (with_reducible exact q1) | (with_reducible exact akeep q1) | simp [*, go_sem]); replace q2 : w1.cell? ⟨w.heap.size, 2, none⟩ = some (.slice a n cap) := bkeep hb (by first | (with_reducible exact q2) | (with_reducible exact akeep q2) | simp [*, go_sem]); skip
  replace hu1 := hu1.below hb
  replace hu2 := hu2.below hb
  clear hb
  (try dsimp only)
  dsimp only at hu3
  go_wp2_with fail
  refine (rCoursesP (h.below (by go_grown)) HCR.out).mono ?_
  (try unfold LdRes)
  (try unfold CrRes)
  rintro e w1 ⟨u4, rfl, hb, hu4⟩
  replace hb0 := bnext (w := w) (by go_grown) hb; have hz := hb.size; (try simp only [World.size_alloc, World.size_setCell] at hz); replace q0 : w1.cell? ⟨w.heap.size, 0, none⟩ = some (.int .i64 lo) := bkeep hb (by first | (with_reducible exact q0) | (with_reducible exact akeep q0) | simp [*, go_sem]); replace q1 : w1.cell? ⟨w.heap.size, 1, none⟩ = some (.int .i64 hi) := bkeep hb (by first | (with_reducible exact q1) | (with_reducible exact akeep q1) | simp [*, go_sem]); replace q2 : w1.cell? ⟨w.heap.size, 2, none⟩ = some (.slice a n cap) := bkeep hb (by first | (with_reducible exact q2) | (with_reducible exact akeep q2) | simp [*, go_sem]); skip
  replace hu1 := hu1.below hb
  replace hu2 := hu2.below hb
  replace hu3 := hu3.below hb
  clear hb
  (try dsimp only)
  dsimp only at hu4
  go_wp2_with fail
  refine (Stands_any (h.below (by go_grown)) HS.out).mono ?_
  (try unfold LdRes)
  (try unfold CrRes)
  rintro e w1 ⟨rfl, hb⟩
  replace hb0 := bnext (w := w) (by go_grown) hb; have hz := hb.size; (try simp only [World.size_alloc, World.size_setCell] at hz); replace q0 : w1.cell? ⟨w.heap.size, 0, none⟩ = some (.int .i64 lo) := bkeep hb (by first | (with_reducible exact q0) | (with_reducible exact akeep q0) | simp [*, go_sem]); replace q1 : w1.cell? ⟨w.heap.size, 1, none⟩ = some (.int .i64 hi) := bkeep hb (by first | (with_reducible exact q1) | (with_reducible exact akeep q1) | simp [*, go_sem]); replace q2 : w1.cell? ⟨w.heap.size, 2, none⟩ = some (.slice a n cap) := bkeep hb (by first | (with_reducible exact q2) | (with_reducible exact akeep q2) | simp [*, go_sem]); skip
  replace hu1 := hu1.below hb
  replace hu2 := hu2.below hb
  replace hu3 := hu3.below hb
  replace hu4 := hu4.below hb
  clear hb
  (try dsimp only)
  go_wp2_with fail
  refine (rStandsP (h.below (by go_grown)) HS.out).mono ?_
  (try unfold LdRes)
  (try unfold CrRes)
  rintro e w1 ⟨rfl, hb⟩
  replace hb0 := bnext (w := w) (by go_grown) hb; have hz := hb.size; (try simp only [World.size_alloc, World.size_setCell] at hz); replace q0 : w1.cell? ⟨w.heap.size, 0, none⟩ = some (.int .i64 lo) := bkeep hb (by first | (with_reducible exact q0) | (with_reducible exact akeep q0) | simp [*, go_sem]); replace q1 : w1.cell? ⟨w.heap.size, 1, none⟩ = some (.int .i64 hi) := bkeep hb (by first | (with_reducible exact q1) | (with_reducible exact akeep q1) | simp [*, go_sem]); replace q2 : w1.cell? ⟨w.heap.size, 2, none⟩ = some (.slice a n cap) := bkeep hb (by first | (with_reducible exact q2) | (with_reducible exact akeep q2) | simp [*, go_sem]); skip
  replace hu1 := hu1.below hb
  replace hu2 := hu2.below hb
  replace hu3 := hu3.below hb
  replace hu4 := hu4.below hb
  clear hb
  (try dsimp only)
  go_wp2_with fail
  refine (heightP (h.below (by go_grown)) HG.out).mono ?_
  (try unfold LdRes)
  (try unfold CrRes)
  rintro e w1 ⟨rfl, hb⟩
  replace hb0 := bnext (w := w) (by go_grown) hb; have hz := hb.size; (try simp only [World.size_alloc, World.size_setCell] at hz); replace q0 : w1.cell? ⟨w.heap.size, 0, none⟩ = some (.int .i64 lo) := bkeep hb (by first | (with_reducible exact q0) | (with_reducible exact akeep q0) | simp [*, go_sem]); replace q1 : w1.cell? ⟨w.heap.size, 1, none⟩ = some (.int .i64 hi) := bkeep hb (by first | (with_reducible exact q1) | (with_reducible exact akeep q1) | simp [*, go_sem]); replace q2 : w1.cell? ⟨w.heap.size, 2, none⟩ = some (.slice a n cap) := bkeep hb (by first | (with_reducible exact q2) | (with_reducible exact akeep q2) | simp [*, go_sem]); skip
  replace hu1 := hu1.below hb
  replace hu2 := hu2.below hb
  replace hu3 := hu3.below hb
  replace hu4 := hu4.below hb
  clear hb
  (try dsimp only)
  obtain ⟨vA, hv9⟩ : ∃ v, v = w1 := ⟨_, rfl⟩
  subst hv9
  go_upto_region 9 with fail
  generalize hW : World.alloc vA _ = vB
  have yA : CellsAt vB vA.heap.size [.int .i64 g1, .int .i64 g2] := by rw [← hW]; exact CellsAt.new vA [.int .i64 g1, .int .i64 g2] 23
  have hN : Below vA.heap.size vA vB := by rw [← hW]; exact (Below.refl _ _).alloc (Nat.le_refl _) _
  replace hu1 := hu1.below hN
  replace hu2 := hu2.below hN
  replace hu3 := hu3.below hN
  replace hu4 := hu4.below hN
  replace q0 := bkeep hN q0
  replace q1 := bkeep hN q1
  replace q2 := bkeep hN q2
  replace hb0 := bnext (w := w) hb0 hN
  clear hW hN
  go_wp2_with fail
  refine (rHeightP (h.below (by go_grown)) HG.out).mono ?_
  (try unfold LdRes)
  (try unfold CrRes)
  rintro e w1 ⟨rfl, hb⟩
  replace hb0 := bnext (w := w) (by go_grown) hb; have hz := hb.size; (try simp only [World.size_alloc, World.size_setCell] at hz); replace q0 : w1.cell? ⟨w.heap.size, 0, none⟩ = some (.int .i64 lo) := bkeep hb (by first | (with_reducible exact q0) | (with_reducible exact akeep q0) | simp [*, go_sem]); replace q1 : w1.cell? ⟨w.heap.size, 1, none⟩ = some (.int .i64 hi) := bkeep hb (by first | (with_reducible exact q1) | (with_reducible exact akeep q1) | simp [*, go_sem]); replace q2 : w1.cell? ⟨w.heap.size, 2, none⟩ = some (.slice a n cap) := bkeep hb (by first | (with_reducible exact q2) | (with_reducible exact akeep q2) | simp [*, go_sem]); skip
  replace hu1 := hu1.below hb
  replace hu2 := hu2.below hb
  replace hu3 := hu3.below hb
  replace hu4 := hu4.below hb
  replace yA := yA.below hb
  clear hb
  (try dsimp only)
  obtain ⟨vC, hv9⟩ : ∃ v, v = w1 := ⟨_, rfl⟩
  subst hv9
  go_upto_region 10 with fail
  generalize hW : World.alloc vC _ = vD
  have yC : CellsAt vD vC.heap.size [.int .i64 g1, .int .i64 g2] := by rw [← hW]; exact CellsAt.new vC [.int .i64 g1, .int .i64 g2] 23
  have hN : Below vC.heap.size vC vD := by rw [← hW]; exact (Below.refl _ _).alloc (Nat.le_refl _) _
  replace hu1 := hu1.below hN
  replace hu2 := hu2.below hN
  replace hu3 := hu3.below hN
  replace hu4 := hu4.below hN
  replace yA := yA.below hN
  replace q0 := bkeep hN q0
  replace q1 := bkeep hN q1
  replace q2 := bkeep hN q2
  replace hb0 := bnext (w := w) hb0 hN
  clear hW hN
  go_wp2_with fail
  refine (Lean_any (h.below (by go_grown)) HM.out).mono ?_
  (try unfold LdRes)
  (try unfold CrRes)
  rintro e w1 ⟨rfl, hb⟩
  replace hb0 := bnext (w := w) (by go_grown) hb; have hz := hb.size; (try simp only [World.size_alloc, World.size_setCell] at hz); replace q0 : w1.cell? ⟨w.heap.size, 0, none⟩ = some (.int .i64 lo) := bkeep hb (by first | (with_reducible exact q0) | (with_reducible exact akeep q0) | simp [*, go_sem]); replace q1 : w1.cell? ⟨w.heap.size, 1, none⟩ = some (.int .i64 hi) := bkeep hb (by first | (with_reducible exact q1) | (with_reducible exact akeep q1) | simp [*, go_sem]); replace q2 : w1.cell? ⟨w.heap.size, 2, none⟩ = some (.slice a n cap) := bkeep hb (by first | (with_reducible exact q2) | (with_reducible exact akeep q2) | simp [*, go_sem]); skip
  replace hu1 := hu1.below hb
  replace hu2 := hu2.below hb
  replace hu3 := hu3.below hb
  replace hu4 := hu4.below hb
  replace yA := yA.below hb
  replace yC := yC.below hb
  clear hb
  (try dsimp only)
  go_wp2_with fail
  refine (rLeanP (h.below (by go_grown)) HM.out).mono ?_
  (try unfold LdRes)
  (try unfold CrRes)
  rintro e w1 ⟨rfl, hb⟩
  replace hb0 := bnext (w := w) (by go_grown) hb; have hz := hb.size; (try simp only [World.size_alloc, World.size_setCell] at hz); replace q0 : w1.cell? ⟨w.heap.size, 0, none⟩ = some (.int .i64 lo) := bkeep hb (by first | (with_reducible exact q0) | (with_reducible exact akeep q0) | simp [*, go_sem]); replace q1 : w1.cell? ⟨w.heap.size, 1, none⟩ = some (.int .i64 hi) := bkeep hb (by first | (with_reducible exact q1) | (with_reducible exact akeep q1) | simp [*, go_sem]); replace q2 : w1.cell? ⟨w.heap.size, 2, none⟩ = some (.slice a n cap) := bkeep hb (by first | (with_reducible exact q2) | (with_reducible exact akeep q2) | simp [*, go_sem]); skip
  replace hu1 := hu1.below hb
  replace hu2 := hu2.below hb
  replace hu3 := hu3.below hb
  replace hu4 := hu4.below hb
  replace yA := yA.below hb
  replace yC := yC.below hb
  clear hb
  (try dsimp only)
  go_wp2_with fail
  refine (sameRanges_any (b := true) hu1 hu2 hlen1 (decide_eq_true rfl)).mono ?_
  (try unfold LdRes)
  (try unfold CrRes)
  rintro e w1 ⟨rfl, hb⟩
  replace hb0 := bnext (w := w) (by go_grown) hb; have hz := hb.size; (try simp only [World.size_alloc, World.size_setCell] at hz); replace q0 : w1.cell? ⟨w.heap.size, 0, none⟩ = some (.int .i64 lo) := bkeep hb (by first | (with_reducible exact q0) | (with_reducible exact akeep q0) | simp [*, go_sem]); replace q1 : w1.cell? ⟨w.heap.size, 1, none⟩ = some (.int .i64 hi) := bkeep hb (by first | (with_reducible exact q1) | (with_reducible exact akeep q1) | simp [*, go_sem]); replace q2 : w1.cell? ⟨w.heap.size, 2, none⟩ = some (.slice a n cap) := bkeep hb (by first | (with_reducible exact q2) | (with_reducible exact akeep q2) | simp [*, go_sem]); skip
  replace hu1 := hu1.below hb
  replace hu2 := hu2.below hb
  replace hu3 := hu3.below hb
  replace hu4 := hu4.below hb
  replace yA := yA.below hb
  replace yC := yC.below hb
  clear hb
  (try dsimp only)
  go_wp2_with fail
  refine (same01_any (b := true) hu3 hu4 hlen2 (decide_eq_true rfl)).mono ?_
  (try unfold LdRes)
  (try unfold CrRes)
  rintro e w1 ⟨rfl, hb⟩
  replace hb0 := bnext (w := w) (by go_grown) hb; have hz := hb.size; (try simp only [World.size_alloc, World.size_setCell] at hz); replace q0 : w1.cell? ⟨w.heap.size, 0, none⟩ = some (.int .i64 lo) := bkeep hb (by first | (with_reducible exact q0) | (with_reducible exact akeep q0) | simp [*, go_sem]); replace q1 : w1.cell? ⟨w.heap.size, 1, none⟩ = some (.int .i64 hi) := bkeep hb (by first | (with_reducible exact q1) | (with_reducible exact akeep q1) | simp [*, go_sem]); replace q2 : w1.cell? ⟨w.heap.size, 2, none⟩ = some (.slice a n cap) := bkeep hb (by first | (with_reducible exact q2) | (with_reducible exact akeep q2) | simp [*, go_sem]); skip
  replace hu1 := hu1.below hb
  replace hu2 := hu2.below hb
  replace hu3 := hu3.below hb
  replace hu4 := hu4.below hb
  replace yA := yA.below hb
  replace yC := yC.below hb
  clear hb
  (try dsimp only)
  have a0 := (yA 0 _ rfl).1; have a1 := (yA 1 _ rfl).1; have d0 := (yC 0 _ rfl).1; have d1 := (yC 1 _ rfl).1
  go_wp2_with fail
  go_ret
  exact ⟨rfl, hb0⟩

end Go.Proofs.Ytnchhleokdkejaa
