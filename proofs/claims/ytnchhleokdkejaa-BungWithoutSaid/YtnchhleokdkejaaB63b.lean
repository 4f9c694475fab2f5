/- BungWithout returns true. -/
import Derived.Test.YtnchhleokdkejaaKB32b
import Derived.Test.YtnchhleokdkejaaKW20b
import Derived.Test.YtnchhleokdkejaaKTkb
import Derived.Deep.LoopGhost
import Derived.Deep.CutBlock
namespace Go.Proofs.Ytnchhleokdkejaa
open Go.RowKit Go.Pb Go.Pb.Ware Go.Pb.Sag
set_option linter.unusedVariables false
set_option linter.unusedSimpArgs false

open Go.Proofs Go.Pb.Bung
/-- A new block of these cells. -/
def NewObj (B0 : Nat) (cs : Array Value) (T : TypeId) (v : Value) (W : World) : Prop := ∃ B, B0 ≤ B ∧ v = .pointer (some ⟨B, 0, none⟩) ∧ W.heap[B]? = some (.cells cs T (0, 0))
theorem keeps_obj {B0 : Nat} {cs : Array Value} {T : TypeId} : Keeps (NewObj B0 cs T) := fun _ _ _ ⟨B, h1, h2, h3⟩ hb => ⟨B, h1, h2, (hb.block B (Array.getElem?_eq_some_iff.1 h3).1).trans h3⟩
theorem obj_of {w w' : World} {cs : Array Value} {T : TypeId} (hb : Below w.heap.size w w') : Below w'.heap.size w' (w'.alloc (.cells cs T)) ∧ NewObj w.heap.size cs T (.pointer (some ⟨w'.heap.size, 0, none⟩)) (w'.alloc (.cells cs T)) :=
  ⟨(Below.refl _ _).alloc (Nat.le_refl _) _, w'.heap.size, hb.size, rfl, heap_alloc_new w' _⟩
theorem obj_cells {W : World} {B : Nat} {cs : List Value} {T : TypeId} (h : W.heap[B]? = some (.cells cs.toArray T (0, 0))) : CellsAt W B cs := by
  intro o v hv
  refine ⟨?_, ?_⟩
  · simp only [World.cell?, h]
    simpa using hv
  · simp [World.frozen?, h, hv]
/-- A block of another type is not the row's. -/
theorem obj_off {W : World} {B lo T T2 s n : Nat} {cs : Array Value} {v : Value} {xs : List Value} (h : W.heap[B]? = some (.cells cs T (0, 0))) (ho : W.ownsRow lo T2 s v n xs) (hT : T ≠ T2) : v.ownBlock = none ∨ v.ownBlock ≠ some B := by
  rcases ho.2 with ⟨rfl, _⟩ | ⟨g, cap, cur, rfl, _, h3, _⟩
  · exact .inl rfl
  · refine .inr fun e => ?_
    have e2 : g = B := by simpa [Value.ownBlock] using e
    subst e2
    rw [h] at h3
    injection h3 with h3
    injection h3 with _ h4 _
    exact hT h4
theorem obj_grown {W W' : World} {B lo T T2 s n : Nat} {cs : Array Value} {v : Value} {xs : List Value} (h : W.heap[B]? = some (.cells cs T (0, 0))) (ho : W.ownsRow lo T2 s v n xs) (hT : T ≠ T2) (hg : W.grownBy W' v.ownBlock) : W'.heap[B]? = some (.cells cs T (0, 0)) := by
  have hlt := (Array.getElem?_eq_some_iff.1 h).1
  exact (hg.block B hlt (fun e => by rcases obj_off h ho hT with h2 | h2; (rw [h2] at e; cases e); exact h2 e.symm)).trans h
theorem len_cellsG (s : Sg) : (cellsG s).length = 8 := rfl
theorem own_cell {W : World} {lo T s n cap g o : Nat} {xs : List Value} (h : W.ownsRow lo T s (.slice (some ⟨g, 0, none⟩) n cap) n xs) (ho : o < xs.length) : ∃ u, W.cell? ⟨g, o, none⟩ = some u := by
  obtain ⟨u, hu⟩ : ∃ u, xs[o]? = some u := ⟨_, List.getElem?_eq_getElem ho⟩
  have := h.cells (g := g) rfl o u hu
  rw [Go.WideShapes.add_plain, Nat.zero_add] at this
  exact ⟨u, this⟩
theorem flat_set6 : ∀ {l : List Sg} {i : Nat} {s : Sg} {w b t : Int}, l[i]? = some s → (((((((l.flatMap cellsG).set (i * 8 + 1) (.int .i64 w)).set (i * 8 + 2) (.int .i64 w)).set (i * 8 + 3) (.int .i64 b)).set (i * 8 + 4) (.int .i64 b)).set (i * 8 + 5) (.int .i64 t)).set (i * 8 + 6) (.int .i64 t)) = (l.set i ⟨s.id, w, w, b, b, t, t, s.ti⟩).flatMap cellsG
  | [], i, s, w, b, t, h => by simp at h
  | y :: ys, 0, s, w, b, t, h => by
    obtain rfl : y = s := by simpa using h
    rfl
  | y :: ys, i + 1, s, w, b, t, h => by
    have ih := flat_set6 (l := ys) (i := i) (s := s) (w := w) (b := b) (t := t) (by simpa using h)
    have e : ∀ (m : List Value) (j : Nat) (v : Value), (cellsG y ++ m).set (j + 8) v = cellsG y ++ m.set j v := fun m j v => rfl
    rw [List.flatMap_cons, show (i + 1) * 8 = i * 8 + 8 by omega, show i * 8 + 8 + 1 = i * 8 + 1 + 8 by omega, show i * 8 + 8 + 2 = i * 8 + 2 + 8 by omega, show i * 8 + 8 + 3 = i * 8 + 3 + 8 by omega, show i * 8 + 8 + 4 = i * 8 + 4 + 8 by omega, show i * 8 + 8 + 5 = i * 8 + 5 + 8 by omega, show i * 8 + 8 + 6 = i * 8 + 6 + 8 by omega, e, e, e, e, e, e, ih]
    rfl
theorem wt_ti {l : List Sg} (h : listOk l = true) : ∀ s ∈ l, 0 ≤ s.ti := fun s hs => by have := sg_facts ((listOk_iff.1 h).2.1 s hs); omega
theorem wt_bb {l : List Sg} (h : listOk l = true) : (∀ s ∈ l, s.bl ≤ s.bh) ∧ ∀ s ∈ l, s.wl ≤ s.wh := ⟨fun s hs => by have := sg_facts ((listOk_iff.1 h).2.1 s hs); omega, fun s hs => by have := sg_facts ((listOk_iff.1 h).2.1 s hs); omega⟩
/-- What a narrower bung answers. -/
theorem narrow_all {lo hi : Int} {l : List Sg} {i : Nat} {s : Sg} {w b t : Int} (hok : bungOk lo hi l = true) (hs : l[i]? = some s) (hw : s.wl ≤ w ∧ w ≤ s.wh) (hb : s.bl ≤ b ∧ b ≤ s.bh) (ht : s.hl ≤ t ∧ t ≤ s.hh) :
    bungOk lo hi (l.set i ⟨s.id, w, w, b, b, t, t, s.ti⟩) = true ∧ (stA l = 1 → stA (l.set i ⟨s.id, w, w, b, b, t, t, s.ti⟩) = 1) ∧ (stA l = 0 → stA (l.set i ⟨s.id, w, w, b, b, t, t, s.ti⟩) = 0) ∧
    (hgtL l lo l.length ≤ hgtL (l.set i ⟨s.id, w, w, b, b, t, t, s.ti⟩) lo (l.set i ⟨s.id, w, w, b, b, t, t, s.ti⟩).length ∧ hgtH (l.set i ⟨s.id, w, w, b, b, t, t, s.ti⟩) hi (l.set i ⟨s.id, w, w, b, b, t, t, s.ti⟩).length ≤ hgtH l hi l.length) ∧ lnA (l.set i ⟨s.id, w, w, b, b, t, t, s.ti⟩) hi ≤ lnA l hi := by
  obtain ⟨h1, h2, h3⟩ := bungOk_parts hok
  have hf := sg_facts ((listOk_iff.1 h3).2.1 s (List.mem_of_getElem? hs))
  have hset := listOk_set h3 hs (sgOk_of (s := ⟨s.id, w, w, b, b, t, t, s.ti⟩) (by dsimp only; omega)) rfl
  have hn : NarL l (l.set i ⟨s.id, w, w, b, b, t, t, s.ti⟩) := narL_set (by unfold Nar; dsimp only; omega) hs
  exact ⟨bungOk_mk h1 (by rw [List.length_set]; intro e; exact h2 (List.length_eq_zero_iff.1 e)) hset, nar_one hn, nar_zero hn (wt_bb hset).1 (wt_bb hset).2, nar_hgt hn, nar_lean hn (wt_ti h3)⟩
theorem erase_ok {lo hi : Int} {l : List Sg} {i : Nat} (hok : bungOk lo hi l = true) (hi1 : i < l.length) (h1 : 1 < l.length) : bungOk lo hi (l.eraseIdx i) = true ∧ (stA l = 1 → stA (l.eraseIdx i) = 1) := by
  obtain ⟨h2, h3, h4⟩ := bungOk_parts hok
  refine ⟨bungOk_mk h2 (by rw [List.length_eraseIdx_of_lt hi1]; omega) (listOk_sub (List.eraseIdx_sublist _ _) h4), fun h => ?_⟩
  rw [stA_one] at *
  exact standsP_erase (listOk_wt h4) h i
theorem top_is (l : List Sg) (h : 0 < l.length) : l.take (l.length - 1) = l.eraseIdx (l.length - 1) := by
  rw [List.eraseIdx_eq_take_drop_succ, List.drop_eq_nil_of_le (by omega), List.append_nil]

set_option maxRecDepth 100000 in
set_option maxHeartbeats 1000000 in
theorem bungWithout_walk {w : World} {v u pv : Value} {rows : List (List Int)} {zs ps : List Int} {n n0 n1 : Int} (h : RowsAt 7 w v rows) (ho : NumsAt w u zs) (hp : NumsAt w pv ps) :
    Calls Try.prog 15 #[.agg #[v, u, .int .i64 n0, .int .i64 n1], .int .i64 n, pv] w (Ret w (.bool true)) := by
  unfold Ret
  obtain ⟨i0, hi0, hz0, hz1, hz2⟩ := info_parts Try.infoG
  obtain ⟨pa, pc, rfl, hp1, hp2⟩ := hp.shape
  obtain ⟨pn, hpn⟩ : ∃ n, ps.length = n := ⟨_, rfl⟩
  rw [hpn] at hp hp1 ⊢
  clear hpn
  obtain ⟨ra, rc, rfl, hrl⟩ := h.shape
  obtain ⟨oa, oc, rfl, ho1, ho2⟩ := ho.shape
  obtain ⟨rn, hrn⟩ : ∃ n, rows.length = n := ⟨_, rfl⟩
  obtain ⟨on, hon⟩ : ∃ n, zs.length = n := ⟨_, rfl⟩
  rw [hrn] at h hrl ⊢
  rw [hon] at ho ⊢
  clear hrn hon ho1
  go_enter Try.func15, Try.ntmps15
  go_upto_region 1 with fail
  generalize hW : World.alloc w _ = w1
  have y0 : CellsAt w1 w.heap.size [.slice ra rn rc, .slice oa on oc, .int .i64 n0, .int .i64 n1] := by rw [← hW]; exact CellsAt.new w [.slice ra rn rc, .slice oa on oc, .int .i64 n0, .int .i64 n1] 92
  have hB : Below w.heap.size w w1 := by rw [← hW]; exact (Below.refl _ w).alloc (Nat.le_refl _) _
  clear hW
  have y0_0 := (y0 0 _ rfl).1
  have y0_1 := (y0 1 _ rfl).1
  have y0_2 := (y0 2 _ rfl).1
  have y0_3 := (y0 3 _ rfl).1
  go_wp2_with fail
  refine (sane_any).mono ?_
  rintro e w1 ⟨rfl, hb⟩
  clear y0_0 y0_1 y0_2 y0_3
  replace y0 := y0.below hb
  replace hB := bnext (w := w) hB hb
  clear hb
  (try dsimp only)
  have y0_0 := (y0 0 _ rfl).1
  have y0_1 := (y0 1 _ rfl).1
  have y0_2 := (y0 2 _ rfl).1
  have y0_3 := (y0 3 _ rfl).1
  go_wp2_with fail
  refine (stack_any (h.below hB) (ho.below hB)).mono ?_
  rintro e w1 ⟨lo, hi, l, sv, rfl, hb, hl, hok, hl12⟩
  clear y0_0 y0_1 y0_2 y0_3
  replace y0 := y0.below hb
  replace hB := bnext (w := w) hB hb
  clear hb
  (try dsimp only)
  have y0_0 := (y0 0 _ rfl).1
  have y0_1 := (y0 1 _ rfl).1
  have y0_2 := (y0 2 _ rfl).1
  have y0_3 := (y0 3 _ rfl).1
  obtain ⟨sa, sc, rfl, hsl⟩ := hl.shape
  simp only [List.length_map] at hl hsl ⊢
  obtain ⟨N, hN⟩ : ∃ N, l.length = N := ⟨_, rfl⟩
  have HN := hid hN
  rw [hN] at hl hsl hl12 ⊢
  have HOK := hid hok; have HLK := hid (bungOk_parts hok).2.2
  have hN1 : 1 ≤ N := by have h9 := (bungOk_parts hok).2.1; rcases Nat.eq_zero_or_pos N with h8 | h8; exact absurd (List.length_eq_zero_iff.1 (hN.trans h8)) h9; exact h8
  clear hN hok
  obtain ⟨vA, hv9⟩ : ∃ v, v = w1 := ⟨_, rfl⟩
  subst hv9
  go_upto_region 3 with fail
  generalize hW : World.alloc vA _ = vB
  have y1 : CellsAt vB vA.heap.size [.int .i64 lo, .int .i64 hi, .slice sa N sc] := by rw [← hW]; exact CellsAt.new vA [.int .i64 lo, .int .i64 hi, .slice sa N sc] 26
  have hb : Below vA.heap.size vA vB := by rw [← hW]; exact (Below.refl _ _).alloc (Nat.le_refl _) _
  clear y0_0 y0_1 y0_2 y0_3
  replace y0 := y0.below hb
  replace hl := hl.below hb
  replace hB := bnext (w := w) hB hb
  clear hW hb
  have y0_0 := (y0 0 _ rfl).1
  have y0_1 := (y0 1 _ rfl).1
  have y0_2 := (y0 2 _ rfl).1
  have y0_3 := (y0 3 _ rfl).1
  have y1_0 := (y1 0 _ rfl).1
  have y1_1 := (y1 1 _ rfl).1
  have y1_2 := (y1 2 _ rfl).1
  clear y0_0 y0_1 y0_2 y0_3
  clear y0
  obtain ⟨z1, hs1⟩ : ∃ z, stA l = z := ⟨_, rfl⟩
  have HR1 : Hid ((if bungOk lo hi l = true then (stA l, 0) else (0, 31)) = ((z1, 0) : Int × Int)) := hid (by rw [if_pos HOK.out, hs1])
  obtain ⟨hl0, e0⟩ : ∃ z, hgtL l lo l.length = z := ⟨_, rfl⟩
  obtain ⟨hh0, e1⟩ : ∃ z, hgtH l hi l.length = z := ⟨_, rfl⟩
  have HR2 : Hid (hgA lo hi l = ((hl0, hh0), 0)) := hid (by unfold hgA; rw [if_pos HOK.out, e0, e1])
  obtain ⟨ln0, e2⟩ : ∃ z, lnA l hi = z := ⟨_, rfl⟩
  have HR3 : Hid ((if bungOk lo hi l = true then (lnA l hi, 0) else (0, 31)) = ((ln0, 0) : Int × Int)) := hid (by rw [if_pos HOK.out, e2])
  have HS1 := hid hs1; have HE0 := hid e0; have HE1 := hid e1; have HE2 := hid e2; clear hs1 e0 e1 e2
  go_wp2_with fail
  refine (Stands_any hl HR1.out).mono ?_
  rintro e w1 ⟨rfl, hb⟩
  clear y1_0 y1_1 y1_2
  replace y1 := y1.below hb
  replace hl := hl.below hb
  replace hB := bnext (w := w) hB hb
  clear hb
  (try dsimp only)
  have y1_0 := (y1 0 _ rfl).1
  have y1_1 := (y1 1 _ rfl).1
  have y1_2 := (y1 2 _ rfl).1
  go_wp2_with fail
  refine (heightP hl HR2.out).mono ?_
  rintro e w1 ⟨rfl, hb⟩
  clear y1_0 y1_1 y1_2
  replace y1 := y1.below hb
  replace hl := hl.below hb
  replace hB := bnext (w := w) hB hb
  clear hb
  (try dsimp only)
  have y1_0 := (y1 0 _ rfl).1
  have y1_1 := (y1 1 _ rfl).1
  have y1_2 := (y1 2 _ rfl).1
  obtain ⟨vC, hv9⟩ : ∃ v, v = w1 := ⟨_, rfl⟩
  subst hv9
  go_upto_region 5 with fail
  generalize hW : World.alloc vC _ = vD
  have yh : CellsAt vD vC.heap.size [.int .i64 hl0, .int .i64 hh0] := by rw [← hW]; exact CellsAt.new vC [.int .i64 hl0, .int .i64 hh0] 23
  have hb : Below vC.heap.size vC vD := by rw [← hW]; exact (Below.refl _ _).alloc (Nat.le_refl _) _
  clear y1_0 y1_1 y1_2
  replace y1 := y1.below hb
  replace hl := hl.below hb
  replace hB := bnext (w := w) hB hb
  clear hW hb
  have y1_0 := (y1 0 _ rfl).1
  have y1_1 := (y1 1 _ rfl).1
  have y1_2 := (y1 2 _ rfl).1
  have yh_0 := (yh 0 _ rfl).1
  have yh_1 := (yh 1 _ rfl).1
  go_wp2_with fail
  refine (Lean_any hl HR3.out).mono ?_
  rintro e w1 ⟨rfl, hb⟩
  clear y1_0 y1_1 y1_2 yh_0 yh_1
  replace y1 := y1.below hb
  replace yh := yh.below hb
  replace hl := hl.below hb
  replace hB := bnext (w := w) hB hb
  clear hb
  (try dsimp only)
  have y1_0 := (y1 0 _ rfl).1
  have y1_1 := (y1 1 _ rfl).1
  have y1_2 := (y1 2 _ rfl).1
  have yh_0 := (yh 0 _ rfl).1
  have yh_1 := (yh 1 _ rfl).1
  clear HR1 HR2 HR3
  obtain ⟨p, hpm⟩ : ∃ p, n % (N : Int) = p := ⟨_, rfl⟩
  have hpb := mod_in hpm (by omega)
  have HPM := hid hpm; clear hpm
  obtain ⟨i, rfl⟩ : ∃ i : Nat, p = (i : Int) := ⟨p.toNat, by omega⟩
  have hiN : i < N := by omega
  clear hpb
  go_wp2_with fail
  refine (modB HPM.out (by omega) (by omega)).mono ?_
  rintro e w2 ⟨rfl, rfl⟩
  obtain ⟨v9, hv9⟩ : ∃ v, v = w1 := ⟨_, rfl⟩
  subst hv9
  obtain ⟨s, hs⟩ : ∃ s, l[i]? = some s := ⟨_, List.getElem?_eq_getElem (by rw [HN.out]; exact hiN)⟩
  have HSI := hid hs; clear hs
  go_upto_if 76 with fail
  go_cut [] from 16 (fun wc => Below v9.heap.size v9 wc)
  case first =>
    by_cases h1 : 1 < N
    · have h1i : (1 : Int) < (N : Int) := by omega
      have her := erase_ok HOK.out (i := i) (by rw [HN.out]; exact hiN) (by rw [HN.out]; exact h1)
      have htp := erase_ok HOK.out (i := N - 1) (by rw [HN.out]; omega) (by rw [HN.out]; exact h1)
      rw [HS1.out] at her htp
      obtain ⟨z4, e4⟩ : ∃ z, stA (l.eraseIdx i) = z := ⟨_, rfl⟩
      obtain ⟨z5, e5⟩ : ∃ z, stA (l.eraseIdx (N - 1)) = z := ⟨_, rfl⟩
      rw [e4] at her; rw [e5] at htp
      have HR4 : Hid ((if bungOk lo hi (l.eraseIdx i) = true then (stA (l.eraseIdx i), 0) else (0, 31)) = ((z4, 0) : Int × Int)) := hid (by rw [if_pos her.1, e4])
      have HR5 : Hid ((if bungOk lo hi (l.eraseIdx (N - 1)) = true then (stA (l.eraseIdx (N - 1)), 0) else (0, 31)) = ((z5, 0) : Int × Int)) := hid (by rw [if_pos htp.1, e5])
      have h14 := her.2; have h15 := htp.2; clear her htp e4 e5
      have hI64 : Hid (∀ s ∈ l, ∀ z ∈ rowG s, I64 z) := hid (i64_rows hl)
      have hlat := sg_lat hl
      rw [HN.out] at hlat
      have hcapx : N ≤ sc ∧ sc ≤ 9223372036854775807 := by obtain ⟨_, _, e, x, y, _⟩ := hlat.shape; injection e with _ _ e3; subst e3; exact ⟨x, y⟩
      obtain ⟨hcap1, hcap2⟩ := hcapx
      obtain ⟨a', rfl⟩ : ∃ a', sa = some a' := by cases sa with | none => (have := hlat.nil; omega) | some a' => exact ⟨a', rfl⟩
      obtain ⟨ad, had⟩ : ∃ ad, (if sc = i + 1 then some a' else some (a'.add ((i + 1) * 8))) = some ad := by split <;> exact ⟨_, rfl⟩
      have hc1 : (i : Int) ≤ (sc : Int) := by omega
      have hc2 : (0 : Int) ≤ (i : Int) := by omega
      have hc3 : (i : Int) + 1 ≤ (N : Int) := by omega
      have hc4 : (i : Int) + 1 ≤ (sc : Int) := by omega
      have hc5 : (0 : Int) ≤ (i : Int) + 1 := by omega
      have hc6 : (i : Int) ≤ (N : Int) := by omega
      have hwi : IntKind.i64.wrap ((i : Int) + 1) = (i : Int) + 1 := IntWalk.i64_in _ (by omega)
      have HL1 := hid (hlat.head (k := i) (by omega)); have HL2 := hid (hlat.tail (k := i + 1) (q := ad) (by omega) (fun hlt => by rw [if_neg (by omega)] at had; injection had with had; exact had.symm))
      have HL3 := hid (hlat.head (k := N - 1) (by omega)); clear hlat
      go_upto_region 10 with fail
      go_cut [16] from 76 to 91 (fun pv wx => ∃ (B : Nat) (xa : Option Addr) (xc M : Nat), pv = .pointer (some ⟨B, 0, none⟩) ∧ CellsAt wx B [.int .i64 lo, .int .i64 hi, .slice xa M xc] ∧ RowsAt 8 wx (.slice xa M xc) ((l.eraseIdx i).map rowG) ∧ Below v9.heap.size v9 wx)
      case first =>
        refine wp_region_H (fun V => Below v9.heap.size v9 V) (Below.refl _ _).drew [0, 1, 3, 4, 5, 6, 8, 9, 10, 11, 12] 6 (by kernel_rfl) (by kernel_rfl) rfl ?_
        refine ⟨_, .pointer (some ⟨vA.heap.size, 0, none⟩), rfl, ⟨rfl, fun V hV => by (dsimp only at hV); skip; go_simp⟩, ?_⟩
        simp only [Act.put, List.getElem_toArray, List.getElem_cons_succ, List.getElem_cons_zero, List.setIfInBounds_toArray, List.set_cons_succ, List.set_cons_zero]
        refine ⟨_, .agg #[.int .i64 lo, .int .i64 hi], rfl, ⟨rfl, fun V hV => by (dsimp only at hV); have s0 := bkeep hV y1_0; have s1 := bkeep hV y1_1; go_simp⟩, ?_⟩
        simp only [Act.put, List.getElem_toArray, List.getElem_cons_succ, List.getElem_cons_zero, List.setIfInBounds_toArray, List.set_cons_succ, List.set_cons_zero]
        refine ⟨_, .pointer (some ⟨vA.heap.size, 2, none⟩), rfl, ⟨rfl, fun V hV => by (dsimp only at hV); skip; go_simp⟩, ?_⟩
        simp only [Act.put, List.getElem_toArray, List.getElem_cons_succ, List.getElem_cons_zero, List.setIfInBounds_toArray, List.set_cons_succ, List.set_cons_zero]
        refine ⟨_, .slice (some a') N sc, rfl, ⟨rfl, fun V hV => by (dsimp only at hV); have s0 := bkeep hV y1_2; go_simp⟩, ?_⟩
        simp only [Act.put, List.getElem_toArray, List.getElem_cons_succ, List.getElem_cons_zero, List.setIfInBounds_toArray, List.set_cons_succ, List.set_cons_zero]
        refine ⟨_, .int .i64 (i : Int), rfl, ⟨rfl, fun V hV => by (dsimp only at hV); skip; go_simp⟩, ?_⟩
        simp only [Act.put, List.getElem_toArray, List.getElem_cons_succ, List.getElem_cons_zero, List.setIfInBounds_toArray, List.set_cons_succ, List.set_cons_zero]
        refine ⟨_, .slice (some a') i sc, rfl, ⟨rfl, fun V hV => by (dsimp only at hV); skip; go_simp⟩, ?_⟩
        simp only [Act.put, List.getElem_toArray, List.getElem_cons_succ, List.getElem_cons_zero, List.setIfInBounds_toArray, List.set_cons_succ, List.set_cons_zero]
        refine ⟨_, .pointer (some ⟨vA.heap.size, 2, none⟩), rfl, ⟨rfl, fun V hV => by (dsimp only at hV); skip; go_simp⟩, ?_⟩
        simp only [Act.put, List.getElem_toArray, List.getElem_cons_succ, List.getElem_cons_zero, List.setIfInBounds_toArray, List.set_cons_succ, List.set_cons_zero]
        refine ⟨_, .slice (some a') N sc, rfl, ⟨rfl, fun V hV => by (dsimp only at hV); have s0 := bkeep hV y1_2; go_simp⟩, ?_⟩
        simp only [Act.put, List.getElem_toArray, List.getElem_cons_succ, List.getElem_cons_zero, List.setIfInBounds_toArray, List.set_cons_succ, List.set_cons_zero]
        refine ⟨_, .int .i64 (i : Int), rfl, ⟨rfl, fun V hV => by (dsimp only at hV); skip; go_simp⟩, ?_⟩
        simp only [Act.put, List.getElem_toArray, List.getElem_cons_succ, List.getElem_cons_zero, List.setIfInBounds_toArray, List.set_cons_succ, List.set_cons_zero]
        refine ⟨_, .int .i64 ((i : Int) + 1), rfl, ⟨rfl, fun V hV => by (dsimp only at hV); skip; go_simp⟩, ?_⟩
        simp only [Act.put, List.getElem_toArray, List.getElem_cons_succ, List.getElem_cons_zero, List.setIfInBounds_toArray, List.set_cons_succ, List.set_cons_zero]
        refine ⟨_, .slice (some ad) (N - (i + 1)) (sc - (i + 1)), rfl, ⟨rfl, fun V hV => by (dsimp only at hV); skip; go_simp <;> simp [had, hc3, hc4, hc5]⟩, ?_⟩
        simp only [Act.put, List.getElem_toArray, List.getElem_cons_succ, List.getElem_cons_zero, List.setIfInBounds_toArray, List.set_cons_succ, List.set_cons_zero]
        have hb : Below v9.heap.size v9 v9.drew := (Below.refl _ _).drew
        generalize World.drew v9 = d0 at *
        refine wpAnyC_pair (r := 2) (s := 15) hb (by kernel_rfl) rfl rfl rfl rfl (fun K hK => ?_) (fun K hK => ?_)
        · go_simp
          refine hK _ _ ?_; clear hK K
          have ho : (World.alloc d0 (.cells #[] 33)).ownsRow v9.heap.size 33 8 (.slice (some ⟨d0.heap.size, 0, none⟩) 0 0) 0 [] := owns_base hb.size (owns_empty d0 33 8)
          replace hb := hb.alloc hb.size (.cells #[] 33)
          obtain ⟨g0, hg0⟩ : ∃ n, d0.heap.size = n := ⟨_, rfl⟩
          rw [hg0] at ho ⊢
          clear hg0
          generalize World.alloc d0 _ = d1 at *
          refine wpAnyC_pair (r := 7) (s := 15) hb (by kernel_rfl) rfl rfl rfl rfl (fun K hK => ?_) (fun K hK => ?_)
          · refine wp_append_lat d1 (.tmp 79) (.tmp 83) 24 rfl v9.heap.size 33 i0 (.agg #[.int .i64 0, .int .i64 0, .int .i64 0, .int .i64 0, .int .i64 0, .int .i64 0, .int .i64 0, .int .i64 0]) 8 64 Try.underlying24 hi0 hz0 hz1 hz2 rfl (by decide) (.slice (some ⟨g0, 0, none⟩) 0 0) 0 _ rfl ho (.slice (some a') i sc) i _ rfl (HL1.out.below hb) (by unfold maxLen; omega) (by omega) hb.size ?_
            intro v7 d2 ho7 hg7
            refine hK _ _ ?_
            clear hK K
            replace hb := Pb.below_grown hb hg7 ho hb.size (Nat.le_refl _)
            clear ho hg7
            rw [Nat.zero_add, List.nil_append] at ho7
            obtain ⟨ga, gc, rfl, -⟩ := owns_shape ho7
            have ho := ho7; clear ho7
            refine wpAnyC_pair (r := 13) (s := 15) hb (by kernel_rfl) rfl rfl rfl rfl (fun K hK => ?_) (fun K hK => ?_)
            · refine wp_append_lat d2 (.tmp 84) (.tmp 89) 24 rfl v9.heap.size 33 i0 (.agg #[.int .i64 0, .int .i64 0, .int .i64 0, .int .i64 0, .int .i64 0, .int .i64 0, .int .i64 0, .int .i64 0]) 8 64 Try.underlying24 hi0 hz0 hz1 hz2 rfl (by decide) (.slice ga i gc) i _ rfl ho (.slice (some ad) (N - (i + 1)) (sc - (i + 1))) (N - (i + 1)) _ rfl (HL2.out.below hb) (by unfold maxLen; omega) (by omega) hb.size ?_
              intro v7 d3 ho7 hg7
              refine hK _ _ ?_
              clear hK K
              replace hb := Pb.below_grown hb hg7 ho hb.size (Nat.le_refl _)
              clear ho hg7
              obtain ⟨xa, xc, rfl, -⟩ := owns_shape ho7
              have ho := ho7; clear ho7
              refine wpAnyC_pair (r := 14) (s := 15) hb (by kernel_rfl) rfl rfl rfl rfl (fun K hK => ?_) (fun K hK => ?_)
              · go_simp
                refine hK _ _ ?_; clear hK K
                refine wpAnyC_op (r := 15) hb (by kernel_rfl) rfl rfl (fun K hK => ?_)
                go_simp
                refine hK _ _ ?_; clear hK K
                have hob : (World.alloc d3 (.cells #[.int .i64 0, .int .i64 0, .slice none 0 0] 26)).heap[d3.heap.size]? = some (.cells #[.int .i64 0, .int .i64 0, .slice none 0 0] 26 (0, 0)) := heap_alloc_new d3 _
                replace ho := owns_below ho ((Below.refl d3.heap.size d3).alloc (Nat.le_refl _) (.cells #[.int .i64 0, .int .i64 0, .slice none 0 0] 26))
                have hBge := hb.size
                replace hb := hb.alloc hb.size (.cells #[.int .i64 0, .int .i64 0, .slice none 0 0] 26)
                obtain ⟨B15, hB15e⟩ : ∃ n, d3.heap.size = n := ⟨_, rfl⟩
                rw [hB15e] at hob hBge ⊢
                clear hB15e
                generalize World.alloc d3 _ = d5 at *
                have hof := obj_off hob ho (by decide)
                have yL := obj_cells (cs := [.int .i64 0, .int .i64 0, .slice none 0 0]) hob
                have c0 := (yL 0 _ rfl).1; have c1 := (yL 1 _ rfl).1; have c2 := (yL 2 _ rfl).1; have f0 := (yL 0 _ rfl).2; have f1 := (yL 1 _ rfl).2; have f2 := (yL 2 _ rfl).2
                refine wpAnyC_op (r := 16) hb (by kernel_rfl) rfl rfl (fun K hK => ?_)
                go_simp
                refine hK _ _ ?_; clear hK K
                have y4 := cells_store (o := 2) (u := .slice xa (i + (N - (i + 1))) xc) (cells_store (o := 1) (u := .int .i64 hi) (cells_store (o := 0) (u := .int .i64 lo) yL))
                have ho4 := set_own (u := .slice xa (i + (N - (i + 1))) xc) (o := 2) (set_own (u := .int .i64 hi) (o := 1) (set_own (u := .int .i64 lo) (o := 0) ho hof) hof) hof
                have hb4 := ((hb.setCell (p := ⟨B15, 0, none⟩) hBge (.int .i64 lo)).setCell (p := ⟨B15, 1, none⟩) hBge (.int .i64 hi)).setCell (p := ⟨B15, 2, none⟩) hBge (.slice xa (i + (N - (i + 1))) xc)
                refine wpAnyC_end hb4 (by kernel_rfl) ?_
                refine ⟨rfl, ?_⟩
                clear yL ho hof hb hob c0 c1 c2 f0 f1 f2
                generalize (World.setCell _ _ _ : World) = w4 at *
                have hle : i + (N - (i + 1)) = (l.eraseIdx i).length := by rw [List.length_eraseIdx_of_lt (by rw [HN.out]; exact hiN), HN.out]; omega
                rw [flat_erase len_cellsG l i] at ho4
                have hr4 := rows_of_owns (by rw [← hle]; exact ho4) (fun s hs => hI64.out s (List.mem_of_mem_eraseIdx hs))
                clear ho4 hle
                go_wp2_with fail
                go_meet
                exact ⟨B15, xa, xc, _, rfl, y4, hr4, hb4⟩
              · go_simp
                refine hK _ _ ?_; clear hK K
                have hob : (World.alloc d3 (.cells #[.int .i64 0, .int .i64 0, .slice none 0 0] 26)).heap[d3.heap.size]? = some (.cells #[.int .i64 0, .int .i64 0, .slice none 0 0] 26 (0, 0)) := heap_alloc_new d3 _
                replace ho := owns_below ho ((Below.refl d3.heap.size d3).alloc (Nat.le_refl _) (.cells #[.int .i64 0, .int .i64 0, .slice none 0 0] 26))
                have hBge := hb.size
                replace hb := hb.alloc hb.size (.cells #[.int .i64 0, .int .i64 0, .slice none 0 0] 26)
                obtain ⟨B15, hB15e⟩ : ∃ n, d3.heap.size = n := ⟨_, rfl⟩
                rw [hB15e] at hob hBge ⊢
                clear hB15e
                generalize World.alloc d3 _ = d6 at *
                refine wpAnyC_op (r := 14) hb (by kernel_rfl) rfl rfl (fun K hK => ?_)
                go_simp
                refine hK _ _ ?_; clear hK K
                have hof := obj_off hob ho (by decide)
                have yL := obj_cells (cs := [.int .i64 0, .int .i64 0, .slice none 0 0]) hob
                have c0 := (yL 0 _ rfl).1; have c1 := (yL 1 _ rfl).1; have c2 := (yL 2 _ rfl).1; have f0 := (yL 0 _ rfl).2; have f1 := (yL 1 _ rfl).2; have f2 := (yL 2 _ rfl).2
                refine wpAnyC_op (r := 16) hb (by kernel_rfl) rfl rfl (fun K hK => ?_)
                go_simp
                refine hK _ _ ?_; clear hK K
                have y4 := cells_store (o := 2) (u := .slice xa (i + (N - (i + 1))) xc) (cells_store (o := 1) (u := .int .i64 hi) (cells_store (o := 0) (u := .int .i64 lo) yL))
                have ho4 := set_own (u := .slice xa (i + (N - (i + 1))) xc) (o := 2) (set_own (u := .int .i64 hi) (o := 1) (set_own (u := .int .i64 lo) (o := 0) ho hof) hof) hof
                have hb4 := ((hb.setCell (p := ⟨B15, 0, none⟩) hBge (.int .i64 lo)).setCell (p := ⟨B15, 1, none⟩) hBge (.int .i64 hi)).setCell (p := ⟨B15, 2, none⟩) hBge (.slice xa (i + (N - (i + 1))) xc)
                refine wpAnyC_end hb4 (by kernel_rfl) ?_
                refine ⟨rfl, ?_⟩
                clear yL ho hof hb hob c0 c1 c2 f0 f1 f2
                generalize (World.setCell _ _ _ : World) = w4 at *
                have hle : i + (N - (i + 1)) = (l.eraseIdx i).length := by rw [List.length_eraseIdx_of_lt (by rw [HN.out]; exact hiN), HN.out]; omega
                rw [flat_erase len_cellsG l i] at ho4
                have hr4 := rows_of_owns (by rw [← hle]; exact ho4) (fun s hs => hI64.out s (List.mem_of_mem_eraseIdx hs))
                clear ho4 hle
                go_wp2_with fail
                go_meet
                exact ⟨B15, xa, xc, _, rfl, y4, hr4, hb4⟩
            · go_simp
              refine hK _ _ ?_; clear hK K
              have hob : (World.alloc d2 (.cells #[.int .i64 0, .int .i64 0, .slice none 0 0] 26)).heap[d2.heap.size]? = some (.cells #[.int .i64 0, .int .i64 0, .slice none 0 0] 26 (0, 0)) := heap_alloc_new d2 _
              replace ho := owns_below ho ((Below.refl d2.heap.size d2).alloc (Nat.le_refl _) (.cells #[.int .i64 0, .int .i64 0, .slice none 0 0] 26))
              have hBge := hb.size
              replace hb := hb.alloc hb.size (.cells #[.int .i64 0, .int .i64 0, .slice none 0 0] 26)
              obtain ⟨B15, hB15e⟩ : ∃ n, d2.heap.size = n := ⟨_, rfl⟩
              rw [hB15e] at hob hBge ⊢
              clear hB15e
              generalize World.alloc d2 _ = d8 at *
              refine wpAnyC_op (r := 13) hb (by kernel_rfl) rfl rfl (fun K hK => ?_)
              refine wp_append_lat d8 (.tmp 84) (.tmp 89) 24 rfl v9.heap.size 33 i0 (.agg #[.int .i64 0, .int .i64 0, .int .i64 0, .int .i64 0, .int .i64 0, .int .i64 0, .int .i64 0, .int .i64 0]) 8 64 Try.underlying24 hi0 hz0 hz1 hz2 rfl (by decide) (.slice ga i gc) i _ rfl ho (.slice (some ad) (N - (i + 1)) (sc - (i + 1))) (N - (i + 1)) _ rfl (HL2.out.below hb) (by unfold maxLen; omega) (by omega) hb.size ?_
              intro v7 d9 ho7 hg7
              refine hK _ _ ?_
              clear hK K
              replace hob := obj_grown hob ho (by decide) hg7
              replace hb := Pb.below_grown hb hg7 ho hb.size (Nat.le_refl _)
              clear ho hg7
              obtain ⟨xa, xc, rfl, -⟩ := owns_shape ho7
              have ho := ho7; clear ho7
              refine wpAnyC_op (r := 14) hb (by kernel_rfl) rfl rfl (fun K hK => ?_)
              go_simp
              refine hK _ _ ?_; clear hK K
              have hof := obj_off hob ho (by decide)
              have yL := obj_cells (cs := [.int .i64 0, .int .i64 0, .slice none 0 0]) hob
              have c0 := (yL 0 _ rfl).1; have c1 := (yL 1 _ rfl).1; have c2 := (yL 2 _ rfl).1; have f0 := (yL 0 _ rfl).2; have f1 := (yL 1 _ rfl).2; have f2 := (yL 2 _ rfl).2
              refine wpAnyC_op (r := 16) hb (by kernel_rfl) rfl rfl (fun K hK => ?_)
              go_simp
              refine hK _ _ ?_; clear hK K
              have y4 := cells_store (o := 2) (u := .slice xa (i + (N - (i + 1))) xc) (cells_store (o := 1) (u := .int .i64 hi) (cells_store (o := 0) (u := .int .i64 lo) yL))
              have ho4 := set_own (u := .slice xa (i + (N - (i + 1))) xc) (o := 2) (set_own (u := .int .i64 hi) (o := 1) (set_own (u := .int .i64 lo) (o := 0) ho hof) hof) hof
              have hb4 := ((hb.setCell (p := ⟨B15, 0, none⟩) hBge (.int .i64 lo)).setCell (p := ⟨B15, 1, none⟩) hBge (.int .i64 hi)).setCell (p := ⟨B15, 2, none⟩) hBge (.slice xa (i + (N - (i + 1))) xc)
              refine wpAnyC_end hb4 (by kernel_rfl) ?_
              refine ⟨rfl, ?_⟩
              clear yL ho hof hb hob c0 c1 c2 f0 f1 f2
              generalize (World.setCell _ _ _ : World) = w4 at *
              have hle : i + (N - (i + 1)) = (l.eraseIdx i).length := by rw [List.length_eraseIdx_of_lt (by rw [HN.out]; exact hiN), HN.out]; omega
              rw [flat_erase len_cellsG l i] at ho4
              have hr4 := rows_of_owns (by rw [← hle]; exact ho4) (fun s hs => hI64.out s (List.mem_of_mem_eraseIdx hs))
              clear ho4 hle
              go_wp2_with fail
              go_meet
              exact ⟨B15, xa, xc, _, rfl, y4, hr4, hb4⟩
          · go_simp
            refine hK _ _ ?_; clear hK K
            have hob : (World.alloc d1 (.cells #[.int .i64 0, .int .i64 0, .slice none 0 0] 26)).heap[d1.heap.size]? = some (.cells #[.int .i64 0, .int .i64 0, .slice none 0 0] 26 (0, 0)) := heap_alloc_new d1 _
            replace ho := owns_below ho ((Below.refl d1.heap.size d1).alloc (Nat.le_refl _) (.cells #[.int .i64 0, .int .i64 0, .slice none 0 0] 26))
            have hBge := hb.size
            replace hb := hb.alloc hb.size (.cells #[.int .i64 0, .int .i64 0, .slice none 0 0] 26)
            obtain ⟨B15, hB15e⟩ : ∃ n, d1.heap.size = n := ⟨_, rfl⟩
            rw [hB15e] at hob hBge ⊢
            clear hB15e
            generalize World.alloc d1 _ = d11 at *
            refine wpAnyC_op (r := 7) hb (by kernel_rfl) rfl rfl (fun K hK => ?_)
            refine wp_append_lat d11 (.tmp 79) (.tmp 83) 24 rfl v9.heap.size 33 i0 (.agg #[.int .i64 0, .int .i64 0, .int .i64 0, .int .i64 0, .int .i64 0, .int .i64 0, .int .i64 0, .int .i64 0]) 8 64 Try.underlying24 hi0 hz0 hz1 hz2 rfl (by decide) (.slice (some ⟨g0, 0, none⟩) 0 0) 0 _ rfl ho (.slice (some a') i sc) i _ rfl (HL1.out.below hb) (by unfold maxLen; omega) (by omega) hb.size ?_
            intro v7 d12 ho7 hg7
            refine hK _ _ ?_
            clear hK K
            replace hob := obj_grown hob ho (by decide) hg7
            replace hb := Pb.below_grown hb hg7 ho hb.size (Nat.le_refl _)
            clear ho hg7
            rw [Nat.zero_add, List.nil_append] at ho7
            obtain ⟨ga, gc, rfl, -⟩ := owns_shape ho7
            have ho := ho7; clear ho7
            refine wpAnyC_op (r := 13) hb (by kernel_rfl) rfl rfl (fun K hK => ?_)
            refine wp_append_lat d12 (.tmp 84) (.tmp 89) 24 rfl v9.heap.size 33 i0 (.agg #[.int .i64 0, .int .i64 0, .int .i64 0, .int .i64 0, .int .i64 0, .int .i64 0, .int .i64 0, .int .i64 0]) 8 64 Try.underlying24 hi0 hz0 hz1 hz2 rfl (by decide) (.slice ga i gc) i _ rfl ho (.slice (some ad) (N - (i + 1)) (sc - (i + 1))) (N - (i + 1)) _ rfl (HL2.out.below hb) (by unfold maxLen; omega) (by omega) hb.size ?_
            intro v7 d13 ho7 hg7
            refine hK _ _ ?_
            clear hK K
            replace hob := obj_grown hob ho (by decide) hg7
            replace hb := Pb.below_grown hb hg7 ho hb.size (Nat.le_refl _)
            clear ho hg7
            obtain ⟨xa, xc, rfl, -⟩ := owns_shape ho7
            have ho := ho7; clear ho7
            refine wpAnyC_op (r := 14) hb (by kernel_rfl) rfl rfl (fun K hK => ?_)
            go_simp
            refine hK _ _ ?_; clear hK K
            have hof := obj_off hob ho (by decide)
            have yL := obj_cells (cs := [.int .i64 0, .int .i64 0, .slice none 0 0]) hob
            have c0 := (yL 0 _ rfl).1; have c1 := (yL 1 _ rfl).1; have c2 := (yL 2 _ rfl).1; have f0 := (yL 0 _ rfl).2; have f1 := (yL 1 _ rfl).2; have f2 := (yL 2 _ rfl).2
            refine wpAnyC_op (r := 16) hb (by kernel_rfl) rfl rfl (fun K hK => ?_)
            go_simp
            refine hK _ _ ?_; clear hK K
            have y4 := cells_store (o := 2) (u := .slice xa (i + (N - (i + 1))) xc) (cells_store (o := 1) (u := .int .i64 hi) (cells_store (o := 0) (u := .int .i64 lo) yL))
            have ho4 := set_own (u := .slice xa (i + (N - (i + 1))) xc) (o := 2) (set_own (u := .int .i64 hi) (o := 1) (set_own (u := .int .i64 lo) (o := 0) ho hof) hof) hof
            have hb4 := ((hb.setCell (p := ⟨B15, 0, none⟩) hBge (.int .i64 lo)).setCell (p := ⟨B15, 1, none⟩) hBge (.int .i64 hi)).setCell (p := ⟨B15, 2, none⟩) hBge (.slice xa (i + (N - (i + 1))) xc)
            refine wpAnyC_end hb4 (by kernel_rfl) ?_
            refine ⟨rfl, ?_⟩
            clear yL ho hof hb hob c0 c1 c2 f0 f1 f2
            generalize (World.setCell _ _ _ : World) = w4 at *
            have hle : i + (N - (i + 1)) = (l.eraseIdx i).length := by rw [List.length_eraseIdx_of_lt (by rw [HN.out]; exact hiN), HN.out]; omega
            rw [flat_erase len_cellsG l i] at ho4
            have hr4 := rows_of_owns (by rw [← hle]; exact ho4) (fun s hs => hI64.out s (List.mem_of_mem_eraseIdx hs))
            clear ho4 hle
            go_wp2_with fail
            go_meet
            exact ⟨B15, xa, xc, _, rfl, y4, hr4, hb4⟩
        · go_simp
          refine hK _ _ ?_; clear hK K
          have hob : (World.alloc d0 (.cells #[.int .i64 0, .int .i64 0, .slice none 0 0] 26)).heap[d0.heap.size]? = some (.cells #[.int .i64 0, .int .i64 0, .slice none 0 0] 26 (0, 0)) := heap_alloc_new d0 _
          have hBge := hb.size
          replace hb := hb.alloc hb.size (.cells #[.int .i64 0, .int .i64 0, .slice none 0 0] 26)
          obtain ⟨B15, hB15e⟩ : ∃ n, d0.heap.size = n := ⟨_, rfl⟩
          rw [hB15e] at hob hBge ⊢
          clear hB15e
          generalize World.alloc d0 _ = d15 at *
          refine wpAnyC_op (r := 2) hb (by kernel_rfl) rfl rfl (fun K hK => ?_)
          go_simp
          refine hK _ _ ?_; clear hK K
          have ho : (World.alloc d15 (.cells #[] 33)).ownsRow v9.heap.size 33 8 (.slice (some ⟨d15.heap.size, 0, none⟩) 0 0) 0 [] := owns_base hb.size (owns_empty d15 33 8)
          replace hob := (((Below.refl d15.heap.size d15).alloc (Nat.le_refl _) (.cells #[] 33)).block _ (Array.getElem?_eq_some_iff.1 hob).1).trans hob
          replace hb := hb.alloc hb.size (.cells #[] 33)
          obtain ⟨g0, hg0⟩ : ∃ n, d15.heap.size = n := ⟨_, rfl⟩
          rw [hg0] at ho ⊢
          clear hg0
          generalize World.alloc d15 _ = d16 at *
          refine wpAnyC_op (r := 7) hb (by kernel_rfl) rfl rfl (fun K hK => ?_)
          refine wp_append_lat d16 (.tmp 79) (.tmp 83) 24 rfl v9.heap.size 33 i0 (.agg #[.int .i64 0, .int .i64 0, .int .i64 0, .int .i64 0, .int .i64 0, .int .i64 0, .int .i64 0, .int .i64 0]) 8 64 Try.underlying24 hi0 hz0 hz1 hz2 rfl (by decide) (.slice (some ⟨g0, 0, none⟩) 0 0) 0 _ rfl ho (.slice (some a') i sc) i _ rfl (HL1.out.below hb) (by unfold maxLen; omega) (by omega) hb.size ?_
          intro v7 d17 ho7 hg7
          refine hK _ _ ?_
          clear hK K
          replace hob := obj_grown hob ho (by decide) hg7
          replace hb := Pb.below_grown hb hg7 ho hb.size (Nat.le_refl _)
          clear ho hg7
          rw [Nat.zero_add, List.nil_append] at ho7
          obtain ⟨ga, gc, rfl, -⟩ := owns_shape ho7
          have ho := ho7; clear ho7
          refine wpAnyC_op (r := 13) hb (by kernel_rfl) rfl rfl (fun K hK => ?_)
          refine wp_append_lat d17 (.tmp 84) (.tmp 89) 24 rfl v9.heap.size 33 i0 (.agg #[.int .i64 0, .int .i64 0, .int .i64 0, .int .i64 0, .int .i64 0, .int .i64 0, .int .i64 0, .int .i64 0]) 8 64 Try.underlying24 hi0 hz0 hz1 hz2 rfl (by decide) (.slice ga i gc) i _ rfl ho (.slice (some ad) (N - (i + 1)) (sc - (i + 1))) (N - (i + 1)) _ rfl (HL2.out.below hb) (by unfold maxLen; omega) (by omega) hb.size ?_
          intro v7 d18 ho7 hg7
          refine hK _ _ ?_
          clear hK K
          replace hob := obj_grown hob ho (by decide) hg7
          replace hb := Pb.below_grown hb hg7 ho hb.size (Nat.le_refl _)
          clear ho hg7
          obtain ⟨xa, xc, rfl, -⟩ := owns_shape ho7
          have ho := ho7; clear ho7
          refine wpAnyC_op (r := 14) hb (by kernel_rfl) rfl rfl (fun K hK => ?_)
          go_simp
          refine hK _ _ ?_; clear hK K
          have hof := obj_off hob ho (by decide)
          have yL := obj_cells (cs := [.int .i64 0, .int .i64 0, .slice none 0 0]) hob
          have c0 := (yL 0 _ rfl).1; have c1 := (yL 1 _ rfl).1; have c2 := (yL 2 _ rfl).1; have f0 := (yL 0 _ rfl).2; have f1 := (yL 1 _ rfl).2; have f2 := (yL 2 _ rfl).2
          refine wpAnyC_op (r := 16) hb (by kernel_rfl) rfl rfl (fun K hK => ?_)
          go_simp
          refine hK _ _ ?_; clear hK K
          have y4 := cells_store (o := 2) (u := .slice xa (i + (N - (i + 1))) xc) (cells_store (o := 1) (u := .int .i64 hi) (cells_store (o := 0) (u := .int .i64 lo) yL))
          have ho4 := set_own (u := .slice xa (i + (N - (i + 1))) xc) (o := 2) (set_own (u := .int .i64 hi) (o := 1) (set_own (u := .int .i64 lo) (o := 0) ho hof) hof) hof
          have hb4 := ((hb.setCell (p := ⟨B15, 0, none⟩) hBge (.int .i64 lo)).setCell (p := ⟨B15, 1, none⟩) hBge (.int .i64 hi)).setCell (p := ⟨B15, 2, none⟩) hBge (.slice xa (i + (N - (i + 1))) xc)
          refine wpAnyC_end hb4 (by kernel_rfl) ?_
          refine ⟨rfl, ?_⟩
          clear yL ho hof hb hob c0 c1 c2 f0 f1 f2
          generalize (World.setCell _ _ _ : World) = w4 at *
          have hle : i + (N - (i + 1)) = (l.eraseIdx i).length := by rw [List.length_eraseIdx_of_lt (by rw [HN.out]; exact hiN), HN.out]; omega
          rw [flat_erase len_cellsG l i] at ho4
          have hr4 := rows_of_owns (by rw [← hle]; exact ho4) (fun s hs => hI64.out s (List.mem_of_mem_eraseIdx hs))
          clear ho4 hle
          go_wp2_with fail
          go_meet
          exact ⟨B15, xa, xc, _, rfl, y4, hr4, hb4⟩
      case rest =>
        obtain ⟨B15, xa, xc, ML, rfl, y4, hr4, hb4⟩ := hcut
        obtain ⟨w4, hw4⟩ : ∃ v, v = wc := ⟨_, rfl⟩
        subst hw4
        clear y1_0 y1_1 y1_2 yh_0 yh_1
        have c0 := (y4 0 _ rfl).1; have c1 := (y4 1 _ rfl).1; have c2 := (y4 2 _ rfl).1
        go_wp2_with fail
        refine (Stands_any hr4 HR4.out).mono ?_
        rintro e w5 ⟨rfl, hb⟩
        have hb5 := bnext (w := v9) hb4 hb
        dsimp only
        clear hb hb4 c0 c1 c2 y4 hr4
        have y5 := y1.below hb5
        have c0 := (y5 0 _ rfl).1; have c1 := (y5 1 _ rfl).1; have c2 := (y5 2 _ rfl).1
        have hwn : IntKind.i64.wrap ((N : Int) - 1) = ((N - 1 : Nat) : Int) := (IntWalk.i64_in _ (by omega)).trans (by omega)
        obtain ⟨M, hM⟩ : ∃ M, N - 1 = M := ⟨_, rfl⟩
        rw [hM] at hwn HR5 HL3
        have HMM := hid hM
        have hM1 : (0 : Int) ≤ (M : Int) := by omega
        have hM2 : (M : Int) ≤ (sc : Int) := by omega
        have hMN : M ≤ 12 := by omega
        clear hM
        go_upto_region 12 with fail
        refine wp_region_Rs [(2, NewEmpty w5.heap.size 33), (10, fun v W9 => W9.ownsRow w5.heap.size 33 8 v M ((l.flatMap cellsG).take (M * 8))), (12, fun v _ => v = .tuple #[.int .i64 z5, .int .i64 0])] [0, 1, 2, 3, 4, 5, 6, 7, 8, 9, 10, 11, 12, 13, 14, 15, 16, 17] 0 (by kernel_rfl) rfl (by simp only [List.forall_mem_cons]; exact ⟨keeps_empty, keeps_owns, keeps_eq, fun _ h => by cases h⟩) (by kernel_rfl) ?_
        simp only [numbered, List.filterMap_cons, List.filterMap_nil, List.getElem?_toArray, List.getElem?_cons_succ, List.getElem?_cons_zero, Option.map_some]
        show wpS _ _ _ _ _ _ _ [(_, _), (_, _), (_, _), (_, _), (_, _), (_, _), (_, _), (_, _), (_, _), (_, _), (_, _), (_, _), (_, _), (_, _), (_, _), (_, _), (_, _), (_, _)] _ _
        (refine wpS_quiet rfl rfl ?_; intro K hK inst hx; have s0 := fun x => (fun _ => bkeep (BQ.below x) c0) (hx x); have s1 := fun x => (fun _ => bkeep (BQ.below x) c1) (hx x); have s2 := fun x => (fun _ => bkeep (BQ.below x) c2) (hx x); go_big_quiet_op; (first | go_big_quiet_on | (refine ⟨_, fun _ => rfl, ?_⟩; go_big_quiet_on)); clear hx inst)
        (refine wpS_quiet rfl rfl ?_; intro K hK inst hx; have s0 := fun x => (fun _ => bkeep (BQ.below x) c0) (hx x); have s1 := fun x => (fun _ => bkeep (BQ.below x) c1) (hx x); have s2 := fun x => (fun _ => bkeep (BQ.below x) c2) (hx x); go_big_quiet_op; (first | go_big_quiet_on | (refine ⟨_, fun _ => rfl, ?_⟩; go_big_quiet_on)); clear hx inst)
        refine wpS_fresh rfl rfl (fun w' hb hF => ?_) ?_
        · change freshAt _ _ _ (NewEmpty w5.heap.size 33) _; unfold freshAt; go_simp; exact empty_of hb
        intro v W hv; simp only [pOf, List.lookup_cons, Nat.reduceBEq, beq_self_eq_true] at hv; obtain ⟨B0, hB0, rfl, -⟩ := hv
        simp only [Act.put, List.setIfInBounds_toArray, List.set_cons_succ, List.set_cons_zero]
        (refine wpS_quiet rfl rfl ?_; intro K hK inst hx; have s0 := fun x => (fun _ => bkeep (BQ.below x) c0) (hx x); have s1 := fun x => (fun _ => bkeep (BQ.below x) c1) (hx x); have s2 := fun x => (fun _ => bkeep (BQ.below x) c2) (hx x); go_big_quiet_op; (first | go_big_quiet_on | (refine ⟨_, fun _ => rfl, ?_⟩; go_big_quiet_on)); clear hx inst)
        (refine wpS_quiet rfl rfl ?_; intro K hK inst hx; have s0 := fun x => (fun _ => bkeep (BQ.below x) c0) (hx x); have s1 := fun x => (fun _ => bkeep (BQ.below x) c1) (hx x); have s2 := fun x => (fun _ => bkeep (BQ.below x) c2) (hx x); go_big_quiet_op; (first | go_big_quiet_on | (refine ⟨_, fun _ => rfl, ?_⟩; go_big_quiet_on)); clear hx inst)
        (refine wpS_quiet rfl rfl ?_; intro K hK inst hx; have s0 := fun x => (fun _ => bkeep (BQ.below x) c0) (hx x); have s1 := fun x => (fun _ => bkeep (BQ.below x) c1) (hx x); have s2 := fun x => (fun _ => bkeep (BQ.below x) c2) (hx x); go_big_quiet_op; (first | go_big_quiet_on | (refine ⟨_, fun _ => rfl, ?_⟩; go_big_quiet_on)); clear hx inst)
        (refine wpS_quiet rfl rfl ?_; intro K hK inst hx; have s0 := fun x => (fun _ => bkeep (BQ.below x) c0) (hx x); have s1 := fun x => (fun _ => bkeep (BQ.below x) c1) (hx x); have s2 := fun x => (fun _ => bkeep (BQ.below x) c2) (hx x); go_big_quiet_op; (first | go_big_quiet_on | (refine ⟨_, fun _ => rfl, ?_⟩; go_big_quiet_on)); clear hx inst)
        (refine wpS_quiet rfl rfl ?_; intro K hK inst hx; have s0 := fun x => (fun _ => bkeep (BQ.below x) c0) (hx x); have s1 := fun x => (fun _ => bkeep (BQ.below x) c1) (hx x); have s2 := fun x => (fun _ => bkeep (BQ.below x) c2) (hx x); go_big_quiet_op; (first | go_big_quiet_on | (refine ⟨_, fun _ => rfl, ?_⟩; go_big_quiet_on)); clear hx inst)
        (refine wpS_quiet rfl rfl ?_; intro K hK inst hx; have s0 := fun x => (fun _ => bkeep (BQ.below x) c0) (hx x); have s1 := fun x => (fun _ => bkeep (BQ.below x) c1) (hx x); have s2 := fun x => (fun _ => bkeep (BQ.below x) c2) (hx x); go_big_quiet_op; (first | go_big_quiet_on | (refine ⟨_, fun _ => rfl, ?_⟩; go_big_quiet_on)); clear hx inst)
        (refine wpS_quiet rfl rfl ?_; intro K hK inst hx; have s0 := fun x => (fun _ => bkeep (BQ.below x) c0) (hx x); have s1 := fun x => (fun _ => bkeep (BQ.below x) c1) (hx x); have s2 := fun x => (fun _ => bkeep (BQ.below x) c2) (hx x); go_big_quiet_op; (first | go_big_quiet_on | (refine ⟨_, fun _ => rfl, ?_⟩; go_big_quiet_on)); clear hx inst)
        refine wpS_fresh rfl rfl (fun w' hb hF => ?_) ?_
        · change freshAt _ _ _ (fun v W9 => W9.ownsRow w5.heap.size 33 8 v M ((l.flatMap cellsG).take (M * 8))) _; have h0 : NewEmpty w5.heap.size 33 _ w' := hF 2 _ rfl (by kernel_rfl); exact fresh_append_lat (.tmp 100) (.tmp 107) 24 rfl w5.heap.size 33 i0 (.agg #[.int .i64 0, .int .i64 0, .int .i64 0, .int .i64 0, .int .i64 0, .int .i64 0, .int .i64 0, .int .i64 0]) 8 64 Try.underlying24 hi0 hz0 hz1 hz2 rfl (by decide) (.slice (some ⟨B0, 0, none⟩) 0 0) rfl h0 (.slice (some a') M sc) M _ rfl ((HL3.out.below hb5).below hb) (by unfold maxLen; omega) (by omega) hb.size
        intro v W hv; simp only [pOf, List.lookup_cons, Nat.reduceBEq, beq_self_eq_true] at hv; obtain ⟨ga2, gc2, rfl, -⟩ := owns_shape hv
        simp only [Act.put, List.setIfInBounds_toArray, List.set_cons_succ, List.set_cons_zero]
        (refine wpS_quiet rfl rfl ?_; intro K hK inst hx; have s0 := fun x => (fun _ => bkeep (BQ.below x) c0) (hx x); have s1 := fun x => (fun _ => bkeep (BQ.below x) c1) (hx x); have s2 := fun x => (fun _ => bkeep (BQ.below x) c2) (hx x); go_big_quiet_op; (first | go_big_quiet_on | (refine ⟨_, fun _ => rfl, ?_⟩; go_big_quiet_on)); clear hx inst)
        refine wpS_fresh rfl rfl (fun w' hb hF => ?_) ?_
        · change freshAt _ _ _ (fun v _ => v = .tuple #[.int .i64 z5, .int .i64 0]) _; have h10 : w'.ownsRow w5.heap.size 33 8 _ M ((l.flatMap cellsG).take (M * 8)) := hF 10 _ rfl (by kernel_rfl); have e9 : (l.eraseIdx M).length = M := (by rw [List.length_eraseIdx_of_lt (by rw [HN.out]; have h9 : N - 1 = M := HMM.out; omega), HN.out]; exact HMM.out); rw [(drop_take_erase len_cellsG (l := l) (k := M)).1, show l.take M = l.eraseIdx M from (by have h9 : N - 1 = M := HMM.out; rw [← h9, ← HN.out]; exact top_is l (by rw [HN.out]; omega))] at h10; unfold freshAt; go_simp; exact Stands_any (rows_of_owns (l := l.eraseIdx M) (by rw [e9]; exact h10) (fun s hs => hI64.out s (List.mem_of_mem_eraseIdx hs))) HR5.out
        intro v W hv; simp only [pOf, List.lookup_cons, Nat.reduceBEq, beq_self_eq_true] at hv; subst hv
        simp only [Act.put, List.setIfInBounds_toArray, List.set_cons_succ, List.set_cons_zero]
        (refine wpS_quiet rfl rfl ?_; intro K hK inst hx; have s0 := fun x => (fun _ => bkeep (BQ.below x) c0) (hx x); have s1 := fun x => (fun _ => bkeep (BQ.below x) c1) (hx x); have s2 := fun x => (fun _ => bkeep (BQ.below x) c2) (hx x); go_big_quiet_op; (first | go_big_quiet_on | (refine ⟨_, fun _ => rfl, ?_⟩; go_big_quiet_on)); clear hx inst)
        (refine wpS_quiet rfl rfl ?_; intro K hK inst hx; have s0 := fun x => (fun _ => bkeep (BQ.below x) c0) (hx x); have s1 := fun x => (fun _ => bkeep (BQ.below x) c1) (hx x); have s2 := fun x => (fun _ => bkeep (BQ.below x) c2) (hx x); go_big_quiet_op; (first | go_big_quiet_on | (refine ⟨_, fun _ => rfl, ?_⟩; go_big_quiet_on)); clear hx inst)
        (refine wpS_quiet rfl rfl ?_; intro K hK inst hx; have s0 := fun x => (fun _ => bkeep (BQ.below x) c0) (hx x); have s1 := fun x => (fun _ => bkeep (BQ.below x) c1) (hx x); have s2 := fun x => (fun _ => bkeep (BQ.below x) c2) (hx x); go_big_quiet_op; (first | go_big_quiet_on | (refine ⟨_, fun _ => rfl, ?_⟩; go_big_quiet_on)); clear hx inst)
        (refine wpS_quiet rfl rfl ?_; intro K hK inst hx; have s0 := fun x => (fun _ => bkeep (BQ.below x) c0) (hx x); have s1 := fun x => (fun _ => bkeep (BQ.below x) c1) (hx x); have s2 := fun x => (fun _ => bkeep (BQ.below x) c2) (hx x); go_big_quiet_op; (first | go_big_quiet_on | (refine ⟨_, fun _ => rfl, ?_⟩; go_big_quiet_on)); clear hx inst)
        (refine wpS_quiet rfl rfl ?_; intro K hK inst hx; have s0 := fun x => (fun _ => bkeep (BQ.below x) c0) (hx x); have s1 := fun x => (fun _ => bkeep (BQ.below x) c1) (hx x); have s2 := fun x => (fun _ => bkeep (BQ.below x) c2) (hx x); go_big_quiet_op; (first | go_big_quiet_on | (refine ⟨_, fun _ => rfl, ?_⟩; go_big_quiet_on)); clear hx inst)
        refine wpS_nil ?_
        intro w6 hall
        have hb := hall.1
        have hb6 := bnext (w := v9) hb5 hb
        clear hall hb hb5 c0 c1 c2 y5
        refine wpAny_done (by kernel_rfl) ?_ _
        by_cases h1z : z1 = 1
        · have e4 := h14 h1z; have e5 := h15 h1z
          clear h14 h15
          subst h1z
          subst e4
          subst e5
          clear HR4 HR5
          go_wp2_with fail
          go_meet
          exact hb6
        · have h1b : (z1 == 1) = false := beq_eq_false_iff_ne.mpr h1z
          clear h14 h15
          clear HR4 HR5
          go_wp2_with fail
          go_meet
          exact hb6
    · have h1i : ¬ (1 : Int) < (N : Int) := by omega
      clear y1_0 y1_1 y1_2 yh_0 yh_1
      go_wp2_with fail
      go_meet
      exact Below.refl _ _
  case rest =>
    clear y1_0 y1_1 y1_2 yh_0 yh_1
    replace y1 := y1.below hcut; replace yh := yh.below hcut; replace hl := hl.below hcut; replace hB := bnext (w := w) hB hcut
    have hI64 : Hid (∀ s ∈ l, ∀ z ∈ rowG s, I64 z) := hid (i64_rows hl)
    have hlat := sg_lat hl
    rw [HN.out] at hlat
    obtain ⟨a', rfl⟩ : ∃ a', sa = some a' := by cases sa with | none => (have := hlat.nil; omega) | some a' => exact ⟨a', rfl⟩
    have HLT := hid hlat; clear hlat
    have hsf := sg_facts ((listOk_iff.1 HLK.out).2.1 s (List.mem_of_getElem? HSI.out))
    have hii : (i : Int) < (N : Int) := by omega
    have hi00 : (0 : Int) ≤ (i : Int) := by omega
    have y1_0 := (y1 0 _ rfl).1
    have y1_1 := (y1 1 _ rfl).1
    have y1_2 := (y1 2 _ rfl).1
    have yh_0 := (yh 0 _ rfl).1
    have yh_1 := (yh 1 _ rfl).1
    go_upto_region 15 with fail
    refine wp_region_Rs [(2, NewEmpty wc.heap.size 33), (5, fun v W9 => W9.ownsRow wc.heap.size 33 8 v N (l.flatMap cellsG)), (7, NewObj wc.heap.size #[.int .i64 0, .int .i64 0, .slice none 0 0] 26)] [0, 1, 2, 3, 4, 5, 6, 7] 1 (by kernel_rfl) rfl (by simp only [List.forall_mem_cons]; exact ⟨keeps_empty, keeps_owns, keeps_obj, fun _ h => by cases h⟩) (by kernel_rfl) ?_
    simp only [numbered, List.filterMap_cons, List.filterMap_nil, List.getElem?_toArray, List.getElem?_cons_succ, List.getElem?_cons_zero, Option.map_some]
    show wpS _ _ _ _ _ _ _ [(_, _), (_, _), (_, _), (_, _), (_, _), (_, _), (_, _), (_, _)] _ _
    (refine wpS_quiet rfl rfl ?_; intro K hK inst hx; have s0 := fun x => (fun _ => bkeep (BQ.below x) y1_0) (hx x); have s1 := fun x => (fun _ => bkeep (BQ.below x) y1_1) (hx x); have s2 := fun x => (fun _ => bkeep (BQ.below x) y1_2) (hx x); go_big_quiet_op; (first | go_big_quiet_on | (refine ⟨_, fun _ => rfl, ?_⟩; go_big_quiet_on)); clear hx inst)
    (refine wpS_quiet rfl rfl ?_; intro K hK inst hx; have s0 := fun x => (fun _ => bkeep (BQ.below x) y1_0) (hx x); have s1 := fun x => (fun _ => bkeep (BQ.below x) y1_1) (hx x); have s2 := fun x => (fun _ => bkeep (BQ.below x) y1_2) (hx x); go_big_quiet_op; (first | go_big_quiet_on | (refine ⟨_, fun _ => rfl, ?_⟩; go_big_quiet_on)); clear hx inst)
    refine wpS_fresh rfl rfl (fun w' hb hF => ?_) ?_
    · change freshAt _ _ _ (NewEmpty wc.heap.size 33) _; unfold freshAt; go_simp; exact empty_of hb
    intro v W hv; simp only [pOf, List.lookup_cons, Nat.reduceBEq, beq_self_eq_true] at hv; obtain ⟨B0, hB0, rfl, -⟩ := hv
    simp only [Act.put, List.setIfInBounds_toArray, List.set_cons_succ, List.set_cons_zero]
    (refine wpS_quiet rfl rfl ?_; intro K hK inst hx; have s0 := fun x => (fun _ => bkeep (BQ.below x) y1_0) (hx x); have s1 := fun x => (fun _ => bkeep (BQ.below x) y1_1) (hx x); have s2 := fun x => (fun _ => bkeep (BQ.below x) y1_2) (hx x); go_big_quiet_op; (first | go_big_quiet_on | (refine ⟨_, fun _ => rfl, ?_⟩; go_big_quiet_on)); clear hx inst)
    (refine wpS_quiet rfl rfl ?_; intro K hK inst hx; have s0 := fun x => (fun _ => bkeep (BQ.below x) y1_0) (hx x); have s1 := fun x => (fun _ => bkeep (BQ.below x) y1_1) (hx x); have s2 := fun x => (fun _ => bkeep (BQ.below x) y1_2) (hx x); go_big_quiet_op; (first | go_big_quiet_on | (refine ⟨_, fun _ => rfl, ?_⟩; go_big_quiet_on)); clear hx inst)
    refine wpS_fresh rfl rfl (fun w' hb hF => ?_) ?_
    · change freshAt _ _ _ (fun v W9 => W9.ownsRow wc.heap.size 33 8 v N (l.flatMap cellsG)) _; have h0 : NewEmpty wc.heap.size 33 _ w' := hF 2 _ rfl (by kernel_rfl); exact fresh_append_lat (.tmp 133) (.tmp 135) 24 rfl wc.heap.size 33 i0 (.agg #[.int .i64 0, .int .i64 0, .int .i64 0, .int .i64 0, .int .i64 0, .int .i64 0, .int .i64 0, .int .i64 0]) 8 64 Try.underlying24 hi0 hz0 hz1 hz2 rfl (by decide) (.slice (some ⟨B0, 0, none⟩) 0 0) rfl h0 (.slice (some a') N sc) N _ rfl (HLT.out.below hb) (by unfold maxLen; omega) (by omega) hb.size
    intro v W hv; simp only [pOf, List.lookup_cons, Nat.reduceBEq, beq_self_eq_true] at hv; obtain ⟨ga, gc, rfl, -⟩ := owns_shape hv
    simp only [Act.put, List.setIfInBounds_toArray, List.set_cons_succ, List.set_cons_zero]
    (refine wpS_quiet rfl rfl ?_; intro K hK inst hx; have s0 := fun x => (fun _ => bkeep (BQ.below x) y1_0) (hx x); have s1 := fun x => (fun _ => bkeep (BQ.below x) y1_1) (hx x); have s2 := fun x => (fun _ => bkeep (BQ.below x) y1_2) (hx x); go_big_quiet_op; (first | go_big_quiet_on | (refine ⟨_, fun _ => rfl, ?_⟩; go_big_quiet_on)); clear hx inst)
    refine wpS_fresh rfl rfl (fun w' hb hF => ?_) ?_
    · change freshAt _ _ _ (NewObj wc.heap.size #[.int .i64 0, .int .i64 0, .slice none 0 0] 26) _; unfold freshAt; go_simp; exact obj_of hb
    intro v W hv; simp only [pOf, List.lookup_cons, Nat.reduceBEq, beq_self_eq_true] at hv; obtain ⟨B7, hB7, rfl, -⟩ := hv
    simp only [Act.put, List.setIfInBounds_toArray, List.set_cons_succ, List.set_cons_zero]
    refine wpS_nil ?_
    intro w2 hall
    have hb := hall.1
    have h5 : w2.ownsRow wc.heap.size 33 8 _ N (l.flatMap cellsG) := hall.2 5 _ rfl
    have hN : NewObj wc.heap.size #[.int .i64 0, .int .i64 0, .slice none 0 0] 26 _ w2 := hall.2 7 _ rfl
    obtain ⟨B', hB', hv', hob⟩ := hN
    obtain rfl : B7 = B' := by simpa using hv'
    clear hall hv' hB'
    have hof := obj_off hob h5 (by decide)
    obtain ⟨g, gc', hge2, -, -⟩ := own_some h5 (by omega)
    injection hge2 with e1 _ e3
    subst e1
    subst e3
    have yL := obj_cells (cs := [.int .i64 0, .int .i64 0, .slice none 0 0]) hob
    have c0 := (yL 0 _ rfl).1; have c1 := (yL 1 _ rfl).1; have c2 := (yL 2 _ rfl).1; have f0 := (yL 0 _ rfl).2; have f1 := (yL 1 _ rfl).2; have f2 := (yL 2 _ rfl).2
    clear y1_0 y1_1 y1_2 yh_0 yh_1
    refine wpAny_ready (rs := [8]) (by kernel_rfl) (by simp) ?_
    refine AllReady.cons rfl (fun K hK => ?_) AllReady.nil
    go_simp
    refine hK _ _ ?_; clear hK K
    refine wpAny_done (by kernel_rfl) ?_ _
    have y5 := cells_store (o := 2) (u := .slice (some ⟨g, 0, none⟩) N gc) (cells_store (o := 1) (u := .int .i64 hi) (cells_store (o := 0) (u := .int .i64 lo) yL))
    have ho5 := set_own (u := .slice (some ⟨g, 0, none⟩) N gc) (o := 2) (set_own (u := .int .i64 hi) (o := 1) (set_own (u := .int .i64 lo) (o := 0) h5 hof) hof) hof
    have hbC := ((hb.setCell (p := ⟨B7, 0, none⟩) hB7 (.int .i64 lo)).setCell (p := ⟨B7, 1, none⟩) hB7 (.int .i64 hi)).setCell (p := ⟨B7, 2, none⟩) hB7 (.slice (some ⟨g, 0, none⟩) N gc)
    have hgB : B7 ≠ g := fun e => by rcases hof with h9 | h9; (simp [Value.ownBlock] at h9); exact h9 (by rw [e]; rfl)
    have hgw : wc.heap.size ≤ g := (World.ownsRow.lt h5 g rfl).1
    clear yL h5 hof hb hob c0 c1 c2 f0 f1 f2
    generalize (World.setCell _ _ _ : World) = w3 at *
    obtain ⟨sid, swl, swh, sbl, sbh, shl, shh, sti⟩ := s
    dsimp only at hsf
    have y5 : CellsAt w3 B7 [.int .i64 lo, .int .i64 hi, .slice (some ⟨g, 0, none⟩) N gc] := y5
    have y1r := y1.below hbC; have hlr := hl.below hbC; have hBr := bnext (w := w) hB hbC; have hpk := hp.below hBr
    have q2 := (y1r 2 _ rfl).1
    obtain ⟨a2, ha2, r0, hrc, -⟩ := sg_row (show RowsAt 8 w3 (.slice (some a') l.length sc) (l.map rowG) by rw [HN.out]; exact hlr) HSI.out
    injection ha2 with ha2
    subst ha2
    have r1 := hrc 1 _ (by decide) rfl; have r2 := hrc 2 _ (by decide) rfl
    dsimp only at r1 r2
    clear hrc r0
    go_upto_region 16 with fail
    refine wp_region_Rs [(7, IsI64), (8, InRg swl swh)] [0, 1, 2, 3, 4, 5, 6, 7, 8, 9] 0 (by kernel_rfl) rfl (by simp only [List.forall_mem_cons]; exact ⟨keeps_isI64, keeps_inRg, fun _ h => by cases h⟩) (by kernel_rfl) ?_
    simp only [numbered, List.filterMap_cons, List.filterMap_nil, List.getElem?_toArray, List.getElem?_cons_succ, List.getElem?_cons_zero, Option.map_some]
    show wpS _ _ _ _ _ _ _ [(_, _), (_, _), (_, _), (_, _), (_, _), (_, _), (_, _), (_, _), (_, _), (_, _)] _ _
    (refine wpS_quiet rfl rfl ?_; intro K hK inst hx; have s0 := fun x => (fun _ => bkeep (BQ.below x) q2) (hx x); have s1 := fun x => (fun _ => bkeep (BQ.below x) r1) (hx x); have s2 := fun x => (fun _ => bkeep (BQ.below x) r2) (hx x); go_big_quiet_op; (first | go_big_quiet_on | (refine ⟨_, fun _ => rfl, ?_⟩; go_big_quiet_on)); clear hx inst)
    (refine wpS_quiet rfl rfl ?_; intro K hK inst hx; have s0 := fun x => (fun _ => bkeep (BQ.below x) q2) (hx x); have s1 := fun x => (fun _ => bkeep (BQ.below x) r1) (hx x); have s2 := fun x => (fun _ => bkeep (BQ.below x) r2) (hx x); go_big_quiet_op; (first | go_big_quiet_on | (refine ⟨_, fun _ => rfl, ?_⟩; go_big_quiet_on)); clear hx inst)
    (refine wpS_quiet rfl rfl ?_; intro K hK inst hx; have s0 := fun x => (fun _ => bkeep (BQ.below x) q2) (hx x); have s1 := fun x => (fun _ => bkeep (BQ.below x) r1) (hx x); have s2 := fun x => (fun _ => bkeep (BQ.below x) r2) (hx x); go_big_quiet_op; (first | go_big_quiet_on | (refine ⟨_, fun _ => rfl, ?_⟩; go_big_quiet_on)); clear hx inst)
    (refine wpS_quiet rfl rfl ?_; intro K hK inst hx; have s0 := fun x => (fun _ => bkeep (BQ.below x) q2) (hx x); have s1 := fun x => (fun _ => bkeep (BQ.below x) r1) (hx x); have s2 := fun x => (fun _ => bkeep (BQ.below x) r2) (hx x); go_big_quiet_op; (first | go_big_quiet_on | (refine ⟨_, fun _ => rfl, ?_⟩; go_big_quiet_on)); clear hx inst)
    (refine wpS_quiet rfl rfl ?_; intro K hK inst hx; have s0 := fun x => (fun _ => bkeep (BQ.below x) q2) (hx x); have s1 := fun x => (fun _ => bkeep (BQ.below x) r1) (hx x); have s2 := fun x => (fun _ => bkeep (BQ.below x) r2) (hx x); go_big_quiet_op; (first | go_big_quiet_on | (refine ⟨_, fun _ => rfl, ?_⟩; go_big_quiet_on)); clear hx inst)
    (refine wpS_quiet rfl rfl ?_; intro K hK inst hx; have s0 := fun x => (fun _ => bkeep (BQ.below x) q2) (hx x); have s1 := fun x => (fun _ => bkeep (BQ.below x) r1) (hx x); have s2 := fun x => (fun _ => bkeep (BQ.below x) r2) (hx x); go_big_quiet_op; (first | go_big_quiet_on | (refine ⟨_, fun _ => rfl, ?_⟩; go_big_quiet_on)); clear hx inst)
    (refine wpS_quiet rfl rfl ?_; intro K hK inst hx; have s0 := fun x => (fun _ => bkeep (BQ.below x) q2) (hx x); have s1 := fun x => (fun _ => bkeep (BQ.below x) r1) (hx x); have s2 := fun x => (fun _ => bkeep (BQ.below x) r2) (hx x); go_big_quiet_op; (first | go_big_quiet_on | (refine ⟨_, fun _ => rfl, ?_⟩; go_big_quiet_on)); clear hx inst)
    refine wpS_fresh rfl rfl (fun w' hb hF => ?_) ?_
    · change freshAt _ _ _ (IsI64) _; unfold freshAt; go_simp; exact at_any (i := 0) (hpk.below hb) (by decide)
    intro v W hv; simp only [pOf, List.lookup_cons, Nat.reduceBEq, beq_self_eq_true] at hv; obtain ⟨pz, rfl, -⟩ := hv
    simp only [Act.put, List.setIfInBounds_toArray, List.set_cons_succ, List.set_cons_zero]
    refine wpS_fresh rfl rfl (fun w' hb hF => ?_) ?_
    · change freshAt _ _ _ (InRg swl swh) _; unfold freshAt; go_simp; exact one_any (by omega) (by omega) (by omega)
    intro v W hv; simp only [pOf, List.lookup_cons, Nat.reduceBEq, beq_self_eq_true] at hv; obtain ⟨xw, rfl, xwl, xwh⟩ := hv
    simp only [Act.put, List.setIfInBounds_toArray, List.set_cons_succ, List.set_cons_zero]
    (refine wpS_quiet rfl rfl ?_; intro K hK inst hx; have s0 := fun x => (fun _ => bkeep (BQ.below x) q2) (hx x); have s1 := fun x => (fun _ => bkeep (BQ.below x) r1) (hx x); have s2 := fun x => (fun _ => bkeep (BQ.below x) r2) (hx x); go_big_quiet_op; (first | go_big_quiet_on | (refine ⟨_, fun _ => rfl, ?_⟩; go_big_quiet_on)); clear hx inst)
    refine wpS_nil ?_
    intro w4 hall
    have hb := hall.1
    clear hall r1 r2 hpk q2 y1r hlr hBr
    replace y5 := y5.below hb; replace ho5 := owns_below ho5 hb; replace hbC := bnext (w := wc) hbC hb
    clear hb
    refine wpAny_done (by kernel_rfl) ?_ _
    have y1r := y1.below hbC; have hlr := hl.below hbC; have hBr := bnext (w := w) hB hbC; have hpk := hp.below hBr
    have q2 := (y1r 2 _ rfl).1
    obtain ⟨a2, ha2, r0, hrc, -⟩ := sg_row (show RowsAt 8 w4 (.slice (some a') l.length sc) (l.map rowG) by rw [HN.out]; exact hlr) HSI.out
    injection ha2 with ha2
    subst ha2
    have r1 := hrc 3 _ (by decide) rfl; have r2 := hrc 4 _ (by decide) rfl
    dsimp only at r1 r2
    clear hrc r0
    go_upto_region 17 with fail
    refine wp_region_Rs [(7, IsI64), (8, InRg sbl sbh)] [0, 1, 2, 3, 4, 5, 6, 7, 8, 9] 0 (by kernel_rfl) rfl (by simp only [List.forall_mem_cons]; exact ⟨keeps_isI64, keeps_inRg, fun _ h => by cases h⟩) (by kernel_rfl) ?_
    simp only [numbered, List.filterMap_cons, List.filterMap_nil, List.getElem?_toArray, List.getElem?_cons_succ, List.getElem?_cons_zero, Option.map_some]
    show wpS _ _ _ _ _ _ _ [(_, _), (_, _), (_, _), (_, _), (_, _), (_, _), (_, _), (_, _), (_, _), (_, _)] _ _
    (refine wpS_quiet rfl rfl ?_; intro K hK inst hx; have s0 := fun x => (fun _ => bkeep (BQ.below x) q2) (hx x); have s1 := fun x => (fun _ => bkeep (BQ.below x) r1) (hx x); have s2 := fun x => (fun _ => bkeep (BQ.below x) r2) (hx x); go_big_quiet_op; (first | go_big_quiet_on | (refine ⟨_, fun _ => rfl, ?_⟩; go_big_quiet_on)); clear hx inst)
    (refine wpS_quiet rfl rfl ?_; intro K hK inst hx; have s0 := fun x => (fun _ => bkeep (BQ.below x) q2) (hx x); have s1 := fun x => (fun _ => bkeep (BQ.below x) r1) (hx x); have s2 := fun x => (fun _ => bkeep (BQ.below x) r2) (hx x); go_big_quiet_op; (first | go_big_quiet_on | (refine ⟨_, fun _ => rfl, ?_⟩; go_big_quiet_on)); clear hx inst)
    (refine wpS_quiet rfl rfl ?_; intro K hK inst hx; have s0 := fun x => (fun _ => bkeep (BQ.below x) q2) (hx x); have s1 := fun x => (fun _ => bkeep (BQ.below x) r1) (hx x); have s2 := fun x => (fun _ => bkeep (BQ.below x) r2) (hx x); go_big_quiet_op; (first | go_big_quiet_on | (refine ⟨_, fun _ => rfl, ?_⟩; go_big_quiet_on)); clear hx inst)
    (refine wpS_quiet rfl rfl ?_; intro K hK inst hx; have s0 := fun x => (fun _ => bkeep (BQ.below x) q2) (hx x); have s1 := fun x => (fun _ => bkeep (BQ.below x) r1) (hx x); have s2 := fun x => (fun _ => bkeep (BQ.below x) r2) (hx x); go_big_quiet_op; (first | go_big_quiet_on | (refine ⟨_, fun _ => rfl, ?_⟩; go_big_quiet_on)); clear hx inst)
    (refine wpS_quiet rfl rfl ?_; intro K hK inst hx; have s0 := fun x => (fun _ => bkeep (BQ.below x) q2) (hx x); have s1 := fun x => (fun _ => bkeep (BQ.below x) r1) (hx x); have s2 := fun x => (fun _ => bkeep (BQ.below x) r2) (hx x); go_big_quiet_op; (first | go_big_quiet_on | (refine ⟨_, fun _ => rfl, ?_⟩; go_big_quiet_on)); clear hx inst)
    (refine wpS_quiet rfl rfl ?_; intro K hK inst hx; have s0 := fun x => (fun _ => bkeep (BQ.below x) q2) (hx x); have s1 := fun x => (fun _ => bkeep (BQ.below x) r1) (hx x); have s2 := fun x => (fun _ => bkeep (BQ.below x) r2) (hx x); go_big_quiet_op; (first | go_big_quiet_on | (refine ⟨_, fun _ => rfl, ?_⟩; go_big_quiet_on)); clear hx inst)
    (refine wpS_quiet rfl rfl ?_; intro K hK inst hx; have s0 := fun x => (fun _ => bkeep (BQ.below x) q2) (hx x); have s1 := fun x => (fun _ => bkeep (BQ.below x) r1) (hx x); have s2 := fun x => (fun _ => bkeep (BQ.below x) r2) (hx x); go_big_quiet_op; (first | go_big_quiet_on | (refine ⟨_, fun _ => rfl, ?_⟩; go_big_quiet_on)); clear hx inst)
    refine wpS_fresh rfl rfl (fun w' hb hF => ?_) ?_
    · change freshAt _ _ _ (IsI64) _; unfold freshAt; go_simp; exact at_any (i := 1) (hpk.below hb) (by decide)
    intro v W hv; simp only [pOf, List.lookup_cons, Nat.reduceBEq, beq_self_eq_true] at hv; obtain ⟨pz, rfl, -⟩ := hv
    simp only [Act.put, List.setIfInBounds_toArray, List.set_cons_succ, List.set_cons_zero]
    refine wpS_fresh rfl rfl (fun w' hb hF => ?_) ?_
    · change freshAt _ _ _ (InRg sbl sbh) _; unfold freshAt; go_simp; exact one_any (by omega) (by omega) (by omega)
    intro v W hv; simp only [pOf, List.lookup_cons, Nat.reduceBEq, beq_self_eq_true] at hv; obtain ⟨xb, rfl, xbl, xbh⟩ := hv
    simp only [Act.put, List.setIfInBounds_toArray, List.set_cons_succ, List.set_cons_zero]
    (refine wpS_quiet rfl rfl ?_; intro K hK inst hx; have s0 := fun x => (fun _ => bkeep (BQ.below x) q2) (hx x); have s1 := fun x => (fun _ => bkeep (BQ.below x) r1) (hx x); have s2 := fun x => (fun _ => bkeep (BQ.below x) r2) (hx x); go_big_quiet_op; (first | go_big_quiet_on | (refine ⟨_, fun _ => rfl, ?_⟩; go_big_quiet_on)); clear hx inst)
    refine wpS_nil ?_
    intro w5 hall
    have hb := hall.1
    clear hall r1 r2 hpk q2 y1r hlr hBr
    replace y5 := y5.below hb; replace ho5 := owns_below ho5 hb; replace hbC := bnext (w := wc) hbC hb
    clear hb
    refine wpAny_done (by kernel_rfl) ?_ _
    have y1r := y1.below hbC; have hlr := hl.below hbC; have hBr := bnext (w := w) hB hbC; have hpk := hp.below hBr
    have q2 := (y1r 2 _ rfl).1
    obtain ⟨a2, ha2, r0, hrc, -⟩ := sg_row (show RowsAt 8 w5 (.slice (some a') l.length sc) (l.map rowG) by rw [HN.out]; exact hlr) HSI.out
    injection ha2 with ha2
    subst ha2
    have r1 := hrc 5 _ (by decide) rfl; have r2 := hrc 6 _ (by decide) rfl
    dsimp only at r1 r2
    clear hrc r0
    go_upto_region 18 with fail
    refine wp_region_Rs [(7, IsI64), (8, InRg shl shh)] [0, 1, 2, 3, 4, 5, 6, 7, 8, 9] 0 (by kernel_rfl) rfl (by simp only [List.forall_mem_cons]; exact ⟨keeps_isI64, keeps_inRg, fun _ h => by cases h⟩) (by kernel_rfl) ?_
    simp only [numbered, List.filterMap_cons, List.filterMap_nil, List.getElem?_toArray, List.getElem?_cons_succ, List.getElem?_cons_zero, Option.map_some]
    show wpS _ _ _ _ _ _ _ [(_, _), (_, _), (_, _), (_, _), (_, _), (_, _), (_, _), (_, _), (_, _), (_, _)] _ _
    (refine wpS_quiet rfl rfl ?_; intro K hK inst hx; have s0 := fun x => (fun _ => bkeep (BQ.below x) q2) (hx x); have s1 := fun x => (fun _ => bkeep (BQ.below x) r1) (hx x); have s2 := fun x => (fun _ => bkeep (BQ.below x) r2) (hx x); go_big_quiet_op; (first | go_big_quiet_on | (refine ⟨_, fun _ => rfl, ?_⟩; go_big_quiet_on)); clear hx inst)
    (refine wpS_quiet rfl rfl ?_; intro K hK inst hx; have s0 := fun x => (fun _ => bkeep (BQ.below x) q2) (hx x); have s1 := fun x => (fun _ => bkeep (BQ.below x) r1) (hx x); have s2 := fun x => (fun _ => bkeep (BQ.below x) r2) (hx x); go_big_quiet_op; (first | go_big_quiet_on | (refine ⟨_, fun _ => rfl, ?_⟩; go_big_quiet_on)); clear hx inst)
    (refine wpS_quiet rfl rfl ?_; intro K hK inst hx; have s0 := fun x => (fun _ => bkeep (BQ.below x) q2) (hx x); have s1 := fun x => (fun _ => bkeep (BQ.below x) r1) (hx x); have s2 := fun x => (fun _ => bkeep (BQ.below x) r2) (hx x); go_big_quiet_op; (first | go_big_quiet_on | (refine ⟨_, fun _ => rfl, ?_⟩; go_big_quiet_on)); clear hx inst)
    (refine wpS_quiet rfl rfl ?_; intro K hK inst hx; have s0 := fun x => (fun _ => bkeep (BQ.below x) q2) (hx x); have s1 := fun x => (fun _ => bkeep (BQ.below x) r1) (hx x); have s2 := fun x => (fun _ => bkeep (BQ.below x) r2) (hx x); go_big_quiet_op; (first | go_big_quiet_on | (refine ⟨_, fun _ => rfl, ?_⟩; go_big_quiet_on)); clear hx inst)
    (refine wpS_quiet rfl rfl ?_; intro K hK inst hx; have s0 := fun x => (fun _ => bkeep (BQ.below x) q2) (hx x); have s1 := fun x => (fun _ => bkeep (BQ.below x) r1) (hx x); have s2 := fun x => (fun _ => bkeep (BQ.below x) r2) (hx x); go_big_quiet_op; (first | go_big_quiet_on | (refine ⟨_, fun _ => rfl, ?_⟩; go_big_quiet_on)); clear hx inst)
    (refine wpS_quiet rfl rfl ?_; intro K hK inst hx; have s0 := fun x => (fun _ => bkeep (BQ.below x) q2) (hx x); have s1 := fun x => (fun _ => bkeep (BQ.below x) r1) (hx x); have s2 := fun x => (fun _ => bkeep (BQ.below x) r2) (hx x); go_big_quiet_op; (first | go_big_quiet_on | (refine ⟨_, fun _ => rfl, ?_⟩; go_big_quiet_on)); clear hx inst)
    (refine wpS_quiet rfl rfl ?_; intro K hK inst hx; have s0 := fun x => (fun _ => bkeep (BQ.below x) q2) (hx x); have s1 := fun x => (fun _ => bkeep (BQ.below x) r1) (hx x); have s2 := fun x => (fun _ => bkeep (BQ.below x) r2) (hx x); go_big_quiet_op; (first | go_big_quiet_on | (refine ⟨_, fun _ => rfl, ?_⟩; go_big_quiet_on)); clear hx inst)
    refine wpS_fresh rfl rfl (fun w' hb hF => ?_) ?_
    · change freshAt _ _ _ (IsI64) _; unfold freshAt; go_simp; exact at_any (i := 2) (hpk.below hb) (by decide)
    intro v W hv; simp only [pOf, List.lookup_cons, Nat.reduceBEq, beq_self_eq_true] at hv; obtain ⟨pz, rfl, -⟩ := hv
    simp only [Act.put, List.setIfInBounds_toArray, List.set_cons_succ, List.set_cons_zero]
    refine wpS_fresh rfl rfl (fun w' hb hF => ?_) ?_
    · change freshAt _ _ _ (InRg shl shh) _; unfold freshAt; go_simp; exact one_any (by omega) (by omega) (by omega)
    intro v W hv; simp only [pOf, List.lookup_cons, Nat.reduceBEq, beq_self_eq_true] at hv; obtain ⟨xt, rfl, xtl, xth⟩ := hv
    simp only [Act.put, List.setIfInBounds_toArray, List.set_cons_succ, List.set_cons_zero]
    (refine wpS_quiet rfl rfl ?_; intro K hK inst hx; have s0 := fun x => (fun _ => bkeep (BQ.below x) q2) (hx x); have s1 := fun x => (fun _ => bkeep (BQ.below x) r1) (hx x); have s2 := fun x => (fun _ => bkeep (BQ.below x) r2) (hx x); go_big_quiet_op; (first | go_big_quiet_on | (refine ⟨_, fun _ => rfl, ?_⟩; go_big_quiet_on)); clear hx inst)
    refine wpS_nil ?_
    intro w6 hall
    have hb := hall.1
    clear hall r1 r2 hpk q2 y1r hlr hBr
    replace y5 := y5.below hb; replace ho5 := owns_below ho5 hb; replace hbC := bnext (w := wc) hbC hb
    clear hb
    refine wpAny_done (by kernel_rfl) ?_ _
    have e2 := (y5 2 _ rfl).1
    obtain ⟨k1, p1⟩ := own_cell ho5 (o := i * 8 + 1) (by (try simp only [List.length_set]); rw [sg_len, HN.out]; omega); have f1 := owns_frozen ho5 rfl (i * 8 + 1)
    obtain ⟨k2, p2⟩ := own_cell ho5 (o := i * 8 + 2) (by (try simp only [List.length_set]); rw [sg_len, HN.out]; omega); have f2 := owns_frozen ho5 rfl (i * 8 + 2)
    go_upto_region 20 with fail
    have ho6 := Go.Pb.Sag.own_set (k := i * 8 + 2) (v := .int .i64 xw) (Go.Pb.Sag.own_set (k := i * 8 + 1) (v := .int .i64 xw) ho5)
    have hb6 := (hbC.setCell (p := ⟨g, i * 8 + 1, none⟩) hgw (.int .i64 xw)).setCell (p := ⟨g, i * 8 + 2, none⟩) hgw (.int .i64 xw)
    have y6 := (y5.other (o' := i * 8 + 1) hgB (.int .i64 xw)).other (o' := i * 8 + 2) hgB (.int .i64 xw)
    clear ho5 hbC y5 e2 p1 p2 f1 f2
    generalize (World.setCell _ _ _ : World) = v1 at *
    have ho5 := ho6; have hbC := hb6; have y5 := y6; clear ho6 hb6 y6
    have e2 := (y5 2 _ rfl).1
    obtain ⟨k3, p3⟩ := own_cell ho5 (o := i * 8 + 3) (by (try simp only [List.length_set]); rw [sg_len, HN.out]; omega); have f3 := owns_frozen ho5 rfl (i * 8 + 3)
    obtain ⟨k4, p4⟩ := own_cell ho5 (o := i * 8 + 4) (by (try simp only [List.length_set]); rw [sg_len, HN.out]; omega); have f4 := owns_frozen ho5 rfl (i * 8 + 4)
    go_upto_region 21 with fail
    have ho6 := Go.Pb.Sag.own_set (k := i * 8 + 4) (v := .int .i64 xb) (Go.Pb.Sag.own_set (k := i * 8 + 3) (v := .int .i64 xb) ho5)
    have hb6 := (hbC.setCell (p := ⟨g, i * 8 + 3, none⟩) hgw (.int .i64 xb)).setCell (p := ⟨g, i * 8 + 4, none⟩) hgw (.int .i64 xb)
    have y6 := (y5.other (o' := i * 8 + 3) hgB (.int .i64 xb)).other (o' := i * 8 + 4) hgB (.int .i64 xb)
    clear ho5 hbC y5 e2 p3 p4 f3 f4
    generalize (World.setCell _ _ _ : World) = v2 at *
    have ho5 := ho6; have hbC := hb6; have y5 := y6; clear ho6 hb6 y6
    have e2 := (y5 2 _ rfl).1
    obtain ⟨k5, p5⟩ := own_cell ho5 (o := i * 8 + 5) (by (try simp only [List.length_set]); rw [sg_len, HN.out]; omega); have f5 := owns_frozen ho5 rfl (i * 8 + 5)
    obtain ⟨k6, p6⟩ := own_cell ho5 (o := i * 8 + 6) (by (try simp only [List.length_set]); rw [sg_len, HN.out]; omega); have f6 := owns_frozen ho5 rfl (i * 8 + 6)
    go_upto_region 22 with fail
    have ho6 := Go.Pb.Sag.own_set (k := i * 8 + 6) (v := .int .i64 xt) (Go.Pb.Sag.own_set (k := i * 8 + 5) (v := .int .i64 xt) ho5)
    have hb6 := (hbC.setCell (p := ⟨g, i * 8 + 5, none⟩) hgw (.int .i64 xt)).setCell (p := ⟨g, i * 8 + 6, none⟩) hgw (.int .i64 xt)
    have y6 := (y5.other (o' := i * 8 + 5) hgB (.int .i64 xt)).other (o' := i * 8 + 6) hgB (.int .i64 xt)
    clear ho5 hbC y5 e2 p5 p6 f5 f6
    generalize (World.setCell _ _ _ : World) = v3 at *
    have ho5 := ho6; have hbC := hb6; have y5 := y6; clear ho6 hb6 y6
    have hna := narrow_all HOK.out HSI.out ⟨xwl, xwh⟩ ⟨xbl, xbh⟩ ⟨xtl, xth⟩
    have hfs := flat_set6 (w := xw) (b := xb) (t := xt) HSI.out
    dsimp only at hna hfs xwl xwh xbl xbh xtl xth
    have hti : ∀ x ∈ l.set i (⟨sid, xw, xw, xb, xb, xt, xt, sti⟩ : Sg), ∀ z ∈ rowG x, I64 z := fun x hx => by rcases List.mem_or_eq_of_mem_set hx with h9 | h9; exact hI64.out x h9; (subst h9; intro z hz; simp only [rowG, List.mem_cons, List.not_mem_nil, or_false] at hz; rcases hz with rfl | rfl | rfl | rfl | rfl | rfl | rfl | rfl <;> exact I64.mk (by omega) (by omega))
    rw [hfs] at ho5
    have hlen : (l.set i (⟨sid, xw, xw, xb, xb, xt, xt, sti⟩ : Sg)).length = N := by rw [List.length_set]; exact HN.out
    obtain ⟨m, hm⟩ : ∃ m, l.set i (⟨sid, xw, xw, xb, xb, xt, xt, sti⟩ : Sg) = m := ⟨_, rfl⟩
    rw [hm] at hna ho5 hti hlen
    have rN := rows_of_owns (l := m) (by rw [hlen]; exact ho5) hti
    clear ho5 hti hfs hm
    obtain ⟨n1', n2', n3', ⟨n4', n5'⟩, n6'⟩ := hna
    rw [HS1.out] at n2' n3'
    rw [HE0.out] at n4'
    rw [HE1.out] at n5'
    rw [HE2.out] at n6'
    obtain ⟨z6, e6⟩ : ∃ z, stA m = z := ⟨_, rfl⟩
    obtain ⟨hl1, e7⟩ : ∃ z, hgtL m lo m.length = z := ⟨_, rfl⟩
    obtain ⟨hh1, e8⟩ : ∃ z, hgtH m hi m.length = z := ⟨_, rfl⟩
    obtain ⟨ln1, e9⟩ : ∃ z, lnA m hi = z := ⟨_, rfl⟩
    rw [e6] at n2' n3'; rw [e7] at n4'; rw [e8] at n5'; rw [e9] at n6'
    have HR6 : Hid ((if bungOk lo hi m = true then (stA m, 0) else (0, 31)) = ((z6, 0) : Int × Int)) := hid (by rw [if_pos n1', e6])
    have HR7 : Hid (hgA lo hi m = ((hl1, hh1), 0)) := hid (by unfold hgA; rw [if_pos n1', e7, e8])
    have HR8 : Hid ((if bungOk lo hi m = true then (lnA m hi, 0) else (0, 31)) = ((ln1, 0) : Int × Int)) := hid (by rw [if_pos n1', e9])
    have h3z := stA_three l
    rw [HS1.out] at h3z
    have H3 := hid (And.intro n2' (And.intro n3' h3z))
    clear e6 e7 e8 e9 n1' n2' n3' h3z hlen
    replace hB := bnext (w := w) hB hbC; replace yh := yh.below hbC
    clear y1 hl hbC HLT
    have y5 : CellsAt v3 B7 [.int .i64 lo, .int .i64 hi, .slice (some ⟨g, 0, none⟩) N gc] := y5
    obtain ⟨w1, hw1⟩ : ∃ v, v = v3 := ⟨_, rfl⟩
    subst hw1
    have yh_0 := (yh 0 _ rfl).1
    have yh_1 := (yh 1 _ rfl).1
    have y5_0 := (y5 0 _ rfl).1
    have y5_1 := (y5 1 _ rfl).1
    have y5_2 := (y5 2 _ rfl).1
    go_wp2_with fail
    refine (Stands_any rN HR6.out).mono ?_
    rintro e w1 ⟨rfl, hb⟩
    clear yh_0 yh_1 y5_0 y5_1 y5_2
    replace yh := yh.below hb
    replace y5 := y5.below hb
    replace rN := rN.below hb
    replace hB := bnext (w := w) hB hb
    clear hb
    (try dsimp only)
    have yh_0 := (yh 0 _ rfl).1
    have yh_1 := (yh 1 _ rfl).1
    have y5_0 := (y5 0 _ rfl).1
    have y5_1 := (y5 1 _ rfl).1
    have y5_2 := (y5 2 _ rfl).1
    go_wp2_with fail
    refine (heightP rN HR7.out).mono ?_
    rintro e w1 ⟨rfl, hb⟩
    clear yh_0 yh_1 y5_0 y5_1 y5_2
    replace yh := yh.below hb
    replace y5 := y5.below hb
    replace rN := rN.below hb
    replace hB := bnext (w := w) hB hb
    clear hb
    (try dsimp only)
    have yh_0 := (yh 0 _ rfl).1
    have yh_1 := (yh 1 _ rfl).1
    have y5_0 := (y5 0 _ rfl).1
    have y5_1 := (y5 1 _ rfl).1
    have y5_2 := (y5 2 _ rfl).1
    obtain ⟨vE, hv9⟩ : ∃ v, v = w1 := ⟨_, rfl⟩
    subst hv9
    go_upto_region 24 with fail
    generalize hW : World.alloc vE _ = vF
    have yk : CellsAt vF vE.heap.size [.int .i64 hl1, .int .i64 hh1] := by rw [← hW]; exact CellsAt.new vE [.int .i64 hl1, .int .i64 hh1] 23
    have hb : Below vE.heap.size vE vF := by rw [← hW]; exact (Below.refl _ _).alloc (Nat.le_refl _) _
    clear yh_0 yh_1 y5_0 y5_1 y5_2
    replace yh := yh.below hb
    replace y5 := y5.below hb
    replace rN := rN.below hb
    replace hB := bnext (w := w) hB hb
    clear hW hb
    have yh_0 := (yh 0 _ rfl).1
    have yh_1 := (yh 1 _ rfl).1
    have y5_0 := (y5 0 _ rfl).1
    have y5_1 := (y5 1 _ rfl).1
    have y5_2 := (y5 2 _ rfl).1
    have yk_0 := (yk 0 _ rfl).1
    have yk_1 := (yk 1 _ rfl).1
    go_wp2_with fail
    refine (Lean_any rN HR8.out).mono ?_
    rintro e w1 ⟨rfl, hb⟩
    clear yh_0 yh_1 y5_0 y5_1 y5_2 yk_0 yk_1
    replace yh := yh.below hb
    replace y5 := y5.below hb
    replace yk := yk.below hb
    replace rN := rN.below hb
    replace hB := bnext (w := w) hB hb
    clear hb
    (try dsimp only)
    have yh_0 := (yh 0 _ rfl).1
    have yh_1 := (yh 1 _ rfl).1
    have y5_0 := (y5 0 _ rfl).1
    have y5_1 := (y5 1 _ rfl).1
    have y5_2 := (y5 2 _ rfl).1
    have yk_0 := (yk 0 _ rfl).1
    have yk_1 := (yk 1 _ rfl).1
    clear HR6 HR7 HR8
    obtain ⟨g1, g0, h3z⟩ := H3.out
    clear H3
    rcases h3z with h3 | h3 | h3
    · obtain rfl : z6 = 0 := g0 h3
      clear g0 g1
      subst h3
      go_wp2_with fail
      go_ret
      exact ⟨rfl, hB⟩
    · obtain rfl : z6 = 1 := g1 h3
      clear g0 g1
      subst h3
      go_wp2_with fail
      go_ret
      exact ⟨rfl, hB⟩
    · clear g0 g1
      subst h3
      go_wp2_with fail
      go_ret
      exact ⟨rfl, hB⟩

end Go.Proofs.Ytnchhleokdkejaa
