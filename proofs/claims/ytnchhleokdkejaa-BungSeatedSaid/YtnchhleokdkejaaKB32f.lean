/- What bungs answer, on both sides. -/
import Derived.Test.YtnchhleokdkejaaKW20f
import Derived.Test.YtnchhleokdkejaaKBef
import Derived.Test.YtnchhleokdkejaaKSuf
import Derived.Laws.AppendOwn
import Derived.OwnWalk
import Derived.Test.YtnchhleokdkejaaKScf
import Derived.Test.YtnchhleokdkejaaKTgf
import Derived.Deep.LoopGhost
import Derived.Test.YtnchhleokdkejaaKLibDf
import Derived.Test.YtnchhleokdkejaaKLibf
import Derived.Deep.DeepMust
namespace Go.Proofs.Ytnchhleokdkejaa
open Go.RowKit Go.Pb Go.Pb.Ware Go.Pb.Sag
set_option linter.unusedVariables false
set_option linter.unusedSimpArgs false

open Go.Pb.Bung
theorem bungOk_ne {lo hi : Int} {l : List Sg} (h : bungOk lo hi l = true) : l ≠ [] := by
  unfold bungOk at h
  simp only [Bool.and_eq_true, decide_eq_true_eq] at h
  exact h.1.2
def fitR (wl wh : Int) (l : List Sg) (cr le : Int) : Int × Int := if bungOk wl wh l = true then (if ckSp cr le = 0 then (fitA wl wh l cr le, 0) else (0, 33)) else (0, 31)

set_option maxRecDepth 100000 in
set_option maxHeartbeats 800000 in
theorem fitsP {w : World} {v : Value} {l : List Sg} {wl wh : Int} (h : RowsAt 8 w v (l.map rowG)) {cr le : Int} {r : Int × Int} (hr : fitR wl wh l cr le = r) :
    Calls Try.prog 40 #[.agg #[.int .i64 wl, .int .i64 wh, v], .agg #[.int .i64 cr, .int .i64 le]] w (Ret w (.tuple #[.int .i64 r.1, .int .i64 r.2])) := by
  unfold Ret
  obtain ⟨a, cap, rfl, hll⟩ := h.shape
  rw [List.length_map] at hll ⊢
  obtain ⟨n, hn⟩ : ∃ n, l.length = n := ⟨_, rfl⟩
  have HN := hid hn
  rw [List.length_map] at h
  rw [hn] at h hll ⊢
  clear hn
  obtain ⟨b, hb⟩ : ∃ b, bungOk wl wh l = b := ⟨_, rfl⟩
  have hcb : ckBg wl wh l = if b = true then 0 else 31 := by unfold ckBg; rw [hb]
  obtain ⟨c3, hc3⟩ : ∃ c, ckSp cr le = c := ⟨_, rfl⟩
  have hc33 : c3 = 0 ∨ c3 = 33 := by rw [← hc3]; unfold ckSp; split; exact .inl rfl; exact .inr rfl
  have hr2 : r = if b = true then (if c3 = 0 then (fitA wl wh l cr le, 0) else (0, 33)) else (0, 31) := by rw [← hr]; unfold fitR; rw [hb, hc3]
  have HC3 := hid hc3; clear hc3
  clear hr
  cases b
  · rw [if_neg (by simp)] at hcb hr2
    subst hr2
    have HC := hid hcb; clear hcb
    go_enter Try.func40, Try.ntmps40
    go_wp2_with fail
    refine (ckBg_any (h.below (by go_grown)) HC.out).mono ?_
    rintro e w1 ⟨rfl, hb⟩
    replace hb0 := bnext (w := w) (by go_grown) hb; have hz := hb.size; (try simp only [World.size_alloc, World.size_setCell] at hz); replace q0 : w1.cell? ⟨w.heap.size, 0, none⟩ = some (.int .i64 wl) := bkeep hb (by first | (with_reducible exact q0) | (with_reducible exact akeep q0) | simp [*, go_sem]); replace q1 : w1.cell? ⟨w.heap.size, 1, none⟩ = some (.int .i64 wh) := bkeep hb (by first | (with_reducible exact q1) | (with_reducible exact akeep q1) | simp [*, go_sem]); replace q2 : w1.cell? ⟨w.heap.size, 2, none⟩ = some (.slice a n cap) := bkeep hb (by first | (with_reducible exact q2) | (with_reducible exact akeep q2) | simp [*, go_sem]); replace q3 : w1.cell? ⟨w.heap.size + 1, 0, none⟩ = some (.int .i64 cr) := bkeep hb (by first | (with_reducible exact q3) | (with_reducible exact akeep q3) | simp [*, go_sem]); replace q4 : w1.cell? ⟨w.heap.size + 1, 1, none⟩ = some (.int .i64 le) := bkeep hb (by first | (with_reducible exact q4) | (with_reducible exact akeep q4) | simp [*, go_sem]); skip
    clear hb
    go_wp2_with fail
    go_ret2
    exact ⟨rfl, by first | exact hb0 | go_grown⟩
  · rw [if_pos rfl] at hcb hr2
    have HC := hid hcb; have HL := hid (bungOk_len hb); have HK := hid (bungOk_list hb); have HW := hid (wad_bounds hb); have HE := hid (bungOk_ne hb); clear hcb hb
    rcases hc33 with h3 | h3
    · subst h3
      rw [if_pos rfl] at hr2
      obtain ⟨z, hz⟩ : ∃ z, fitA wl wh l cr le = z := ⟨_, rfl⟩
      rw [hz] at hr2
      subst hr2
      have HZ := hid hz; clear hz
      go_enter Try.func40, Try.ntmps40
      go_wp2_with fail
      refine (ckBg_any (h.below (by go_grown)) HC.out).mono ?_
      rintro e w1 ⟨rfl, hb⟩
      replace hb0 := bnext (w := w) (by go_grown) hb; have hz := hb.size; (try simp only [World.size_alloc, World.size_setCell] at hz); replace q0 : w1.cell? ⟨w.heap.size, 0, none⟩ = some (.int .i64 wl) := bkeep hb (by first | (with_reducible exact q0) | (with_reducible exact akeep q0) | simp [*, go_sem]); replace q1 : w1.cell? ⟨w.heap.size, 1, none⟩ = some (.int .i64 wh) := bkeep hb (by first | (with_reducible exact q1) | (with_reducible exact akeep q1) | simp [*, go_sem]); replace q2 : w1.cell? ⟨w.heap.size, 2, none⟩ = some (.slice a n cap) := bkeep hb (by first | (with_reducible exact q2) | (with_reducible exact akeep q2) | simp [*, go_sem]); replace q3 : w1.cell? ⟨w.heap.size + 1, 0, none⟩ = some (.int .i64 cr) := bkeep hb (by first | (with_reducible exact q3) | (with_reducible exact akeep q3) | simp [*, go_sem]); replace q4 : w1.cell? ⟨w.heap.size + 1, 1, none⟩ = some (.int .i64 le) := bkeep hb (by first | (with_reducible exact q4) | (with_reducible exact akeep q4) | simp [*, go_sem]); skip
      clear hb
      go_wp2_with fail
      refine (ckSp_any HC3.out).mono ?_
      rintro e w1 ⟨rfl, hb⟩
      replace hb0 := bnext (w := w) (by go_grown) hb; have hz := hb.size; (try simp only [World.size_alloc, World.size_setCell] at hz); replace q0 : w1.cell? ⟨w.heap.size, 0, none⟩ = some (.int .i64 wl) := bkeep hb (by first | (with_reducible exact q0) | (with_reducible exact akeep q0) | simp [*, go_sem]); replace q1 : w1.cell? ⟨w.heap.size, 1, none⟩ = some (.int .i64 wh) := bkeep hb (by first | (with_reducible exact q1) | (with_reducible exact akeep q1) | simp [*, go_sem]); replace q2 : w1.cell? ⟨w.heap.size, 2, none⟩ = some (.slice a n cap) := bkeep hb (by first | (with_reducible exact q2) | (with_reducible exact akeep q2) | simp [*, go_sem]); replace q3 : w1.cell? ⟨w.heap.size + 1, 0, none⟩ = some (.int .i64 cr) := bkeep hb (by first | (with_reducible exact q3) | (with_reducible exact akeep q3) | simp [*, go_sem]); replace q4 : w1.cell? ⟨w.heap.size + 1, 1, none⟩ = some (.int .i64 le) := bkeep hb (by first | (with_reducible exact q4) | (with_reducible exact akeep q4) | simp [*, go_sem]); skip
      clear hb
      go_wp2_with fail
      refine (fits_any (h.below (by go_grown)) HL.out HK.out HW.out.1 HW.out.2 HZ.out).mono ?_
      rintro e w1 ⟨rfl, hb⟩
      replace hb0 := bnext (w := w) (by go_grown) hb; have hz := hb.size; (try simp only [World.size_alloc, World.size_setCell] at hz); replace q0 : w1.cell? ⟨w.heap.size, 0, none⟩ = some (.int .i64 wl) := bkeep hb (by first | (with_reducible exact q0) | (with_reducible exact akeep q0) | simp [*, go_sem]); replace q1 : w1.cell? ⟨w.heap.size, 1, none⟩ = some (.int .i64 wh) := bkeep hb (by first | (with_reducible exact q1) | (with_reducible exact akeep q1) | simp [*, go_sem]); replace q2 : w1.cell? ⟨w.heap.size, 2, none⟩ = some (.slice a n cap) := bkeep hb (by first | (with_reducible exact q2) | (with_reducible exact akeep q2) | simp [*, go_sem]); replace q3 : w1.cell? ⟨w.heap.size + 1, 0, none⟩ = some (.int .i64 cr) := bkeep hb (by first | (with_reducible exact q3) | (with_reducible exact akeep q3) | simp [*, go_sem]); replace q4 : w1.cell? ⟨w.heap.size + 1, 1, none⟩ = some (.int .i64 le) := bkeep hb (by first | (with_reducible exact q4) | (with_reducible exact akeep q4) | simp [*, go_sem]); skip
      clear hb
      go_wp2_with fail
      go_ret2
      exact ⟨rfl, by first | exact hb0 | go_grown⟩
    · subst h3
      rw [if_neg (by decide)] at hr2
      subst hr2
      go_enter Try.func40, Try.ntmps40
      go_wp2_with fail
      refine (ckBg_any (h.below (by go_grown)) HC.out).mono ?_
      rintro e w1 ⟨rfl, hb⟩
      replace hb0 := bnext (w := w) (by go_grown) hb; have hz := hb.size; (try simp only [World.size_alloc, World.size_setCell] at hz); replace q0 : w1.cell? ⟨w.heap.size, 0, none⟩ = some (.int .i64 wl) := bkeep hb (by first | (with_reducible exact q0) | (with_reducible exact akeep q0) | simp [*, go_sem]); replace q1 : w1.cell? ⟨w.heap.size, 1, none⟩ = some (.int .i64 wh) := bkeep hb (by first | (with_reducible exact q1) | (with_reducible exact akeep q1) | simp [*, go_sem]); replace q2 : w1.cell? ⟨w.heap.size, 2, none⟩ = some (.slice a n cap) := bkeep hb (by first | (with_reducible exact q2) | (with_reducible exact akeep q2) | simp [*, go_sem]); replace q3 : w1.cell? ⟨w.heap.size + 1, 0, none⟩ = some (.int .i64 cr) := bkeep hb (by first | (with_reducible exact q3) | (with_reducible exact akeep q3) | simp [*, go_sem]); replace q4 : w1.cell? ⟨w.heap.size + 1, 1, none⟩ = some (.int .i64 le) := bkeep hb (by first | (with_reducible exact q4) | (with_reducible exact akeep q4) | simp [*, go_sem]); skip
      clear hb
      go_wp2_with fail
      refine (ckSp_any HC3.out).mono ?_
      rintro e w1 ⟨rfl, hb⟩
      replace hb0 := bnext (w := w) (by go_grown) hb; have hz := hb.size; (try simp only [World.size_alloc, World.size_setCell] at hz); replace q0 : w1.cell? ⟨w.heap.size, 0, none⟩ = some (.int .i64 wl) := bkeep hb (by first | (with_reducible exact q0) | (with_reducible exact akeep q0) | simp [*, go_sem]); replace q1 : w1.cell? ⟨w.heap.size, 1, none⟩ = some (.int .i64 wh) := bkeep hb (by first | (with_reducible exact q1) | (with_reducible exact akeep q1) | simp [*, go_sem]); replace q2 : w1.cell? ⟨w.heap.size, 2, none⟩ = some (.slice a n cap) := bkeep hb (by first | (with_reducible exact q2) | (with_reducible exact akeep q2) | simp [*, go_sem]); replace q3 : w1.cell? ⟨w.heap.size + 1, 0, none⟩ = some (.int .i64 cr) := bkeep hb (by first | (with_reducible exact q3) | (with_reducible exact akeep q3) | simp [*, go_sem]); replace q4 : w1.cell? ⟨w.heap.size + 1, 1, none⟩ = some (.int .i64 le) := bkeep hb (by first | (with_reducible exact q4) | (with_reducible exact akeep q4) | simp [*, go_sem]); skip
      clear hb
      go_wp2_with fail
      go_ret2
      exact ⟨rfl, by first | exact hb0 | go_grown⟩

end Go.Proofs.Ytnchhleokdkejaa

/- A bung of made saggars, in an order that numbers choose. -/
namespace Go.Proofs.Ytnchhleokdkejaa
open Go.RowKit Go.Pb Go.Pb.Ware Go.Pb.Sag
set_option linter.unusedVariables false
set_option linter.unusedSimpArgs false

open Go.Proofs Go.Pb.Bung
theorem nums_keepP {p : Nat → Prop} {W W' : World} {v : Value} {zs : List Int} (h : NumsAt W v zs) (hp : zs ≠ [] → InP p v) (hk : KeepP p W W') : NumsAt W' v zs := by
  rcases h with h | ⟨a, cap, h1, h2, h3, h4⟩
  · exact .inl h
  · exact .inr ⟨a, cap, h1, h2, h3, fun k z hz => ⟨hk.cell (a := a.add k) (by
      rw [block_add]; exact hp (fun e => by rw [e] at hz; simp at hz) a _ cap h1) (h4 k z hz).1, (h4 k z hz).2⟩⟩
theorem inP_own {W : World} {base n : Nat} {T : TypeId} {size : Nat} {v : Value} {cs : List Value} (h : W.ownsRow base T size v n cs) : InP (fun k => base ≤ k ∧ k < W.heap.size) v := by
  rintro a m c rfl
  exact World.ownsRow.lt h a.block rfl
theorem keepP_low {n : Nat} {p : Nat → Prop} {W W' : World} (h : Below n W W') (hp : ∀ k, p k → k < n) : KeepP p W W' := ⟨h.size, fun k h1 _ => h.block k (hp k h1)⟩
theorem inP_mono {p q : Nat → Prop} {v : Value} (h : InP p v) (hq : ∀ k, p k → q k) : InP q v := fun a n c e => hq _ (h a n c e)
theorem wad_made (n0 n1 : Int) : wadOk (n0 % 15) (n0 % 15 + n1 % 10) = true := by
  unfold wadOk
  rw [rgOk_iff]
  dsimp only
  omega
theorem stack_ok {lo hi : Int} {l : List Sg} {O : List Int} (hw : wadOk lo hi = true) (hl : listOk l = true) (h1 : 1 ≤ l.length) (hO : O.Perm (castN (List.range l.length))) : bungOk lo hi (chosenG l O) = true := by
  have h2 := (listOk_iff.1 hl).1
  have hz : ∀ z ∈ O, 0 ≤ z ∧ z < (l.length : Int) := fun z hz => range_in (hO.mem_iff.1 hz)
  have hlen : O.length = l.length := by rw [hO.length_eq, castN_len, List.length_range]
  have h3 := listOk_chosen hl hz ((hO.pairwise_iff (fun h e => h e.symm)).2 (range_apart _)) (by omega)
  have h4 : chosenG l O ≠ [] := by
    intro e
    have := chosen_length l O
    rw [e, List.length_nil] at this
    omega
  unfold bungOk
  rw [hw, h3, decide_eq_true h4]; rfl
theorem row7_zero (w : World) (T : Nat) : RowsAt 7 (w.alloc (.cells #[.int .i64 0, .int .i64 0, .int .i64 0, .int .i64 0, .int .i64 0, .int .i64 0, .int .i64 0] T)) (.slice (some ⟨w.heap.size, 0, none⟩) 1 1) [[0, 0, 0, 0, 0, 0, 0]] := by
  refine .inr ⟨⟨w.heap.size, 0, none⟩, 1, by simp, by simp, by omega, fun k r hr => ?_⟩
  match k, hr with
  | 0, hr =>
    simp at hr; subst hr
    refine ⟨rfl, fun j z hz => ?_⟩
    match j, hz with
    | 0, hz | 1, hz | 2, hz | 3, hz | 4, hz | 5, hz | 6, hz => simp at hz; subst hz; exact ⟨by simp [Addr.add, go_sem], I64.mk (by omega) (by omega)⟩
    | j + 7, hz => simp at hz
  | k + 1, hr => simp at hr
/-- What stack returns, its rows being its own. -/
def StackOwn (w : World) (e : Ending) (w' : World) : Prop := ∃ (lo hi : Int) (l : List Sg) (v : Value), e = .returned (.agg #[.int .i64 lo, .int .i64 hi, v]) ∧ Below w.heap.size w w' ∧ RowsAt 8 w' v (l.map rowG) ∧ bungOk lo hi l = true ∧ l.length ≤ 12 ∧ ∃ b0, w'.ownsRow b0 33 8 v l.length (l.flatMap cellsG)
set_option maxRecDepth 100000 in
set_option maxHeartbeats 1000000 in
theorem stack_own {w : World} {v u : Value} {rows : List (List Int)} {zs : List Int} {n0 n1 : Int} (h : RowsAt 7 w v rows) (ho : NumsAt w u zs) :
    Calls Try.prog 66 #[v, u, .agg #[.int .i64 n0, .int .i64 n1]] w (StackOwn w) := by
  unfold StackOwn
  obtain ⟨i0, hi0, hz0, hz1, hz2⟩ := info_parts Try.infoG
  go_enter Try.func66, Try.ntmps66
  go_upto_region 1 with fail
  generalize hW0 : World.alloc (World.alloc w _) _ = v1
  have y0 : CellsAt v1 w.heap.size [.int .i64 n0, .int .i64 n1] := by rw [← hW0]; exact (CellsAt.new w _ 90).alloc _
  have y1 : CellsAt v1 (w.heap.size + 1) [.int .i64 0, .int .i64 0, .slice none 0 0] := by rw [← hW0]; have h := CellsAt.new (w.alloc (.cells #[.int .i64 n0, .int .i64 n1] 90)) [.int .i64 0, .int .i64 0, .slice none 0 0] 26; rwa [World.size_alloc] at h
  have hB : Below w.heap.size w v1 := by rw [← hW0]; exact ((Below.refl _ w).alloc (Nat.le_refl _) _).alloc (by simp) _
  have hz : w.heap.size + 2 ≤ v1.heap.size := by rw [← hW0]; simp
  clear hW0
  obtain ⟨K, hK⟩ : ∃ K, min rows.length 12 = K := ⟨_, rfl⟩
  have HK := hid hK
  go_wp2_with fail
  refine (rMade_any (h.below hB) (by omega) HK.out).mono ?_
  rintro e v2 ⟨mv, rfl, hb, hm⟩
  replace y0 := y0.below hb; replace y1 := y1.below hb
  replace hB := bnext (w := w) hB hb
  replace hz := Nat.le_trans hz hb.size
  clear hb
  obtain ⟨ma, mc, rfl, hml⟩ := hm.shape
  simp only [List.length_map, madeL_len] at hm hml ⊢
  have hK12 : K ≤ 12 := by omega
  clear hK
  go_upto_if 15 with fail
  go_cut [7] from 8 (fun sv wc => ∃ (l : List Sg) (N : Nat) (a : Option Addr) (c : Nat), sv = .slice a N c ∧ Hid (l.length = N) ∧ RowsAt 8 wc (.slice a N c) (l.map rowG) ∧ Hid (listOk l = true) ∧ (1 ≤ N ∧ N ≤ 12) ∧ CellsAt wc w.heap.size [.int .i64 n0, .int .i64 n1] ∧ CellsAt wc (w.heap.size + 1) [.int .i64 0, .int .i64 0, .slice none 0 0] ∧ Below w.heap.size w wc ∧ w.heap.size + 2 ≤ wc.heap.size)
  case first =>
    by_cases hK0 : K = 0
    · subst hK0
      go_wp2_with fail
      refine (rMade_any (K := 1) (most := 1) (row7_zero _ _) (by decide) (by decide)).mono ?_
      rintro e v3 ⟨mv, rfl, hb0, hm3⟩
      have hb : Below v2.heap.size v2 v3 := ((Below.refl _ _).alloc (Nat.le_refl _) _).trans (hb0.mono (by simp))
      obtain ⟨na, nc, rfl, hnl⟩ := hm3.shape
      simp only [List.length_map, madeL_len] at hm3 hnl ⊢
      go_wp2_with fail
      go_meet
      exact ⟨madeL [[0, 0, 0, 0, 0, 0, 0]] 1, 1, na, nc, rfl, hid (madeL_len _ _), hm3, hid (madeL_ok (by decide)), ⟨by decide, by decide⟩, y0.below hb, y1.below hb, bnext (w := w) hB hb, Nat.le_trans hz hb.size⟩
    · have hKb : ((K : Int) == 0) = false := beq_eq_false_iff_ne.mpr (by omega)
      have hKz : ¬ (K : Int) = 0 := by omega
      go_wp2_with fail
      go_meet
      exact ⟨madeL rows K, K, ma, mc, rfl, hid (madeL_len _ _), hm, hid (madeL_ok hK12), ⟨by omega, hK12⟩, y0, y1, hB, hz⟩
  case rest =>
    clear y0 y1 hB hz hm HK hml h
    obtain ⟨l, N, a, c, rfl, HN, hm, HL, ⟨hN1, hN12⟩, y0, y1, hB, hz⟩ := hcut
    have q0 := (y0 0 _ rfl).1; have q1 := (y0 1 _ rfl).1
    obtain ⟨lo, hlo⟩ : ∃ z, n0 % 15 = z := ⟨_, rfl⟩
    obtain ⟨hi, hhi⟩ : ∃ z, lo + n1 % 10 = z := ⟨_, rfl⟩
    have hwd : wadOk lo hi = true := by have h := wad_made n0 n1; rw [hlo, hhi] at h; exact h
    have HWD := hid hwd
    have hWd := fun (W : World) => (rWadM (w := W) (n0 := n0) (n1 := n1))
    rw [hlo, hhi] at hWd
    have HWd := hid hWd
    clear hlo hhi hwd hWd
    go_wp2_with fail
    refine (HWd.out _).mono ?_
    rintro e v4 ⟨rfl, hb⟩
    replace hm := hm.below hb
    replace y0 := y0.below hb; replace y1 := y1.below hb
    replace hB := bnext (w := w) hB hb
    replace hz := Nat.le_trans hz hb.size
    have hz4 := hz
    clear hb q0 q1 HWd
    go_upto_region 5 with fail
    generalize hW : World.alloc v4 _ = v5
    have yx : CellsAt v5 v4.heap.size [.int .i64 lo, .int .i64 hi, .slice none 0 0] := by rw [← hW]; exact CellsAt.new v4 [.int .i64 lo, .int .i64 hi, .slice none 0 0] 26
    have hb : Below v4.heap.size v4 v5 := by rw [← hW]; exact (Below.refl _ _).alloc (Nat.le_refl _) _
    have hz5 : v4.heap.size < v5.heap.size := by rw [← hW]; simp
    clear hW
    have hin : InP (fun k => k < v4.heap.size) (.slice a N c) := inP_rows hm (by rintro rfl; have := HN.out; simp at this; omega)
    replace hm := hm.below hb
    replace y0 := y0.below hb; replace y1 := y1.below hb
    replace hB := bnext (w := w) hB hb
    replace hz := Nat.le_trans hz hb.size
    clear hb
    go_wp2_with fail
    refine (rShuf_any (n := N) (ho.below hB) (by omega)).mono ?_
    rintro e v6 ⟨xv, O, rfl, hb, hO, hxo⟩
    have hin2 := inP_own hxo
    have hOl : O.length = N := by rw [hO.length_eq, castN_len, List.length_range]
    have hz6 := hb.size
    replace hm := hm.below hb
    replace yx := yx.below hb
    replace y0 := y0.below hb; replace y1 := y1.below hb
    replace hB := bnext (w := w) hB hb
    replace hz := Nat.le_trans hz hb.size
    clear hb
    have hxn : NumsAt v6 xv O := numsAt_of_owns (fun z hz => by have := range_in (hO.mem_iff.1 hz); exact I64.mk (by omega) (by omega)) hxo
    obtain ⟨xa, xc, rfl, hxl, -⟩ := hxn.shape
    have HO := hid hO; have HOL := hid hOl
    rw [hOl] at hxn hxl hin2 ⊢
    clear hxo hO hOl
    go_wp2_with fail
    go_loopg [10] N (fun gk iv wr => ∃ (k : Nat) (u : Value), k ≤ N ∧ gk = N - k ∧ iv = .int .i64 k ∧ CellsAt wr v4.heap.size [.int .i64 lo, .int .i64 hi, u] ∧ wr.ownsRow v6.heap.size 33 8 u k ((chosenG l (O.take k)).flatMap cellsG) ∧ CellsAt wr (w.heap.size + 1) [.int .i64 0, .int .i64 0, .slice none 0 0] ∧ KeepP (fun b => b < v6.heap.size ∧ b ≠ v4.heap.size) v6 wr ∧ Below w.heap.size w wr ∧ v6.heap.size ≤ wr.heap.size)
    case atStart => exact ⟨0, _, Nat.zero_le _, rfl, rfl, yx, by simpa [chosenG] using World.ownsRow_nil _ _ _ _, y1, KeepP.refl, hB, Nat.le_refl _⟩
    case round =>
      clear yx y0 y1 hB
      obtain ⟨k, u0, hk, hgk, rfl, yx, ho2, y1, hKP, hB, hzr⟩ := hrel
      have HGK := hid hgk; clear hgk
      obtain ⟨ua, uc, rfl, hul⟩ := owns_shape ho2
      by_cases hlt : k < N
      · have hki : (k : Int) < (N : Int) := by omega
        have hxk := nums_keepP hxn (fun _ => inP_mono hin2 fun b hb => ⟨hb.2, by have := hb.1; omega⟩) hKP
        have hmk := rows_keepP hm (fun _ => inP_mono hin fun b hb => ⟨by have : b < v4.heap.size := hb; omega, by have : b < v4.heap.size := hb; omega⟩) hKP
        obtain ⟨x', hxe, o0⟩ := (show NumsAt wr (.slice xa O.length xc) O by rw [HOL.out]; exact hxk).elem (k := k) (by rw [HOL.out]; exact hlt)
        subst hxe
        obtain ⟨z, hzz⟩ : ∃ z, O[k]'(by rw [HOL.out]; exact hlt) = z := ⟨_, rfl⟩
        have hzb := range_in (HO.out.mem_iff.1 (hzz ▸ List.getElem_mem (by rw [HOL.out]; exact hlt)))
        rw [hzz] at o0
        obtain ⟨m, rfl⟩ : ∃ m : Nat, z = (m : Int) := ⟨z.toNat, by omega⟩
        have hmi : (m : Int) < (N : Int) := hzb.2
        have hm0 : (0 : Int) ≤ (m : Int) := hzb.1
        obtain ⟨s, hs⟩ : ∃ s, l[m]? = some s := ⟨_, List.getElem?_eq_getElem (by rw [HN.out]; omega)⟩
        obtain ⟨b', hb', p0, hcc, -⟩ := sg_row (show RowsAt 8 wr (.slice a l.length c) (l.map rowG) by rw [HN.out]; exact hmk) hs
        subst hb'
        have HE := hid (chosenG_snoc (zs := O) (k := k) (by rw [HOL.out]; exact hlt) hzz hs)
        clear hzz hs hzb
        obtain ⟨sid, swl, swh, sbl, sbh, shl, shh, sti⟩ := s
        dsimp only at p0
        have p1 := hcc 1 _ (by decide) rfl
        have p2 := hcc 2 _ (by decide) rfl
        have p3 := hcc 3 _ (by decide) rfl
        have p4 := hcc 4 _ (by decide) rfl
        have p5 := hcc 5 _ (by decide) rfl
        have p6 := hcc 6 _ (by decide) rfl
        have p7 := hcc 7 _ (by decide) rfl
        dsimp only at p1 p2 p3 p4 p5 p6 p7
        clear hcc hxk hmk
        have e2 := (yx 2 _ rfl).1
        go_upto_region 9 with fail
        refine wp_region_Rs [(9, NewList wr.heap.size 1 [.int .i64 sid, .int .i64 swl, .int .i64 swh, .int .i64 sbl, .int .i64 sbh, .int .i64 shl, .int .i64 shh, .int .i64 sti])] [0, 1, 2, 3, 4, 5, 6, 7, 8, 9] 3 (by kernel_rfl) rfl (by simp only [List.forall_mem_cons]; exact ⟨keeps_list, fun _ h => by cases h⟩) (by kernel_rfl) ?_
        simp only [numbered, List.filterMap_cons, List.filterMap_nil, List.getElem?_toArray, List.getElem?_cons_succ, List.getElem?_cons_zero, Option.map_some]
        show wpS _ _ _ _ _ _ _ [(_, _), (_, _), (_, _), (_, _), (_, _), (_, _), (_, _), (_, _), (_, _), (_, _)] _ _
        (refine wpS_quiet rfl rfl ?_; intro K hK inst hx; have s0 := fun x => (fun _ => bkeep (BQ.below x) e2) (hx x); have s1 := fun x => (fun _ => bkeep (BQ.below x) o0) (hx x); have s2 := fun x => (fun _ => bkeep (BQ.below x) p0) (hx x); have s3 := fun x => (fun _ => bkeep (BQ.below x) p1) (hx x); have s4 := fun x => (fun _ => bkeep (BQ.below x) p2) (hx x); have s5 := fun x => (fun _ => bkeep (BQ.below x) p3) (hx x); have s6 := fun x => (fun _ => bkeep (BQ.below x) p4) (hx x); have s7 := fun x => (fun _ => bkeep (BQ.below x) p5) (hx x); have s8 := fun x => (fun _ => bkeep (BQ.below x) p6) (hx x); have s9 := fun x => (fun _ => bkeep (BQ.below x) p7) (hx x); go_big_quiet_op; (first | go_big_quiet_on | (refine ⟨_, fun _ => rfl, ?_⟩; go_big_quiet_on)); clear hx inst)
        (refine wpS_quiet rfl rfl ?_; intro K hK inst hx; have s0 := fun x => (fun _ => bkeep (BQ.below x) e2) (hx x); have s1 := fun x => (fun _ => bkeep (BQ.below x) o0) (hx x); have s2 := fun x => (fun _ => bkeep (BQ.below x) p0) (hx x); have s3 := fun x => (fun _ => bkeep (BQ.below x) p1) (hx x); have s4 := fun x => (fun _ => bkeep (BQ.below x) p2) (hx x); have s5 := fun x => (fun _ => bkeep (BQ.below x) p3) (hx x); have s6 := fun x => (fun _ => bkeep (BQ.below x) p4) (hx x); have s7 := fun x => (fun _ => bkeep (BQ.below x) p5) (hx x); have s8 := fun x => (fun _ => bkeep (BQ.below x) p6) (hx x); have s9 := fun x => (fun _ => bkeep (BQ.below x) p7) (hx x); go_big_quiet_op; (first | go_big_quiet_on | (refine ⟨_, fun _ => rfl, ?_⟩; go_big_quiet_on)); clear hx inst)
        (refine wpS_quiet rfl rfl ?_; intro K hK inst hx; have s0 := fun x => (fun _ => bkeep (BQ.below x) e2) (hx x); have s1 := fun x => (fun _ => bkeep (BQ.below x) o0) (hx x); have s2 := fun x => (fun _ => bkeep (BQ.below x) p0) (hx x); have s3 := fun x => (fun _ => bkeep (BQ.below x) p1) (hx x); have s4 := fun x => (fun _ => bkeep (BQ.below x) p2) (hx x); have s5 := fun x => (fun _ => bkeep (BQ.below x) p3) (hx x); have s6 := fun x => (fun _ => bkeep (BQ.below x) p4) (hx x); have s7 := fun x => (fun _ => bkeep (BQ.below x) p5) (hx x); have s8 := fun x => (fun _ => bkeep (BQ.below x) p6) (hx x); have s9 := fun x => (fun _ => bkeep (BQ.below x) p7) (hx x); go_big_quiet_op; (first | go_big_quiet_on | (refine ⟨_, fun _ => rfl, ?_⟩; go_big_quiet_on)); clear hx inst)
        (refine wpS_quiet rfl rfl ?_; intro K hK inst hx; have s0 := fun x => (fun _ => bkeep (BQ.below x) e2) (hx x); have s1 := fun x => (fun _ => bkeep (BQ.below x) o0) (hx x); have s2 := fun x => (fun _ => bkeep (BQ.below x) p0) (hx x); have s3 := fun x => (fun _ => bkeep (BQ.below x) p1) (hx x); have s4 := fun x => (fun _ => bkeep (BQ.below x) p2) (hx x); have s5 := fun x => (fun _ => bkeep (BQ.below x) p3) (hx x); have s6 := fun x => (fun _ => bkeep (BQ.below x) p4) (hx x); have s7 := fun x => (fun _ => bkeep (BQ.below x) p5) (hx x); have s8 := fun x => (fun _ => bkeep (BQ.below x) p6) (hx x); have s9 := fun x => (fun _ => bkeep (BQ.below x) p7) (hx x); go_big_quiet_op; (first | go_big_quiet_on | (refine ⟨_, fun _ => rfl, ?_⟩; go_big_quiet_on)); clear hx inst)
        (refine wpS_quiet rfl rfl ?_; intro K hK inst hx; have s0 := fun x => (fun _ => bkeep (BQ.below x) e2) (hx x); have s1 := fun x => (fun _ => bkeep (BQ.below x) o0) (hx x); have s2 := fun x => (fun _ => bkeep (BQ.below x) p0) (hx x); have s3 := fun x => (fun _ => bkeep (BQ.below x) p1) (hx x); have s4 := fun x => (fun _ => bkeep (BQ.below x) p2) (hx x); have s5 := fun x => (fun _ => bkeep (BQ.below x) p3) (hx x); have s6 := fun x => (fun _ => bkeep (BQ.below x) p4) (hx x); have s7 := fun x => (fun _ => bkeep (BQ.below x) p5) (hx x); have s8 := fun x => (fun _ => bkeep (BQ.below x) p6) (hx x); have s9 := fun x => (fun _ => bkeep (BQ.below x) p7) (hx x); go_big_quiet_op; (first | go_big_quiet_on | (refine ⟨_, fun _ => rfl, ?_⟩; go_big_quiet_on)); clear hx inst)
        (refine wpS_quiet rfl rfl ?_; intro K hK inst hx; have s0 := fun x => (fun _ => bkeep (BQ.below x) e2) (hx x); have s1 := fun x => (fun _ => bkeep (BQ.below x) o0) (hx x); have s2 := fun x => (fun _ => bkeep (BQ.below x) p0) (hx x); have s3 := fun x => (fun _ => bkeep (BQ.below x) p1) (hx x); have s4 := fun x => (fun _ => bkeep (BQ.below x) p2) (hx x); have s5 := fun x => (fun _ => bkeep (BQ.below x) p3) (hx x); have s6 := fun x => (fun _ => bkeep (BQ.below x) p4) (hx x); have s7 := fun x => (fun _ => bkeep (BQ.below x) p5) (hx x); have s8 := fun x => (fun _ => bkeep (BQ.below x) p6) (hx x); have s9 := fun x => (fun _ => bkeep (BQ.below x) p7) (hx x); go_big_quiet_op; (first | go_big_quiet_on | (refine ⟨_, fun _ => rfl, ?_⟩; go_big_quiet_on)); clear hx inst)
        (refine wpS_quiet rfl rfl ?_; intro K hK inst hx; have s0 := fun x => (fun _ => bkeep (BQ.below x) e2) (hx x); have s1 := fun x => (fun _ => bkeep (BQ.below x) o0) (hx x); have s2 := fun x => (fun _ => bkeep (BQ.below x) p0) (hx x); have s3 := fun x => (fun _ => bkeep (BQ.below x) p1) (hx x); have s4 := fun x => (fun _ => bkeep (BQ.below x) p2) (hx x); have s5 := fun x => (fun _ => bkeep (BQ.below x) p3) (hx x); have s6 := fun x => (fun _ => bkeep (BQ.below x) p4) (hx x); have s7 := fun x => (fun _ => bkeep (BQ.below x) p5) (hx x); have s8 := fun x => (fun _ => bkeep (BQ.below x) p6) (hx x); have s9 := fun x => (fun _ => bkeep (BQ.below x) p7) (hx x); go_big_quiet_op; (first | go_big_quiet_on | (refine ⟨_, fun _ => rfl, ?_⟩; go_big_quiet_on)); clear hx inst)
        (refine wpS_quiet rfl rfl ?_; intro K hK inst hx; have s0 := fun x => (fun _ => bkeep (BQ.below x) e2) (hx x); have s1 := fun x => (fun _ => bkeep (BQ.below x) o0) (hx x); have s2 := fun x => (fun _ => bkeep (BQ.below x) p0) (hx x); have s3 := fun x => (fun _ => bkeep (BQ.below x) p1) (hx x); have s4 := fun x => (fun _ => bkeep (BQ.below x) p2) (hx x); have s5 := fun x => (fun _ => bkeep (BQ.below x) p3) (hx x); have s6 := fun x => (fun _ => bkeep (BQ.below x) p4) (hx x); have s7 := fun x => (fun _ => bkeep (BQ.below x) p5) (hx x); have s8 := fun x => (fun _ => bkeep (BQ.below x) p6) (hx x); have s9 := fun x => (fun _ => bkeep (BQ.below x) p7) (hx x); go_big_quiet_op; (first | go_big_quiet_on | (refine ⟨_, fun _ => rfl, ?_⟩; go_big_quiet_on)); clear hx inst)
        (refine wpS_quiet rfl rfl ?_; intro K hK inst hx; have s0 := fun x => (fun _ => bkeep (BQ.below x) e2) (hx x); have s1 := fun x => (fun _ => bkeep (BQ.below x) o0) (hx x); have s2 := fun x => (fun _ => bkeep (BQ.below x) p0) (hx x); have s3 := fun x => (fun _ => bkeep (BQ.below x) p1) (hx x); have s4 := fun x => (fun _ => bkeep (BQ.below x) p2) (hx x); have s5 := fun x => (fun _ => bkeep (BQ.below x) p3) (hx x); have s6 := fun x => (fun _ => bkeep (BQ.below x) p4) (hx x); have s7 := fun x => (fun _ => bkeep (BQ.below x) p5) (hx x); have s8 := fun x => (fun _ => bkeep (BQ.below x) p6) (hx x); have s9 := fun x => (fun _ => bkeep (BQ.below x) p7) (hx x); go_big_quiet_op; (first | go_big_quiet_on | (refine ⟨_, fun _ => rfl, ?_⟩; go_big_quiet_on)); clear hx inst)
        refine wpS_fresh rfl rfl (fun w' hb hF => ?_) ?_
        · change freshAt _ _ _ (NewList wr.heap.size 1 [.int .i64 sid, .int .i64 swl, .int .i64 swh, .int .i64 sbl, .int .i64 sbh, .int .i64 shl, .int .i64 shh, .int .i64 sti]) _; unfold freshAt; go_simp; exact list_of hb
        intro v W hv; simp only [pOf, List.lookup_cons, Nat.reduceBEq, beq_self_eq_true] at hv; obtain ⟨B6, hB6, rfl, -⟩ := hv
        simp only [Act.put, List.setIfInBounds_toArray, List.set_cons_succ, List.set_cons_zero]
        refine wpS_nil ?_
        intro v7 hall
        have hb := hall.1
        have h6 : NewList wr.heap.size 1 [.int .i64 sid, .int .i64 swl, .int .i64 swh, .int .i64 sbl, .int .i64 sbh, .int .i64 shl, .int .i64 shh, .int .i64 sti] _ v7 := hall.2 9 _ rfl
        obtain ⟨B', hB', hv', hn'⟩ := h6
        obtain rfl : B6 = B' := by simpa using hv'
        clear hall
        have ho6 := owns_below ho2 hb
        replace yx := yx.below hb; replace y1 := y1.below hb
        replace hB := bnext (w := w) hB hb
        replace hKP := hKP.trans (KeepP.of_below hb)
        have hz7 := hb.size
        clear hb e2 o0 p0 p1 p2 p3 p4 p5 p6 p7
        refine wpAny_ready (rs := [10]) (by kernel_rfl) (by simp) ?_
        refine AllReady.cons rfl (fun K hK => ?_) AllReady.nil
        refine (if_pos (show Region.wanted _ _ = true from rfl)).mpr ?_
        refine wp_append_own v7 (.tmp 33) (.tmp 41) 24 rfl v6.heap.size 33 i0 (.agg #[.int .i64 0, .int .i64 0, .int .i64 0, .int .i64 0, .int .i64 0, .int .i64 0, .int .i64 0, .int .i64 0]) 8 64 Try.underlying24 hi0 hz0 hz1 hz2 rfl (by decide) (.slice ua k uc) k _ rfl ho6 ⟨B6, 0, none⟩ 1 1 [.int .i64 sid, .int .i64 swl, .int .i64 swh, .int .i64 sbl, .int .i64 sbh, .int .i64 shl, .int .i64 shh, .int .i64 sti] rfl rfl (fun j u h => by rw [Go.WideShapes.add_plain, Nat.zero_add]; exact (hn' j u h).1) (one_cellsG (⟨sid, swl, swh, sbl, sbh, shl, shh, sti⟩ : Sg)) (by unfold maxLen; omega) (by omega) (by omega) ?_
        intro v39 w7 ho7 hg7 hnil7
        refine hK _ _ ?_
        clear hK K hnil7
        obtain ⟨xa2, xc2, rfl, -⟩ := owns_shape ho7
        have hb7 : Below v6.heap.size v7 w7 := Pb.below_grown (Below.refl _ v7) hg7 ho6 (by omega) (Nat.le_refl _)
        have hz8 := hb7.size
        replace yx := cells_low yx hb7 (by omega); replace y1 := cells_low y1 hb7 (by omega)
        replace hB := hB.trans (hb7.mono (by omega))
        replace hKP := hKP.trans (keepP_low hb7 (fun b hb => hb.1))
        have e2 := (yx 2 _ rfl).1; have f2 := (yx 2 _ rfl).2
        refine wpAny_ready (rs := [11]) (by kernel_rfl) (by simp) ?_
        refine AllReady.cons rfl (fun K hK => ?_) AllReady.nil
        go_simp
        refine hK _ _ ?_; clear hK K
        refine wpAny_ready (rs := [12]) (by kernel_rfl) (by simp) ?_
        refine AllReady.cons rfl (fun K hK => ?_) AllReady.nil
        go_simp
        refine hK _ _ ?_; clear hK K
        refine wpAny_done (by kernel_rfl) ?_ _
        clear e2 f2 hb7 hg7 ho6 hn'
        have z1 := cells_store (o := 2) (u := .slice xa2 (k + 1) xc2) yx
        have o9 := own_set (o := 2) (u := .slice xa2 (k + 1) xc2) ho7 (show v4.heap.size < v6.heap.size by omega)
        have yB := y1.other (o' := 2) (show w.heap.size + 1 ≠ v4.heap.size by omega) (.slice xa2 (k + 1) xc2)
        have hB9 := hB.setCell (p := ⟨v4.heap.size, 2, none⟩) (by show w.heap.size ≤ v4.heap.size; omega) (.slice xa2 (k + 1) xc2)
        have hz9 : v6.heap.size ≤ (w7.setCell ⟨v4.heap.size, 2, none⟩ (.slice xa2 (k + 1) xc2)).heap.size := by simp; omega
        have hK9 := hKP.trans (KeepP.set (p := fun b => b < v6.heap.size ∧ b ≠ v4.heap.size) (W := w7) (a := ⟨v4.heap.size, 2, none⟩) (v := .slice xa2 (k + 1) xc2) (by simp))
        clear yx y1 hB ho7 hKP
        generalize World.setCell _ _ _ = w9 at *
        go_wp2_with fail
        go_roundg (N - (k + 1))
        case measure => have h := HGK.out; omega
        case rel => exact ⟨k + 1, .slice xa2 (k + 1) xc2, by omega, rfl, by go_num, z1, by rw [← HE.out, List.flatMap_append]; simpa [cellsG, rowG] using o9, yB, hK9, hB9, hz9⟩
      · obtain rfl : k = N := by omega
        have hkk : ¬ (k : Int) < (k : Int) := by omega
        rw [List.take_of_length_le (by rw [HOL.out]; exact Nat.le_refl _)] at ho2
        have p0 := (yx 0 _ rfl).1; have p1 := (yx 1 _ rfl).1; have p2 := (yx 2 _ rfl).1
        have f0 := (y1 0 _ rfl).2; have f1 := (y1 1 _ rfl).2; have f2 := (y1 2 _ rfl).2; have g0 := (y1 0 _ rfl).1; have g1 := (y1 1 _ rfl).1; have g2 := (y1 2 _ rfl).1
        go_wp2_with fail
        have z1 := cells_store (o := 2) (u := .slice ua k uc) (cells_store (o := 1) (u := .int .i64 hi) (cells_store (o := 0) (u := .int .i64 lo) y1))
        have hB9 : Below w.heap.size w _ := ((hB.setCell (p := ⟨w.heap.size + 1, 0, none⟩) (Nat.le_succ _) (.int .i64 lo)).setCell (p := ⟨w.heap.size + 1, 1, none⟩) (Nat.le_succ _) (.int .i64 hi)).setCell (p := ⟨w.heap.size + 1, 2, none⟩) (Nat.le_succ _) (.slice ua k uc)
        have o9 := own_set (o := 2) (b := w.heap.size + 1) (u := .slice ua k uc) (own_set (o := 1) (b := w.heap.size + 1) (u := .int .i64 hi) (own_set (o := 0) (u := .int .i64 lo) ho2 (b := w.heap.size + 1) (by omega)) (by omega)) (by omega)
        have hr9 : RowsAt 8 _ (.slice ua k uc) ((chosenG l O).map rowG) := rows_of_owns (by rw [chosen_length, HOL.out]; exact o9) (i64_chosen (i64_rows hm))
        have d0 := (z1 0 _ rfl).1; have d1 := (z1 1 _ rfl).1; have d2 := (z1 2 _ rfl).1
        exact bodyPost_ret (v := .agg #[.int .i64 lo, .int .i64 hi, .slice ua k uc]) (by simp [results, Try.results66, go_sem, *]) rfl ⟨lo, hi, chosenG l O, .slice ua k uc, rfl, hB9, hr9, stack_ok HWD.out HL.out (by rw [HN.out]; exact hN1) (by rw [HN.out]; exact HO.out), by rw [chosen_length, HOL.out]; exact hN12, _, by rw [chosen_length, HOL.out]; exact o9⟩

end Go.Proofs.Ytnchhleokdkejaa

/- A job is checked, and whether all its bungs do, by the reference. -/
namespace Go.Proofs.Ytnchhleokdkejaa
open Go.RowKit Go.Pb Go.Pb.Ware Go.Pb.Sag
set_option linter.unusedVariables false
set_option linter.unusedSimpArgs false

open Go.Proofs Go.Pb.Bung
def allB (lo hi : Int) (l : List Sg) (cr le : Int) (gs : List (List Int)) : Bool := gs.all (doesB lo hi l cr le)
end Go.Proofs.Ytnchhleokdkejaa

/- Whether lists are parts of things. -/
namespace Go.Proofs.Ytnchhleokdkejaa
open Go.RowKit Go.Pb Go.Pb.Ware Go.Pb.Sag
set_option linter.unusedVariables false
set_option linter.unusedSimpArgs false

/-- Which numbers below n have been seen. -/
def SeenAt (B n : Nat) (seen : List Int) (W : World) : Prop := ∀ i : Nat, i < n → W.cell? ⟨B, i, none⟩ = some (.bool (seen.contains (i : Int))) ∧ W.frozen? ⟨B, i, none⟩ = false
theorem SeenAt.below {B n : Nat} {seen : List Int} {W W' : World} (h : SeenAt B n seen W) (hb : Below W.heap.size W W') : SeenAt B n seen W' := fun i hi => ⟨bkeep hb (h i hi).1, bfree hb (h i hi).1 (h i hi).2⟩
theorem SeenAt.set {B n m : Nat} {seen : List Int} {W : World} (h : SeenAt B n seen W) (hm : m < n) : SeenAt B n (seen ++ [(m : Int)]) (W.setCell ⟨B, m, none⟩ (.bool true)) := by
  intro i hi
  obtain ⟨h1, h2⟩ := h i hi
  refine ⟨?_, set_free h1 h2⟩
  by_cases e : i = m
  · subst e
    rw [setc_same h1]; simp
  · rw [setc_other h1 e]
    have : ¬ (i : Int) = (m : Int) := by omega
    simp [this]
end Go.Proofs.Ytnchhleokdkejaa

/- Valid lists of saggars that others make: exchanged, without one, with one narrower; chosen weights. -/
namespace Go.Pb.Bung
open Go Go.Pb Go.Pb.Ware Go.RowKit
set_option linter.unusedVariables false
set_option linter.unusedSimpArgs false
theorem bungOk_parts {lo hi : Int} {l : List Sg} (h : bungOk lo hi l = true) : wadOk lo hi = true ∧ l ≠ [] ∧ listOk l = true := by
  unfold bungOk at h
  simp only [Bool.and_eq_true, decide_eq_true_eq] at h
  exact ⟨h.1.1, h.1.2, h.2⟩
/-! Weights that numbers choose. -/
/-- Of the saggars above a course the k lower ones weigh ws. -/
def ChoseW (l : List Sg) (ws : List Int) : Prop := ws.length ≤ l.length ∧ ∀ (j : Nat) (z : Int) (s : Sg), ws[j]? = some z → l[j]? = some s → s.wl ≤ z ∧ z ≤ s.wh
theorem ChoseW.nil (l : List Sg) : ChoseW l [] := ⟨Nat.zero_le _, fun j z s h => by simp at h⟩
theorem ChoseW.snoc {l : List Sg} {ws : List Int} {z : Int} {s : Sg} (h : ChoseW l ws) (hs : l[ws.length]? = some s) (h1 : s.wl ≤ z) (h2 : z ≤ s.wh) : ChoseW l (ws ++ [z]) := by
  refine ⟨by have := (List.getElem?_eq_some_iff.1 hs).1; simp; omega, fun j y t hy ht => ?_⟩
  rcases Nat.lt_or_ge j ws.length with hj | hj
  · rw [List.getElem?_append_left hj] at hy; exact h.2 j y t hy ht
  · rw [List.getElem?_append_right hj] at hy
    obtain rfl : j = ws.length := by
      rcases Nat.lt_or_ge ws.length j with h3 | h3
      · rw [List.getElem?_eq_none (by simp; omega)] at hy; cases hy
      · omega
    simp at hy
    subst hy
    rw [hs] at ht
    obtain rfl := Option.some.inj ht
    exact ⟨h1, h2⟩
end Go.Pb.Bung
