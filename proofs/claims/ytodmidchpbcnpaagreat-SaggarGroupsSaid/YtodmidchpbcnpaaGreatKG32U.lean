/- Part of a claim. -/
import Derived.Test.YtodmidchpbcnpaaGreatG31U
import Derived.Test.YtodmidchpbcnpaaGreatG27U
import Derived.Test.YtodmidchpbcnpaaGreatG23U
import Derived.Test.YtodmidchpbcnpaaGreatG22U
import Derived.Test.YtodmidchpbcnpaaGreatG20U
import Derived.Test.YtodmidchpbcnpaaGreatKTjU
import Derived.Test.YtodmidchpbcnpaaGreatKScU
import Derived.Test.YtodmidchpbcnpaaGreatKSmU
import Derived.Test.YtodmidchpbcnpaaGreatKG57U
import Derived.Test.YtodmidchpbcnpaaGreatG51U
import Derived.Deep.LoopGhost
import Derived.Test.YtodmidchpbcnpaaGreatG30U
import Derived.Test.YtodmidchpbcnpaaGreatG25U
import Derived.Test.YtodmidchpbcnpaaGreatG24U
import Derived.Test.YtodmidchpbcnpaaGreatG4U
set_option linter.unusedVariables false
set_option linter.unusedSimpArgs false
namespace Go.Proofs.YtodmidchpbcnpaaGreat
open Go.RowKit Go.Pb Go.Pb.Ware Go.Pb.Sag


theorem owns_new {w : World} {lo T n size : Nat} {xs : List Value} (hs : xs.length = n * size) (hn : n ≤ maxLen) (hlo : lo ≤ w.heap.size) : (w.alloc (.cells xs.toArray T)).ownsRow lo T size (.slice (some ⟨w.heap.size, 0, none⟩) n n) n xs := by
 refine ⟨by omega, .inr ⟨w.heap.size, n, xs.toArray, rfl, hlo, heap_alloc_new w _, Nat.le_refl _, hn, by rw [List.size_toArray]; omega, ?_⟩⟩
 show xs.take (n * size) = xs
 rw [← hs, List.take_length]
theorem groupsAt_lists {lo : Nat} {v : Value} {gs : List (List Int)} {W : World} (h : GroupsAt lo v gs W) (hi : ∀ g ∈ gs, ∀ z ∈ g, I64 z) : ListsAt v gs W := by
 obtain ⟨us, h1, h2⟩ := h
 obtain ⟨a, c, rfl, hc⟩ := owns_shape h1
 refine ⟨a, c, rfl, fun k g hg => ?_⟩
 have hk := (List.getElem?_eq_some_iff.1 hg).1
 have hl : us.length = gs.length := by have := h1.1; omega
 have hu : us[k]? = some (us[k]'(by omega)) := List.getElem?_eq_getElem _
 rcases h1.2 with ⟨_, hn⟩ | ⟨B, cap, cur, e, hr⟩
 ·omega
 ·injection e with e1 e2 e3
  subst e1
  exact ⟨_, rfl, us[k]'(by omega), h1.cells (g := B) rfl k _ hu, numsAt_of_owns (hi g (List.mem_of_getElem? hg)) (h2 k _ g hu hg)⟩
theorem i64_small {z : Int} (h1 : -100000 ≤ z) (h2 : z ≤ 100000) : I64 z := I64.mk (by omega) (by omega)
def WaresRes (W : World) (e : Ending) (w' : World) : Prop := ∃ sv, e = .returned (.agg #[sv, .slice none 0 0]) ∧ Below W.heap.size W w' ∧ RowsAt 11 w' sv exRows
theorem exRows_ok : ∀ r ∈ exRows, r.length = 11 ∧ ∀ z ∈ r, I64 z := by
 have h : ∀ r ∈ exRows, r.length = 11 ∧ ∀ z ∈ r, -100000 ≤ z ∧ z ≤ 100000 := by decide
 exact fun r hr => ⟨(h r hr).1, fun z hz => i64_small ((h r hr).2 z hz).1 ((h r hr).2 z hz).2⟩
theorem exRows_at {w : World} {lo T : Nat} {v : Value} (h : w.ownsRow lo T 11 v 2 (exRows.flatten.map (Value.int .i64))) : RowsAt 11 w v exRows :=
 rowsAt_of_owns (rows := exRows) (fun r hr => (exRows_ok r hr).1) h (fun r hr => (exRows_ok r hr).2)
def WaresOwn (W : World) (e : Ending) (w' : World) : Prop := ∃ sv, e = .returned (.agg #[sv, .slice none 0 0]) ∧ Below W.heap.size W w' ∧ w'.ownsRow W.heap.size 109 11 sv 2 (exRows.flatten.map (Value.int .i64))
set_option maxRecDepth 100000 in
set_option maxHeartbeats 1000000 in
theorem wares_own {w : World}  :
  Calls Tryz.prog 72 #[] w (WaresOwn w) := by
 unfold WaresOwn
 go_enter Tryz.func72, Tryz.ntmps72
 go_wp2_with fail
 refine bodyPost_ret (v := .agg #[.slice (some ⟨w.heap.size + 1, 0, none⟩) 2 2, .slice none 0 0]) (by simp [results, Tryz.results72, go_sem, *]) rfl ?_
 refine ⟨_, rfl, by go_grown, ?_⟩
 have h := owns_new (w := w.alloc (.cells #[.slice (some ⟨w.heap.size + 1, 0, none⟩) 2 2, .slice none 0 0] 25)) (lo := w.heap.size) (T := 109) (n := 2) (size := 11) (xs := exRows.flatten.map (Value.int .i64)) (by decide) (by decide) (by simp)
 simp only [World.size_alloc] at h
 exact h
theorem wares_any {w : World} : Calls Tryz.prog 72 #[] w (WaresRes w) := wares_own.mono fun e w' ⟨sv, e1, hb, ho⟩ => ⟨sv, e1, hb, exRows_at ho⟩
end Go.Proofs.YtodmidchpbcnpaaGreat
namespace Go.Proofs.YtodmidchpbcnpaaGreat
open Go.RowKit Go.Pb Go.Pb.Ware Go.Pb.Sag


theorem all_no {α : Type} {l : List α} {p : α → Bool} {k : Nat} (hk : k < l.length) (h : p l[k] = false) : l.all p = false := by
 rw [List.all_eq_false]
 exact ⟨l[k], List.getElem_mem hk, by rw [h]; simp⟩
theorem all_take {α : Type} {l : List α} {p : α → Bool} {k : Nat} (hk : k < l.length) (h0 : (l.take k).all p = true) (h : p l[k] = true) : (l.take (k + 1)).all p = true := by
 rw [List.take_succ_eq_append_getElem hk, List.all_append, h0, Bool.true_and]
 simp [h]
theorem ones {s : Bx} {fs : List Ft} (h1 : fs.all (fun f => fitsB s [f]) = true) : ∀ k, k < fs.length → fitsB s (chosenL fs [(k : Int)]) = true := fun k hk => by
 rw [one_fits (s := s) hk]; exact List.all_eq_true.1 h1 _ (List.getElem_mem hk)
theorem part_groups {s : Bx} {fs : List Ft} {most : Nat} (hF : ∀ f ∈ fs, FtOk f) (h1 : fs.all (fun f => fitsB s [f]) = true) : (partF s fs most fs.length [] 0).map (fun r => groupedL r.1 r.2) = putF s fs most fs.length 0 [] :=
 part_put (s := s) (fs := fs) (most := most) hF (ones h1) fs.length [] 0 (by simp) (fun x hx => by cases hx) (Nat.zero_le _) rfl
theorem part_none0 {s : Bx} {fs : List Ft} (h : 0 < fs.length) : partF s fs 0 fs.length [] 0 = none := by
 obtain ⟨d, hd⟩ : ∃ d, fs.length = d + 1 := ⟨fs.length - 1, by omega⟩
 rw [hd, partF]; rfl
theorem groups_here {s : Bx} {fs : List Ft} {m : Nat} {p : List Nat × Nat} (hF : ∀ f ∈ fs, FtOk f) (h1 : fs.all (fun f => fitsB s [f]) = true) (hm : m ≤ fs.length) (h0 : ∀ j, j < m → partF s fs j fs.length [] 0 = none) (hp : partF s fs m fs.length [] 0 = some p) :
  groupsF s fs = some (groupedL p.1 m) := by
 have hput : ∀ j, j < m → putF s fs j fs.length 0 [] = none := fun j hj => by rw [← part_groups hF h1, h0 j hj]; rfl
 have hm2 : putF s fs m fs.length 0 [] = some (groupedL p.1 p.2) := by rw [← part_groups hF h1, hp]; rfl
 have hu := part_used fs.length [] 0 p (Nat.zero_le _) (fun x hx => by cases hx) hp
 have e : p.2 = m := by
  rcases Nat.lt_or_ge p.2 m with h | h
  ·exfalso
   obtain ⟨⟨ha, hf⟩, _⟩ := put_acc fs.length 0 [] _ (by omega) acc_nil (fun g hg => by cases hg) (ones h1) (Nat.zero_le _) hm2
   have hC : ∀ g ∈ groupedL p.1 p.2, ∀ f ∈ chosenL fs g, FtOk f := fun g hg => by
    obtain ⟨k, hk⟩ := List.getElem?_of_mem hg
    exact chosen_ok hF (ha.lo k g hk)
   have h3 := put_some hF hC ha hf fs.length 0 [] (by omega) (part_nil ha)
   rw [grouped_len, hput p.2 h] at h3
   exact h3 rfl
  ·omega
 rw [e] at hm2
 unfold groupsF
 exact find_here (k := m) (by omega) hput hm2
theorem groups_some {s : Bx} {fs : List Ft} (hF : ∀ f ∈ fs, FtOk f) (h1 : fs.all (fun f => fitsB s [f]) = true) : partF s fs fs.length fs.length [] 0 ≠ none := fun h => by
 have h2 := part_groups (most := fs.length) hF h1
 rw [h] at h2
 obtain ⟨r, hr⟩ := putF_some (s := s) (fs := fs) (most := fs.length) fs.length 0 [] (by omega) (by simp)
 rw [hr] at h2
 cases h2
set_option maxRecDepth 100000 in
set_option maxHeartbeats 1500000 in
theorem rGroups_any {w : World} {vs vb : Value} {ss bs : List (List Int)} (h1 : RowsAt 11 w vs ss) (h2 : RowsAt 7 w vb bs) {lv : Value} {xs : List It} {bid bwi bde bce bhi bbe : Int} (hl : RowsAt 3 w lv (xs.map rowX)) :
  Calls Tryz.prog 51 #[.agg #[vs, vb], .agg #[.int .i64 bid, .int .i64 bwi, .int .i64 bde, .int .i64 bce, .int .i64 bhi, .int .i64 bbe], lv] w (GroupsRes (groupsA ss bs ⟨bid, bwi, bde, bce, bhi, bbe⟩ xs) w) := by
 obtain ⟨la, lc, rfl, hll⟩ := hl.shape
 rw [List.length_map] at hl hll ⊢
 obtain ⟨c, hc⟩ : ∃ c, ckL ss bs ⟨bid, bwi, bde, bce, bhi, bbe⟩ xs = c := ⟨_, rfl⟩
 unfold GroupsRes
 have HC := hid hc
 by_cases hc0 : c = 0
 ·subst hc0
  obtain ⟨hw, hX, hxl, hit⟩ := ckL_0 hc
  obtain ⟨fs, hfs⟩ : ∃ fs, (feetV ss bs ⟨bid, bwi, bde, bce, bhi, bbe⟩ xs) = fs := ⟨_, rfl⟩
  have hok : ∀ f ∈ fs, FtOk f := hfs ▸ feet_ok
  have hn : fs.length ≤ 5 := hfs ▸ feet_len
  have hf2 : xs.map (footR ss bce) = fs := by rw [← hfs, feetV_0 hc]
  have hR : groupsA ss bs ⟨bid, bwi, bde, bce, bhi, bbe⟩ xs = if fs.all (fun f => fitsB ⟨bid, bwi, bde, bce, bhi, bbe⟩ [f]) = true then ((groupsF ⟨bid, bwi, bde, bce, bhi, bbe⟩ fs).getD [], 0) else ([], 24) := by unfold groupsA; rw [if_pos hc, hfs]
  have HR := hid hR; have HF2 := hid hf2; have HX := hid hX; have HWW := hid hw; have HIT := hid (List.all_eq_true.2 hit); clear hf2 hfs hc hw hX hit hR
  go_enter Tryz.func51, Tryz.ntmps51
  go_wp2_with fail
  refine (rHead (h1.below (by go_grown)) (h2.below (by go_grown)) (hl.below (by go_grown)) HC.out).mono ?_
  rintro e w1 ⟨rfl, hb⟩
  replace hb0 := bnext (w := w) (by go_grown) hb; have hz := hb.size; (try simp only [World.size_alloc, World.size_setCell] at hz); replace q0 : w1.cell? ⟨w.heap.size, 0, none⟩ = some (vs) := bkeep hb (by first | (with_reducible exact q0) | (with_reducible exact akeep q0) | simp [*, go_sem]); replace q1 : w1.cell? ⟨w.heap.size, 1, none⟩ = some (vb) := bkeep hb (by first | (with_reducible exact q1) | (with_reducible exact akeep q1) | simp [*, go_sem]); replace q2 : w1.cell? ⟨w.heap.size + 1, 0, none⟩ = some (.int .i64 bid) := bkeep hb (by first | (with_reducible exact q2) | (with_reducible exact akeep q2) | simp [*, go_sem]); replace q3 : w1.cell? ⟨w.heap.size + 1, 1, none⟩ = some (.int .i64 bwi) := bkeep hb (by first | (with_reducible exact q3) | (with_reducible exact akeep q3) | simp [*, go_sem]); replace q4 : w1.cell? ⟨w.heap.size + 1, 2, none⟩ = some (.int .i64 bde) := bkeep hb (by first | (with_reducible exact q4) | (with_reducible exact akeep q4) | simp [*, go_sem]); replace q5 : w1.cell? ⟨w.heap.size + 1, 3, none⟩ = some (.int .i64 bce) := bkeep hb (by first | (with_reducible exact q5) | (with_reducible exact akeep q5) | simp [*, go_sem]); replace q6 : w1.cell? ⟨w.heap.size + 1, 4, none⟩ = some (.int .i64 bhi) := bkeep hb (by first | (with_reducible exact q6) | (with_reducible exact akeep q6) | simp [*, go_sem]); replace q7 : w1.cell? ⟨w.heap.size + 1, 5, none⟩ = some (.int .i64 bbe) := bkeep hb (by first | (with_reducible exact q7) | (with_reducible exact akeep q7) | simp [*, go_sem]); skip
  clear hb
  go_wp2_with fail
  refine (rfeet_any (h1.below (by go_grown)) (h2.below (by go_grown)) (hl.below (by go_grown)) (by omega) HWW.out HX.out HIT.out).mono ?_
  rintro e w1 ⟨fv, rfl, hb, ho⟩
  replace hb0 := bnext (w := w) (by go_grown) hb; have hz := hb.size; (try simp only [World.size_alloc, World.size_setCell] at hz); replace q0 : w1.cell? ⟨w.heap.size, 0, none⟩ = some (vs) := bkeep hb (by first | (with_reducible exact q0) | (with_reducible exact akeep q0) | simp [*, go_sem]); replace q1 : w1.cell? ⟨w.heap.size, 1, none⟩ = some (vb) := bkeep hb (by first | (with_reducible exact q1) | (with_reducible exact akeep q1) | simp [*, go_sem]); replace q2 : w1.cell? ⟨w.heap.size + 1, 0, none⟩ = some (.int .i64 bid) := bkeep hb (by first | (with_reducible exact q2) | (with_reducible exact akeep q2) | simp [*, go_sem]); replace q3 : w1.cell? ⟨w.heap.size + 1, 1, none⟩ = some (.int .i64 bwi) := bkeep hb (by first | (with_reducible exact q3) | (with_reducible exact akeep q3) | simp [*, go_sem]); replace q4 : w1.cell? ⟨w.heap.size + 1, 2, none⟩ = some (.int .i64 bde) := bkeep hb (by first | (with_reducible exact q4) | (with_reducible exact akeep q4) | simp [*, go_sem]); replace q5 : w1.cell? ⟨w.heap.size + 1, 3, none⟩ = some (.int .i64 bce) := bkeep hb (by first | (with_reducible exact q5) | (with_reducible exact akeep q5) | simp [*, go_sem]); replace q6 : w1.cell? ⟨w.heap.size + 1, 4, none⟩ = some (.int .i64 bhi) := bkeep hb (by first | (with_reducible exact q6) | (with_reducible exact akeep q6) | simp [*, go_sem]); replace q7 : w1.cell? ⟨w.heap.size + 1, 5, none⟩ = some (.int .i64 bbe) := bkeep hb (by first | (with_reducible exact q7) | (with_reducible exact akeep q7) | simp [*, go_sem]); skip
  clear hb
  rw [HF2.out] at ho
  have hfa := feetAt_of_owns hok ho
  obtain ⟨fa, fc, rfl, hfl⟩ := owns_shape ho
  have hca : ∀ a, fa = some a → fs.length ≤ fc ∧ fc ≤ 9223372036854775807 := fun a e => by (rcases ho.2 with ⟨h, _⟩ | ⟨g, cap, cur, h, _, _, h4, h5, _⟩); (injection h with h; rw [h] at e; cases e); injection h with _ _ h3; subst h3; exact ⟨h4, by unfold maxLen at h5; omega⟩
  clear ho q0 q1
  obtain ⟨n, hnn⟩ : ∃ n, fs.length = n := ⟨_, rfl⟩
  have HN := hid hnn
  rw [hnn] at hn hfa hca hfl ⊢
  clear hnn
  have HCA := hid hca; clear hca
  go_wp2_with fail
  go_loopg [10, 26] n (fun gk _ kv wr => ∃ k : Nat, k ≤ n ∧ gk = n - k ∧ kv = .int .i64 k ∧ Hid ((fs.take k).all (fun f => fitsB ⟨bid, bwi, bde, bce, bhi, bbe⟩ [f]) = true) ∧ FeetAt wr (.slice fa n fc) fs ∧ Below w.heap.size w wr ∧ (wr.cell? ⟨w.heap.size + 1, 0, none⟩ = some (.int .i64 bid) ∧ wr.cell? ⟨w.heap.size + 1, 1, none⟩ = some (.int .i64 bwi) ∧ wr.cell? ⟨w.heap.size + 1, 2, none⟩ = some (.int .i64 bde) ∧ wr.cell? ⟨w.heap.size + 1, 3, none⟩ = some (.int .i64 bce) ∧ wr.cell? ⟨w.heap.size + 1, 4, none⟩ = some (.int .i64 bhi) ∧ wr.cell? ⟨w.heap.size + 1, 5, none⟩ = some (.int .i64 bbe)))
  case atStart => exact ⟨0, Nat.zero_le _, rfl, rfl, (show (fs.take 0).all _ = true by simp), hfa, hb0, ⟨q2, q3, q4, q5, q6, q7⟩⟩
  case round =>
   clear hfa hb0 q2 q3 q4 q5 q6 q7
   obtain ⟨k, hk, hgk, rfl, HALL, hfa, hb0, ⟨b2, b3, b4, b5, b6, b7⟩⟩ := hrel
   have HGK := hid hgk; clear hgk
   by_cases hlt : k < n
   ·have hki : (k : Int) < (n : Int) := by omega
    have hkf : k < fs.length := by rw [HN.out]; exact hlt
    obtain ⟨b, hbb⟩ : ∃ b, fitsB ⟨bid, bwi, bde, bce, bhi, bbe⟩ [fs[k]] = b := ⟨_, rfl⟩
    have hfk : (fs.map rowF)[k]? = some (rowF fs[k]) := by rw [List.getElem?_map, List.getElem?_eq_getElem hkf]; rfl
    obtain ⟨ba, hba⟩ : ∃ a, fa = some a := by
     cases fa with
     | none => exfalso; rcases hfa with ⟨_, h⟩ | ⟨a, _, h, _⟩; (rw [List.map_eq_nil_iff] at h; rw [h] at hkf; simp at hkf); (injection h with h; cases h)
     | some a => exact ⟨a, rfl⟩
    subst hba
    obtain ⟨hc1, hc2⟩ := HCA.out ba rfl
    have hft : ∀ (W' : World) (q : Addr) (cap2 : Nat), Below wr.heap.size wr W' → (∀ j, q.add j = ba.add (k * 4 + j)) → 1 ≤ cap2 → cap2 ≤ 9223372036854775807 → Calls Tryz.prog 95 #[.agg #[.int .i64 bid, .int .i64 bwi, .int .i64 bde, .int .i64 bce, .int .i64 bhi, .int .i64 bbe], .slice (some q) 1 cap2] W' (Ret W' (.bool b)) := fun W' q cap2 hb hq h1 h2 => rPackable HX.out (rows_cut (hfa.below hb) hfk hq h1 h2) (fun f hf => by rw [List.mem_singleton.1 hf]; exact hok _ (List.getElem_mem hkf)) (by simp) hbb
    have HFT := hid hft; have HBB := hid hbb; clear hft hbb hfk
    have hk1 : (0 : Int) ≤ (k : Int) := by omega
    have hk2 : (k : Int) + 1 ≤ (fc : Int) := by omega
    have hk3 : (k : Int) ≤ (k : Int) + 1 := by omega
    have hk4 : ¬ fc = k := by omega
    go_upto_region 8 with fail
    refine wp_region_Rs [(6, fun v _ => v = .bool b)] [0, 1, 2, 3, 4, 5, 6, 7] 0 (by kernel_rfl) rfl (by simp only [List.forall_mem_cons]; exact ⟨keeps_eq, fun _ h => by cases h⟩) (by kernel_rfl) ?_
    simp only [numbered, List.filterMap_cons, List.filterMap_nil, List.getElem?_toArray, List.getElem?_cons_succ, List.getElem?_cons_zero, Option.map_some]
    show wpS _ _ _ _ _ _ _ [(_, _), (_, _), (_, _), (_, _), (_, _), (_, _), (_, _), (_, _)] _ _
    (refine wpS_quiet rfl rfl ?_; intro K hK inst hx; have s2 := fun x => (fun _ => bkeep (BQ.below x) b2) (hx x); have s3 := fun x => (fun _ => bkeep (BQ.below x) b3) (hx x); have s4 := fun x => (fun _ => bkeep (BQ.below x) b4) (hx x); have s5 := fun x => (fun _ => bkeep (BQ.below x) b5) (hx x); have s6 := fun x => (fun _ => bkeep (BQ.below x) b6) (hx x); have s7 := fun x => (fun _ => bkeep (BQ.below x) b7) (hx x); go_big_quiet_op; (first | go_big_quiet_on | (refine ⟨_, fun _ => rfl, ?_⟩; go_big_quiet_on)); clear hx inst)
    (refine wpS_quiet rfl rfl ?_; intro K hK inst hx; go_big_quiet_op; (first | go_big_quiet_on | (refine ⟨_, fun _ => rfl, ?_⟩; go_big_quiet_on)); clear hx inst)
    (refine wpS_quiet rfl rfl ?_; intro K hK inst hx; go_big_quiet_op; (first | go_big_quiet_on | (refine ⟨_, fun _ => rfl, ?_⟩; go_big_quiet_on)); clear hx inst)
    (refine wpS_quiet rfl rfl ?_; intro K hK inst hx; go_big_quiet_op; (first | go_big_quiet_on | (refine ⟨_, fun _ => rfl, ?_⟩; go_big_quiet_on)); clear hx inst)
    (refine wpS_quiet rfl rfl ?_; intro K hK inst hx; go_big_quiet_op; (first | go_big_quiet_on | (refine ⟨_, fun _ => rfl, ?_⟩; go_big_quiet_on)); clear hx inst)
    (refine wpS_quiet rfl rfl ?_; intro K hK inst hx; go_big_quiet_op; (first | go_big_quiet_on | (refine ⟨_, fun _ => rfl, ?_⟩; go_big_quiet_on)); clear hx inst)
    refine wpS_fresh rfl rfl (fun w' hb hF => ?_) ?_
    ·change freshAt _ _ _ (fun v _ => v = .bool b) _; unfold freshAt; go_simp; refine HFT.out _ _ _ hb (fun j => ?_) (by omega) (by omega); rw [Go.Deep.add_add]
    intro v W hv; simp only [pOf, List.lookup_cons, Nat.reduceBEq, beq_self_eq_true] at hv; subst hv
    simp only [Act.put, List.setIfInBounds_toArray, List.set_cons_succ, List.set_cons_zero]
    (refine wpS_quiet rfl rfl ?_; intro K hK inst hx; go_big_quiet_op; (first | go_big_quiet_on | (refine ⟨_, fun _ => rfl, ?_⟩; go_big_quiet_on)); clear hx inst)
    refine wpS_nil ?_
    intro w2 hall2
    have hb := hall2.1
    clear hall2
    refine wpAny_done (by kernel_rfl) ?_ _
    replace hfa := hfa.below hb
    replace hb0 := bnext (w := w) hb0 hb
    replace b2 := bkeep hb b2
    replace b3 := bkeep hb b3
    replace b4 := bkeep hb b4
    replace b5 := bkeep hb b5
    replace b6 := bkeep hb b6
    replace b7 := bkeep hb b7
    clear hb HFT
    cases b
    ·have hR2 : groupsA ss bs ⟨bid, bwi, bde, bce, bhi, bbe⟩ xs = ([], 24) := by rw [HR.out, if_neg]; rw [all_no (p := (fun f => fitsB ⟨bid, bwi, bde, bce, bhi, bbe⟩ [f])) hkf HBB.out]; simp
     have HR2 := hid hR2; clear hR2
     go_wp2_with fail
     go_ret2
     rw [HR2.out]
     exact ⟨_, rfl, hb0, groupsAt_nil _ _⟩
    ·have HALL2 := hid (all_take (p := (fun f => fitsB ⟨bid, bwi, bde, bce, bhi, bbe⟩ [f])) hkf HALL.out HBB.out)
     clear HALL
     go_wp2_with fail
     go_roundg (n - (k + 1))
     case measure => have h := HGK.out; omega
     case rel => exact ⟨k + 1, by omega, rfl, by go_num, HALL2, hfa, hb0, ⟨b2, b3, b4, b5, b6, b7⟩⟩
   ·obtain rfl : k = n := by omega
    have hall := HALL.out
    rw [List.take_of_length_le (by rw [HN.out]; exact Nat.le_refl _)] at hall
    have hR2 : groupsA ss bs ⟨bid, bwi, bde, bce, bhi, bbe⟩ xs = ((groupsF ⟨bid, bwi, bde, bce, bhi, bbe⟩ fs).getD [], 0) := by rw [HR.out, if_pos hall]
    have HR2 := hid hR2; have HAL := hid hall; clear hR2 hall HALL HR
    go_wp2_with fail
    go_loopg [11, 12] k (fun gk mv _ wr => ∃ m : Nat, 1 ≤ m ∧ m ≤ k + 1 ∧ gk = k + 1 - m ∧ mv = .int .i64 m ∧ Hid (∀ j, 1 ≤ j → j < m → partF ⟨bid, bwi, bde, bce, bhi, bbe⟩ fs j fs.length [] 0 = none) ∧ FeetAt wr (.slice fa k fc) fs ∧ Below w.heap.size w wr ∧ (wr.cell? ⟨w.heap.size + 1, 0, none⟩ = some (.int .i64 bid) ∧ wr.cell? ⟨w.heap.size + 1, 1, none⟩ = some (.int .i64 bwi) ∧ wr.cell? ⟨w.heap.size + 1, 2, none⟩ = some (.int .i64 bde) ∧ wr.cell? ⟨w.heap.size + 1, 3, none⟩ = some (.int .i64 bce) ∧ wr.cell? ⟨w.heap.size + 1, 4, none⟩ = some (.int .i64 bhi) ∧ wr.cell? ⟨w.heap.size + 1, 5, none⟩ = some (.int .i64 bbe)))
    case atStart => exact ⟨1, Nat.le_refl _, by omega, by omega, rfl, (fun j h1 h2 => by omega), hfa, hb0, ⟨b2, b3, b4, b5, b6, b7⟩⟩
    case round =>
     clear hfa hb0 b2 b3 b4 b5 b6 b7
     obtain ⟨m, hm1, hmk, hgk2, rfl, HT, hfa, hb0, ⟨b2, b3, b4, b5, b6, b7⟩⟩ := hrel
     have HGK2 := hid hgk2; clear hgk2
     by_cases hlt2 : m ≤ k
     ·have hmi : (m : Int) ≤ (k : Int) := by omega
      have hcall := rPartition HX.out hok (by rw [HN.out]; exact hn) (show m ≤ 5 by omega) fs.length [] 0 (.slice none 0 0) wr (by simp) (fun x hx => by cases hx) (Nat.zero_le _) hfa (.inl ⟨rfl, rfl⟩)
      rw [show ((0 : Nat) : Int) = 0 from rfl] at hcall
      have HCL := hid hcall; clear hcall
      go_wp2_with fail
      refine HCL.out.mono ?_
      rintro e w3 ⟨rv, rfl, hb3, hres⟩
      have hb4 := bnext (w := w) hb0 hb3
      replace b2 := bkeep hb3 b2
      replace b3 := bkeep hb3 b3
      replace b4 := bkeep hb3 b4
      replace b5 := bkeep hb3 b5
      replace b6 := bkeep hb3 b6
      replace b7 := bkeep hb3 b7
      replace hfa := hfa.below hb3
      clear HCL
      rcases hres with ⟨p, hp, hnp⟩ | ⟨hp, rfl⟩
      ·have hu := part_used fs.length [] 0 p (Nat.zero_le _) (fun x hx => by cases hx) hp
       have hpl := hu.2.2.1
       rw [List.length_nil, Nat.zero_add, HN.out] at hpl
       have hgf := groups_here hok HAL.out (by rw [HN.out]; exact hlt2) (fun j hj => by (rcases Nat.eq_zero_or_pos j with rfl | h0); exact part_none0 (by rw [HN.out]; omega); exact HT.out j h0 hj) hp
       have HGF := hid hgf; have HU := hid hu; clear hgf hu hp
       obtain ⟨pa, pc, rfl, hp1, hp2⟩ := hnp.shape
       have HNP := hid hnp; clear hnp
       rw [castL_len] at hp1 ⊢
       have HPE := hid hpl
       rw [hpl] at hp1 ⊢
       clear hpl
       have hp0 : (0 : Int) < (k : Int) := by omega
       go_wp2_with fail
       refine (rGrouped (of := p.1) (many := m) (show NumsAt w3 (.slice pa k pc) (castL p.1) by have h := HNP.out; rw [castL_len, HPE.out] at h; exact h) (fun x hx => by have h1 := HU.out.2.2.2 x hx; have h2 := HU.out.1; omega) (by omega) (by rw [HPE.out]; omega)).mono ?_
       rintro e w5 ⟨u, rfl, hb5, hg5⟩
       have hz3 := hb4.size
       go_wp2_with fail
       go_ret2
       rw [HR2.out, HGF.out]
       exact ⟨_, rfl, bnext (w := w) hb4 hb5, groupsAt_base hg5 hz3⟩
      ·have HT2 := hid (show ∀ j, 1 ≤ j → j < m + 1 → partF ⟨bid, bwi, bde, bce, bhi, bbe⟩ fs j fs.length [] 0 = none from fun j h1 h2 => by (rcases Nat.lt_or_ge j m with h3 | h3); exact HT.out j h1 h3; (have e : j = m := by omega); subst e; exact hp)
       clear HT hp
       go_wp2_with fail
       go_roundg (k + 1 - (m + 1))
       case measure => have h := HGK2.out; omega
       case rel => exact ⟨m + 1, by omega, by omega, rfl, by go_num, HT2, hfa, hb4, ⟨b2, b3, b4, b5, b6, b7⟩⟩
     ·obtain rfl : m = k + 1 := by omega
      have hmi : ¬ ((k : Int) + 1) ≤ (k : Int) := by omega
      have hg0 : groupsA ss bs ⟨bid, bwi, bde, bce, bhi, bbe⟩ xs = ([], 0) := by
       rw [HR2.out]
       rcases Nat.eq_zero_or_pos k with h0 | h0
       ·have hf0 : fs = [] := List.length_eq_zero_iff.1 (by rw [HN.out]; exact h0)
        rw [hf0]; rfl
       ·exfalso; have h := groups_some hok HAL.out; exact h (by have h2 := HT.out fs.length (by rw [HN.out]; omega) (by rw [HN.out]; omega); exact h2)
      have HG0 := hid hg0; clear hg0 HT
      go_wp2_with fail
      go_ret2
      rw [HG0.out]
      exact ⟨_, rfl, hb0, groupsAt_nil _ _⟩
 ·have hR : groupsA ss bs ⟨bid, bwi, bde, bce, bhi, bbe⟩ xs = ([], c) := by unfold groupsA; rw [if_neg (by rw [hc]; exact hc0), hc]
  rw [hR]
  have hcn : (c != 0) = true := by simpa using hc0
  clear hc hR
  go_enter Tryz.func51, Tryz.ntmps51
  go_wp2_with fail
  refine (rHead (h1.below (by go_grown)) (h2.below (by go_grown)) (hl.below (by go_grown)) HC.out).mono ?_
  rintro e w1 ⟨rfl, hb⟩
  replace hb0 := bnext (w := w) (by go_grown) hb; have hz := hb.size; (try simp only [World.size_alloc, World.size_setCell] at hz); replace q0 : w1.cell? ⟨w.heap.size, 0, none⟩ = some (vs) := bkeep hb (by first | (with_reducible exact q0) | (with_reducible exact akeep q0) | simp [*, go_sem]); replace q1 : w1.cell? ⟨w.heap.size, 1, none⟩ = some (vb) := bkeep hb (by first | (with_reducible exact q1) | (with_reducible exact akeep q1) | simp [*, go_sem]); replace q2 : w1.cell? ⟨w.heap.size + 1, 0, none⟩ = some (.int .i64 bid) := bkeep hb (by first | (with_reducible exact q2) | (with_reducible exact akeep q2) | simp [*, go_sem]); replace q3 : w1.cell? ⟨w.heap.size + 1, 1, none⟩ = some (.int .i64 bwi) := bkeep hb (by first | (with_reducible exact q3) | (with_reducible exact akeep q3) | simp [*, go_sem]); replace q4 : w1.cell? ⟨w.heap.size + 1, 2, none⟩ = some (.int .i64 bde) := bkeep hb (by first | (with_reducible exact q4) | (with_reducible exact akeep q4) | simp [*, go_sem]); replace q5 : w1.cell? ⟨w.heap.size + 1, 3, none⟩ = some (.int .i64 bce) := bkeep hb (by first | (with_reducible exact q5) | (with_reducible exact akeep q5) | simp [*, go_sem]); replace q6 : w1.cell? ⟨w.heap.size + 1, 4, none⟩ = some (.int .i64 bhi) := bkeep hb (by first | (with_reducible exact q6) | (with_reducible exact akeep q6) | simp [*, go_sem]); replace q7 : w1.cell? ⟨w.heap.size + 1, 5, none⟩ = some (.int .i64 bbe) := bkeep hb (by first | (with_reducible exact q7) | (with_reducible exact akeep q7) | simp [*, go_sem]); skip
  clear hb
  go_wp2_with fail
  go_ret2
  exact ⟨_, rfl, by go_grown, groupsAt_nil _ _⟩
end Go.Proofs.YtodmidchpbcnpaaGreat
namespace Go.Proofs.YtodmidchpbcnpaaGreat
open Go.RowKit Go.Pb Go.Pb.Ware Go.Pb.Sag


theorem ex_c1 : nthA exRows [] ⟨1, 3, 2, 110, 100, 3000⟩ exL 0 24 = ([⟨0, 0, false⟩, ⟨0, 2, true⟩, ⟨1, 0, false⟩], 0) := by decide +kernel
theorem ex_c2 : packsN exRows [] ⟨1, 3, 2, 110, 100, 3000⟩ exL = 44 := by decide +kernel
theorem ex_c3 : ckL exRows [] ⟨1, 3, 2, 110, 100, 3000⟩ exL = 0 := by decide +kernel
theorem ex_c4 : refuseA exRows [] ⟨1, 3, 2, 110, 100, 3000⟩ [⟨1, 3, 4⟩] = (1, [0], 0) := by decide +kernel
theorem ex_c5 : refuseA exRows [] ⟨1, 3, 3, 110, 100, 3000⟩ [⟨1, 1, 5⟩, ⟨1, 1, 5⟩] = (5, [0, 1], 0) := by decide +kernel
theorem ex_c6 : groupsA exRows [] ⟨1, 3, 2, 110, 100, 3000⟩ [⟨1, 1, 5⟩, ⟨1, 1, 5⟩, ⟨1, 2, 4⟩] = ([[0, 2], [1]], 0) := by decide +kernel
theorem ex_c7 : footV exRows [] ⟨1, 3, 2, 110, 100, 3000⟩ ⟨1, 2, 4⟩ = (⟨1, 1, 92, 420⟩, 0) := by rfl
theorem no_bodies {w : World} : RowsAt 7 w (.slice none 0 0) [] := .inl ⟨rfl, rfl⟩
theorem ex_spots {W : World} {v : Value} {d : Int} (hd : boxOk ⟨1, 3, d, 110, 100, 3000⟩ = true) {xs : List It} (h : FeetAt W v (feetV exRows [] ⟨1, 3, d, 110, 100, 3000⟩ xs)) :
  Calls Tryz.prog 129 #[.agg #[.int .i64 1, .int .i64 3, .int .i64 d, .int .i64 110, .int .i64 100, .int .i64 3000], v] W (fun e W' => ∃ u, e = .returned u ∧ Below W.heap.size W W' ∧ SpotsIn W.heap.size W'.heap.size u ((feetV exRows [] ⟨1, 3, d, 110, 100, 3000⟩ xs).map (spotsL ⟨1, 3, d, 110, 100, 3000⟩)) W' ∧ W.heap.size ≤ W'.heap.size) := spots_any hd feet_ok feet_len h
theorem foot_c {w : World} {sv lv : Value} (hr : RowsAt 11 w sv exRows)  : Calls Tryz.prog 12 #[.agg #[sv, .slice none 0 0], .agg #[.int .i64 1, .int .i64 3, .int .i64 2, .int .i64 110, .int .i64 100, .int .i64 3000], .agg #[.int .i64 1, .int .i64 2, .int .i64 4]] w (Ret w (.tuple #[.agg #[.int .i64 1, .int .i64 1, .int .i64 92, .int .i64 420], .int .i64 0])) := by
 have h := @Foot_any w _ _ _ _ hr no_bodies 1 3 2 110 100 3000 1 2 4 1 1 92 420 0 ex_c7
 rw [show (0 : Int) = 0 from rfl] at h
 exact h
theorem pack_c {w : World} {sv lv : Value} (hr : RowsAt 11 w sv exRows) (hl : RowsAt 3 w lv ((exL : List It).map rowX)) : Calls Tryz.prog 25 #[.agg #[sv, .slice none 0 0], .agg #[.int .i64 1, .int .i64 3, .int .i64 2, .int .i64 110, .int .i64 100, .int .i64 3000], lv] w (fun e w' => ∃ v, e = .returned (.tuple #[v, .int .i64 0]) ∧ Below w.heap.size w w' ∧ StAt w' v (([⟨0, 0, false⟩, ⟨0, 2, true⟩, ⟨1, 0, false⟩] : List St).map toSq)) := by
 have h := Pack_any (bid := 1) (bwi := 3) (bde := 2) (bce := 110) (bhi := 100) (bbe := 3000) hr no_bodies hl (fun W v h => ex_spots (d := 2) (by decide) h)
 rw [ex_c1] at h
 refine h.mono ?_
 rintro e w1 ⟨v, rfl, hb, ho⟩
 exact ⟨v, rfl, hb, stAt_of_owns (qs := ([⟨0, 0, false⟩, ⟨0, 2, true⟩, ⟨1, 0, false⟩] : List St).map toSq) ho⟩
theorem packs_c {w : World} {sv lv : Value} (hr : RowsAt 11 w sv exRows) (hl : RowsAt 3 w lv ((exL : List It).map rowX)) : Calls Tryz.prog 27 #[.agg #[sv, .slice none 0 0], .agg #[.int .i64 1, .int .i64 3, .int .i64 2, .int .i64 110, .int .i64 100, .int .i64 3000], lv] w (Ret w (.tuple #[.int .i64 44, .int .i64 0])) := by
 have h := Packs_any (bid := 1) (bwi := 3) (bde := 2) (bce := 110) (bhi := 100) (bbe := 3000) hr no_bodies hl (fun W v h => ex_spots (d := 2) (by decide) h)
 rw [ex_c2, ex_c3] at h
 exact h
theorem refuse_c1 {w : World} {sv lv : Value} (hr : RowsAt 11 w sv exRows) (hl : RowsAt 3 w lv (([⟨1, 3, 4⟩] : List It).map rowX)) : Calls Tryz.prog 43 #[.agg #[sv, .slice none 0 0], .agg #[.int .i64 1, .int .i64 3, .int .i64 2, .int .i64 110, .int .i64 100, .int .i64 3000], lv] w (fun e w' => ∃ v, e = .returned (.tuple #[.agg #[.int .i64 1, v], .int .i64 0]) ∧ Below w.heap.size w w' ∧ NumsAt w' v [0]) := by
 have h := Refuse_any (bid := 1) (bwi := 3) (bde := 2) (bce := 110) (bhi := 100) (bbe := 3000) hr no_bodies hl
 rw [ex_c4] at h
 exact h
theorem refuse_c2 {w : World} {sv lv : Value} (hr : RowsAt 11 w sv exRows) (hl : RowsAt 3 w lv (([⟨1, 1, 5⟩, ⟨1, 1, 5⟩] : List It).map rowX)) : Calls Tryz.prog 43 #[.agg #[sv, .slice none 0 0], .agg #[.int .i64 1, .int .i64 3, .int .i64 3, .int .i64 110, .int .i64 100, .int .i64 3000], lv] w (fun e w' => ∃ v, e = .returned (.tuple #[.agg #[.int .i64 5, v], .int .i64 0]) ∧ Below w.heap.size w w' ∧ NumsAt w' v [0, 1]) := by
 have h := Refuse_any (bid := 1) (bwi := 3) (bde := 3) (bce := 110) (bhi := 100) (bbe := 3000) hr no_bodies hl
 rw [ex_c5] at h
 exact h
theorem groups_c {w : World} {sv lv : Value} (hr : RowsAt 11 w sv exRows) (hl : RowsAt 3 w lv (([⟨1, 1, 5⟩, ⟨1, 1, 5⟩, ⟨1, 2, 4⟩] : List It).map rowX)) : Calls Tryz.prog 50 #[.agg #[sv, .slice none 0 0], .agg #[.int .i64 1, .int .i64 3, .int .i64 2, .int .i64 110, .int .i64 100, .int .i64 3000], lv] w (fun e w' => ∃ v, e = .returned (.tuple #[v, .int .i64 0]) ∧ Below w.heap.size w w' ∧ ListsAt v [[0, 2], [1]] w') := by
 have h := Groups_any (bid := 1) (bwi := 3) (bde := 2) (bce := 110) (bhi := 100) (bbe := 3000) hr no_bodies hl
 rw [ex_c6] at h
 refine h.mono ?_
 rintro e w1 ⟨v, rfl, hb, hg⟩
 refine ⟨v, rfl, hb, groupsAt_lists hg ?_⟩
 have h2 : ∀ g ∈ ([[0, 2], [1]] : List (List Int)), ∀ z ∈ g, -100000 ≤ z ∧ z ≤ 100000 := by decide
 exact fun g hg z hz => i64_small (h2 g hg z hz).1 (h2 g hg z hz).2
end Go.Proofs.YtodmidchpbcnpaaGreat