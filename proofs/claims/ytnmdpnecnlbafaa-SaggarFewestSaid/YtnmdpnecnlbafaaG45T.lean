/- Whether groups are groups of items. -/
import Derived.Test.YtnmdpnecnlbafaaG24T
import Derived.Test.YtnmdpnecnlbafaaG13T
import Derived.Test.YtnmdpnecnlbafaaG4T
import Derived.Test.YtnmdpnecnlbafaaG31T
import Derived.Test.YtnmdpnecnlbafaaKRowWT
import Derived.Deep.LoopGhost
namespace Go.Proofs.Ytnmdpnecnlbafaa
open Go.RowKit Go.Pb Go.Pb.Ware Go.Pb.Sag
set_option linter.unusedVariables false
set_option linter.unusedSimpArgs false

/-- What CheckGroups answers. -/
def ckGr (ss bs : List (List Int)) (s : Bx) (xs : List It) (gs : List (List Int)) : Int := if ckL ss bs s xs = 0 then (if accB s (feetV ss bs s xs) (-1) [] gs = true then 0 else 26) else ckL ss bs s xs
theorem acc_empty {s : Bx} {fs : List Ft} {first : Int} {seen g : List Int} {gs : List (List Int)} (h : g.length = 0) : accB s fs first seen (g :: gs) = false := by
  obtain rfl : g = [] := List.length_eq_zero_iff.1 h
  rfl
theorem acc_idx {s : Bx} {fs : List Ft} {first : Int} {seen g : List Int} {gs : List (List Int)} (h : idxB (fs.length : Int) (-1) g = false) : accB s fs first seen (g :: gs) = false := by
  rw [accB]
  cases g[0]? with
  | none => rfl
  | some x => dsimp only; rw [h]; rfl
theorem acc_head {s : Bx} {fs : List Ft} {first x : Int} {seen g : List Int} {gs : List (List Int)} (hx : g[0]? = some x) (h : x ≤ first) : accB s fs first seen (g :: gs) = false := by
  rw [accB, hx]
  dsimp only
  rw [decide_eq_false (show ¬ first < x by omega)]; simp
theorem acc_dup {s : Bx} {fs : List Ft} {first z : Int} {seen g : List Int} {gs : List (List Int)} (hg : z ∈ g) (hs : z ∈ seen) : accB s fs first seen (g :: gs) = false := by
  rw [accB]
  cases g[0]? with
  | none => rfl
  | some x =>
    dsimp only
    have h : g.all (fun z => !seen.contains z) = false := by
      rw [List.all_eq_false]
      exact ⟨z, hg, by simp [hs]⟩
    rw [h]; simp
theorem acc_next {s : Bx} {fs : List Ft} {first x : Int} {seen g : List Int} {gs : List (List Int)} (hx : g[0]? = some x) (hi : idxB (fs.length : Int) (-1) g = true) (hf : first < x) (hn : (seen ++ g).Nodup) :
    accB s fs first seen (g :: gs) = (fitsB s (chosenL fs g) && accB s fs x (seen ++ g) gs) := by
  rw [accB, hx]
  dsimp only
  have h : g.all (fun z => !seen.contains z) = true := by
    rw [List.all_eq_true]
    intro z hz
    have := (List.nodup_append.1 hn).2.2
    simp only [Bool.not_eq_true', List.contains_eq_mem, decide_eq_false_iff_not]
    exact fun h => this z h z hz rfl
  rw [hi, h, decide_eq_true hf]; rfl
/-- Which numbers below 5 have been seen. -/
def InAt (B : Nat) (seen : List Int) (W : World) : Prop := ∀ i : Nat, i < 5 → W.cell? ⟨B, i, none⟩ = some (.bool (seen.contains (i : Int))) ∧ W.frozen? ⟨B, i, none⟩ = false
theorem InAt.below {B : Nat} {seen : List Int} {W W' : World} (h : InAt B seen W) (hb : Below W.heap.size W W') : InAt B seen W' := fun i hi => ⟨bkeep hb (h i hi).1, bfree hb (h i hi).1 (h i hi).2⟩
theorem InAt.set {B m : Nat} {seen : List Int} {W : World} (h : InAt B seen W) (hm : m < 5) : InAt B (seen ++ [(m : Int)]) (W.setCell ⟨B, m, none⟩ (.bool true)) := by
  intro i hi
  obtain ⟨h1, h2⟩ := h i hi
  refine ⟨?_, set_free h1 h2⟩
  by_cases e : i = m
  · subst e
    rw [setc_same h1]; simp
  · rw [setc_other h1 e]
    have : ¬ (i : Int) = (m : Int) := by omega
    simp [this]
theorem in_new {w : World} {T : TypeId} : InAt w.heap.size [] (w.alloc (.cells #[.bool false, .bool false, .bool false, .bool false, .bool false] T)) := by
  intro i hi
  refine ⟨?_, World.frozen?_alloc_new w _ T i⟩
  rw [World.cell?_alloc_new]
  match i, hi with
  | 0, _ => rfl
  | 1, _ => rfl
  | 2, _ => rfl
  | 3, _ => rfl
  | 4, _ => rfl
theorem nodup_snoc {l : List Int} {z : Int} (h : l.Nodup) (hz : z ∉ l) : (l ++ [z]).Nodup := by
  rw [List.nodup_append]
  exact ⟨h, by simp, fun a ha b hb e => by simp at hb; subst hb; exact hz (e ▸ ha)⟩
theorem pair_take {g : List Int} {j : Nat} (h : g.Pairwise (· < ·)) (hj : j < g.length) : g[j] ∉ g.take j := by
  intro hm
  obtain ⟨i, hi, he⟩ := List.mem_iff_getElem.1 hm
  rw [List.getElem_take] at he
  rw [List.length_take] at hi
  have := List.pairwise_iff_getElem.1 h i j (by omega) hj (by omega)
  omega

set_option maxRecDepth 100000 in
set_option maxHeartbeats 1000000 in
theorem CheckGroups_any {w : World} {vs vb : Value} {ss bs : List (List Int)} (h1 : RowsAt 11 w vs ss) (h2 : RowsAt 7 w vb bs) {lv gv : Value} {xs : List It} {gs : List (List Int)} {bid bwi bde bce bhi bbe d : Int} (hl : RowsAt 3 w lv (xs.map rowX)) (hg : ListsAt gv gs w) (hgl : gs.length ≤ 9223372036854775807) (hd : ckGr ss bs ⟨bid, bwi, bde, bce, bhi, bbe⟩ xs gs = d) :
    Calls Try.prog 23 #[.agg #[vs, vb], .agg #[.int .i64 bid, .int .i64 bwi, .int .i64 bde, .int .i64 bce, .int .i64 bhi, .int .i64 bbe], lv, gv] w (Ret w (.int .i64 d)) := by
  unfold Ret
  obtain ⟨la, lc, rfl, hll⟩ := hl.shape
  rw [List.length_map] at hl hll ⊢
  obtain ⟨ga, gcap, rfl, hgs⟩ := hg
  obtain ⟨c, hc⟩ : ∃ c, ckL ss bs ⟨bid, bwi, bde, bce, bhi, bbe⟩ xs = c := ⟨_, rfl⟩
  by_cases hc0 : c = 0
  · subst hc0
    obtain ⟨hw, hX, hxl, -⟩ := ckL_0 hc
    obtain ⟨fs, hfs⟩ : ∃ fs, (feetV ss bs ⟨bid, bwi, bde, bce, bhi, bbe⟩ xs) = fs := ⟨_, rfl⟩
    have hok : ∀ f ∈ fs, FtOk f := hfs ▸ feet_ok
    have hn : fs.length ≤ 5 := hfs ▸ feet_len
    have hxf : xs.length = fs.length := by rw [← hfs, feetV_0 hc, List.length_map]
    rw [hxf] at hl hll ⊢
    obtain ⟨n, hnn⟩ : ∃ n, fs.length = n := ⟨_, rfl⟩
    rw [hnn] at hl hll hn ⊢
    obtain ⟨q, hq⟩ : ∃ q, gs.length = q := ⟨_, rfl⟩
    rw [hq] at hgl ⊢
    have hd2 : d = if accB ⟨bid, bwi, bde, bce, bhi, bbe⟩ fs (-1) [] gs = true then 0 else 26 := by rw [← hd]; unfold ckGr; rw [if_pos hc, hfs]
    have HD := hid hd2; have HFS := hid hfs; have HC := hid hc; have HX := hid hX; have HN := hid hnn; have HQ := hid hq; have HGS := hid hgs; clear hc hd hw hX hfs hd2 hxf hnn hq hgs
    go_enter Try.func23, Try.ntmps23
    go_wp2_with fail
    refine (Feet_any (h1.below (by go_grown)) (h2.below (by go_grown)) (hl.below (by go_grown))).mono ?_
    rintro e w1 ⟨fv, rfl, hb, ho⟩
    replace hb0 := bnext (w := w) (by go_grown) hb; have hz := hb.size; (try simp only [World.size_alloc, World.size_setCell] at hz); replace q0 : w1.cell? ⟨w.heap.size, 0, none⟩ = some (vs) := bkeep hb (by first | (with_reducible exact q0) | (with_reducible exact akeep q0) | simp [*, go_sem]); replace q1 : w1.cell? ⟨w.heap.size, 1, none⟩ = some (vb) := bkeep hb (by first | (with_reducible exact q1) | (with_reducible exact akeep q1) | simp [*, go_sem]); replace q2 : w1.cell? ⟨w.heap.size + 1, 0, none⟩ = some (.int .i64 bid) := bkeep hb (by first | (with_reducible exact q2) | (with_reducible exact akeep q2) | simp [*, go_sem]); replace q3 : w1.cell? ⟨w.heap.size + 1, 1, none⟩ = some (.int .i64 bwi) := bkeep hb (by first | (with_reducible exact q3) | (with_reducible exact akeep q3) | simp [*, go_sem]); replace q4 : w1.cell? ⟨w.heap.size + 1, 2, none⟩ = some (.int .i64 bde) := bkeep hb (by first | (with_reducible exact q4) | (with_reducible exact akeep q4) | simp [*, go_sem]); replace q5 : w1.cell? ⟨w.heap.size + 1, 3, none⟩ = some (.int .i64 bce) := bkeep hb (by first | (with_reducible exact q5) | (with_reducible exact akeep q5) | simp [*, go_sem]); replace q6 : w1.cell? ⟨w.heap.size + 1, 4, none⟩ = some (.int .i64 bhi) := bkeep hb (by first | (with_reducible exact q6) | (with_reducible exact akeep q6) | simp [*, go_sem]); replace q7 : w1.cell? ⟨w.heap.size + 1, 5, none⟩ = some (.int .i64 bbe) := bkeep hb (by first | (with_reducible exact q7) | (with_reducible exact akeep q7) | simp [*, go_sem]); skip
    clear hb
    rw [HC.out]
    rw [HFS.out] at ho
    have hfa := feetAt_of_owns hok ho
    obtain ⟨fa, fc, rfl, hfl⟩ := owns_shape ho
    rw [HN.out] at hfa ho ⊢
    clear ho HC
    have hz1 := hb0.size
    go_upto_region 5 with fail
    generalize hW : World.alloc w1 _ = v1
    have hin : InAt w1.heap.size [] v1 := by rw [← hW]; exact in_new
    have hB1 : Below w1.heap.size w1 v1 := by rw [← hW]; exact (Below.refl _ _).alloc (Nat.le_refl _) _
    clear hW
    go_wp2_with fail
    go_loopg [12, 13, 15, 17, 30] q (fun gk pv fv _ _ kv wr => ∃ (k : Nat) (first : Int) (seen : List Int), k ≤ q ∧ gk = q - k ∧ kv = .int .i64 k ∧ pv = .int .i64 seen.length ∧ fv = .int .i64 first ∧ Hid (accB ⟨bid, bwi, bde, bce, bhi, bbe⟩ fs (-1) [] gs = accB ⟨bid, bwi, bde, bce, bhi, bbe⟩ fs first seen (gs.drop k)) ∧ (-1 ≤ first ∧ first ≤ 5) ∧ Hid (seen.Nodup ∧ ∀ z ∈ seen, 0 ≤ z ∧ z < (n : Int)) ∧ InAt w1.heap.size seen wr ∧ Below w1.heap.size w1 wr)
    case atStart => exact ⟨0, -1, [], Nat.zero_le _, rfl, rfl, rfl, rfl, rfl, by omega, ⟨by simp, fun z h => by cases h⟩, hin, hB1⟩
    case round =>
      clear hin hB1
      obtain ⟨k, first, seen, hk, hgk, rfl, rfl, rfl, HA, hfi, HS, hin, hB⟩ := hrel
      have HGK := hid hgk; clear hgk
      obtain ⟨GK, rfl⟩ : ∃ GK, GK = gk := ⟨_, rfl⟩
      have hsl : seen.length ≤ n := (nodup_len HS.out.1 HS.out.2).1
      obtain ⟨sl, hsl2⟩ : ∃ sl, seen.length = sl := ⟨_, rfl⟩
      rw [hsl2] at hsl ⊢
      have HSL := hid hsl2; clear hsl2
      have hb1 : Below w.heap.size w wr := bnext (w := w) hb0 hB
      by_cases hlt : k < q
      · have hki : (k : Int) < (q : Int) := by omega
        have hkg : k < gs.length := by rw [HQ.out]; exact hlt
        obtain ⟨g, hg⟩ : ∃ g, gs[k] = g := ⟨_, rfl⟩
        obtain ⟨a', e1, u, r0, hu⟩ := HGS.out k g (by rw [List.getElem?_eq_getElem hkg, hg])
        subst e1
        have hbw : Below w.heap.size w wr := hb1
        have hu0 := hu
        replace r0 := bkeep hb1 r0
        replace hu := hu.below hb1
        obtain ⟨ua, uc, rfl, hul1, hul2⟩ := hu.shape; have HUw := hid hu0; clear hu0
        have HA2 : Hid (accB ⟨bid, bwi, bde, bce, bhi, bbe⟩ fs (-1) [] gs = accB ⟨bid, bwi, bde, bce, bhi, bbe⟩ fs first seen (g :: gs.drop (k + 1))) := by have h := HA.out; rw [List.drop_eq_getElem_cons hkg, hg] at h; exact h
        clear HA hg
        obtain ⟨p, hp⟩ : ∃ p, g.length = p := ⟨_, rfl⟩
        rw [hp] at r0 hul1
        have HP := hid hp
        by_cases hp0 : p = 0
        · subst hp0
          have hd3 : d = 26 := by rw [HD.out, HA2.out, acc_empty HP.out]; rfl
          subst hd3
          clear hp HD
          go_wp2_with fail
          go_ret
          exact ⟨rfl, hb1⟩
        · have hp1 : ¬ (p : Int) = 0 := by omega
          have hp2 : ((p : Int) == 0) = false := beq_eq_false_iff_ne.mpr hp1
          obtain ⟨x, hx⟩ : ∃ x, g[0]? = some x := ⟨_, List.getElem?_eq_getElem (by rw [hp]; omega)⟩
          have hgp : 0 < g.length := by omega
          obtain ⟨ua', e2, r1⟩ := (show NumsAt wr (.slice ua g.length uc) g from hu).elem hgp
          subst e2
          have hxg : g[0] = x := by have h := hx; rw [List.getElem?_eq_getElem hgp] at h; injection h
          rw [hxg] at r1
          have hxi := (hu.i64 x (List.mem_of_getElem? hx)).bd
          obtain ⟨bi, hbi⟩ : ∃ bi, idxB (n : Int) (-1) g = bi := ⟨_, rfl⟩
          have HI := hid hbi; have HXG := hid hx; have HU := hid hu; have hz5 : ua'.add 0 = ua' := by cases ua' with | mk b o l => cases l <;> simp [Addr.add]
          rw [hz5] at r1
          clear hbi hx hxg hz5 hgp
          rw [hp] at hu
          clear hp hu
          cases bi
          · have hd3 : d = 26 := by rw [HD.out, HA2.out, acc_idx (by rw [HN.out]; exact HI.out)]; rfl
            subst hd3
            clear HD
            go_wp2_with (go_at_call 32; refine (areIndices_any (b := false) (show NumsAt wr (.slice (some ua') p uc) g by rw [← HP.out]; exact HU.out) (by omega) (by omega) HI.out).mono ?_; rintro e w2 ⟨rfl, hb⟩; replace hb1 := bnext (w := w) hb1 hb; replace hB := bnext (w := w1) hB hb; replace hin := hin.below hb; replace r1 := bkeep hb r1; clear hb)
            go_ret
            exact ⟨rfl, hb1⟩
          · have hzr := fun z hz => idx_all (show (-1 : Int) ≤ -1 by omega) HI.out z hz
            have HZR := hid hzr; clear hzr
            have hxr := HZR.out x (List.mem_of_getElem? HXG.out)
            by_cases hfx : x ≤ first
            · have hd3 : d = 26 := by rw [HD.out, HA2.out, acc_head HXG.out hfx]; rfl
              subst hd3
              clear HD
              go_wp2_with (go_at_call 32; refine (areIndices_any (b := true) (show NumsAt wr (.slice (some ua') p uc) g by rw [← HP.out]; exact HU.out) (by omega) (by omega) HI.out).mono ?_; rintro e w2 ⟨rfl, hb⟩; replace hb1 := bnext (w := w) hb1 hb; replace hB := bnext (w := w1) hB hb; replace hin := hin.below hb; replace r1 := bkeep hb r1; clear hb)
              go_ret
              exact ⟨rfl, hb1⟩
            · go_wp2_with (go_at_call 32; refine (areIndices_any (b := true) (show NumsAt wr (.slice (some ua') p uc) g by rw [← HP.out]; exact HU.out) (by omega) (by omega) HI.out).mono ?_; rintro e w2 ⟨rfl, hb⟩; replace hb1 := bnext (w := w) hb1 hb; replace hB := bnext (w := w1) hB hb; replace hin := hin.below hb; replace r1 := bkeep hb r1; clear hb)
              obtain ⟨v2, hv2⟩ : ∃ v, v = w2 := ⟨_, rfl⟩
              subst hv2
              go_loopg [12, 17, 56] p (fun gk pv _ jv wr => ∃ (j : Nat), j ≤ p ∧ gk = p - j ∧ jv = .int .i64 j ∧ pv = .int .i64 ((sl + j : Nat) : Int) ∧ Hid ((seen ++ g.take j).Nodup ∧ ∀ z ∈ seen ++ g.take j, 0 ≤ z ∧ z < (n : Int)) ∧ InAt w1.heap.size (seen ++ g.take j) wr ∧ Below w1.heap.size w1 wr)
              case atStart => exact ⟨0, Nat.zero_le _, rfl, rfl, rfl, (show (seen ++ g.take 0).Nodup ∧ ∀ z ∈ seen ++ g.take 0, 0 ≤ z ∧ z < (n : Int) from by rw [List.take_zero, List.append_nil]; exact HS.out), by simpa using hin, hB⟩
              case round =>
                clear hin hB
                obtain ⟨j, hj, hgk, rfl, rfl, HS2, hin, hB⟩ := hrel
                have HGK2 := hid hgk; clear hgk
                have hb2 : Below w.heap.size w wr := bnext (w := w) hb0 hB
                have hjl : (seen ++ g.take j).length ≤ n := (nodup_len HS2.out.1 HS2.out.2).1
                rw [List.length_append, List.length_take, HSL.out, HP.out, Nat.min_eq_left hj] at hjl
                by_cases hlj : j < p
                · have hji : (j : Int) < (p : Int) := by omega
                  have hjg : j < g.length := by rw [HP.out]; exact hlj
                  have hug : NumsAt wr (.slice (some ua') g.length uc) g := NumsAt.below HUw.out hb2
                  obtain ⟨u2, e3, r2⟩ := hug.elem hjg
                  injection e3 with e3; subst e3
                  obtain ⟨m, hm⟩ : ∃ m : Nat, g[j] = (m : Int) := ⟨g[j].toNat, by have := HZR.out _ (List.getElem_mem hjg); omega⟩
                  have hmb := HZR.out _ (List.getElem_mem hjg)
                  rw [hm] at r2 hmb
                  have hm5 : m < 5 := by omega
                  obtain ⟨r3, f3⟩ := hin m hm5
                  obtain ⟨bs2, hbs⟩ : ∃ b, (seen ++ g.take j).contains (m : Int) = b := ⟨_, rfl⟩
                  rw [hbs] at r3
                  have HM := hid hm; have HBS := hid hbs; clear hm hbs hug
                  cases bs2
                  · have hsn : (m : Int) ∉ seen ++ g.take j := by have h := HBS.out; simpa using h
                    have hset := hin.set hm5
                    have hnod := nodup_snoc HS2.out.1 hsn
                    have e4 : seen ++ g.take (j + 1) = seen ++ g.take j ++ [(m : Int)] := by rw [List.take_succ_eq_append_getElem hjg, HM.out, List.append_assoc]
                    have HE4 := hid e4; have HSET := hid hset; have HNOD := hid hnod; clear e4 hset hnod hsn
                    go_wp2_with fail
                    go_roundg (p - (j + 1))
                    case measure => have h := HGK2.out; omega
                    case rel => exact ⟨j + 1, by omega, rfl, by go_num, by go_num, by (rw [HE4.out]; exact ⟨HNOD.out, fun z hz => by (rcases List.mem_append.1 hz with h | h); exact HS2.out.2 z h; (simp at h; subst h; omega)⟩), by (rw [HE4.out]; exact HSET.out), hB.setCell (p := ⟨w1.heap.size, m, none⟩) (Nat.le_refl _) _⟩
                  · have hsn : (m : Int) ∈ seen := by
                      have h : (m : Int) ∈ seen ++ g.take j := by have h := HBS.out; simpa using h
                      rcases List.mem_append.1 h with h | h
                      · exact h
                      · exact absurd (HM.out ▸ h) (pair_take (idx_iff.1 HI.out).1 hjg)
                    have hd3 : d = 26 := by rw [HD.out, HA2.out, acc_dup (HM.out ▸ List.getElem_mem hjg) hsn]; rfl
                    subst hd3
                    clear HD
                    go_wp2_with fail
                    go_ret
                    exact ⟨rfl, hb2⟩
                · obtain rfl : j = p := by omega
                  rw [List.take_of_length_le (by rw [HP.out]; exact Nat.le_refl _)] at hin
                  have hS3 := HS2.out
                  rw [List.take_of_length_le (by rw [HP.out]; exact Nat.le_refl _)] at hS3
                  have HS3 := hid hS3; clear hS3 HS2
                  have hnx := acc_next (s := ⟨bid, bwi, bde, bce, bhi, bbe⟩) (gs := gs.drop (k + 1)) HXG.out (by rw [HN.out]; exact HI.out) (show first < x by omega) HS3.out.1
                  have HNX := hid hnx; clear hnx
                  obtain ⟨cs, hcs⟩ : ∃ cs, chosenL fs g = cs := ⟨_, rfl⟩
                  obtain ⟨tb, htb⟩ : ∃ tb, fitsB ⟨bid, bwi, bde, bce, bhi, bbe⟩ cs = tb := ⟨_, rfl⟩
                  have hok1 := chosen_ok hok (zs := g) (fun z h => by rw [HN.out]; have := HZR.out z h; omega)
                  have hn1 : (chosenL fs g).length ≤ 5 := by unfold chosenL; rw [List.length_map, HP.out]; omega
                  rw [hcs] at hok1 hn1
                  have hj5 : j ≤ 5 := by omega
                  have hch : ∀ W' : World, Below wr.heap.size wr W' → Calls Try.prog 33 #[.slice fa n fc, .slice (some ua') j uc] W' (fun e w'' => ∃ u, e = .returned u ∧ Below W'.heap.size W' w'' ∧ w''.ownsRow wr.heap.size 62 4 u cs.length (cs.flatMap cellsF)) := fun W' hb => by
                    rw [← hcs]; refine (chosen_any ((hfa.below hB).below hb) (by rw [HN.out]; omega) ((show NumsAt wr (.slice (some ua') j uc) g by rw [← HP.out]; exact NumsAt.below HUw.out hb2).below hb) (by rw [HP.out]; omega) (fun z h => by rw [HN.out]; have := HZR.out z h; omega)).mono ?_
                    rintro e w'' ⟨u, rfl, h2, h3⟩
                    exact ⟨u, rfl, h2, owns_base hb.size h3⟩
                  have htr : ∀ (W' : World) (u : Value), W'.ownsRow wr.heap.size 62 4 u cs.length (cs.flatMap cellsF) → Calls Try.prog 42 #[.agg #[.int .i64 bid, .int .i64 bwi, .int .i64 bde, .int .i64 bce, .int .i64 bhi, .int .i64 bbe], u] W' (Ret W' (.bool tb)) := fun W' u h => fits_any htb HX.out (feetAt_of_owns hok1 h) hok1 hn1
                  have hft : fitsB ⟨bid, bwi, bde, bce, bhi, bbe⟩ (chosenL fs g) = tb := by rw [hcs, htb]
                  have HFT := hid hft; have HCH := hid hch; have HTR := hid htr; clear hft hch htr hok1 hn1 htb hcs
                  have c2 := bkeep hB q2
                  have c3 := bkeep hB q3
                  have c4 := bkeep hB q4
                  have c5 := bkeep hB q5
                  have c6 := bkeep hB q6
                  have c7 := bkeep hB q7
                  go_upto_region 20 with fail
                  refine wp_region_Rs [(3, fun v W => W.ownsRow wr.heap.size 62 4 v cs.length (cs.flatMap cellsF)), (4, fun v _ => v = .bool tb)] [0, 1, 2, 3, 4, 5] 0 (by kernel_rfl) rfl (by simp only [List.forall_mem_cons]; exact ⟨keeps_owns, keeps_eq, fun _ h => by cases h⟩) (by kernel_rfl) ?_
                  simp only [numbered, List.filterMap_cons, List.filterMap_nil, List.getElem?_toArray, List.getElem?_cons_succ, List.getElem?_cons_zero, Option.map_some]
                  show wpS _ _ _ _ _ _ _ [(_, _), (_, _), (_, _), (_, _), (_, _), (_, _)] _ _
                  (refine wpS_quiet rfl rfl ?_; intro K hK inst hx; have s2 := fun x => (fun _ => bkeep (BQ.below x) c2) (hx x); have s3 := fun x => (fun _ => bkeep (BQ.below x) c3) (hx x); have s4 := fun x => (fun _ => bkeep (BQ.below x) c4) (hx x); have s5 := fun x => (fun _ => bkeep (BQ.below x) c5) (hx x); have s6 := fun x => (fun _ => bkeep (BQ.below x) c6) (hx x); have s7 := fun x => (fun _ => bkeep (BQ.below x) c7) (hx x); go_big_quiet_op; go_big_quiet_on; clear hx inst)
                  (refine wpS_quiet rfl rfl ?_; intro K hK inst hx; go_big_quiet_op; go_big_quiet_on; clear hx inst)
                  (refine wpS_quiet rfl rfl ?_; intro K hK inst hx; go_big_quiet_op; go_big_quiet_on; clear hx inst)
                  refine wpS_fresh rfl rfl (fun w' hb hF => ?_) ?_
                  · change freshAt _ _ _ (fun v W => W.ownsRow wr.heap.size 62 4 v cs.length (cs.flatMap cellsF)) _; unfold freshAt; go_simp; exact HCH.out _ hb
                  intro v W hv; simp only [pOf, List.lookup_cons, Nat.reduceBEq, beq_self_eq_true] at hv; obtain ⟨ca, cc, rfl, -⟩ := owns_shape hv
                  simp only [Act.put, List.setIfInBounds_toArray, List.set_cons_succ, List.set_cons_zero]
                  refine wpS_fresh rfl rfl (fun w' hb hF => ?_) ?_
                  · change freshAt _ _ _ (fun v _ => v = .bool tb) _; have h4 := hF 3 _ rfl (by kernel_rfl); unfold freshAt; go_simp; exact HTR.out _ _ h4
                  intro v W hv; simp only [pOf, List.lookup_cons, Nat.reduceBEq, beq_self_eq_true] at hv; subst hv
                  simp only [Act.put, List.setIfInBounds_toArray, List.set_cons_succ, List.set_cons_zero]
                  (refine wpS_quiet rfl rfl ?_; intro K hK inst hx; go_big_quiet_op; go_big_quiet_on; clear hx inst)
                  refine wpS_nil ?_
                  intro w3 hall
                  have hb := hall.1
                  clear hall
                  refine wpAny_done (by kernel_rfl) ?_ _
                  replace hin := hin.below hb
                  have hB3 := bnext (w := w1) hB hb
                  have hb3 := bnext (w := w) hb2 hb
                  clear hb HCH HTR
                  cases tb
                  · have hd3 : d = 26 := by rw [HD.out, HA2.out, HNX.out, HFT.out]; rfl
                    subst hd3
                    clear HD
                    go_wp2_with fail
                    go_ret
                    exact ⟨rfl, hb3⟩
                  · have hac : accB ⟨bid, bwi, bde, bce, bhi, bbe⟩ fs (-1) [] gs = accB ⟨bid, bwi, bde, bce, bhi, bbe⟩ fs x (seen ++ g) (gs.drop (k + 1)) := by rw [HA2.out, HNX.out, HFT.out]; rfl
                    have HAC := hid hac; clear hac
                    have hlen : (seen ++ g).length = sl + j := by rw [List.length_append, HSL.out, HP.out]
                    have HLEN := hid hlen; clear hlen
                    go_wp2_with fail
                    go_roundg (q - (k + 1))
                    case measure => have h := HGK.out; omega
                    case rel => exact ⟨k + 1, x, seen ++ g, by omega, rfl, by go_num, by rw [HLEN.out], rfl, HAC, by omega, HS3, hin, hB3⟩
      · obtain rfl : k = q := by omega
        have hacc : accB ⟨bid, bwi, bde, bce, bhi, bbe⟩ fs (-1) [] gs = decide (sl = n) := by have h := HA.out; rw [List.drop_of_length_le (by rw [HQ.out]; exact Nat.le_refl _)] at h; rw [h, accB, HSL.out, HN.out]
        have HACC := hid hacc; clear hacc HA
        by_cases hsn : sl = n
        · have hd3 : d = 0 := by rw [HD.out, HACC.out, decide_eq_true hsn]; rfl
          subst hd3
          subst hsn
          clear HD
          go_wp2_with fail
          go_ret
          exact ⟨rfl, hb1⟩
        · have hd3 : d = 26 := by rw [HD.out, HACC.out, decide_eq_false hsn]; rfl
          subst hd3
          have hsn2 : ((sl : Int) != (n : Int)) = true := by simp; omega
          have hsn3 : ¬ (sl : Int) = (n : Int) := by omega
          clear HD
          go_wp2_with fail
          go_ret
          exact ⟨rfl, hb1⟩
  · have hR : d = c := by rw [← hd]; unfold ckGr; rw [if_neg (by rw [hc]; exact hc0), hc]
    subst hR
    have hcn : (d != 0) = true := by simpa using hc0
    have HC := hid hc; clear hc hd
    go_enter Try.func23, Try.ntmps23
    go_wp2_with fail
    refine (Feet_any (h1.below (by go_grown)) (h2.below (by go_grown)) (hl.below (by go_grown))).mono ?_
    rintro e w1 ⟨fv, rfl, hb, ho⟩
    replace hb0 := bnext (w := w) (by go_grown) hb; have hz := hb.size; (try simp only [World.size_alloc, World.size_setCell] at hz); replace q0 : w1.cell? ⟨w.heap.size, 0, none⟩ = some (vs) := bkeep hb (by first | (with_reducible exact q0) | (with_reducible exact akeep q0) | simp [*, go_sem]); replace q1 : w1.cell? ⟨w.heap.size, 1, none⟩ = some (vb) := bkeep hb (by first | (with_reducible exact q1) | (with_reducible exact akeep q1) | simp [*, go_sem]); replace q2 : w1.cell? ⟨w.heap.size + 1, 0, none⟩ = some (.int .i64 bid) := bkeep hb (by first | (with_reducible exact q2) | (with_reducible exact akeep q2) | simp [*, go_sem]); replace q3 : w1.cell? ⟨w.heap.size + 1, 1, none⟩ = some (.int .i64 bwi) := bkeep hb (by first | (with_reducible exact q3) | (with_reducible exact akeep q3) | simp [*, go_sem]); replace q4 : w1.cell? ⟨w.heap.size + 1, 2, none⟩ = some (.int .i64 bde) := bkeep hb (by first | (with_reducible exact q4) | (with_reducible exact akeep q4) | simp [*, go_sem]); replace q5 : w1.cell? ⟨w.heap.size + 1, 3, none⟩ = some (.int .i64 bce) := bkeep hb (by first | (with_reducible exact q5) | (with_reducible exact akeep q5) | simp [*, go_sem]); replace q6 : w1.cell? ⟨w.heap.size + 1, 4, none⟩ = some (.int .i64 bhi) := bkeep hb (by first | (with_reducible exact q6) | (with_reducible exact akeep q6) | simp [*, go_sem]); replace q7 : w1.cell? ⟨w.heap.size + 1, 5, none⟩ = some (.int .i64 bbe) := bkeep hb (by first | (with_reducible exact q7) | (with_reducible exact akeep q7) | simp [*, go_sem]); skip
    clear hb
    rw [HC.out]
    go_wp2_with fail
    go_ret
    exact ⟨rfl, by go_grown⟩

end Go.Proofs.Ytnmdpnecnlbafaa
