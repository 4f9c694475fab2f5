/- Part of a claim. -/
import Derived.Test.YtodmidchpbcnpaaGreatG24U
import Derived.Test.YtodmidchpbcnpaaGreatKG14U
import Derived.Test.YtodmidchpbcnpaaGreatG4U
import Derived.Test.YtodmidchpbcnpaaGreatG31U
import Derived.Test.YtodmidchpbcnpaaGreatG30U
import Derived.Test.YtodmidchpbcnpaaGreatKTjU
import Derived.Deep.LoopGhost
set_option linter.unusedVariables false
set_option linter.unusedSimpArgs false
namespace Go.Proofs.YtodmidchpbcnpaaGreat
open Go.RowKit Go.Pb Go.Pb.Ware Go.Pb.Sag


def areB (n : Nat) : Int → List Int → List (List Int) → Bool
 | _, seen, [] => decide (seen.length = n)
 | first, seen, g :: gs => match g[0]? with
  | none => false
  | some x => idxB (n : Int) (-1) g && (decide (first < x) && (g.all (fun z => !seen.contains z) && areB n x (seen ++ g) gs))
theorem are_empty {n : Nat} {first : Int} {seen g : List Int} {gs : List (List Int)} (h : g.length = 0) : areB n first seen (g :: gs) = false := by
 obtain rfl : g = [] := List.length_eq_zero_iff.1 h
 rfl
theorem are_idx {n : Nat} {first : Int} {seen g : List Int} {gs : List (List Int)} (h : idxB (n : Int) (-1) g = false) : areB n first seen (g :: gs) = false := by
 rw [areB]
 cases g[0]? with
 | none => rfl
 | some x => dsimp only; rw [h]; rfl
theorem are_head {n : Nat} {first x : Int} {seen g : List Int} {gs : List (List Int)} (hx : g[0]? = some x) (h : x ≤ first) : areB n first seen (g :: gs) = false := by
 rw [areB, hx]
 dsimp only
 rw [decide_eq_false (show ¬ first < x by omega)]; simp
theorem are_dup {n : Nat} {first z : Int} {seen g : List Int} {gs : List (List Int)} (hg : z ∈ g) (hs : z ∈ seen) : areB n first seen (g :: gs) = false := by
 rw [areB]
 cases g[0]? with
 | none => rfl
 | some x =>
  dsimp only
  have h : g.all (fun z => !seen.contains z) = false := by
   rw [List.all_eq_false]
   exact ⟨z, hg, by simp [hs]⟩
  rw [h]; simp
theorem are_next {n : Nat} {first x : Int} {seen g : List Int} {gs : List (List Int)} (hx : g[0]? = some x) (hi : idxB (n : Int) (-1) g = true) (hf : first < x) (hn : (seen ++ g).Nodup) :
  areB n first seen (g :: gs) = areB n x (seen ++ g) gs := by
 rw [areB, hx]
 dsimp only
 have h : g.all (fun z => !seen.contains z) = true := by
  rw [List.all_eq_true]
  intro z hz
  have := (List.nodup_append.1 hn).2.2
  simp only [Bool.not_eq_true', List.contains_eq_mem, decide_eq_false_iff_not]
  exact fun h => this z h z hz rfl
 rw [hi, h, decide_eq_true hf]; rfl
theorem acc_are {s : Bx} {fs : List Ft} : ∀ {gs : List (List Int)} {first : Int} {seen : List Int}, accB s fs first seen gs = (areB fs.length first seen gs && gs.all (fun g => fitsB s (chosenL fs g)))
 | [], first, seen => by rw [accB, areB]; simp
 | g :: gs, first, seen => by
  rw [accB, areB]
  cases g[0]? with
  | none => rfl
  | some x =>
   dsimp only
   rw [acc_are (gs := gs), List.all_cons]
   cases idxB (fs.length : Int) (-1) g <;> cases decide (first < x) <;> cases (g.all fun z => !seen.contains z) <;> cases fitsB s (chosenL fs g) <;> cases areB fs.length x (seen ++ g) gs <;> simp
theorem are_all {n : Nat} : ∀ {gs : List (List Int)} {first : Int} {seen : List Int}, areB n first seen gs = true → ∀ g ∈ gs, idxB (n : Int) (-1) g = true
 | [], _, _, _, g, h => by cases h
 | g0 :: gs, first, seen, h, g, hm => by
  rw [areB] at h
  cases hx : g0[0]? with
  | none => rw [hx] at h; cases h
  | some x =>
   rw [hx] at h
   simp only [Bool.and_eq_true] at h
   rcases List.mem_cons.1 hm with rfl | h1
   ·exact h.1
   ·exact are_all h.2.2.2 g h1
theorem pair_take {g : List Int} {j : Nat} (h : g.Pairwise (· < ·)) (hj : j < g.length) : g[j] ∉ g.take j := by
 intro hm
 obtain ⟨i, hi, he⟩ := List.mem_iff_getElem.1 hm
 rw [List.getElem_take] at he
 rw [List.length_take] at hi
 have := List.pairwise_iff_getElem.1 h i j (by omega) hj (by omega)
 omega
theorem nodup_snoc {l : List Int} {z : Int} (h : l.Nodup) (hz : z ∉ l) : (l ++ [z]).Nodup := by
 rw [List.nodup_append]
 exact ⟨h, by simp, fun a ha b hb e => by simp at hb; subst hb; exact hz (e ▸ ha)⟩
def SeenAt (B n : Nat) (seen : List Int) (W : World) : Prop := ∀ i : Nat, i < n → W.cell? ⟨B, i, none⟩ = some (.bool (seen.contains (i : Int))) ∧ W.frozen? ⟨B, i, none⟩ = false
theorem SeenAt.below {B n : Nat} {seen : List Int} {W W' : World} (h : SeenAt B n seen W) (hb : Below W.heap.size W W') : SeenAt B n seen W' := fun i hi => ⟨bkeep hb (h i hi).1, bfree hb (h i hi).1 (h i hi).2⟩
theorem SeenAt.set {B n m : Nat} {seen : List Int} {W : World} (h : SeenAt B n seen W) (hm : m < n) : SeenAt B n (seen ++ [(m : Int)]) (W.setCell ⟨B, m, none⟩ (.bool true)) := by
 intro i hi
 obtain ⟨h1, h2⟩ := h i hi
 refine ⟨?_, set_free h1 h2⟩
 by_cases e : i = m
 ·subst e
  rw [setc_same h1]; simp
 ·rw [setc_other h1 e]
  have : ¬ (i : Int) = (m : Int) := by omega
  simp [this]
theorem seen_new {W : World} {lo T n B : Nat} (h : W.ownsRow lo T 1 (.slice (some ⟨B, 0, none⟩) n n) n (madeCells (Value.bool false).cells (n * 1)).toList) : SeenAt B n [] W := by
 intro i hi
 refine ⟨?_, owns_frozen h rfl i⟩
 have h1 := h.cells (g := B) rfl i (.bool false) (by
  rw [Array.getElem?_toList]
  unfold madeCells
  rw [Array.getElem?_map, Array.getElem?_range, if_pos (by omega)]
  show some ((#[Value.bool false] : Array Value)[i % 1]!) = _
  rw [Nat.mod_one]; rfl)
 rw [Go.WideShapes.add_plain, Nat.zero_add] at h1
 exact h1
theorem Tryz.infoB1 : (Tryz.prog.info? 4).map (fun i => (i.zero, i.size, i.bytes)) = some (some (.bool false), 1, 1) := by kernel_rfl
set_option maxRecDepth 100000 in
set_option maxHeartbeats 1500000 in
theorem are_any {w : World} {gv : Value} {gs : List (List Int)} {n : Nat} {d : Bool} (hn : n ≤ 1000) (hg : ListsAt gv gs w) (hgl : gs.length ≤ 9223372036854775807) (hd : areB n (-1) [] gs = d) :
  Calls Tryz.prog 104 #[gv, .int .i64 (n : Int)] w (Ret w (.bool d)) := by
 unfold Ret
 obtain ⟨ga, gcap, rfl, hgs⟩ := hg
 obtain ⟨q, hq⟩ : ∃ q, gs.length = q := ⟨_, rfl⟩
 rw [hq] at hgl ⊢
 have HD := hid hd; have HQ := hid hq; have HGS := hid hgs; clear hd hq hgs
 obtain ⟨i1, hj1, hy0, hy1, hy2⟩ := info_parts Tryz.infoB1
 go_enter Tryz.func104, Tryz.ntmps104
 go_upto_region 2 with (at_make; refine wpList_make_full _ rfl _ _ 146 rfl w.heap.size 4 i1 (.bool false) 1 Tryz.underlying146 hj1 hy0 hy1 .i64 .i64 _ _ n rfl rfl rfl rfl (by rw [hy2]; omega) (by unfold maxLen; omega) (Nat.le_refl _) ?_; intro v1 ho1 hg1)
 have hB1 : Below w.heap.size w v1 := (Below.refl _ w).grown hg1 (Nat.le_refl _) (fun k h => by cases h)
 have hin : SeenAt w.heap.size n [] v1 := seen_new ho1
 clear ho1 hg1
 go_wp2_with fail
 go_loopg [6, 7, 9, 11, 16] q (fun gk pv fv _ _ kv wr => ∃ (k : Nat) (first : Int) (seen : List Int), k ≤ q ∧ gk = q - k ∧ kv = .int .i64 k ∧ pv = .int .i64 seen.length ∧ fv = .int .i64 first ∧ Hid (areB n (-1) [] gs = areB n first seen (gs.drop k)) ∧ (-1 ≤ first ∧ first ≤ n) ∧ Hid (seen.Nodup ∧ ∀ z ∈ seen, 0 ≤ z ∧ z < (n : Int)) ∧ SeenAt w.heap.size n seen wr ∧ Below w.heap.size w wr)
 case atStart => exact ⟨0, -1, [], Nat.zero_le _, rfl, rfl, rfl, rfl, rfl, by omega, ⟨by simp, fun z h => by cases h⟩, hin, hB1⟩
 case round =>
  clear hin hB1
  obtain ⟨k, first, seen, hk, hgk, rfl, rfl, rfl, HA, hfi, HS, hin, hB⟩ := hrel
  have HGK := hid hgk; clear hgk
  obtain ⟨GK, rfl⟩ : ∃ GK, GK = gk := ⟨_, rfl⟩
  have hsl : seen.length ≤ n := (nodup_len HS.out.1 HS.out.2).1
  obtain ⟨sl, hsl2⟩ : ∃ sl, seen.length = sl := ⟨_, rfl⟩
  rw [hsl2] at hsl ⊢
  have HSL := hid hsl2; clear hsl2
  by_cases hlt : k < q
  ·have hki : (k : Int) < (q : Int) := by omega
   have hkg : k < gs.length := by rw [HQ.out]; exact hlt
   obtain ⟨g, hg⟩ : ∃ g, gs[k] = g := ⟨_, rfl⟩
   obtain ⟨a', e1, u, r0, hu⟩ := HGS.out k g (by rw [List.getElem?_eq_getElem hkg, hg])
   subst e1
   have hu0 := hu
   replace r0 := bkeep hB r0
   replace hu := hu.below hB
   obtain ⟨ua, uc, rfl, hul1, hul2⟩ := hu.shape; have HUw := hid hu0; clear hu0
   have HA2 : Hid (areB n (-1) [] gs = areB n first seen (g :: gs.drop (k + 1))) := by have h := HA.out; rw [List.drop_eq_getElem_cons hkg, hg] at h; exact h
   clear HA hg
   obtain ⟨p, hp⟩ : ∃ p, g.length = p := ⟨_, rfl⟩
   rw [hp] at r0 hul1
   have HP := hid hp
   by_cases hp0 : p = 0
   ·subst hp0
    have hd3 : d = false := by rw [← HD.out, HA2.out, are_empty HP.out]
    subst hd3
    clear hp HD
    go_wp2_with fail
    go_ret
    exact ⟨rfl, hB⟩
   ·have hp1 : ¬ (p : Int) = 0 := by omega
    have hp2 : ((p : Int) == 0) = false := beq_eq_false_iff_ne.mpr hp1
    obtain ⟨x, hx⟩ : ∃ x, g[0]? = some x := ⟨_, List.getElem?_eq_getElem (by rw [hp]; omega)⟩
    have hgp : 0 < g.length := by omega
    obtain ⟨ua', e2, r1⟩ := (show NumsAt wr (.slice ua g.length uc) g from hu).elem hgp
    subst e2
    have hxg : g[0] = x := by have h := hx; rw [List.getElem?_eq_getElem hgp] at h; injection h
    rw [hxg] at r1
    have hxi := (hu.i64 x (List.mem_of_getElem? hx)).bd
    obtain ⟨bi, hbi⟩ : ∃ bi, idxB (n : Int) (-1) g = bi := ⟨_, rfl⟩
    have HI := hid hbi; have HXG := hid hx; have HU := hid hu; have hz5 : ua'.add 0 = ua' := by cases ua' with | mk b o l => cases l <;> simp [Addr.add]
    rw [hz5] at r1
    clear hbi hx hxg hz5 hgp
    rw [hp] at hu
    clear hp hu
    cases bi
    ·have hd3 : d = false := by rw [← HD.out, HA2.out, are_idx HI.out]
     subst hd3
     clear HD
     go_wp2_with (go_at_call 96; refine (areIndices_any (b := false) (show NumsAt wr (.slice (some ua') p uc) g by rw [← HP.out]; exact HU.out) (by omega) (by omega) HI.out).mono ?_; rintro e w2 ⟨rfl, hb⟩; replace hB := bnext (w := w) hB hb; replace hin := hin.below hb; replace r1 := bkeep hb r1; clear hb)
     go_ret
     exact ⟨rfl, hB⟩
    ·have hzr := fun z hz => idx_all (show (-1 : Int) ≤ -1 by omega) HI.out z hz
     have HZR := hid hzr; clear hzr
     have hxr := HZR.out x (List.mem_of_getElem? HXG.out)
     by_cases hfx : x ≤ first
     ·have hd3 : d = false := by rw [← HD.out, HA2.out, are_head HXG.out hfx]
      subst hd3
      clear HD
      go_wp2_with (go_at_call 96; refine (areIndices_any (b := true) (show NumsAt wr (.slice (some ua') p uc) g by rw [← HP.out]; exact HU.out) (by omega) (by omega) HI.out).mono ?_; rintro e w2 ⟨rfl, hb⟩; replace hB := bnext (w := w) hB hb; replace hin := hin.below hb; replace r1 := bkeep hb r1; clear hb)
      go_ret
      exact ⟨rfl, hB⟩
     ·go_wp2_with (go_at_call 96; refine (areIndices_any (b := true) (show NumsAt wr (.slice (some ua') p uc) g by rw [← HP.out]; exact HU.out) (by omega) (by omega) HI.out).mono ?_; rintro e w2 ⟨rfl, hb⟩; replace hB := bnext (w := w) hB hb; replace hin := hin.below hb; replace r1 := bkeep hb r1; clear hb)
      obtain ⟨v2, hv2⟩ : ∃ v, v = w2 := ⟨_, rfl⟩
      subst hv2
      go_loopg [6, 11, 41] p (fun gk pv _ jv wr => ∃ (j : Nat), j ≤ p ∧ gk = p - j ∧ jv = .int .i64 j ∧ pv = .int .i64 ((sl + j : Nat) : Int) ∧ Hid ((seen ++ g.take j).Nodup ∧ ∀ z ∈ seen ++ g.take j, 0 ≤ z ∧ z < (n : Int)) ∧ SeenAt w.heap.size n (seen ++ g.take j) wr ∧ Below w.heap.size w wr)
      case atStart => exact ⟨0, Nat.zero_le _, rfl, rfl, rfl, (show (seen ++ g.take 0).Nodup ∧ ∀ z ∈ seen ++ g.take 0, 0 ≤ z ∧ z < (n : Int) from by rw [List.take_zero, List.append_nil]; exact HS.out), by simpa using hin, hB⟩
      case round =>
       clear hin hB
       obtain ⟨j, hj, hgk, rfl, rfl, HS2, hin, hB⟩ := hrel
       have HGK2 := hid hgk; clear hgk
       have hjl : (seen ++ g.take j).length ≤ n := (nodup_len HS2.out.1 HS2.out.2).1
       rw [List.length_append, List.length_take, HSL.out, HP.out, Nat.min_eq_left hj] at hjl
       by_cases hlj : j < p
       ·have hji : (j : Int) < (p : Int) := by omega
        have hjg : j < g.length := by rw [HP.out]; exact hlj
        have hug : NumsAt wr (.slice (some ua') g.length uc) g := NumsAt.below HUw.out hB
        obtain ⟨u2, e3, r2⟩ := hug.elem hjg
        injection e3 with e3; subst e3
        obtain ⟨m, hm⟩ : ∃ m : Nat, g[j] = (m : Int) := ⟨g[j].toNat, by have := HZR.out _ (List.getElem_mem hjg); omega⟩
        have hmb := HZR.out _ (List.getElem_mem hjg)
        rw [hm] at r2 hmb
        have hm5 : m < n := by omega
        have hmi : (m : Int) < (n : Int) := by omega
        obtain ⟨r3, f3⟩ := hin m hm5
        obtain ⟨bs2, hbs⟩ : ∃ b, (seen ++ g.take j).contains (m : Int) = b := ⟨_, rfl⟩
        rw [hbs] at r3
        have HM := hid hm; have HBS := hid hbs; clear hm hbs hug
        cases bs2
        ·have hsn : (m : Int) ∉ seen ++ g.take j := by have h := HBS.out; simpa using h
         have hset := hin.set hm5
         have hnod := nodup_snoc HS2.out.1 hsn
         have e4 : seen ++ g.take (j + 1) = seen ++ g.take j ++ [(m : Int)] := by rw [List.take_succ_eq_append_getElem hjg, HM.out, List.append_assoc]
         have HE4 := hid e4; have HSET := hid hset; have HNOD := hid hnod; clear e4 hset hnod hsn
         go_wp2_with fail
         go_roundg (p - (j + 1))
         case measure => have h := HGK2.out; omega
         case rel => exact ⟨j + 1, by omega, rfl, by go_num, by go_num, by (rw [HE4.out]; exact ⟨HNOD.out, fun z hz => by (rcases List.mem_append.1 hz with h | h); exact HS2.out.2 z h; (simp at h; subst h; omega)⟩), by (rw [HE4.out]; exact HSET.out), hB.setCell (p := ⟨w.heap.size, m, none⟩) (Nat.le_refl _) _⟩
        ·have hsn : (m : Int) ∈ seen := by
          have h : (m : Int) ∈ seen ++ g.take j := by have h := HBS.out; simpa using h
          rcases List.mem_append.1 h with h | h
          ·exact h
          ·exact absurd (HM.out ▸ h) (pair_take (idx_iff.1 HI.out).1 hjg)
         have hd3 : d = false := by rw [← HD.out, HA2.out, are_dup (HM.out ▸ List.getElem_mem hjg) hsn]
         subst hd3
         clear HD
         go_wp2_with fail
         go_ret
         exact ⟨rfl, hB⟩
       ·obtain rfl : j = p := by omega
        rw [List.take_of_length_le (by rw [HP.out]; exact Nat.le_refl _)] at hin
        have hS3 := HS2.out
        rw [List.take_of_length_le (by rw [HP.out]; exact Nat.le_refl _)] at hS3
        have HS3 := hid hS3; clear hS3 HS2
        have hac : areB n (-1) [] gs = areB n x (seen ++ g) (gs.drop (k + 1)) := by rw [HA2.out, are_next HXG.out HI.out (show first < x by omega) HS3.out.1]
        have HAC := hid hac; clear hac
        have hlen : (seen ++ g).length = sl + j := by rw [List.length_append, HSL.out, HP.out]
        have HLEN := hid hlen; clear hlen
        go_wp2_with fail
        go_roundg (q - (k + 1))
        case measure => have h := HGK.out; omega
        case rel => exact ⟨k + 1, x, seen ++ g, by omega, rfl, by go_num, by rw [HLEN.out], rfl, HAC, by omega, HS3, hin, hB⟩
  ·obtain rfl : k = q := by omega
   have hacc : areB n (-1) [] gs = decide (sl = n) := by have h := HA.out; rw [List.drop_of_length_le (by rw [HQ.out]; exact Nat.le_refl _)] at h; rw [h, areB, HSL.out]
   have hd3 : d = decide (sl = n) := by rw [← HD.out, hacc]
   clear hacc HA
   subst hd3
   clear HD
   go_wp2_with fail
   go_ret
   exact ⟨ret_bool (by rw [Bool.eq_iff_iff]; simp; omega), hB⟩
def ckGr (ss bs : List (List Int)) (s : Bx) (xs : List It) (gs : List (List Int)) : Int := if ckL ss bs s xs = 0 then (if accB s (feetV ss bs s xs) (-1) [] gs = true then 0 else 26) else ckL ss bs s xs
theorem idx_len5 {n : Nat} {g : List Int} (h : idxB (n : Int) (-1) g = true) : g.length ≤ n := by
 have h1 := (idx_iff.1 h).1
 have h2 := (idx_iff.1 h).2
 exact (nodup_len (h1.imp fun h e => by omega) fun z hz => by have := h2 z hz; omega).1
set_option maxRecDepth 100000 in
set_option maxHeartbeats 1500000 in
theorem CheckGroups_any {w : World} {vs vb : Value} {ss bs : List (List Int)} (h1 : RowsAt 11 w vs ss) (h2 : RowsAt 7 w vb bs) {lv gv : Value} {xs : List It} {gs : List (List Int)} {bid bwi bde bce bhi bbe d : Int} (hl : RowsAt 3 w lv (xs.map rowX)) (hg : ListsAt gv gs w) (hgl : gs.length ≤ 9223372036854775807) (hd : ckGr ss bs ⟨bid, bwi, bde, bce, bhi, bbe⟩ xs gs = d) :
  Calls Tryz.prog 52 #[.agg #[vs, vb], .agg #[.int .i64 bid, .int .i64 bwi, .int .i64 bde, .int .i64 bce, .int .i64 bhi, .int .i64 bbe], lv, gv] w (Ret w (.int .i64 d)) := by
 unfold Ret
 obtain ⟨la, lc, rfl, hll⟩ := hl.shape
 rw [List.length_map] at hl hll ⊢
 obtain ⟨c, hc⟩ : ∃ c, ckL ss bs ⟨bid, bwi, bde, bce, bhi, bbe⟩ xs = c := ⟨_, rfl⟩
 by_cases hc0 : c = 0
 ·subst hc0
  obtain ⟨hw, hX, hxl, -⟩ := ckL_0 hc
  obtain ⟨fs, hfs⟩ : ∃ fs, (feetV ss bs ⟨bid, bwi, bde, bce, bhi, bbe⟩ xs) = fs := ⟨_, rfl⟩
  have hok : ∀ f ∈ fs, FtOk f := hfs ▸ feet_ok
  have hn : fs.length ≤ 5 := hfs ▸ feet_len
  have hxf : xs.length = fs.length := by rw [← hfs, feetV_0 hc, List.length_map]
  rw [hxf] at hl hll ⊢
  obtain ⟨q, hq⟩ : ∃ q, gs.length = q := ⟨_, rfl⟩
  have hd2 : d = if (areB fs.length (-1) [] gs && gs.all (fun g => fitsB ⟨bid, bwi, bde, bce, bhi, bbe⟩ (chosenL fs g))) = true then 0 else 26 := by rw [← hd]; unfold ckGr; rw [if_pos hc, hfs, acc_are]
  obtain ⟨ab, hab⟩ : ∃ ab, areB fs.length (-1) [] gs = ab := ⟨_, rfl⟩
  rw [hab] at hd2
  have HD := hid hd2; have HFS := hid hfs; have HC := hid hc; have HX := hid hX; have HQ := hid hq; have HAB := hid hab; clear hc hd hw hX hfs hd2 hxf hq hab
  obtain ⟨ga, gcap, hgv, hgs⟩ := id hg
  rw [HQ.out] at hgl hgv
  subst hgv
  have HGS := hid hgs; clear hgs
  go_enter Tryz.func52, Tryz.ntmps52
  go_wp2_with fail
  refine (Feet_any (h1.below (by go_grown)) (h2.below (by go_grown)) (hl.below (by go_grown))).mono ?_
  rintro e w1 ⟨fv, rfl, hb, ho⟩
  replace hb0 := bnext (w := w) (by go_grown) hb; have hz := hb.size; (try simp only [World.size_alloc, World.size_setCell] at hz); replace q0 : w1.cell? ⟨w.heap.size, 0, none⟩ = some (vs) := bkeep hb (by first | (with_reducible exact q0) | (with_reducible exact akeep q0) | simp [*, go_sem]); replace q1 : w1.cell? ⟨w.heap.size, 1, none⟩ = some (vb) := bkeep hb (by first | (with_reducible exact q1) | (with_reducible exact akeep q1) | simp [*, go_sem]); replace q2 : w1.cell? ⟨w.heap.size + 1, 0, none⟩ = some (.int .i64 bid) := bkeep hb (by first | (with_reducible exact q2) | (with_reducible exact akeep q2) | simp [*, go_sem]); replace q3 : w1.cell? ⟨w.heap.size + 1, 1, none⟩ = some (.int .i64 bwi) := bkeep hb (by first | (with_reducible exact q3) | (with_reducible exact akeep q3) | simp [*, go_sem]); replace q4 : w1.cell? ⟨w.heap.size + 1, 2, none⟩ = some (.int .i64 bde) := bkeep hb (by first | (with_reducible exact q4) | (with_reducible exact akeep q4) | simp [*, go_sem]); replace q5 : w1.cell? ⟨w.heap.size + 1, 3, none⟩ = some (.int .i64 bce) := bkeep hb (by first | (with_reducible exact q5) | (with_reducible exact akeep q5) | simp [*, go_sem]); replace q6 : w1.cell? ⟨w.heap.size + 1, 4, none⟩ = some (.int .i64 bhi) := bkeep hb (by first | (with_reducible exact q6) | (with_reducible exact akeep q6) | simp [*, go_sem]); replace q7 : w1.cell? ⟨w.heap.size + 1, 5, none⟩ = some (.int .i64 bbe) := bkeep hb (by first | (with_reducible exact q7) | (with_reducible exact akeep q7) | simp [*, go_sem]); skip
  clear hb
  rw [HC.out]
  rw [HFS.out] at ho
  have hfa := feetAt_of_owns hok ho
  obtain ⟨fa, fc, rfl, hfl⟩ := owns_shape ho
  clear ho HC
  have hz1 := hb0.size
  go_wp2_with fail
  refine (are_any (by omega) (hg.below hb0) (by rw [HQ.out]; omega) HAB.out).mono ?_
  rintro e w2 ⟨rfl, hb2⟩
  replace q2 := bkeep hb2 q2
  replace q3 := bkeep hb2 q3
  replace q4 := bkeep hb2 q4
  replace q5 := bkeep hb2 q5
  replace q6 := bkeep hb2 q6
  replace q7 := bkeep hb2 q7
  replace hb0 := bnext (w := w) hb0 hb2
  replace hfa := hfa.below hb2
  clear hb2
  cases ab
  ·have hd3 : d = 26 := by rw [HD.out]; rfl
   subst hd3
   clear HD
   go_wp2_with fail
   go_ret
   exact ⟨rfl, hb0⟩
  ·go_wp2_with fail
   refine fitting_any.mono ?_
   rintro e w3 ⟨rfl, hb3, hs3, hbx, hfv⟩
   have hb03 := bnext (w := w) hb0 hb3
   have hfa3 := hfa.below hb3
   clear hb0 hfa q0 q1 q2 q3 q4 q5 q6 q7
   go_wp2_with fail
   go_loopg [13, 34] q (fun gk _ kv wr => ∃ k : Nat, k ≤ q ∧ gk = q - k ∧ kv = .int .i64 k ∧ Hid ((gs.take k).all (fun g => fitsB ⟨bid, bwi, bde, bce, bhi, bbe⟩ (chosenL fs g)) = true) ∧ Below w3.heap.size w3 wr)
   case atStart => exact ⟨0, Nat.zero_le _, rfl, rfl, (show (gs.take 0).all _ = true by rw [List.take_zero]; rfl), Below.refl _ _⟩
   case round =>
    obtain ⟨k, hk, hgk, rfl, HA, hB⟩ := hrel
    have HGK := hid hgk; clear hgk
    have hb4 : Below w.heap.size w wr := bnext (w := w) hb03 hB
    by_cases hlt : k < q
    ·have hki : (k : Int) < (q : Int) := by omega
     have hkg : k < gs.length := by rw [HQ.out]; exact hlt
     obtain ⟨g, hgk⟩ : ∃ g, gs[k] = g := ⟨_, rfl⟩
     have hgk2 : gs[k]? = some g := by rw [List.getElem?_eq_getElem hkg, hgk]
     obtain ⟨a', e1, u, r0, hu⟩ := HGS.out k g hgk2
     subst e1
     replace r0 := bkeep hb4 r0
     replace hu := hu.below hb4
     obtain ⟨ua, uc, rfl, hul1, hul2⟩ := hu.shape
     have hix := are_all HAB.out g (List.mem_of_getElem? hgk2)
     have hzr := fun z hz => idx_all (show (-1 : Int) ≤ -1 by omega) hix z hz
     have hzl := idx_len5 hix
     obtain ⟨tb, htb⟩ : ∃ tb, fitsB ⟨bid, bwi, bde, bce, bhi, bbe⟩ (chosenL fs g) = tb := ⟨_, rfl⟩
     have HTB := hid htb; have HGK2 := hid hgk2; have HZR := hid hzr; clear htb hgk hgk2 hix hzr
     go_wp2_with fail
     refine (fitting1_any (X := w2.heap.size) HX.out hok (by omega) ⟨bkeep hB hbx.1, bkeep hB hbx.2.1, bkeep hB hbx.2.2.1, bkeep hB hbx.2.2.2.1, bkeep hB hbx.2.2.2.2.1, bkeep hB hbx.2.2.2.2.2⟩ (bkeep hB hfv) (hfa3.below hB) hu (by omega) (fun z hz => by have := HZR.out z hz; omega)).mono ?_
     rintro e w5 ⟨rfl, hb⟩
     rw [HTB.out]
     have hB5 := bnext (w := w3) hB hb
     have hb5 := bnext (w := w) hb4 hb
     clear hb
     cases tb
     ·have hd3 : d = 26 := by rw [HD.out, if_neg]; rw [Bool.true_and]; intro h; have h2 := List.all_eq_true.1 h g (List.mem_of_getElem? HGK2.out); rw [HTB.out] at h2; cases h2
      subst hd3
      clear HD
      go_wp2_with fail
      go_ret
      exact ⟨rfl, hb5⟩
     ·have HA2 := hid (show (gs.take (k + 1)).all (fun g => fitsB ⟨bid, bwi, bde, bce, bhi, bbe⟩ (chosenL fs g)) = true by rw [List.take_succ_eq_append_getElem hkg, List.all_append, HA.out, Bool.true_and]; simp only [List.all_cons, List.all_nil, Bool.and_true]; have h := HGK2.out; rw [List.getElem?_eq_getElem hkg] at h; injection h with h; rw [h]; exact HTB.out)
      clear HA
      go_wp2_with fail
      go_roundg (q - (k + 1))
      case measure => have h := HGK.out; omega
      case rel => exact ⟨k + 1, by omega, rfl, by go_num, HA2, hB5⟩
    ·obtain rfl : k = q := by omega
     have hd3 : d = 0 := by rw [HD.out, if_pos]; rw [Bool.true_and]; have h := HA.out; rw [List.take_of_length_le (by rw [HQ.out]; exact Nat.le_refl _)] at h; exact h
     subst hd3
     clear HD
     go_wp2_with fail
     go_ret
     exact ⟨rfl, hb4⟩
 ·have hR : d = c := by rw [← hd]; unfold ckGr; rw [if_neg (by rw [hc]; exact hc0), hc]
  subst hR
  have hcn : (d != 0) = true := by simpa using hc0
  have HC := hid hc; clear hc hd
  go_enter Tryz.func52, Tryz.ntmps52
  go_wp2_with fail
  refine (Feet_any (h1.below (by go_grown)) (h2.below (by go_grown)) (hl.below (by go_grown))).mono ?_
  rintro e w1 ⟨fv, rfl, hb, ho⟩
  replace hb0 := bnext (w := w) (by go_grown) hb; have hz := hb.size; (try simp only [World.size_alloc, World.size_setCell] at hz); replace q0 : w1.cell? ⟨w.heap.size, 0, none⟩ = some (vs) := bkeep hb (by first | (with_reducible exact q0) | (with_reducible exact akeep q0) | simp [*, go_sem]); replace q1 : w1.cell? ⟨w.heap.size, 1, none⟩ = some (vb) := bkeep hb (by first | (with_reducible exact q1) | (with_reducible exact akeep q1) | simp [*, go_sem]); replace q2 : w1.cell? ⟨w.heap.size + 1, 0, none⟩ = some (.int .i64 bid) := bkeep hb (by first | (with_reducible exact q2) | (with_reducible exact akeep q2) | simp [*, go_sem]); replace q3 : w1.cell? ⟨w.heap.size + 1, 1, none⟩ = some (.int .i64 bwi) := bkeep hb (by first | (with_reducible exact q3) | (with_reducible exact akeep q3) | simp [*, go_sem]); replace q4 : w1.cell? ⟨w.heap.size + 1, 2, none⟩ = some (.int .i64 bde) := bkeep hb (by first | (with_reducible exact q4) | (with_reducible exact akeep q4) | simp [*, go_sem]); replace q5 : w1.cell? ⟨w.heap.size + 1, 3, none⟩ = some (.int .i64 bce) := bkeep hb (by first | (with_reducible exact q5) | (with_reducible exact akeep q5) | simp [*, go_sem]); replace q6 : w1.cell? ⟨w.heap.size + 1, 4, none⟩ = some (.int .i64 bhi) := bkeep hb (by first | (with_reducible exact q6) | (with_reducible exact akeep q6) | simp [*, go_sem]); replace q7 : w1.cell? ⟨w.heap.size + 1, 5, none⟩ = some (.int .i64 bbe) := bkeep hb (by first | (with_reducible exact q7) | (with_reducible exact akeep q7) | simp [*, go_sem]); skip
  clear hb
  rw [HC.out]
  go_wp2_with fail
  go_ret
  exact ⟨rfl, by go_grown⟩
end Go.Proofs.YtodmidchpbcnpaaGreat