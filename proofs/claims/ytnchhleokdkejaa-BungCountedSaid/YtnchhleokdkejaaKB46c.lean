/- Whether lists are parts of things. -/
import Derived.Test.YtnchhleokdkejaaKB22c
import Derived.Test.YtnchhleokdkejaaKScc
import Derived.Test.YtnchhleokdkejaaKLibDc
import Derived.Test.YtnchhleokdkejaaKLibc
import Derived.Test.YtnchhleokdkejaaKB10c
import Derived.Deep.LoopGhost
import Derived.OwnWalk
import Derived.Test.YtnchhleokdkejaaKSuc
import Derived.Test.YtnchhleokdkejaaKBec
import Derived.Maps.AppendAt
import Derived.Deep.CutBlock
import Derived.Lib.MinMax
import Derived.Laws.AppendOwn
namespace Go.Proofs.Ytnchhleokdkejaa
open Go.RowKit Go.Pb Go.Pb.Ware Go.Pb.Sag
set_option linter.unusedVariables false
set_option linter.unusedSimpArgs false

set_option maxRecDepth 100000 in
set_option maxHeartbeats 600000 in
theorem areIndices_any {w : World} {v : Value} {zs : List Int} {many : Int} {b : Bool} (hi : NumsAt w v zs) (hm0 : 0 ≤ many) (hm : many ≤ 1000) (hb : idxB many (-1) zs = b) :
    Calls Try.prog 138 #[v, .int .i64 many] w (Ret w (.bool b)) := by
  unfold Ret
  obtain ⟨a, cap, rfl, hl1, hl2⟩ := hi.shape
  go_enter Try.func138, Try.ntmps138
  go_wp2_with fail
  go_loopw [5, 10] (fun lv iv wr => ∃ (k : Nat) (last : Int), k ≤ zs.length ∧ iv = .int .i64 k ∧ lv = .int .i64 last ∧ (-1 ≤ last ∧ last ≤ 1000) ∧ Hid (idxB many last (zs.drop k) = b) ∧ Below w.heap.size w wr) (fun _ iv _ => zs.length - (intOf iv).toNat)
  case atStart => exact ⟨0, -1, Nat.zero_le _, rfl, rfl, by omega, hb, by go_grown⟩
  case round =>
    obtain ⟨k, last, hk, rfl, rfl, hla, HP, hb0⟩ := hrel
    have hzz := hb0.size
    by_cases hlt : k < zs.length
    · obtain ⟨a', ha, r0⟩ := (hi.below hb0).elem hlt
      subst ha
      obtain ⟨z, hz⟩ : ∃ z, z = zs[k] := ⟨_, rfl⟩
      have hzi := hi.i64 zs[k] (List.getElem_mem hlt)
      have hst := idx_step hlt HP.out
      rw [← hz] at r0 hst hzi
      have hzb := hzi.bd
      clear hz hzi HP
      obtain ⟨g, hg⟩ : ∃ g, btw z (last + 1) (many - 1) = g := ⟨_, rfl⟩
      rw [hg] at hst
      have HG := hid hg; have HST := hid hst
      have hkl : (k : Int) < (zs.length : Int) := by omega
      cases g
      · clear hg hst
        go_wp2_with (go_at_call 76; refine (bB HG.out).mono ?_; rintro e w1 ⟨rfl, hb⟩; replace hb0 := bnext (w := w) hb0 hb)
        go_ret
        exact ⟨ret_bool (by rw [HST.out]; rfl), hb0⟩
      · have hg2 := btw_iff.1 hg
        clear hg hst
        go_wp2_with (go_at_call 76; refine (bB HG.out).mono ?_; rintro e w1 ⟨rfl, hb⟩; replace hb0 := bnext (w := w) hb0 hb)
        go_roundw
        case rel => exact ⟨k + 1, z, by omega, by go_num, rfl, by omega, (show idxB _ _ _ = b from by have h := HST.out; simpa using h.symm), hb0⟩
        case measure => first | (simp [intOf]; done) | (simp [intOf]; omega)
    · have hb2 := idx_end (by omega) HP.out
      go_wp2_with fail
      go_ret
      exact ⟨ret_bool hb2.symm, hb0⟩

/-- Whether lists are parts of n things. -/
def areB (n : Nat) : Int → List Int → List (List Int) → Bool
  | _, seen, [] => decide (seen.length = n)
  | first, seen, g :: gs => match g[0]? with
    | none => false
    | some x => idxB (n : Int) (-1) g && (decide (first < x) && (g.all (fun z => !seen.contains z) && areB n x (seen ++ g) gs))
theorem are_empty {n : Nat} {first : Int} {seen g : List Int} {gs : List (List Int)} (h : g.length = 0) : areB n first seen (g :: gs) = false := by
  obtain rfl : g = [] := List.length_eq_zero_iff.1 h
  rfl
theorem are_idx {n : Nat} {first : Int} {seen g : List Int} {gs : List (List Int)} (h : idxB (n : Int) (-1) g = false) : areB n first seen (g :: gs) = false := by
  rw [areB]
  cases g[0]? with
  | none => rfl
  | some x => dsimp only; rw [h]; rfl
theorem are_head {n : Nat} {first x : Int} {seen g : List Int} {gs : List (List Int)} (hx : g[0]? = some x) (h : x ≤ first) : areB n first seen (g :: gs) = false := by
  rw [areB, hx]
  dsimp only
  rw [decide_eq_false (show ¬ first < x by omega)]; simp
theorem are_dup {n : Nat} {first z : Int} {seen g : List Int} {gs : List (List Int)} (hg : z ∈ g) (hs : z ∈ seen) : areB n first seen (g :: gs) = false := by
  rw [areB]
  cases g[0]? with
  | none => rfl
  | some x =>
    dsimp only
    have h : g.all (fun z => !seen.contains z) = false := by
      rw [List.all_eq_false]
      exact ⟨z, hg, by simp [hs]⟩
    rw [h]; simp
theorem are_next {n : Nat} {first x : Int} {seen g : List Int} {gs : List (List Int)} (hx : g[0]? = some x) (hi : idxB (n : Int) (-1) g = true) (hf : first < x) (hn : (seen ++ g).Nodup) :
    areB n first seen (g :: gs) = areB n x (seen ++ g) gs := by
  rw [areB, hx]
  dsimp only
  have h : g.all (fun z => !seen.contains z) = true := by
    rw [List.all_eq_true]
    intro z hz
    have := (List.nodup_append.1 hn).2.2
    simp only [Bool.not_eq_true', List.contains_eq_mem, decide_eq_false_iff_not]
    exact fun h => this z h z hz rfl
  rw [hi, h, decide_eq_true hf]; rfl
theorem pair_take {g : List Int} {j : Nat} (h : g.Pairwise (· < ·)) (hj : j < g.length) : g[j] ∉ g.take j := by
  intro hm
  obtain ⟨i, hi, he⟩ := List.mem_iff_getElem.1 hm
  rw [List.getElem_take] at he
  rw [List.length_take] at hi
  have := List.pairwise_iff_getElem.1 h i j (by omega) hj (by omega)
  omega
theorem nodup_snoc {l : List Int} {z : Int} (h : l.Nodup) (hz : z ∉ l) : (l ++ [z]).Nodup := by
  rw [List.nodup_append]
  exact ⟨h, by simp, fun a ha b hb e => by simp at hb; subst hb; exact hz (e ▸ ha)⟩
/-- Which numbers below n have been seen. -/
def SeenAt (B n : Nat) (seen : List Int) (W : World) : Prop := ∀ i : Nat, i < n → W.cell? ⟨B, i, none⟩ = some (.bool (seen.contains (i : Int))) ∧ W.frozen? ⟨B, i, none⟩ = false
theorem SeenAt.below {B n : Nat} {seen : List Int} {W W' : World} (h : SeenAt B n seen W) (hb : Below W.heap.size W W') : SeenAt B n seen W' := fun i hi => ⟨bkeep hb (h i hi).1, bfree hb (h i hi).1 (h i hi).2⟩
theorem SeenAt.set {B n m : Nat} {seen : List Int} {W : World} (h : SeenAt B n seen W) (hm : m < n) : SeenAt B n (seen ++ [(m : Int)]) (W.setCell ⟨B, m, none⟩ (.bool true)) := by
  intro i hi
  obtain ⟨h1, h2⟩ := h i hi
  refine ⟨?_, set_free h1 h2⟩
  by_cases e : i = m
  · subst e
    rw [setc_same h1]; simp
  · rw [setc_other h1 e]
    have : ¬ (i : Int) = (m : Int) := by omega
    simp [this]
theorem seen_new {W : World} {lo T n B : Nat} (h : W.ownsRow lo T 1 (.slice (some ⟨B, 0, none⟩) n n) n (madeCells (Value.bool false).cells (n * 1)).toList) : SeenAt B n [] W := by
  intro i hi
  refine ⟨?_, owns_frozen h rfl i⟩
  have h1 := h.cells (g := B) rfl i (.bool false) (by
    rw [Array.getElem?_toList]
    unfold madeCells
    rw [Array.getElem?_map, Array.getElem?_range, if_pos (by omega)]
    show some ((#[Value.bool false] : Array Value)[i % 1]!) = _
    rw [Nat.mod_one]; rfl)
  rw [Go.WideShapes.add_plain, Nat.zero_add] at h1
  exact h1

theorem Try.infoB1 : (Try.prog.info? 4).map (fun i => (i.zero, i.size, i.bytes)) = some (some (.bool false), 1, 1) := by kernel_rfl
set_option maxRecDepth 100000 in
set_option maxHeartbeats 1500000 in
theorem are_any {w : World} {gv : Value} {gs : List (List Int)} {n : Nat} {d : Bool} (hn : n ≤ 1000) (hg : ListsAt gv gs w) (hgl : gs.length ≤ 9223372036854775807) (hd : areB n (-1) [] gs = d) :
    Calls Try.prog 117 #[gv, .int .i64 (n : Int)] w (Ret w (.bool d)) := by
  unfold Ret
  obtain ⟨ga, gcap, rfl, hgs⟩ := hg
  obtain ⟨q, hq⟩ : ∃ q, gs.length = q := ⟨_, rfl⟩
  rw [hq] at hgl ⊢
  have HD := hid hd; have HQ := hid hq; have HGS := hid hgs; clear hd hq hgs
  obtain ⟨i1, hj1, hy0, hy1, hy2⟩ := info_parts Try.infoB1
  go_enter Try.func117, Try.ntmps117
  go_upto_region 2 with (at_make; refine wpList_make_full _ rfl _ _ 154 rfl w.heap.size 4 i1 (.bool false) 1 Try.underlying154 hj1 hy0 hy1 .i64 .i64 _ _ n rfl rfl rfl rfl (by rw [hy2]; omega) (by unfold maxLen; omega) (Nat.le_refl _) ?_; intro v1 ho1 hg1)
  have hB1 : Below w.heap.size w v1 := (Below.refl _ w).grown hg1 (Nat.le_refl _) (fun k h => by cases h)
  have hin : SeenAt w.heap.size n [] v1 := seen_new ho1
  clear ho1 hg1
  go_wp2_with fail
  go_loopg [6, 7, 9, 11, 16] q (fun gk pv fv _ _ kv wr => ∃ (k : Nat) (first : Int) (seen : List Int), k ≤ q ∧ gk = q - k ∧ kv = .int .i64 k ∧ pv = .int .i64 seen.length ∧ fv = .int .i64 first ∧ Hid (areB n (-1) [] gs = areB n first seen (gs.drop k)) ∧ (-1 ≤ first ∧ first ≤ n) ∧ Hid (seen.Nodup ∧ ∀ z ∈ seen, 0 ≤ z ∧ z < (n : Int)) ∧ SeenAt w.heap.size n seen wr ∧ Below w.heap.size w wr)
  case atStart => exact ⟨0, -1, [], Nat.zero_le _, rfl, rfl, rfl, rfl, rfl, by omega, ⟨by simp, fun z h => by cases h⟩, hin, hB1⟩
  case round =>
    clear hin hB1
    obtain ⟨k, first, seen, hk, hgk, rfl, rfl, rfl, HA, hfi, HS, hin, hB⟩ := hrel
    have HGK := hid hgk; clear hgk
    obtain ⟨GK, rfl⟩ : ∃ GK, GK = gk := ⟨_, rfl⟩
    have hsl : seen.length ≤ n := (nodup_len HS.out.1 HS.out.2).1
    obtain ⟨sl, hsl2⟩ : ∃ sl, seen.length = sl := ⟨_, rfl⟩
    rw [hsl2] at hsl ⊢
    have HSL := hid hsl2; clear hsl2
    by_cases hlt : k < q
    · have hki : (k : Int) < (q : Int) := by omega
      have hkg : k < gs.length := by rw [HQ.out]; exact hlt
      obtain ⟨g, hg⟩ : ∃ g, gs[k] = g := ⟨_, rfl⟩
      obtain ⟨a', e1, u, r0, hu⟩ := HGS.out k g (by rw [List.getElem?_eq_getElem hkg, hg])
      subst e1
      have hu0 := hu
      replace r0 := bkeep hB r0
      replace hu := hu.below hB
      obtain ⟨ua, uc, rfl, hul1, hul2⟩ := hu.shape; have HUw := hid hu0; clear hu0
      have HA2 : Hid (areB n (-1) [] gs = areB n first seen (g :: gs.drop (k + 1))) := by have h := HA.out; rw [List.drop_eq_getElem_cons hkg, hg] at h; exact h
      clear HA hg
      obtain ⟨p, hp⟩ : ∃ p, g.length = p := ⟨_, rfl⟩
      rw [hp] at r0 hul1
      have HP := hid hp
      by_cases hp0 : p = 0
      · subst hp0
        have hd3 : d = false := by rw [← HD.out, HA2.out, are_empty HP.out]
        subst hd3
        clear hp HD
        go_wp2_with fail
        go_ret
        exact ⟨rfl, hB⟩
      · have hp1 : ¬ (p : Int) = 0 := by omega
        have hp2 : ((p : Int) == 0) = false := beq_eq_false_iff_ne.mpr hp1
        obtain ⟨x, hx⟩ : ∃ x, g[0]? = some x := ⟨_, List.getElem?_eq_getElem (by rw [hp]; omega)⟩
        have hgp : 0 < g.length := by omega
        obtain ⟨ua', e2, r1⟩ := (show NumsAt wr (.slice ua g.length uc) g from hu).elem hgp
        subst e2
        have hxg : g[0] = x := by have h := hx; rw [List.getElem?_eq_getElem hgp] at h; injection h
        rw [hxg] at r1
        have hxi := (hu.i64 x (List.mem_of_getElem? hx)).bd
        obtain ⟨bi, hbi⟩ : ∃ bi, idxB (n : Int) (-1) g = bi := ⟨_, rfl⟩
        have HI := hid hbi; have HXG := hid hx; have HU := hid hu; have hz5 : ua'.add 0 = ua' := by cases ua' with | mk b o l => cases l <;> simp [Addr.add]
        rw [hz5] at r1
        clear hbi hx hxg hz5 hgp
        rw [hp] at hu
        clear hp hu
        cases bi
        · have hd3 : d = false := by rw [← HD.out, HA2.out, are_idx HI.out]
          subst hd3
          clear HD
          go_wp2_with (go_at_call 138; refine (areIndices_any (b := false) (show NumsAt wr (.slice (some ua') p uc) g by rw [← HP.out]; exact HU.out) (by omega) (by omega) HI.out).mono ?_; rintro e w2 ⟨rfl, hb⟩; replace hB := bnext (w := w) hB hb; replace hin := hin.below hb; replace r1 := bkeep hb r1; clear hb)
          go_ret
          exact ⟨rfl, hB⟩
        · have hzr := fun z hz => idx_all (show (-1 : Int) ≤ -1 by omega) HI.out z hz
          have HZR := hid hzr; clear hzr
          have hxr := HZR.out x (List.mem_of_getElem? HXG.out)
          by_cases hfx : x ≤ first
          · have hd3 : d = false := by rw [← HD.out, HA2.out, are_head HXG.out hfx]
            subst hd3
            clear HD
            go_wp2_with (go_at_call 138; refine (areIndices_any (b := true) (show NumsAt wr (.slice (some ua') p uc) g by rw [← HP.out]; exact HU.out) (by omega) (by omega) HI.out).mono ?_; rintro e w2 ⟨rfl, hb⟩; replace hB := bnext (w := w) hB hb; replace hin := hin.below hb; replace r1 := bkeep hb r1; clear hb)
            go_ret
            exact ⟨rfl, hB⟩
          · go_wp2_with (go_at_call 138; refine (areIndices_any (b := true) (show NumsAt wr (.slice (some ua') p uc) g by rw [← HP.out]; exact HU.out) (by omega) (by omega) HI.out).mono ?_; rintro e w2 ⟨rfl, hb⟩; replace hB := bnext (w := w) hB hb; replace hin := hin.below hb; replace r1 := bkeep hb r1; clear hb)
            obtain ⟨v2, hv2⟩ : ∃ v, v = w2 := ⟨_, rfl⟩
            subst hv2
            go_loopg [6, 11, 41] p (fun gk pv _ jv wr => ∃ (j : Nat), j ≤ p ∧ gk = p - j ∧ jv = .int .i64 j ∧ pv = .int .i64 ((sl + j : Nat) : Int) ∧ Hid ((seen ++ g.take j).Nodup ∧ ∀ z ∈ seen ++ g.take j, 0 ≤ z ∧ z < (n : Int)) ∧ SeenAt w.heap.size n (seen ++ g.take j) wr ∧ Below w.heap.size w wr)
            case atStart => exact ⟨0, Nat.zero_le _, rfl, rfl, rfl, (show (seen ++ g.take 0).Nodup ∧ ∀ z ∈ seen ++ g.take 0, 0 ≤ z ∧ z < (n : Int) from by rw [List.take_zero, List.append_nil]; exact HS.out), by simpa using hin, hB⟩
            case round =>
              clear hin hB
              obtain ⟨j, hj, hgk, rfl, rfl, HS2, hin, hB⟩ := hrel
              have HGK2 := hid hgk; clear hgk
              have hjl : (seen ++ g.take j).length ≤ n := (nodup_len HS2.out.1 HS2.out.2).1
              rw [List.length_append, List.length_take, HSL.out, HP.out, Nat.min_eq_left hj] at hjl
              by_cases hlj : j < p
              · have hji : (j : Int) < (p : Int) := by omega
                have hjg : j < g.length := by rw [HP.out]; exact hlj
                have hug : NumsAt wr (.slice (some ua') g.length uc) g := NumsAt.below HUw.out hB
                obtain ⟨u2, e3, r2⟩ := hug.elem hjg
                injection e3 with e3; subst e3
                obtain ⟨m, hm⟩ : ∃ m : Nat, g[j] = (m : Int) := ⟨g[j].toNat, by have := HZR.out _ (List.getElem_mem hjg); omega⟩
                have hmb := HZR.out _ (List.getElem_mem hjg)
                rw [hm] at r2 hmb
                have hm5 : m < n := by omega
                have hmi : (m : Int) < (n : Int) := by omega
                obtain ⟨r3, f3⟩ := hin m hm5
                obtain ⟨bs2, hbs⟩ : ∃ b, (seen ++ g.take j).contains (m : Int) = b := ⟨_, rfl⟩
                rw [hbs] at r3
                have HM := hid hm; have HBS := hid hbs; clear hm hbs hug
                cases bs2
                · have hsn : (m : Int) ∉ seen ++ g.take j := by have h := HBS.out; simpa using h
                  have hset := hin.set hm5
                  have hnod := nodup_snoc HS2.out.1 hsn
                  have e4 : seen ++ g.take (j + 1) = seen ++ g.take j ++ [(m : Int)] := by rw [List.take_succ_eq_append_getElem hjg, HM.out, List.append_assoc]
                  have HE4 := hid e4; have HSET := hid hset; have HNOD := hid hnod; clear e4 hset hnod hsn
                  go_wp2_with fail
                  go_roundg (p - (j + 1))
                  case measure => have h := HGK2.out; omega
                  case rel => exact ⟨j + 1, by omega, rfl, by go_num, by go_num, by (rw [HE4.out]; exact ⟨HNOD.out, fun z hz => by (rcases List.mem_append.1 hz with h | h); exact HS2.out.2 z h; (simp at h; subst h; omega)⟩), by (rw [HE4.out]; exact HSET.out), hB.setCell (p := ⟨w.heap.size, m, none⟩) (Nat.le_refl _) _⟩
                · have hsn : (m : Int) ∈ seen := by
                    have h : (m : Int) ∈ seen ++ g.take j := by have h := HBS.out; simpa using h
                    rcases List.mem_append.1 h with h | h
                    · exact h
                    · exact absurd (HM.out ▸ h) (pair_take (idx_iff.1 HI.out).1 hjg)
                  have hd3 : d = false := by rw [← HD.out, HA2.out, are_dup (HM.out ▸ List.getElem_mem hjg) hsn]
                  subst hd3
                  clear HD
                  go_wp2_with fail
                  go_ret
                  exact ⟨rfl, hB⟩
              · obtain rfl : j = p := by omega
                rw [List.take_of_length_le (by rw [HP.out]; exact Nat.le_refl _)] at hin
                have hS3 := HS2.out
                rw [List.take_of_length_le (by rw [HP.out]; exact Nat.le_refl _)] at hS3
                have HS3 := hid hS3; clear hS3 HS2
                have hac : areB n (-1) [] gs = areB n x (seen ++ g) (gs.drop (k + 1)) := by rw [HA2.out, are_next HXG.out HI.out (show first < x by omega) HS3.out.1]
                have HAC := hid hac; clear hac
                have hlen : (seen ++ g).length = sl + j := by rw [List.length_append, HSL.out, HP.out]
                have HLEN := hid hlen; clear hlen
                go_wp2_with fail
                go_roundg (q - (k + 1))
                case measure => have h := HGK.out; omega
                case rel => exact ⟨k + 1, x, seen ++ g, by omega, rfl, by go_num, by rw [HLEN.out], rfl, HAC, by omega, HS3, hin, hB⟩
    · obtain rfl : k = q := by omega
      have hacc : areB n (-1) [] gs = decide (sl = n) := by have h := HA.out; rw [List.drop_of_length_le (by rw [HQ.out]; exact Nat.le_refl _)] at h; rw [h, areB, HSL.out]
      have hd3 : d = decide (sl = n) := by rw [← HD.out, hacc]
      clear hacc HA
      subst hd3
      clear HD
      go_wp2_with fail
      go_ret
      exact ⟨ret_bool (by rw [Bool.eq_iff_iff]; simp; omega), hB⟩

end Go.Proofs.Ytnchhleokdkejaa

/- Whether lists are bungs that do. -/
namespace Go.Proofs.Ytnchhleokdkejaa
open Go.RowKit Go.Pb Go.Pb.Ware Go.Pb.Sag
set_option linter.unusedVariables false
set_option linter.unusedSimpArgs false

open Go.Proofs Go.Pb.Bung
theorem bungs_of {n : Nat} (hn : n ≤ 30) : ∀ {gs : List (List Int)} {first : Int} {seen : List Int}, areB n first seen gs = true → Bungs n gs
  | [], _, _, _ => fun g hg => by cases hg
  | g :: gs, first, seen, h => by
    rw [areB] at h
    cases hx : g[0]? with
    | none => rw [hx] at h; cases h
    | some x =>
      rw [hx] at h
      dsimp only at h
      rw [Bool.and_eq_true, Bool.and_eq_true, Bool.and_eq_true] at h
      obtain ⟨h1, -, -, h4⟩ := h
      have ih := bungs_of hn h4
      obtain ⟨i1, i2⟩ := idx_iff.1 h1
      have hr : ∀ z ∈ g, 0 ≤ z ∧ z < (n : Int) := fun z hz => by have := i2 z hz; omega
      have hd : g.Pairwise (· ≠ ·) := i1.imp fun hlt => by omega
      intro q hq
      rcases List.mem_cons.1 hq with rfl | hq
      · exact ⟨hr, hd, Nat.le_trans (nodup_len hd hr).1 hn, fun e => by rw [e] at hx; cases hx⟩
      · exact ih q hq
def ckPt (lo hi : Int) (l : List Sg) (cr le : Int) (gs : List (List Int)) : Int := if ckYd lo hi l cr le ≠ 0 then ckYd lo hi l cr le else if areB l.length (-1) [] gs = true then (if allB lo hi l cr le gs = true then 0 else 3) else 37

set_option maxRecDepth 100000 in
set_option maxHeartbeats 1000000 in
theorem ckPt_any {w : World} {v gv : Value} {l : List Sg} {gs : List (List Int)} {lo hi cr le r : Int} (h : RowsAt 8 w v (l.map rowG)) (hg : ListsAt gv gs w) (hgl : gs.length ≤ 9223372036854775807) (hr : ckPt lo hi l cr le gs = r) :
    Calls Try.prog 62 #[.agg #[.int .i64 lo, .int .i64 hi], v, .agg #[.int .i64 cr, .int .i64 le], gv] w (Ret w (.int .i64 r)) := by
  unfold Ret
  obtain ⟨a, cap, rfl, hll⟩ := h.shape
  rw [List.length_map] at h hll ⊢
  obtain ⟨n, hn⟩ : ∃ n, l.length = n := ⟨_, rfl⟩
  have HN : Hid (l.length = n) := hn
  obtain ⟨ga, gcap, hgv, hgs⟩ := id hg
  obtain ⟨q, hq⟩ : ∃ q, gs.length = q := ⟨_, rfl⟩
  have HQ : Hid (gs.length = q) := hq
  rw [hq] at hgl hgv
  subst hgv
  obtain ⟨c, hc⟩ : ∃ c, ckYd lo hi l cr le = c := ⟨_, rfl⟩
  obtain ⟨ab, hab⟩ : ∃ b, areB l.length (-1) [] gs = b := ⟨_, rfl⟩
  obtain ⟨d, hd⟩ : ∃ d, allB lo hi l cr le gs = d := ⟨_, rfl⟩
  have hr2 : r = if c ≠ 0 then c else if ab = true then (if d = true then 0 else 3) else 37 := by rw [← hr]; unfold ckPt; rw [hc, hab, hd]
  clear hr
  have HC : Hid (ckYd lo hi l cr le = c) := hc
  by_cases hc0 : c = 0
  · subst hc0
    rw [if_neg (by simp)] at hr2
    obtain ⟨h1, h2, hk⟩ := yard_ok hc
    have hl30 := (listOk_iff.1 hk).1
    clear hc
    have HAB : Hid (areB l.length (-1) [] gs = ab) := hab
    rw [hn] at h hll hl30 hab HAB ⊢
    clear hn
    cases ab
    · obtain rfl : r = 37 := hr2
      clear hab hd
      go_enter Try.func62, Try.ntmps62
      go_wp2_with fail
      refine (ckYd_any (h.below (by go_grown)) HC.out).mono ?_
      rintro e w1 ⟨rfl, hb⟩
      replace hb0 := bnext (w := w) (by go_grown) hb; have hz := hb.size; (try simp only [World.size_alloc, World.size_setCell] at hz); replace q0 : w1.cell? ⟨w.heap.size, 0, none⟩ = some (.int .i64 lo) := bkeep hb (by first | (with_reducible exact q0) | (with_reducible exact akeep q0) | simp [*, go_sem]); replace q1 : w1.cell? ⟨w.heap.size, 1, none⟩ = some (.int .i64 hi) := bkeep hb (by first | (with_reducible exact q1) | (with_reducible exact akeep q1) | simp [*, go_sem]); replace q2 : w1.cell? ⟨w.heap.size + 1, 0, none⟩ = some (.int .i64 cr) := bkeep hb (by first | (with_reducible exact q2) | (with_reducible exact akeep q2) | simp [*, go_sem]); replace q3 : w1.cell? ⟨w.heap.size + 1, 1, none⟩ = some (.int .i64 le) := bkeep hb (by first | (with_reducible exact q3) | (with_reducible exact akeep q3) | simp [*, go_sem]); skip
      clear hb
      go_wp2_with fail
      refine (are_any (by omega) (hg.below (by go_grown)) (by rw [HQ.out]; exact hgl) HAB.out).mono ?_
      rintro e w1 ⟨rfl, hb⟩
      replace hb0 := bnext (w := w) (by go_grown) hb; have hz := hb.size; (try simp only [World.size_alloc, World.size_setCell] at hz); replace q0 : w1.cell? ⟨w.heap.size, 0, none⟩ = some (.int .i64 lo) := bkeep hb (by first | (with_reducible exact q0) | (with_reducible exact akeep q0) | simp [*, go_sem]); replace q1 : w1.cell? ⟨w.heap.size, 1, none⟩ = some (.int .i64 hi) := bkeep hb (by first | (with_reducible exact q1) | (with_reducible exact akeep q1) | simp [*, go_sem]); replace q2 : w1.cell? ⟨w.heap.size + 1, 0, none⟩ = some (.int .i64 cr) := bkeep hb (by first | (with_reducible exact q2) | (with_reducible exact akeep q2) | simp [*, go_sem]); replace q3 : w1.cell? ⟨w.heap.size + 1, 1, none⟩ = some (.int .i64 le) := bkeep hb (by first | (with_reducible exact q3) | (with_reducible exact akeep q3) | simp [*, go_sem]); skip
      clear hb
      go_wp2_with fail
      go_ret
      exact ⟨rfl, by first | exact hb0 | go_grown⟩
    · rw [if_pos rfl] at hr2
      have HGB : Hid (Bungs n gs) := bungs_of hl30 hab
      have HGS := hid hgs; have HK : Hid (listOk l = true) := hk; have HL1 := hid h1; have HL2 := hid h2; have HD : Hid (allB lo hi l cr le gs = d) := hd
      clear hgs hk h1 h2 hd hab
      go_enter Try.func62, Try.ntmps62
      go_wp2_with fail
      refine (ckYd_any (h.below (by go_grown)) HC.out).mono ?_
      rintro e w1 ⟨rfl, hb⟩
      replace hb0 := bnext (w := w) (by go_grown) hb; have hz := hb.size; (try simp only [World.size_alloc, World.size_setCell] at hz); replace q0 : w1.cell? ⟨w.heap.size, 0, none⟩ = some (.int .i64 lo) := bkeep hb (by first | (with_reducible exact q0) | (with_reducible exact akeep q0) | simp [*, go_sem]); replace q1 : w1.cell? ⟨w.heap.size, 1, none⟩ = some (.int .i64 hi) := bkeep hb (by first | (with_reducible exact q1) | (with_reducible exact akeep q1) | simp [*, go_sem]); replace q2 : w1.cell? ⟨w.heap.size + 1, 0, none⟩ = some (.int .i64 cr) := bkeep hb (by first | (with_reducible exact q2) | (with_reducible exact akeep q2) | simp [*, go_sem]); replace q3 : w1.cell? ⟨w.heap.size + 1, 1, none⟩ = some (.int .i64 le) := bkeep hb (by first | (with_reducible exact q3) | (with_reducible exact akeep q3) | simp [*, go_sem]); skip
      clear hb
      go_wp2_with fail
      refine (are_any (by omega) (hg.below (by go_grown)) (by rw [HQ.out]; exact hgl) HAB.out).mono ?_
      rintro e w1 ⟨rfl, hb⟩
      replace hb0 := bnext (w := w) (by go_grown) hb; have hz := hb.size; (try simp only [World.size_alloc, World.size_setCell] at hz); replace q0 : w1.cell? ⟨w.heap.size, 0, none⟩ = some (.int .i64 lo) := bkeep hb (by first | (with_reducible exact q0) | (with_reducible exact akeep q0) | simp [*, go_sem]); replace q1 : w1.cell? ⟨w.heap.size, 1, none⟩ = some (.int .i64 hi) := bkeep hb (by first | (with_reducible exact q1) | (with_reducible exact akeep q1) | simp [*, go_sem]); replace q2 : w1.cell? ⟨w.heap.size + 1, 0, none⟩ = some (.int .i64 cr) := bkeep hb (by first | (with_reducible exact q2) | (with_reducible exact akeep q2) | simp [*, go_sem]); replace q3 : w1.cell? ⟨w.heap.size + 1, 1, none⟩ = some (.int .i64 le) := bkeep hb (by first | (with_reducible exact q3) | (with_reducible exact akeep q3) | simp [*, go_sem]); skip
      clear hb
      obtain ⟨v2, hv2⟩ : ∃ v, v = w1 := ⟨_, rfl⟩
      subst hv2
      go_upto_region 7 with fail
      generalize hW : World.alloc v2 _ = v3
      have y0 : CellsAt v3 v2.heap.size [.int .i64 lo, .int .i64 hi, .slice a n cap, .int .i64 cr, .int .i64 le] := by rw [← hW]; exact CellsAt.new v2 _ 143
      have hb : Below v2.heap.size v2 v3 := by rw [← hW]; exact (Below.refl _ _).alloc (Nat.le_refl _) _
      have hz3 : v2.heap.size < v3.heap.size := by rw [← hW]; simp
      have hB := bnext (w := w) hb0 hb
      clear hW hb hb0 q0 q1 q2 q3
      go_wp2_with fail
      go_loopg [31] q (fun gk iv wr => ∃ k : Nat, k ≤ q ∧ gk = q - k ∧ iv = .int .i64 k ∧ Hid (∀ (j : Nat) (g : List Int), j < k → gs[j]? = some g → doesB lo hi l cr le g = true) ∧ CellsAt wr v2.heap.size [.int .i64 lo, .int .i64 hi, .slice a n cap, .int .i64 cr, .int .i64 le] ∧ Below w.heap.size w wr)
      case atStart => exact ⟨0, Nat.zero_le _, rfl, rfl, hid (fun j g h => by omega), y0, hB⟩
      case round =>
        clear y0 hB
        obtain ⟨k, hk, hgk, rfl, HA, y0, hB⟩ := hrel
        have HGK := hid hgk; clear hgk
        have q0 := (y0 0 _ rfl).1; have q1 := (y0 1 _ rfl).1; have q2 := (y0 2 _ rfl).1; have q3 := (y0 3 _ rfl).1; have q4 := (y0 4 _ rfl).1
        by_cases hlt : k < q
        · have hki : (k : Int) < (q : Int) := by omega
          obtain ⟨g, hg2⟩ : ∃ g, gs[k]? = some g := ⟨_, List.getElem?_eq_getElem (by rw [HQ.out]; exact hlt)⟩
          obtain ⟨a', e1, u, r0, hu⟩ := HGS.out k g hg2
          subst e1
          obtain ⟨g1, g2, g3, g4⟩ := HGB.out g (List.mem_of_getElem? hg2)
          obtain ⟨b, hb9⟩ : ∃ b, doesB lo hi l cr le g = b := ⟨_, rfl⟩
          replace r0 := bkeep hB r0
          replace hu := hu.below hB
          obtain ⟨m, hm⟩ : ∃ m, g.length = m := ⟨_, rfl⟩
          obtain ⟨ua, uc, rfl⟩ := nums_shape hu hm
          have HG : Hid (gs[k]? = some g) := hg2; have HG1 : Hid (∀ z ∈ g, 0 ≤ z ∧ z < (n : Int)) := g1; have HG2 : Hid (g.Pairwise (· ≠ ·)) := g2; have HG3 : Hid (g.length ≤ 30) := g3; have HB9 : Hid (doesB lo hi l cr le g = b) := hb9
          clear hg2 g1 g2 g3 g4 hb9 hm
          go_wp2_with fail
          refine (does_any (l := l) (g := g) (h.below hB) HK.out HL1.out HL2.out hu (by rw [HN.out]; exact HG1.out) HG2.out HG3.out).mono ?_
          rw [HB9.out]
          rintro e w6 ⟨rfl, hb⟩
          replace y0 := y0.below hb
          replace hB := bnext (w := w) hB hb
          clear hb r0 hu q0 q1 q2 q3 q4
          cases b
          · obtain rfl : d = false := HD.out.symm.trans (allB_no (List.mem_of_getElem? HG.out) HB9.out)
            obtain rfl : r = 3 := hr2
            go_wp2_with fail
            go_ret
            exact ⟨rfl, hB⟩
          · go_wp2_with fail
            go_roundg (q - (k + 1))
            case measure => have h := HGK.out; omega
            case rel => exact ⟨k + 1, by omega, rfl, by go_num, hid (fun j g2 hj hg2 => by rcases Nat.lt_or_ge j k with h3 | h3; exact HA.out j g2 h3 hg2; (have e : j = k := by omega); subst e; rw [HG.out] at hg2; injection hg2 with hg2; subst hg2; exact HB9.out), y0, hB⟩
        · obtain rfl : k = q := by omega
          have hkk : ¬ (k : Int) < (k : Int) := by omega
          obtain rfl : d = true := HD.out.symm.trans (allB_yes fun j g hj => HA.out j g (by have := (List.getElem?_eq_some_iff.1 hj).1; rw [HQ.out] at this; exact this) hj)
          obtain rfl : r = 0 := hr2
          go_wp2_with fail
          go_ret
          exact ⟨rfl, hB⟩
  · rw [if_pos hc0] at hr2
    subst hr2
    have hcn : (r != 0) = true := by simpa using hc0
    clear hc hab hd
    rw [hn] at h hll ⊢
    clear hn
    go_enter Try.func62, Try.ntmps62
    go_wp2_with fail
    refine (ckYd_any (h.below (by go_grown)) HC.out).mono ?_
    rintro e w1 ⟨rfl, hb⟩
    replace hb0 := bnext (w := w) (by go_grown) hb; have hz := hb.size; (try simp only [World.size_alloc, World.size_setCell] at hz); replace q0 : w1.cell? ⟨w.heap.size, 0, none⟩ = some (.int .i64 lo) := bkeep hb (by first | (with_reducible exact q0) | (with_reducible exact akeep q0) | simp [*, go_sem]); replace q1 : w1.cell? ⟨w.heap.size, 1, none⟩ = some (.int .i64 hi) := bkeep hb (by first | (with_reducible exact q1) | (with_reducible exact akeep q1) | simp [*, go_sem]); replace q2 : w1.cell? ⟨w.heap.size + 1, 0, none⟩ = some (.int .i64 cr) := bkeep hb (by first | (with_reducible exact q2) | (with_reducible exact akeep q2) | simp [*, go_sem]); replace q3 : w1.cell? ⟨w.heap.size + 1, 1, none⟩ = some (.int .i64 le) := bkeep hb (by first | (with_reducible exact q3) | (with_reducible exact akeep q3) | simp [*, go_sem]); skip
    clear hb
    go_wp2_with fail
    go_ret
    exact ⟨rfl, by first | exact hb0 | go_grown⟩

end Go.Proofs.Ytnchhleokdkejaa

/- Bungs that stand, by plain maths: without a saggar, with narrower ranges, by the setter's rule. -/
namespace Go.Pb.Bung
open Go Go.Pb Go.Pb.Ware Go.RowKit
set_option linter.unusedVariables false
set_option linter.unusedSimpArgs false
def sumW (l : List Sg) : Int := (l.map (·.wh)).sum
/-- Each bears what stands on it. -/
def StandsP : List Sg → Prop
  | [] => True
  | s :: l => sumW l ≤ s.bl ∧ StandsP l
theorem standsP_iff : ∀ {l : List Sg}, StandsP l ↔ ∀ i s, l[i]? = some s → loadH l i ≤ s.bl
  | [] => ⟨fun _ i s h => by simp at h, fun _ => trivial⟩
  | s :: l => by
    rw [StandsP, standsP_iff (l := l)]
    constructor
    · rintro ⟨h1, h2⟩ i t ht
      cases i with
      | zero => (obtain rfl : s = t := by simpa using ht); exact h1
      | succ i => exact h2 i t (by simpa using ht)
    · intro h
      exact ⟨h 0 s rfl, fun i t ht => h (i + 1) t (by simpa using ht)⟩
theorem getD_is {l : List Sg} {i : Nat} {s : Sg} (h : l[i]? = some s) : l.getD i default = s := by rw [List.getD_eq_getElem?_getD, h]; rfl
theorem ansL_one {l : List Sg} {i : Nat} {s : Sg} (h : l[i]? = some s) : ansL l i = 1 ↔ loadH l i ≤ s.bl := by
  unfold ansL ansS
  rw [getD_is h]
  split
  · rename_i h1; exact ⟨fun _ => h1, fun _ => rfl⟩
  · rename_i h1
    split
    · exact ⟨fun e => (by cases e), fun e => absurd e h1⟩
    · exact ⟨fun e => (by cases e), fun e => absurd e h1⟩
theorem stA_one {l : List Sg} : stA l = 1 ↔ StandsP l := by
  rw [standsP_iff]
  constructor
  · intro h i s hs
    rw [← ansL_one hs]
    have hi : i < l.length := (List.getElem?_eq_some_iff.1 hs).1
    unfold stA at h
    split at h
    · cases h
    · rename_i h1
      split at h
      · cases h
      · rename_i h2
        rcases ansS_three (l.getD i default) (loadL l i) (loadH l i) with e | e | e
        · exact absurd (List.any_eq_true.2 ⟨i, List.mem_range.2 hi, decide_eq_true e⟩) h1
        · exact e
        · exact absurd (List.any_eq_true.2 ⟨i, List.mem_range.2 hi, decide_eq_true e⟩) h2
  · intro h
    have key : ∀ i, i < l.length → ansL l i = 1 := fun i hi => (ansL_one (List.getElem?_eq_getElem hi)).2 (h i _ (List.getElem?_eq_getElem hi))
    unfold stA
    rw [if_neg (by
      intro hx
      obtain ⟨i, hi, e⟩ := List.any_eq_true.1 hx
      have h1 := key i (List.mem_range.1 hi)
      have e2 := of_decide_eq_true e
      omega), if_neg (by
      intro hx
      obtain ⟨i, hi, e⟩ := List.any_eq_true.1 hx
      have h1 := key i (List.mem_range.1 hi)
      have e2 := of_decide_eq_true e
      omega)]
theorem stA_three (l : List Sg) : stA l = 0 ∨ stA l = 1 ∨ stA l = 2 := by
  unfold stA; split
  · exact .inl rfl
  · split
    · exact .inr (.inr rfl)
    · exact .inr (.inl rfl)
def Wt (l : List Sg) : Prop := ∀ s ∈ l, 0 ≤ s.wh
theorem Wt.tail {s : Sg} {l : List Sg} (h : Wt (s :: l)) : Wt l := fun x hx => h x (List.mem_cons_of_mem _ hx)
/-! Narrower ranges. -/
/-- The ranges of t lie within those of s. -/
def Nar (s t : Sg) : Prop := s.wl ≤ t.wl ∧ t.wh ≤ s.wh ∧ s.bl ≤ t.bl ∧ t.bh ≤ s.bh ∧ s.hl ≤ t.hl ∧ t.hh ≤ s.hh ∧ t.ti = s.ti
theorem Nar.refl (s : Sg) : Nar s s := by unfold Nar; omega
def NarL : List Sg → List Sg → Prop
  | [], [] => True
  | s :: l, t :: m => Nar s t ∧ NarL l m
  | _, _ => False
theorem NarL.refl : ∀ l, NarL l l
  | [] => trivial
  | s :: l => ⟨Nar.refl s, NarL.refl l⟩
theorem NarL.len : ∀ {l m : List Sg}, NarL l m → m.length = l.length
  | [], [], _ => rfl
  | s :: l, t :: m, h => by rw [List.length_cons, List.length_cons, NarL.len h.2]
  | [], _ :: _, h => h.elim
  | _ :: _, [], h => h.elim
theorem NarL.drop : ∀ {l m : List Sg} (k : Nat), NarL l m → NarL (l.drop k) (m.drop k)
  | [], [], k, _ => by simp [NarL]
  | s :: l, t :: m, 0, h => h
  | s :: l, t :: m, k + 1, h => NarL.drop k h.2
  | [], _ :: _, _, h => h.elim
  | _ :: _, [], _, h => h.elim
theorem ruledL_map (l : List Sg) : ruledL l = (ruleN l).map (atG l) := by
  unfold ruledL chosenG ruleL
  rw [List.map_map]
  rfl
theorem range_atG (l : List Sg) : (List.range l.length).map (atG l) = l := by
  apply List.ext_getElem
  · simp
  · intro i h1 h2
    rw [List.getElem_map, List.getElem_range]
    unfold atG
    rw [List.getD_eq_getElem?_getD, List.getElem?_eq_getElem h2]
    rfl
theorem ruledL_perm (l : List Sg) : (ruledL l).Perm l := by
  have h := (ruleN_perm l).map (atG l)
  rw [range_atG] at h
  rw [ruledL_map]; exact h
/-! Saggars that numbers make. -/
def madeG (i : Nat) (r : List Int) : Sg := ⟨1 + i + 40 * (r.getD 6 0 % 20), r.getD 0 0 % 200, r.getD 0 0 % 200 + r.getD 1 0 % 40, r.getD 2 0 % 900, r.getD 2 0 % 900 + r.getD 3 0 % 60, 20 + r.getD 4 0 % 300, 20 + r.getD 4 0 % 300 + r.getD 5 0 % 12, r.getD 6 0 % 25⟩
def madeL (rows : List (List Int)) (k : Nat) : List Sg := (List.range k).map fun i => madeG i (rows.getD i [])
theorem madeL_len (rows : List (List Int)) (k : Nat) : (madeL rows k).length = k := by unfold madeL; simp
theorem madeL_snoc {rows : List (List Int)} {k : Nat} {r : List Int} (h : rows[k]? = some r) : madeL rows (k + 1) = madeL rows k ++ [madeG k r] := by
  unfold madeL
  rw [List.range_succ, List.map_append, List.map_cons, List.map_nil, List.getD_eq_getElem?_getD, h]
  rfl
theorem madeG_ok {i : Nat} (hi : i < 12) (r : List Int) : sgOk (madeG i r) = true := by
  unfold sgOk madeG
  simp only [Bool.and_eq_true, btw_iff, rgOk_iff]
  omega
theorem madeL_ok {rows : List (List Int)} {k : Nat} (hk : k ≤ 12) : listOk (madeL rows k) = true := by
  rw [listOk_iff]
  refine ⟨by rw [madeL_len]; omega, fun s hs => ?_, ?_⟩
  · unfold madeL at hs
    obtain ⟨i, hi, rfl⟩ := List.mem_map.1 hs
    exact madeG_ok (by have := List.mem_range.1 hi; omega) _
  · unfold IdsN madeL
    rw [List.map_map, List.pairwise_map]
    refine List.Pairwise.imp_of_mem (R := (· < ·)) (fun {a b} ha hb hab => ?_) List.pairwise_lt_range
    have h1 := List.mem_range.1 ha
    have h2 := List.mem_range.1 hb
    simp only [Function.comp, madeG]
    omega
end Go.Pb.Bung

/- Valid lists of saggars that others make: exchanged, without one, with one narrower; chosen weights. -/
namespace Go.Pb.Bung
open Go Go.Pb Go.Pb.Ware Go.RowKit
set_option linter.unusedVariables false
set_option linter.unusedSimpArgs false
theorem listOk_sub {l m : List Sg} (hp : m.Sublist l) (h : listOk l = true) : listOk m = true := by
  rw [listOk_iff] at h ⊢
  refine ⟨Nat.le_trans hp.length_le h.1, fun s hs => h.2.1 s (hp.subset hs), ?_⟩
  have h3 := h.2.2
  unfold IdsN at h3 ⊢
  exact h3.sublist (hp.map _)
/-- What a valid saggar's numbers are. -/
theorem sg_facts {s : Sg} (h : sgOk s = true) : ((0 ≤ s.wl ∧ s.wl ≤ s.wh) ∧ s.wh ≤ 10000000) ∧ ((0 ≤ s.bl ∧ s.bl ≤ s.bh) ∧ s.bh ≤ 10000000) ∧ ((1 ≤ s.hl ∧ s.hl ≤ s.hh) ∧ s.hh ≤ 10000) ∧ (0 ≤ s.ti ∧ s.ti ≤ 200) ∧ 1 ≤ s.id ∧ s.id ≤ 999 := by
  unfold sgOk at h
  simp only [Bool.and_eq_true, btw_iff, rgOk_iff] at h
  omega
theorem listOk_wt {l : List Sg} (h : listOk l = true) : Wt l := fun s hs => by
  have := sg_facts ((listOk_iff.1 h).2.1 s hs)
  omega
/-! Weights that numbers choose. -/
/-- Of the saggars above a course the k lower ones weigh ws. -/
def ChoseW (l : List Sg) (ws : List Int) : Prop := ws.length ≤ l.length ∧ ∀ (j : Nat) (z : Int) (s : Sg), ws[j]? = some z → l[j]? = some s → s.wl ≤ z ∧ z ≤ s.wh
theorem ChoseW.nil (l : List Sg) : ChoseW l [] := ⟨Nat.zero_le _, fun j z s h => by simp at h⟩
theorem ChoseW.snoc {l : List Sg} {ws : List Int} {z : Int} {s : Sg} (h : ChoseW l ws) (hs : l[ws.length]? = some s) (h1 : s.wl ≤ z) (h2 : z ≤ s.wh) : ChoseW l (ws ++ [z]) := by
  refine ⟨by have := (List.getElem?_eq_some_iff.1 hs).1; simp; omega, fun j y t hy ht => ?_⟩
  rcases Nat.lt_or_ge j ws.length with hj | hj
  · rw [List.getElem?_append_left hj] at hy; exact h.2 j y t hy ht
  · rw [List.getElem?_append_right hj] at hy
    obtain rfl : j = ws.length := by
      rcases Nat.lt_or_ge ws.length j with h3 | h3
      · rw [List.getElem?_eq_none (by simp; omega)] at hy; cases hy
      · omega
    simp at hy
    subst hy
    rw [hs] at ht
    obtain rfl := Option.some.inj ht
    exact ⟨h1, h2⟩
end Go.Pb.Bung

/- The fewest bungs, by plain maths. -/
namespace Go.Proofs.Ytnchhleokdkejaa
open Go.RowKit Go.Pb Go.Pb.Ware Go.Pb.Sag
set_option linter.unusedVariables false
set_option linter.unusedSimpArgs false

open Go.Proofs Go.Pb.Bung
/-- What is still to be accepted, behind a head and what has been seen. -/
structure RestA (n : Nat) (first : Int) (seen : List Int) (gs : List (List Int)) : Prop where
  each : ∀ (k : Nat) g, gs[k]? = some g → (∃ x, g[0]? = some x ∧ first < x) ∧ g.Pairwise (· < ·) ∧ (∀ z ∈ g, 0 ≤ z ∧ z < (n : Int)) ∧ ∀ z ∈ g, z ∉ seen
  heads : ∀ (j k : Nat) g h x y, j < k → gs[j]? = some g → gs[k]? = some h → g[0]? = some x → h[0]? = some y → x < y
  apart : ∀ (j k : Nat) g h z, j < k → gs[j]? = some g → gs[k]? = some h → z ∈ g → z ∉ h
  len : (seen ++ gs.flatten).length = n
theorem restA_nil {n : Nat} {first : Int} {seen : List Int} : RestA n first seen [] ↔ seen.length = n := by
  constructor
  · intro h; have := h.len; simpa using this
  · intro h; exact ⟨fun k g h => (by simp at h), fun j k g h x y _ h1 => (by simp at h1), fun j k g h z _ h1 => (by simp at h1), by simpa using h⟩
theorem restA_cons {n : Nat} {first x : Int} {seen g : List Int} {gs : List (List Int)} (hx : g[0]? = some x) :
    RestA n first seen (g :: gs) ↔ (g.Pairwise (· < ·) ∧ ∀ z ∈ g, -1 < z ∧ z < (n : Int)) ∧ first < x ∧ (∀ z ∈ g, z ∉ seen) ∧ RestA n x (seen ++ g) gs := by
  constructor
  · intro h
    obtain ⟨⟨x', hx', h1⟩, h2, h3, h5⟩ := h.each 0 g rfl
    rw [hx] at hx'; injection hx' with hx'; subst hx'
    refine ⟨⟨h2, fun z hz => by have := h3 z hz; omega⟩, h1, h5, fun k f hf => ?_, fun j k f f' y y' hjk hf hf' => h.heads (j + 1) (k + 1) f f' y y' (by omega) (by simpa using hf) (by simpa using hf'), fun j k f f' z hjk hf hf' => h.apart (j + 1) (k + 1) f f' z (by omega) (by simpa using hf) (by simpa using hf'), by have := h.len; simpa [List.append_assoc] using this⟩
    obtain ⟨⟨y, hy, _⟩, k2, k3, k5⟩ := h.each (k + 1) f (by simpa using hf)
    refine ⟨⟨y, hy, h.heads 0 (k + 1) g f x y (by omega) rfl (by simpa using hf) hx hy⟩, k2, k3, fun z hz hm => ?_⟩
    rcases List.mem_append.1 hm with e | e
    · exact k5 z hz e
    · exact h.apart 0 (k + 1) g f z (by omega) rfl (by simpa using hf) e hz
  · rintro ⟨⟨h1, h2⟩, h3, h4, h⟩
    refine ⟨fun k f hf => ?_, fun j k f f' y y' hjk hf hf' hy hy' => ?_, fun j k f f' z hjk hf hf' hz hz' => ?_, by have := h.len; simpa [List.append_assoc] using this⟩
    · match k, hf with
      | 0, hf =>
        simp at hf; subst hf
        exact ⟨⟨x, hx, h3⟩, h1, fun z hz => by have := h2 z hz; omega, h4⟩
      | k + 1, hf =>
        obtain ⟨⟨y, hy, k1⟩, k2, k3, k5⟩ := h.each k f (by simpa using hf)
        exact ⟨⟨y, hy, by omega⟩, k2, k3, fun z hz hm => k5 z hz (List.mem_append_left _ hm)⟩
    · match j, k, hjk, hf, hf' with
      | 0, k + 1, _, hf, hf' =>
        simp at hf; subst hf
        obtain ⟨⟨w, hw, k1⟩, _⟩ := h.each k f' (by simpa using hf')
        rw [hx] at hy; injection hy with hy
        rw [hw] at hy'; injection hy' with hy'
        omega
      | j + 1, k + 1, hjk, hf, hf' => exact h.heads j k f f' y y' (by omega) (by simpa using hf) (by simpa using hf') hy hy'
    · match j, k, hjk, hf, hf' with
      | 0, k + 1, _, hf, hf' =>
        simp at hf; subst hf
        exact (h.each k f' (by simpa using hf')).2.2.2 z hz' (List.mem_append_right _ hz)
      | j + 1, k + 1, hjk, hf, hf' => exact h.apart j k f f' z (by omega) (by simpa using hf) (by simpa using hf') hz hz'
theorem are_iff {n : Nat} : ∀ {gs : List (List Int)} {first : Int} {seen : List Int}, areB n first seen gs = true ↔ RestA n first seen gs
  | [], first, seen => by rw [areB, decide_eq_true_eq, restA_nil]
  | g :: gs, first, seen => by
    rw [areB]
    cases hx : g[0]? with
    | none =>
      constructor
      · intro h; cases h
      · intro h; obtain ⟨⟨x, hx', _⟩, _⟩ := h.each 0 g rfl; rw [hx] at hx'; cases hx'
    | some x =>
      dsimp only
      rw [restA_cons hx, Bool.and_eq_true, Bool.and_eq_true, Bool.and_eq_true, idx_iff, decide_eq_true_eq, are_iff (gs := gs), List.all_eq_true]
      simp
/-- The loop accepts just what the groups of all items are. -/
theorem are_acc {n : Nat} {gs : List (List Int)} : areB n (-1) [] gs = true ↔ Acc n gs := by
  rw [are_iff]
  have mem : ∀ {z : Int}, z ∈ gs.flatten ↔ ∃ (k : Nat) (g : List Int), gs[k]? = some g ∧ z ∈ g := by
    intro z
    constructor
    · intro h
      obtain ⟨f, hf, hb⟩ := List.mem_flatten.1 h
      obtain ⟨k, hk⟩ := List.getElem?_of_mem hf
      exact ⟨k, f, hk, hb⟩
    · rintro ⟨k, g, hg, hz⟩
      exact List.mem_flatten.2 ⟨g, List.mem_of_getElem? hg, hz⟩
  constructor
  · intro h
    have hn := flat_nodup (fun k g hg => (h.each k g hg).2.1) h.apart
    have hr : ∀ z ∈ gs.flatten, 0 ≤ z ∧ z < (n : Int) := fun z hz => by
      obtain ⟨k, g, hg, hm⟩ := mem.1 hz
      exact (h.each k g hg).2.2.1 z hm
    refine ⟨fun k g hg => ?_, fun k g hg => (h.each k g hg).2.1, fun k g hg => (h.each k g hg).2.2.1, h.heads, fun i hi => mem.1 ((nodup_len hn hr).2 (by have := h.len; simpa using this) i hi), fun j k g g' z hg hg' hz hz' => ?_⟩
    · obtain ⟨x, hx, _⟩ := (h.each k g hg).1; exact ⟨x, hx⟩
    · rcases Nat.lt_trichotomy j k with e | e | e
      · exact absurd hz' (h.apart j k g g' z e hg hg' hz)
      · exact e
      · exact absurd hz (h.apart k j g' g z e hg' hg hz')
  · intro h
    have hap : ∀ (j k : Nat) g g' z, j < k → gs[j]? = some g → gs[k]? = some g' → z ∈ g → z ∉ g' := fun j k g g' z e hg hg' hz hz' => by have := h.once j k g g' z hg hg' hz hz'; omega
    have hn := flat_nodup h.inc hap
    refine ⟨fun k g hg => ?_, h.heads, hap, ?_⟩
    · obtain ⟨x, hx⟩ := h.one k g hg
      have hx0 := (h.lo k g hg x (head_mem hx)).1
      exact ⟨⟨x, hx, by omega⟩, h.inc k g hg, h.lo k g hg, fun z _ hm => by cases hm⟩
    · rw [List.nil_append]
      exact nodup_all hn (fun z hz => by obtain ⟨k, g, hg, hm⟩ := mem.1 hz; exact h.lo k g hg z hm) (fun i hi => mem.2 (h.cover i hi))

theorem below_sub (i : Nat) (g : List Int) : (below i g).Sublist g := List.filter_sublist
theorem put_someG {does : List Int → Bool} {n : Nat} {gs : List (List Int)} (ha : Acc n gs) (hf : ∀ g ∈ gs, ∀ i, below i g ≠ [] → does (below i g) = true) : ∀ (d i : Nat) (P : List (List Int)), i + d = n → Part i gs P → putG does gs.length d i P ≠ none
  | 0, i, P, _, _ => by rw [putG]; exact fun h => by cases h
  | d + 1, i, P, hid, hp => by
    obtain ⟨k, g, hg, hi⟩ := ha.cover i (by omega)
    obtain ⟨x, hx⟩ := ha.one k g hg
    have hxi := head_le (ha.inc k g hg) hx hi
    have hgm : g ∈ gs := List.mem_of_getElem? hg
    rw [putG_succ]
    by_cases hlt : x < (i : Int)
    · obtain ⟨e, hp2⟩ := part_set ha hp hg hi hx hlt
      have hk : k < P.length := (hp.head k g x hg hx).2 hlt
      have ht : tryG does gs.length d i P k ≠ none := by
        unfold tryG
        rw [if_pos (by rw [e]; exact hf g hgm _ (by rw [← e]; simp))]
        exact put_someG ha hf d (i + 1) _ (by omega) hp2
      cases hfs : (List.range P.length).findSome? (tryG does gs.length d i P) with
      | some r => exact fun h => by cases h
      | none => exact absurd (List.findSome?_eq_none_iff.1 hfs k (List.mem_range.2 hk)) ht
    · obtain rfl : x = (i : Int) := by omega
      obtain ⟨hk, e, hp2⟩ := part_snoc ha hp hg hx
      cases hfs : (List.range P.length).findSome? (tryG does gs.length d i P) with
      | some r => exact fun h => by cases h
      | none =>
        have hkl := (List.getElem?_eq_some_iff.1 hg).1
        dsimp only
        rw [if_neg (by omega), tryG_last, if_pos (by rw [e]; exact hf g hgm _ (by rw [← e]; simp))]
        exact put_someG ha hf d (i + 1) _ (by omega) hp2
theorem put_accG {does : List Int → Bool} {n most : Nat} : ∀ (d i : Nat) (P r : List (List Int)), i + d = n → Acc i P → (∀ g ∈ P, does g = true) → P.length ≤ most → putG does most d i P = some r → (Acc n r ∧ ∀ g ∈ r, does g = true) ∧ r.length ≤ most
  | 0, i, P, r, hid, ha, hf, hm, h => by
    rw [putG] at h
    injection h with h
    subst h
    obtain rfl : i = n := by omega
    exact ⟨⟨ha, hf⟩, hm⟩
  | d + 1, i, P, r, hid, ha, hf, hm, h => by
    rw [putG_succ] at h
    cases hfs : (List.range P.length).findSome? (tryG does most d i P) with
    | some r' =>
      rw [hfs] at h
      injection h with h
      subst h
      obtain ⟨k, hk, ht⟩ := List.exists_of_findSome?_eq_some hfs
      rw [List.mem_range] at hk
      unfold tryG at ht
      have hg : P[k]? = some (P.getD k []) := by rw [List.getD_eq_getElem?_getD, List.getElem?_eq_getElem hk]; rfl
      split at ht
      · rename_i hfit
        refine put_accG d (i + 1) _ _ (by omega) (acc_set ha hg) (fun g hgm => ?_) (by rw [List.length_set]; exact hm) ht
        rcases List.mem_or_eq_of_mem_set hgm with h2 | h2
        · exact hf g h2
        · rw [h2]; exact hfit
      · cases ht
    | none =>
      rw [hfs] at h
      dsimp only at h
      split at h
      · cases h
      · rename_i hne
        rw [tryG_last] at h
        split at h
        · rename_i h1
          refine put_accG d (i + 1) _ _ (by omega) (acc_snoc ha) (fun g hgm => ?_) (by simp; omega) h
          rcases List.mem_append.1 hgm with h2 | h2
          · exact hf g h2
          · simp at h2; rw [h2]; exact h1
        · cases h
/-- What does with some things does with fewer. -/
def Down (does : List Int → Bool) (n : Nat) : Prop := ∀ g h : List Int, g.Pairwise (· < ·) → (∀ z ∈ g, 0 ≤ z ∧ z < (n : Int)) → h.Sublist g → does g = true → does h = true
theorem few_low {does : List Int → Bool} {n : Nat} {r : List (List Int)} (h : (List.range (n + 1)).findSome? (fun m => putG does m n 0 []) = some r) : ∃ a, a ≤ n ∧ putG does a n 0 [] = some r ∧ ∀ x, x < a → putG does x n 0 [] = none := by
  obtain ⟨l1, a, l2, he, hp, hno⟩ := List.findSome?_eq_some_iff.1 h
  have hla : l1.length < n + 1 := by have := congrArg List.length he; simp at this; omega
  have hal : a = l1.length := by
    have h2 : (List.range (n + 1))[l1.length]? = some a := by rw [he, List.getElem?_append_right (Nat.le_refl _)]; simp
    rw [List.getElem?_range hla] at h2
    injection h2 with h2
    exact h2.symm
  refine ⟨a, by omega, hp, fun x hx => ?_⟩
  have h2 : (List.range (n + 1))[x]? = some x := List.getElem?_range (show x < n + 1 by omega)
  rw [he, List.getElem?_append_left (show x < l1.length by omega)] at h2
  exact hno x (List.mem_of_getElem? h2)
theorem few_some {does : List Int → Bool} {n : Nat} {r : List (List Int)} (hd : Down does n) (hr : fewG does n = some r) : (Acc n r ∧ ∀ g ∈ r, does g = true) ∧ ∀ gs, Acc n gs → (∀ g ∈ gs, does g = true) → r.length ≤ gs.length := by
  unfold fewG at hr
  split at hr
  · obtain ⟨a, han, hp, hno⟩ := few_low hr
    obtain ⟨hacc, hlen⟩ := put_accG (n := n) n 0 [] r (by omega) acc_nil (fun g hg => by cases hg) (Nat.zero_le _) hp
    refine ⟨hacc, fun gs ha hf => ?_⟩
    have hs := put_someG (does := does) ha (fun g hg i _ => by
      obtain ⟨k, hk⟩ := List.getElem?_of_mem hg
      exact hd g _ (ha.inc k g hk) (ha.lo k g hk) (below_sub i g) (hf g hg)) n 0 [] (by omega) (part_nil ha)
    exact Nat.le_trans hlen (Nat.le_of_not_lt fun hlt => hs (hno _ hlt))
  · cases hr
theorem few_none {does : List Int → Bool} {n : Nat} (hd : Down does n) (hr : fewG does n = none) (gs : List (List Int)) (ha : Acc n gs) (hf : ∀ g ∈ gs, does g = true) : False := by
  unfold fewG at hr
  split at hr
  · have hs := put_someG (does := does) ha (fun g hg i _ => by
      obtain ⟨k, hk⟩ := List.getElem?_of_mem hg
      exact hd g _ (ha.inc k g hk) (ha.lo k g hk) (below_sub i g) (hf g hg)) n 0 [] (by omega) (part_nil ha)
    exact hs (List.findSome?_eq_none_iff.1 hr _ (List.mem_range.2 (by have := acc_len ha; omega)))
  · rename_i h
    refine h (List.all_eq_true.2 fun j hj => ?_)
    obtain ⟨k, g, hg, hm⟩ := ha.cover j (List.mem_range.1 hj)
    exact hd g _ (ha.inc k g hg) (ha.lo k g hg) (List.singleton_sublist.2 hm) (hf g (List.mem_of_getElem? hg))
/-! What does with some saggars does with fewer. -/
theorem sg_ids {l : List Sg} (h : IdsN l) {a b : Sg} (ha : a ∈ l) (hb : b ∈ l) (e : a.id = b.id) : a = b := by
  obtain ⟨i, hi, rfl⟩ := List.mem_iff_getElem.1 ha
  obtain ⟨j, hj, rfl⟩ := List.mem_iff_getElem.1 hb
  have h1 := ids_at h hi hj (by unfold atG; rw [List.getD_eq_getElem?_getD, List.getD_eq_getElem?_getD, List.getElem?_eq_getElem hi, List.getElem?_eq_getElem hj]; exact e)
  subst h1; rfl
def NL (a b : Sg) : Prop := Go.Pb.Bung.lowB b a = false
theorem ruledL_low (l : List Sg) : (ruledL l).Pairwise NL := by
  rw [ruledL_map, List.pairwise_map]
  exact ruleUp_sorted l l.length
theorem sg_unique {m t u : List Sg} (h : IdsN m) (ht : t.Perm m) (hu : u.Perm m) (h1 : t.Pairwise NL) (h2 : u.Pairwise NL) : t = u := by
  refine List.Perm.eq_of_pairwise (le := NL) (fun a b ha hb k1 k2 => ?_) h1 h2 (ht.trans hu.symm)
  unfold NL at k1 k2
  rw [lowB_no] at k1 k2
  exact sg_ids h (ht.mem_iff.1 ha) (hu.mem_iff.1 hb) (by omega)
theorem filter_sub : ∀ {m l : List Sg}, m.Sublist l → IdsN l → l.filter (fun s => hasL m s.id) = m
  | _, _, .slnil, _ => rfl
  | m, a :: l, .cons _ h, hi => by
    have hi2 := hi
    unfold IdsN at hi2
    rw [List.map_cons, List.pairwise_cons] at hi2
    have ha : hasL m a.id = false := by
      unfold hasL
      rw [List.any_eq_false]
      intro s hs
      rw [decide_eq_true_iff]
      intro e
      exact hi2.1 s.id (List.mem_map.2 ⟨s, h.subset hs, rfl⟩) e.symm
    rw [List.filter_cons_of_neg (by rw [ha]; simp)]
    exact filter_sub h hi2.2
  | _, a :: l, .cons_cons (l₁ := m) _ h, hi => by
    have hi2 := hi
    unfold IdsN at hi2
    rw [List.map_cons, List.pairwise_cons] at hi2
    have ha : hasL (a :: m) a.id = true := by unfold hasL; simp
    rw [List.filter_cons, if_pos ha]
    congr 1
    have e : l.filter (fun s => hasL (a :: m) s.id) = l.filter (fun s => hasL m s.id) := by
      refine List.filter_congr fun s hs => ?_
      unfold hasL
      rw [List.any_cons, decide_eq_false (fun e => hi2.1 s.id (List.mem_map.2 ⟨s, hs, rfl⟩) e), Bool.false_or]
    rw [e]
    exact filter_sub h hi2.2
theorem ruledL_sub {m l : List Sg} (h : m.Sublist l) (hi : IdsN l) : (ruledL m).Sublist (ruledL l) := by
  have hm : IdsN m := by unfold IdsN at *; exact hi.sublist (h.map _)
  have e : ruledL m = (ruledL l).filter (fun s => hasL m s.id) := by
    refine sg_unique hm (ruledL_perm m) ?_ (ruledL_low m) ((ruledL_low l).sublist List.filter_sublist)
    have h1 := (ruledL_perm l).filter (fun s => hasL m s.id)
    rw [filter_sub h hi] at h1
    exact h1
  rw [e]; exact List.filter_sublist
theorem sum_sub {f : Sg → Int} : ∀ {m l : List Sg}, m.Sublist l → (∀ s ∈ l, 0 ≤ f s) → (m.map f).sum ≤ (l.map f).sum
  | _, _, .slnil, _ => Int.le_refl _
  | m, a :: l, .cons _ h, hf => by
    have h1 := sum_sub h fun s hs => hf s (List.mem_cons_of_mem _ hs)
    have h2 := hf a (List.mem_cons_self ..)
    rw [List.map_cons, List.sum_cons]; omega
  | _, a :: l, .cons_cons _ h, hf => by
    have h1 := sum_sub h fun s hs => hf s (List.mem_cons_of_mem _ hs)
    rw [List.map_cons, List.map_cons, List.sum_cons, List.sum_cons]; omega
theorem standsP_sub : ∀ {m l : List Sg}, m.Sublist l → Wt l → StandsP l → StandsP m
  | _, _, .slnil, _, h => h
  | m, a :: l, .cons _ h, hw, hs => standsP_sub h hw.tail hs.2
  | _, a :: l, .cons_cons _ h, hw, hs => ⟨Int.le_trans (sum_sub h hw.tail) hs.1, standsP_sub h hw.tail hs.2⟩
def HiL (hi : Int) (l : List Sg) : Int := hgtH l hi l.length
theorem hiL_is (hi : Int) (l : List Sg) : HiL hi l = (l.map (·.hh)).sum + ((l.length - 1 : Nat) : Int) * hi := by unfold HiL hgtH; rw [List.take_length]
theorem hiL_sub {hi : Int} {m l : List Sg} (h : m.Sublist l) (hh : ∀ s ∈ l, 0 ≤ s.hh) (h0 : 0 ≤ hi) : HiL hi m ≤ HiL hi l := by
  rw [hiL_is, hiL_is]
  have h1 : (m.map (·.hh)).sum ≤ (l.map (·.hh)).sum := sum_sub h hh
  have h2 : ((m.length - 1 : Nat) : Int) ≤ ((l.length - 1 : Nat) : Int) := by have := h.length_le; omega
  have h3 := Int.mul_le_mul_of_nonneg_right h2 h0
  omega
theorem hiL_nonneg {hi : Int} {l : List Sg} (hh : ∀ s ∈ l, 0 ≤ s.hh) (h0 : 0 ≤ hi) : 0 ≤ HiL hi l := by
  have := hiL_sub (hi := hi) (List.nil_sublist l) hh h0
  rw [hiL_is hi []] at this
  simpa using this
def WoL (hi : Int) : List Sg → Int
  | [] => 0
  | s :: l => s.ti * HiL hi (s :: l) + WoL hi l
theorem off_wo {hi : Int} {l : List Sg} : ∀ k, k + 1 ≤ l.length → offL l hi (k + 1) + WoL hi (l.drop (k + 1)) = WoL hi (l.drop 1)
  | 0, _ => by rw [off_first]; simp [offL]
  | k + 1, hk => by
    have ih := off_wo (hi := hi) (l := l) k (by omega)
    have hs := List.getElem?_eq_getElem (show k + 1 < l.length by omega)
    rw [off_next hs (by omega), ← ih, List.drop_eq_getElem_cons (show k + 1 < l.length by omega), WoL]
    show _ + _ * HiL hi (l[k + 1] :: l.drop (k + 1 + 1)) + _ = _
    omega
theorem ln_wo (hi : Int) (l : List Sg) : lnA l hi = (WoL hi (l.drop 1) + 999) / 1000 := by
  unfold lnA
  cases l with
  | nil => rfl
  | cons s l =>
    have h := off_wo (hi := hi) (l := s :: l) l.length (by simp)
    rw [List.drop_of_length_le (by simp)] at h
    rw [WoL, Int.add_zero] at h
    rw [List.length_cons, h]
theorem wo_sub {hi : Int} (h0 : 0 ≤ hi) : ∀ {m l : List Sg}, m.Sublist l → (∀ s ∈ l, 0 ≤ s.hh) → (∀ s ∈ l, 0 ≤ s.ti) → WoL hi m ≤ WoL hi l
  | _, _, .slnil, _, _ => Int.le_refl _
  | m, a :: l, .cons _ h, hh, ht => by
    have h1 := wo_sub h0 h (fun x hx => hh x (List.mem_cons_of_mem _ hx)) (fun x hx => ht x (List.mem_cons_of_mem _ hx))
    have h2 := Int.mul_nonneg (ht a (List.mem_cons_self ..)) (hiL_nonneg (hi := hi) hh h0)
    rw [WoL]; omega
  | _, a :: l, .cons_cons (l₁ := m) _ h, hh, ht => by
    have h1 := wo_sub h0 h (fun x hx => hh x (List.mem_cons_of_mem _ hx)) (fun x hx => ht x (List.mem_cons_of_mem _ hx))
    have h2 := Int.mul_le_mul_of_nonneg_left (hiL_sub (hi := hi) (h.cons_cons a) hh h0) (ht a (List.mem_cons_self ..))
    rw [WoL, WoL]; omega
theorem off_sub {hi : Int} (h0 : 0 ≤ hi) {m l : List Sg} (h : m.Sublist l) (hh : ∀ s ∈ l, 0 ≤ s.hh) (ht : ∀ s ∈ l, 0 ≤ s.ti) : WoL hi (m.drop 1) ≤ WoL hi (l.drop 1) := by
  cases h with
  | slnil => exact Int.le_refl _
  | cons a h => exact wo_sub h0 ((List.drop_sublist 1 m).trans h) (fun x hx => hh x (List.mem_cons_of_mem _ hx)) (fun x hx => ht x (List.mem_cons_of_mem _ hx))
  | cons_cons a h => exact wo_sub h0 h (fun x hx => hh x (List.mem_cons_of_mem _ hx)) (fun x hx => ht x (List.mem_cons_of_mem _ hx))
theorem fit_one {lo hi : Int} {l : List Sg} {cr le : Int} : fitA lo hi l cr le = 1 ↔ hgtL l lo l.length ≤ cr ∧ HiL hi l ≤ cr ∧ lnA l hi ≤ le ∧ stA l = 1 := by
  unfold fitA HiL
  constructor
  · intro h
    split at h
    · cases h
    · rename_i h1
      split at h
      · rename_i h2
        exact ⟨by omega, h2⟩
      · cases h
  · rintro ⟨h1, h2, h3, h4⟩
    rw [if_neg (by omega), if_pos ⟨h2, h3, h4⟩]
theorem fit_sub {lo hi : Int} {m l : List Sg} {cr le : Int} (h : m.Sublist l) (hk : listOk l = true) (hlo : 0 ≤ lo) (hlh : lo ≤ hi) (hf : fitA lo hi l cr le = 1) : fitA lo hi m cr le = 1 := by
  have hh : ∀ s ∈ l, 0 ≤ s.hh := fun s hs => by have := sg_facts ((listOk_iff.1 hk).2.1 s hs); omega
  have ht := (fun s hs => by have := sg_facts ((listOk_iff.1 hk).2.1 s hs); omega : ∀ s ∈ l, 0 ≤ s.ti)
  rw [fit_one] at hf ⊢
  obtain ⟨h1, h2, h3, h4⟩ := hf
  have k2 := hiL_sub (hi := hi) h hh (by omega)
  have k3 : lnA m hi ≤ lnA l hi := by
    rw [ln_wo, ln_wo]
    have := off_sub (hi := hi) (by omega) h hh ht
    omega
  have k4 : stA m = 1 := by
    rw [stA_one] at *
    exact standsP_sub h (listOk_wt hk) h4
  have k1 : hgtL m lo m.length ≤ HiL hi m := by
    have hm := listOk_sub h hk
    unfold HiL hgtL hgtH
    have e : ∀ k : List Sg, (∀ s ∈ k, s.hl ≤ s.hh) → (k.map (·.hl)).sum ≤ (k.map (·.hh)).sum := by
      intro k hk
      induction k with
      | nil => simp
      | cons x k ih =>
        have i1 := ih fun s hs => hk s (List.mem_cons_of_mem _ hs)
        have i2 := hk x (List.mem_cons_self ..)
        simp only [List.map_cons, List.sum_cons]; omega
    have e1 := e (m.take m.length) (fun s hs => by have := sg_facts ((listOk_iff.1 hm).2.1 s (List.mem_of_mem_take hs)); omega)
    have e2 := Int.mul_le_mul_of_nonneg_left hlh (show (0 : Int) ≤ ((m.length - 1 : Nat) : Int) by omega)
    omega
  exact ⟨by omega, by omega, by omega, k4⟩
theorem does_down {lo hi : Int} {l : List Sg} {cr le : Int} (hk : listOk l = true) (hlo : 0 ≤ lo) (hlh : lo ≤ hi) : Down (doesB lo hi l cr le) l.length := by
  intro g h hp hz hs hd
  unfold doesB at hd ⊢
  rw [decide_eq_true_iff] at hd ⊢
  have hd2 : g.Pairwise (· ≠ ·) := hp.imp fun h => by omega
  have hgl : g.length ≤ 30 := Nat.le_trans (nodup_len hd2 hz).1 (listOk_iff.1 hk).1
  have hkg := listOk_chosen hk hz hd2 hgl
  have hsub : (chosenG l h).Sublist (chosenG l g) := by unfold chosenG; exact hs.map _
  exact fit_sub (ruledL_sub hsub (listOk_iff.1 hkg).2.2) (listOk_ruled hkg) hlo hlh hd

end Go.Proofs.Ytnchhleokdkejaa

/- Numbers modulo others; a wad that numbers make; numbers that choose. -/
namespace Go.Proofs.Ytnchhleokdkejaa
open Go.RowKit Go.Pb Go.Pb.Ware Go.Pb.Sag
set_option linter.unusedVariables false
set_option linter.unusedSimpArgs false

open Go.Pb.Bung
theorem modB {n m p : Int} {w : World} (hp : n % m = p) (h1 : 1 ≤ m) (h2 : m ≤ 140737488355328) :
    Calls Try.prog 69 #[.int .i64 n, .int .i64 m] w fun e w' => e = .returned (.int .i64 p) ∧ w = w' := by
  obtain ⟨e1, e2, e3⟩ := mod_eq n m (by omega)
  have E : Hid ((n.tmod m + m) % m = p) := hid (by rw [← hp, ← Int.tmod_eq_emod_of_nonneg (by omega)]; exact e1)
  clear e1 hp
  go_enter Try.func69, Try.ntmps69
  go_wp2
  all_goals go_ret
  all_goals exact ⟨ret_int E, rfl⟩
theorem modBR {n m p : Int} {w : World} (hp : n % m = p) (h1 : 1 ≤ m) (h2 : m ≤ 140737488355328) : Calls Try.prog 69 #[.int .i64 n, .int .i64 m] w (Ret w (.int .i64 p)) :=
  (modB hp h1 h2).mono fun e w' ⟨h3, h4⟩ => ⟨h3, h4 ▸ Below.refl _ _⟩
theorem mod_in {n m p : Int} (hp : n % m = p) (h1 : 1 ≤ m) : 0 ≤ p ∧ p < m := by subst hp; exact ⟨Int.emod_nonneg _ (by omega), Int.emod_lt_of_pos _ (by omega)⟩

set_option maxRecDepth 100000 in
set_option maxHeartbeats 400000 in
theorem rWadM {w : World} {n0 n1 : Int} :
    Calls Try.prog 72 #[.agg #[.int .i64 n0, .int .i64 n1]] w (Ret w (.agg #[.int .i64 (n0 % 15), .int .i64 (n0 % 15 + n1 % 10)])) := by
  unfold Ret
  obtain ⟨p0, h0⟩ : ∃ p, n0 % 15 = p := ⟨_, rfl⟩
  obtain ⟨p1, h1⟩ : ∃ p, n1 % 10 = p := ⟨_, rfl⟩
  have m0 := mod_in h0 (by decide); have m1 := mod_in h1 (by decide)
  have H0 : Hid _ := hid h0; have H1 : Hid _ := hid h1
  rw [h0, h1]
  clear h0 h1
  go_enter Try.func72, Try.ntmps72
  go_wp2_with fail
  refine (modBR H0.out (by decide) (by decide)).mono ?_
  rintro e w1 ⟨rfl, hb⟩
  replace hb0 := bnext (w := w) (by go_grown) hb; have hz := hb.size; (try simp only [World.size_alloc, World.size_setCell] at hz); replace q0 : w1.cell? ⟨w.heap.size, 0, none⟩ = some (.int .i64 n0) := bkeep hb (by first | (with_reducible exact q0) | (with_reducible exact akeep q0) | simp [*, go_sem]); replace q1 : w1.cell? ⟨w.heap.size, 1, none⟩ = some (.int .i64 n1) := bkeep hb (by first | (with_reducible exact q1) | (with_reducible exact akeep q1) | simp [*, go_sem]); replace f2 : w1.frozen? ⟨w.heap.size + 1, 0, none⟩ = false := bfree (v := .int .i64 0) hb (by first | (with_reducible exact q2) | (with_reducible exact akeep q2) | simp [*, go_sem]) (by first | (with_reducible exact f2) | (with_reducible exact afree q2 f2) | simp [*, go_sem]); replace q2 : w1.cell? ⟨w.heap.size + 1, 0, none⟩ = some (.int .i64 0) := bkeep hb (by first | (with_reducible exact q2) | (with_reducible exact akeep q2) | simp [*, go_sem]); replace f3 : w1.frozen? ⟨w.heap.size + 1, 1, none⟩ = false := bfree (v := .int .i64 0) hb (by first | (with_reducible exact q3) | (with_reducible exact akeep q3) | simp [*, go_sem]) (by first | (with_reducible exact f3) | (with_reducible exact afree q3 f3) | simp [*, go_sem]); replace q3 : w1.cell? ⟨w.heap.size + 1, 1, none⟩ = some (.int .i64 0) := bkeep hb (by first | (with_reducible exact q3) | (with_reducible exact akeep q3) | simp [*, go_sem]); skip
  clear hb
  go_wp2_with fail
  refine (modBR H1.out (by decide) (by decide)).mono ?_
  rintro e w1 ⟨rfl, hb⟩
  replace hb0 := bnext (w := w) (by go_grown) hb; have hz := hb.size; (try simp only [World.size_alloc, World.size_setCell] at hz); replace q0 : w1.cell? ⟨w.heap.size, 0, none⟩ = some (.int .i64 n0) := bkeep hb (by first | (with_reducible exact q0) | (with_reducible exact akeep q0) | simp [*, go_sem]); replace q1 : w1.cell? ⟨w.heap.size, 1, none⟩ = some (.int .i64 n1) := bkeep hb (by first | (with_reducible exact q1) | (with_reducible exact akeep q1) | simp [*, go_sem]); replace f2 : w1.frozen? ⟨w.heap.size + 1, 0, none⟩ = false := bfree (v := .int .i64 0) hb (by first | (with_reducible exact q2) | (with_reducible exact akeep q2) | simp [*, go_sem]) (by first | (with_reducible exact f2) | (with_reducible exact afree q2 f2) | simp [*, go_sem]); replace q2 : w1.cell? ⟨w.heap.size + 1, 0, none⟩ = some (.int .i64 0) := bkeep hb (by first | (with_reducible exact q2) | (with_reducible exact akeep q2) | simp [*, go_sem]); replace f3 : w1.frozen? ⟨w.heap.size + 1, 1, none⟩ = false := bfree (v := .int .i64 0) hb (by first | (with_reducible exact q3) | (with_reducible exact akeep q3) | simp [*, go_sem]) (by first | (with_reducible exact f3) | (with_reducible exact afree q3 f3) | simp [*, go_sem]); replace q3 : w1.cell? ⟨w.heap.size + 1, 1, none⟩ = some (.int .i64 0) := bkeep hb (by first | (with_reducible exact q3) | (with_reducible exact akeep q3) | simp [*, go_sem]); skip
  clear hb
  go_wp2_with fail
  exact bodyPost_ret (v := .agg #[.int .i64 p0, .int .i64 (p0 + p1)]) (by simp [results, Try.results72, go_sem, *]) rfl ⟨rfl, by go_grown⟩

/-- What lies in a range. -/
def InRg (lo hi : Int) (v : Value) (W : World) : Prop := ∃ z, v = .int .i64 z ∧ lo ≤ z ∧ z ≤ hi
theorem keeps_inRg {lo hi : Int} : Keeps (InRg lo hi) := fun _ _ _ h _ => h
def IsI64 (v : Value) (W : World) : Prop := ∃ z, v = .int .i64 z ∧ I64 z
theorem keeps_isI64 : Keeps IsI64 := fun _ _ _ h _ => h
set_option maxRecDepth 100000 in
set_option maxHeartbeats 400000 in
theorem one_any {w : World} {lo hi n : Int} (h0 : 0 ≤ lo) (h1 : lo ≤ hi) (h2 : hi ≤ 1000000000) :
    Calls Try.prog 67 #[.agg #[.int .i64 lo, .int .i64 hi], .int .i64 n] w (fun e w' => ∃ v, e = .returned v ∧ Below w.heap.size w w' ∧ InRg lo hi v w') := by
  obtain ⟨m, hm⟩ : ∃ m, hi - lo + 1 = m := ⟨_, rfl⟩
  obtain ⟨p, hp⟩ : ∃ p, n % m = p := ⟨_, rfl⟩
  have hb := mod_in hp (by omega)
  have HP : Hid _ := hid hp; clear hp
  have hw1 : IntKind.i64.wrap (hi - lo) = hi - lo := IntWalk.i64_in _ (by omega)
  have hw2 : IntKind.i64.wrap (hi - lo + 1) = m := (IntWalk.i64_in _ (by omega)).trans hm
  have hw3 : IntKind.i64.wrap (lo + p) = lo + p := IntWalk.i64_in _ (by omega)
  go_enter Try.func67, Try.ntmps67
  go_upto_region 1 with fail
  refine wp_region_qb (by kernel_rfl) (by kernel_rfl) fun hc => ?_
  repeat (go_big_quiet_step ((go_at_call 69; exact BW.call _ (modBR HP.out (by omega) (by omega)))))
  refine wpQuiet_nil ?_
  intro w1 hb1
  have hB : Below w.heap.size w w1 := bnext (w := w) (by go_grown) hb1
  go_wp2_with fail
  go_ret
  exact ⟨_, rfl, hB, _, rfl, by omega, by omega⟩

set_option maxRecDepth 100000 in
set_option maxHeartbeats 400000 in
theorem at_any {w : World} {v : Value} {zs : List Int} {i : Nat} (hi : NumsAt w v zs) (hb : i ≤ 1000000) :
    Calls Try.prog 68 #[v, .int .i64 (i : Int)] w (fun e w' => ∃ v, e = .returned v ∧ Below w.heap.size w w' ∧ IsI64 v w') := by
  obtain ⟨a, cap, rfl, hl1, hl2⟩ := hi.shape
  have hi64 := hi.i64
  obtain ⟨n, hn⟩ : ∃ n, zs.length = n := ⟨_, rfl⟩
  have HN : Hid (zs.length = n) := hn
  have HI : Hid (∀ z ∈ zs, I64 z) := hi64
  rw [hn] at hi hl1 ⊢
  clear hn hi64
  by_cases h0 : n = 0
  · subst h0
    go_enter Try.func68, Try.ntmps68
    go_wp2_with fail
    go_ret
    exact ⟨_, rfl, Below.refl _ _, _, rfl, I64.mk (by omega) (by omega)⟩
  · obtain ⟨k, hk⟩ : ∃ k, i % n = k := ⟨_, rfl⟩
    have hkn : k < n := by subst hk; exact Nat.mod_lt _ (by omega)
    obtain ⟨a', ha, r0⟩ := (show NumsAt w (.slice a zs.length cap) zs by rw [HN.out]; exact hi).elem (k := k) (by rw [HN.out]; exact hkn)
    subst ha
    obtain ⟨z, hz⟩ : ∃ z, zs[k]'(by rw [HN.out]; exact hkn) = z := ⟨_, rfl⟩
    have HZ : Hid (I64 z) := hid (by rw [← hz]; exact HI.out _ (List.getElem_mem _))
    rw [hz] at r0
    clear hz
    have hki : (k : Int) < (n : Int) := by omega
    have hk0 : (0 : Int) ≤ (k : Int) := by omega
    have hmod : IntKind.i64.wrap ((i : Int).tmod (n : Int)) = (k : Int) := by rw [Int.tmod_eq_emod_of_nonneg (by omega), ← Int.natCast_emod, hk]; exact IntWalk.i64_in _ (by omega)
    have hmod2 : ((i : Int).tmod (n : Int)) = (k : Int) := by rw [Int.tmod_eq_emod_of_nonneg (by omega), ← Int.natCast_emod, hk]
    have hnb : ((n : Int) == 0) = false := beq_eq_false_iff_ne.mpr (by omega)
    have hnz : ¬ (n : Int) = 0 := by omega
    clear hk
    go_enter Try.func68, Try.ntmps68
    go_wp2_with fail
    go_ret
    exact ⟨_, rfl, Below.refl _ _, _, rfl, HZ.out⟩

end Go.Proofs.Ytnchhleokdkejaa

/- Indices in an order that numbers choose. -/
namespace Go.Proofs.Ytnchhleokdkejaa
open Go.RowKit Go.Pb Go.Pb.Ware Go.Pb.Sag
set_option linter.unusedVariables false
set_option linter.unusedSimpArgs false

open Go.Proofs Go.Pb.Bung
def cellsZ (z : Int) : List Value := [.int .i64 z]
theorem flatZ (zs : List Int) : zs.flatMap cellsZ = zs.map (Value.int .i64) := by
  induction zs with
  | nil => rfl
  | cons z zs ih => rw [List.flatMap_cons, ih]; rfl
theorem numsZ_lat {w : World} {a : Addr} {cap : Nat} {zs : List Int} (h : NumsAt w (.slice (some a) zs.length cap) zs) : LAt 1 w (.slice (some a) zs.length cap) zs.length (zs.flatMap cellsZ) := by
  obtain ⟨_, _, e, h2, h3⟩ := h.shape
  injection e with _ _ e; subst e
  rw [flatZ]
  refine ⟨by rw [List.length_map, Nat.mul_one], fun u hu => (by obtain ⟨z, _, rfl⟩ := List.mem_map.1 hu; rfl), .inr ⟨a, cap, rfl, h2, h3, fun j u hu => ?_⟩⟩
  rw [List.getElem?_map] at hu
  obtain ⟨hj, hz⟩ : ∃ hj : j < zs.length, u = .int .i64 zs[j] := by
    rcases Nat.lt_or_ge j zs.length with hj | hj
    · rw [List.getElem?_eq_getElem hj] at hu; injection hu with hu; exact ⟨hj, hu.symm⟩
    · rw [List.getElem?_eq_none hj] at hu; cases hu
  obtain ⟨a', e1, e2⟩ := h.elem hj
  injection e1 with e1; subst e1; rw [hz]; exact e2
/-- A list that is read, and an own one beside it, in another block. -/
structure LO (T lo : Nat) (W : World) (lv ov : Value) (L O : List Int) : Prop where
  nums : NumsAt W lv L
  own : W.ownsRow lo T 1 ov O.length (O.map (Value.int .i64))
  apart : L ≠ [] → ∀ b, ov.ownBlock = some b → lv.ownBlock ≠ some b
theorem LO.next {T lo : Nat} {W W' : World} {lv ov : Value} {L O : List Int} (h : LO T lo W lv ov L O) (hb : Below W.heap.size W W') : LO T lo W' lv ov L O := ⟨h.nums.below hb, owns_below h.own hb, h.apart⟩
theorem block_add (a : Addr) (k : Nat) : (a.add k).block = a.block := by unfold Addr.add; split <;> rfl
theorem LO.push {T lo : Nat} {W W' : World} {lv ov ov' : Value} {L O : List Int} {z : Int} (h : LO T lo W lv ov L O) (hg : W.grownBy W' ov.ownBlock) (ho : W'.ownsRow lo T 1 ov' (O.length + 1) (O.map (Value.int .i64) ++ [.int .i64 z])) (hv : ov'.ownBlock = ov.ownBlock ∨ ov'.ownBlock = some W.heap.size) : LO T lo W' lv ov' L (O ++ [z]) := by
  refine ⟨?_, by rw [List.length_append, List.map_append]; exact ho, fun hL b hb hh => ?_⟩
  · rcases h.nums with h1 | ⟨a, cap, h1, h2, h3, h4⟩
    · exact .inl h1
    · refine .inr ⟨a, cap, h1, h2, h3, fun k z hz => ⟨hg.cell (h4 k z hz).1 ?_, (h4 k z hz).2⟩⟩
      rw [block_add]
      intro e
      have hL : L ≠ [] := by rintro rfl; simp at hz
      exact h.apart hL _ e.symm (by rw [h1]; rfl)
  · rcases hv with e | e
    · exact h.apart hL b (by rw [← e]; exact hb) hh
    · rw [e] at hb
      injection hb with hb
      rcases h.nums with ⟨_, h1⟩ | ⟨a, cap, h1, h2, h3, h4⟩
      · exact hL h1
      · rw [h1] at hh
        injection hh with hh
        obtain ⟨x, xs, rfl⟩ := List.exists_cons_of_ne_nil hL
        have h5 := World.block_lt_of_cell? W _ (h4 0 x rfl).1
        rw [block_add] at h5
        omega
theorem new_cellsZ (w : World) (z : Int) (ty n : Nat) (hn : w.heap.size = n) : ∀ j u, ([.int .i64 z] : List Value)[j]? = some u → (w.alloc (.cells #[.int .i64 z] ty)).cell? ((⟨n, 0, none⟩ : Addr).add j) = some u := by
  subst hn
  intro j u h
  match j, h with
  | 0, h => simp at h; subst h; simp [Addr.add, go_sem]
  | j + 1, h => simp at h

end Go.Proofs.Ytnchhleokdkejaa

/- Bungs with one more index, by the reference. -/
namespace Go.Proofs.Ytnchhleokdkejaa
open Go.RowKit Go.Pb Go.Pb.Ware Go.Pb.Sag
set_option linter.unusedVariables false
set_option linter.unusedSimpArgs false

open Go.Proofs Go.Pb.Bung
theorem Try.infoZL : (Try.prog.info? 41).map (fun i => (i.zero, i.size, i.bytes)) = some (some (.slice none 0 0), 1, 24) := by kernel_rfl
/-- The bungs with one more index in the k-th one. -/
def givG (gs : List (List Int)) (k i : Nat) : List (List Int) := (if k = gs.length then gs ++ [[]] else gs).set k ((if k = gs.length then gs ++ [[]] else gs).getD k [] ++ [(i : Int)])
theorem numsZ_any {w : World} {v : Value} {zs : List Int} (h : NumsAt w v zs) : LAt 1 w v zs.length (zs.map (Value.int .i64)) := by
  rcases h with ⟨rfl, rfl⟩ | ⟨a, cap, rfl, h2, h3, h4⟩
  · exact ⟨rfl, fun u hu => by simp at hu, .inl ⟨rfl, rfl⟩⟩
  · rw [← flatZ]
    exact numsZ_lat (.inr ⟨a, cap, rfl, h2, h3, h4⟩)
theorem cellZ (w : World) (x : Value) (t : TypeId) (n : Nat) (hn : w.heap.size = n) : ∀ j u, [x][j]? = some u → (w.alloc (.cells #[x] t)).cell? ((⟨n, 0, none⟩ : Addr).add j) = some u := by
  subst hn
  intro j u hu
  rw [Go.WideShapes.add_plain, Nat.zero_add]
  exact (CellsAt.new w [x] t j u hu).1
/-- One row more. -/
theorem giv_snoc {lo : Nat} {W w3 w4 : World} {v v' u : Value} {gs : List (List Int)} {g : List Int} {us : List Value} (hlo : lo ≤ W.heap.size) (ho : W.ownsRow lo 41 1 v gs.length us) (hr : Go.Pb.Sag.RowsIn lo 3 W us gs) (hA : Go.Pb.Sag.Apart us) (hb : Below W.heap.size W w3) (hu : w3.ownsRow W.heap.size 3 1 u g.length (g.map (Value.int .i64))) (hg : w3.grownBy w4 v.ownBlock) (ho4 : w4.ownsRow lo 41 1 v' (gs.length + 1) (us ++ [u])) :
    w4.ownsRow lo 41 1 v' (gs ++ [g]).length (us ++ [u]) ∧ Go.Pb.Sag.RowsIn lo 3 w4 (us ++ [u]) (gs ++ [g]) ∧ Go.Pb.Sag.Apart (us ++ [u]) := by
  have hul : us.length = gs.length := by have := ho.1; omega
  have ho3 := owns_below ho hb
  have key : ∀ (k : Nat) (x : Value) (q : List Int), (us ++ [u])[k]? = some x → (gs ++ [g])[k]? = some q → w4.ownsRow lo 3 1 x q.length (q.map (Value.int .i64)) := by
    intro k x q hx hq
    rcases Nat.lt_or_ge k gs.length with h | h
    · rw [List.getElem?_append_left (by omega)] at hx
      rw [List.getElem?_append_left h] at hq
      have h1 := owns_below (hr k x q hx hq) hb
      exact h1.kept hg (apart_types h1 ho3 (by decide))
    · rw [List.getElem?_append_right (by omega), hul] at hx
      rw [List.getElem?_append_right h] at hq
      have hk : k - gs.length = 0 := by
        have := (List.getElem?_eq_some_iff.1 hq).1
        simp at this; omega
      rw [hk] at hx hq
      simp at hx hq
      subst hx; subst hq
      exact owns_base hlo (hu.kept hg (apart_types hu ho3 (by decide)))
  refine ⟨by rw [List.length_append]; exact ho4, key, fun j k x y hjk hx hy => ?_⟩
  have low : ∀ (k : Nat) (x : Value), k < gs.length → (us ++ [u])[k]? = some x → ∀ b, x.ownBlock = some b → b < W.heap.size := by
    intro k x hk hx b hb2
    rw [List.getElem?_append_left (by omega)] at hx
    exact (World.ownsRow.lt (hr k x _ hx (List.getElem?_eq_getElem hk)) b hb2).2
  have high : ∀ (k : Nat) (x : Value), ¬ k < gs.length → (us ++ [u])[k]? = some x → (k = gs.length ∧ ∀ b, x.ownBlock = some b → W.heap.size ≤ b) := by
    intro k x hk hx
    have hk2 := (List.getElem?_eq_some_iff.1 hx).1
    simp at hk2
    have e : k = gs.length := by omega
    subst e
    rw [List.getElem?_append_right (by omega), hul, Nat.sub_self] at hx
    simp at hx
    subst hx
    exact ⟨rfl, fun b hb2 => (World.ownsRow.lt hu b hb2).1⟩
  by_cases hj : j < gs.length
  · by_cases hk : k < gs.length
    · rw [List.getElem?_append_left (by omega)] at hx hy
      exact hA j k x y hjk hx hy
    · obtain ⟨_, h2⟩ := high k y hk hy
      have h1 := low j x hj hx
      cases hxb : x.ownBlock with
      | none => exact .inl rfl
      | some b => exact .inr fun e => by have := h1 b hxb; have := h2 b e.symm; omega
  · obtain ⟨e1, h1⟩ := high j x hj hx
    by_cases hk : k < gs.length
    · have h2 := low k y hk hy
      cases hxb : x.ownBlock with
      | none => exact .inl rfl
      | some b => exact .inr fun e => by have := h1 b hxb; have := h2 b e.symm; omega
    · obtain ⟨e2, _⟩ := high k y hk hy
      omega
/-- One index more in a row, and its store. -/
theorem giv_put {lo k i : Nat} {W w2 w3 : World} {v' u : Value} {gs : List (List Int)} {g : List Int} {us : List Value} {gb cap n : Nat} (hn : gs.length = n) (ho : W.ownsRow lo 41 1 (.slice (some ⟨gb, 0, none⟩) n cap) n us) (hr : Go.Pb.Sag.RowsIn lo 3 W us gs) (hA : Go.Pb.Sag.Apart us) (hg : gs[k]? = some g) (hu : us[k]? = some u) (hb : Below W.heap.size W w2) (hg3 : w2.grownBy w3 u.ownBlock) (ho3 : w3.ownsRow lo 3 1 v' (g.length + 1) (g.map (Value.int .i64) ++ [.int .i64 (i : Int)])) :
    (w3.cell? ⟨gb, k, none⟩ = some u ∧ w3.frozen? ⟨gb, k, none⟩ = false) ∧ GroupsAt lo (.slice (some ⟨gb, 0, none⟩) n cap) (gs.set k (g ++ [(i : Int)])) (w3.setCell ⟨gb, k, none⟩ v') := by
  subst hn
  have ho2 := owns_below ho hb
  have hk := (List.getElem?_eq_some_iff.1 hg).1
  have hul : us.length = gs.length := by have := ho.1; omega
  have h3 := ho2.kept hg3 (apart_types ho2 (owns_below (hr k u g hu hg) hb) (by decide))
  have hcell := h3.cells (g := gb) rfl k u hu
  rw [Go.WideShapes.add_plain, Nat.zero_add] at hcell
  refine ⟨⟨hcell, owns_frozen h3 rfl k⟩, us.set k v', ?_, fun j x q hx hq => ?_⟩
  · rw [List.length_set]; exact Go.Pb.Sag.own_set h3
  · by_cases e : j = k
    · subst e
      rw [List.getElem?_set_self (by omega)] at hx
      rw [List.getElem?_set_self hk] at hq
      injection hx with hx; injection hq with hq
      subst hx; subst hq
      rw [List.length_append, List.map_append]
      exact set_own ho3 (apart_types ho3 h3 (by decide))
    · rw [List.getElem?_set_ne (Ne.symm e)] at hx hq
      have h1 := owns_below (hr j x q hx hq) hb
      have h2 := h1.kept hg3 (hA j k x u e hx hu)
      exact set_own h2 (apart_types h2 h3 (by decide))

set_option maxRecDepth 100000 in
set_option maxHeartbeats 1500000 in
theorem rGiven {w : World} {gv : Value} {gs : List (List Int)} {k i : Nat} (hg : ListsAt gv gs w) (hlen : gs.length ≤ 1000) (hsz : ∀ g ∈ gs, g.length ≤ 1000) (hk : k ≤ gs.length) :
    Calls Try.prog 123 #[gv, .int .i64 (k : Int), .int .i64 (i : Int)] w (fun e w' => ∃ u, e = .returned u ∧ Below w.heap.size w w' ∧ GroupsAt w.heap.size u (givG gs k i) w') := by
  obtain ⟨i1, hj, hy0, hy1, hy2⟩ := info_parts Try.infoIn
  obtain ⟨i2, hq, ha0, ha1, ha2⟩ := info_parts Try.infoZL
  have hg0 := hg
  obtain ⟨a, cap, rfl, hrow⟩ := hg
  have HRW : Hid (∀ k g, gs[k]? = some g → _) := hid hrow
  have HG : Hid (ListsAt (.slice a gs.length cap) gs w) := hid hg0
  obtain ⟨q, hql⟩ : ∃ q, gs.length = q := ⟨_, rfl⟩
  have HQ := hid hql
  have HSZ := hid hsz
  rw [hql] at hlen hk ⊢
  clear hql hsz hrow hg0
  go_enter Try.func123, Try.ntmps123
  go_wp2_with fail
  go_loopg [7, 8] q (fun gk ov iv wr => ∃ (j : Nat) (us : List Value), j ≤ q ∧ gk = q - j ∧ iv = .int .i64 j ∧ wr.ownsRow w.heap.size 41 1 ov j us ∧ Hid (Go.Pb.Sag.RowsIn w.heap.size 3 wr us (gs.take j) ∧ Go.Pb.Sag.Apart us) ∧ Below w.heap.size w wr)
  case atStart => exact ⟨0, [], Nat.zero_le _, rfl, rfl, World.ownsRow_nil _ _ _ _, hid ⟨fun k v g h => (by simp at h), fun j k u v _ h => (by simp at h)⟩, Below.refl _ _⟩
  case round =>
    obtain ⟨j, us, hjq, hgk, rfl, ho, HR, hB⟩ := hrel
    have HGK := hid hgk; clear hgk
    have hzr := hB.size
    obtain ⟨ua, uc, rfl, hul⟩ := owns_shape ho
    by_cases hlt : j < q
    · have hji : (j : Int) < (q : Int) := by omega
      have hj00 : (0 : Int) ≤ (j : Int) := by omega
      obtain ⟨g, hgj⟩ : ∃ g, gs[j]? = some g := ⟨_, List.getElem?_eq_getElem (by rw [HQ.out]; exact hlt)⟩
      obtain ⟨a', ha, u, hcu, hnu⟩ := HRW.out j g hgj
      subst ha
      have r0 : wr.cell? (a'.add j) = some u := (World.cell?_of_block (hB.block _ (World.block_lt_of_cell? w _ hcu))).trans hcu
      have hnr := hnu.below hB
      obtain ⟨ra, rc, rfl, hr1, hr2⟩ := hnr.shape
      have hlat := numsZ_any hnr
      obtain ⟨m, hm⟩ : ∃ m, g.length = m := ⟨_, rfl⟩
      have HM := hid hm
      have hmb : m ≤ 1000 := by rw [← hm]; exact HSZ.out g (List.mem_of_getElem? hgj)
      rw [hm] at hlat hr1 r0
      have HTL : Hid ((gs.take j).length = j) := hid (by rw [List.length_take, HQ.out]; omega)
      have HTK : Hid (gs.take (j + 1) = gs.take j ++ [g]) := hid (by rw [List.take_add_one, hgj]; rfl)
      clear hm hcu hnu hnr hgj
      have r1 : (wr.alloc (.cells #[] 3)).cell? (a'.add j) = some (.slice ra m rc) := bkeep ((Below.refl _ _).alloc (Nat.le_refl _) _) r0
      go_wp2_with (first | (at_builtin; (refine wpList_append_lat rfl _ _ 41 rfl wr.heap.size 3 i1 (.int .i64 0) 1 8 Try.underlying41 hj hy0 hy1 hy2 rfl (by decide) (.slice (some ⟨wr.heap.size, 0, none⟩) 0 0) 0 [] rfl (owns_empty wr 3 1) (.slice ra m rc) m (g.map (Value.int .i64)) rfl (hlat.below ((Below.refl _ _).alloc (Nat.le_refl _) _)) (by unfold maxLen; omega) (by omega) (by simp) ?_; intro v21 w4 ho4 hg4; have hb4 := Pb.below_grown ((Below.refl _ wr).alloc (Nat.le_refl _) _) hg4 (owns_empty wr 3 1) (by simp) (Nat.le_refl _); rw [Nat.zero_add, List.nil_append] at ho4; obtain ⟨xa, xc, rfl, -⟩ := owns_shape ho4; clear hg4)) | (at_builtin; (refine wpList_append_own _ rfl _ _ 76 rfl w.heap.size 41 i2 (.slice none 0 0) 1 24 Try.underlying76 hq ha0 ha1 ha2 rfl (by decide) (.slice ua j uc) j us rfl (owns_below ho (hb4.alloc hb4.size _)) ⟨w4.heap.size, 0, none⟩ 1 1 [.slice xa m xc] rfl rfl (cellZ w4 _ _ _ rfl) (fun u hu => by simp only [List.mem_cons, List.not_mem_nil, or_false] at hu; rcases hu with rfl; rfl) (by unfold maxLen; omega) (by omega) (by have := hb4.size; simp; omega) ?_; intro v23 w5 ho5 hg5 hnil; have hB5 := Pb.below_grown (bnext (w := w) hB (hb4.alloc hb4.size _)) hg5 (owns_below ho (hb4.alloc hb4.size _)) (by have := hb4.size; simp; omega) (Nat.le_refl _); have hsn := giv_snoc (gs := gs.take j) (g := g) hzr (by rw [HTL.out]; exact ho) HR.out.1 HR.out.2 (hb4.alloc hb4.size (.cells #[.slice xa m xc] 41)) (by rw [HM.out]; exact owns_below ho4 ((Below.refl _ _).alloc (Nat.le_refl _) _)) hg5 (by rw [HTL.out]; exact ho5); have HSN := hid hsn; clear hsn; obtain ⟨ya, yc, rfl, -⟩ := owns_shape ho5; clear hg5 hnil)))
      clear ho HR
      (try clear ho4)
      (try clear hb4)
      go_roundg (q - (j + 1))
      case measure => have h := HGK.out; omega
      case rel => exact ⟨j + 1, us ++ [.slice xa m xc], by omega, rfl, by go_num, ho5, by rw [HTK.out]; exact hid ⟨HSN.out.2.1, HSN.out.2.2⟩, hB5⟩
    · obtain rfl : j = q := by omega
      have htk : gs.take j = gs := List.take_of_length_le (by rw [HQ.out]; exact Nat.le_refl _)
      rw [htk] at HR
      clear htk HRW HGK
      by_cases hkq : k = j
      · subst hkq
        go_upto_region 8 with (at_builtin; go_must (refine wpList_append_own _ rfl _ _ 76 rfl w.heap.size 41 i2 (.slice none 0 0) 1 24 Try.underlying76 hq ha0 ha1 ha2 rfl (by decide) (.slice ua k uc) k us rfl (ho.alloc _) ⟨wr.heap.size, 0, none⟩ 1 1 [.slice none 0 0] rfl rfl (cellZ wr _ _ _ rfl) (fun u hu => by simp only [List.mem_cons, List.not_mem_nil, or_false] at hu; rcases hu with rfl; rfl) (by unfold maxLen; omega) (by omega) (by simp; omega) ?_; intro v23 w5 ho5 hg5 hnil; have hB5 := Pb.below_grown (hB.alloc (by omega) _) hg5 (ho.alloc _) (by simp; omega) (Nat.le_refl _); have hsn := giv_snoc (gs := gs) (g := []) (u := .slice none 0 0) hzr (by rw [HQ.out]; exact ho) HR.out.1 HR.out.2 ((Below.refl _ wr).alloc (Nat.le_refl _) (.cells #[.slice none 0 0] 41)) (World.ownsRow_nil _ _ _ _) hg5 (by rw [HQ.out]; exact ho5); obtain ⟨ya, yc, rfl, -⟩ := owns_shape ho5; clear hg5 hnil))
        have HL1 : Hid ((gs ++ [[]]).length = k + 1) := hid (by rw [List.length_append, HQ.out]; rfl)
        have HS1 : Hid (∀ g ∈ gs ++ [[]], g.length ≤ 1000) := hid (fun g hg => by rcases List.mem_append.1 hg with h | h; exact HSZ.out g h; simp at h; subst h; simp)
        have HEND : Hid (givG gs k i = (gs ++ [[]]).set k ((gs ++ [[]]).getD k [] ++ [(i : Int)])) := hid (by unfold givG; rw [if_pos HQ.out.symm])
        clear ho HR hB
        have ho := ho5; have HR := hid hsn.2; have hB := hB5; clear ho5 hsn hB5
        skip
        obtain ⟨gb, gcap, hge, -, -⟩ := own_some ho (by omega)
        injection hge with e1 _ e3
        subst e1
        subst e3
        obtain ⟨g, hgk2⟩ : ∃ g, (gs ++ [[]])[k]? = some g := ⟨_, List.getElem?_eq_getElem (by rw [HL1.out]; omega)⟩
        obtain ⟨u, hu⟩ : ∃ u, (us ++ [.slice none 0 0])[k]? = some u := ⟨_, List.getElem?_eq_getElem (by have := ho.1; omega)⟩
        have hrw := HR.out.1 k u g hu hgk2
        obtain ⟨ra, rc, rfl, -⟩ := owns_shape hrw
        obtain ⟨m, hm⟩ : ∃ m, g.length = m := ⟨_, rfl⟩
        have HM := hid hm
        have hmb : m ≤ 1000 := by rw [← hm]; exact HS1.out g (List.mem_of_getElem? hgk2)
        rw [hm] at hrw hu
        have r0 : w5.cell? ⟨gb, k, none⟩ = some (.slice ra m rc) := by have h := ho.cells (g := gb) rfl k _ hu; rw [Go.WideShapes.add_plain, Nat.zero_add] at h; exact h
        have hki : (k : Int) < ((k + 1 : Nat) : Int) := by omega
        have hk00 : (0 : Int) ≤ (k : Int) := by omega
        have hzr := hB.size
        have HGE : Hid ((gs ++ [[]]).getD k [] = g) := hid (by rw [List.getD_eq_getElem?_getD, hgk2]; rfl)
        have HG2 := hid hgk2; have HU2 := hid hu; clear hm hgk2 hu
        go_wp2_with (at_builtin; go_must (refine wpList_append_own _ rfl _ _ 41 rfl w.heap.size 3 i1 (.int .i64 0) 1 8 Try.underlying41 hj hy0 hy1 hy2 rfl (by decide) (.slice ra m rc) m _ rfl (hrw.alloc _) ⟨w5.heap.size, 0, none⟩ 1 1 [.int .i64 (i : Int)] rfl rfl (new_cellsZ w5 _ _ _ rfl) (fun u hu => by simp only [List.mem_cons, List.not_mem_nil, or_false] at hu; rcases hu with rfl; rfl) (by unfold maxLen; omega) (by omega) (by simp; omega) ?_; intro v' w6 ho6 hg6 hnil; have hB6 := Pb.below_grown (hB.alloc (by omega) _) hg6 (hrw.alloc _) (by simp; omega) (by omega); have hpt := giv_put HL1.out ho HR.out.1 HR.out.2 HG2.out HU2.out ((Below.refl _ w5).alloc (Nat.le_refl _) (.cells #[.int .i64 (i : Int)] 3)) hg6 (by rw [HM.out]; exact ho6); obtain ⟨⟨p0, p1⟩, hga⟩ := hpt; have HGA := hid hga; obtain ⟨xb, xd, rfl, -⟩ := owns_shape ho6; have hgbl : w.heap.size ≤ gb := (World.ownsRow.lt ho gb rfl).1; clear hga ho6 hg6 hnil r0))
        skip
        go_ret
        exact ⟨_, rfl, hB6.setCell (p := ⟨gb, k, none⟩) hgbl _, by have h := HGA.out; rw [HEND.out]; (try rw [HGE.out]); exact h⟩
      · have hkb : ((k : Int) == (j : Int)) = false := beq_eq_false_iff_ne.mpr (by omega)
        have hkz : ¬ (k : Int) = (j : Int) := by omega
        have HL1 : Hid (gs.length = j) := HQ
        have HS1 := HSZ
        have HEND : Hid (givG gs k i = gs.set k (gs.getD k [] ++ [(i : Int)])) := hid (by unfold givG; rw [if_neg (by rw [HQ.out]; exact hkq)])
        go_upto_region 8 with fail
        obtain ⟨gb, gcap, hge, -, -⟩ := own_some ho (by omega)
        injection hge with e1 _ e3
        subst e1
        subst e3
        obtain ⟨g, hgk2⟩ : ∃ g, gs[k]? = some g := ⟨_, List.getElem?_eq_getElem (by rw [HL1.out]; omega)⟩
        obtain ⟨u, hu⟩ : ∃ u, us[k]? = some u := ⟨_, List.getElem?_eq_getElem (by have := ho.1; omega)⟩
        have hrw := HR.out.1 k u g hu hgk2
        obtain ⟨ra, rc, rfl, -⟩ := owns_shape hrw
        obtain ⟨m, hm⟩ : ∃ m, g.length = m := ⟨_, rfl⟩
        have HM := hid hm
        have hmb : m ≤ 1000 := by rw [← hm]; exact HS1.out g (List.mem_of_getElem? hgk2)
        rw [hm] at hrw hu
        have r0 : wr.cell? ⟨gb, k, none⟩ = some (.slice ra m rc) := by have h := ho.cells (g := gb) rfl k _ hu; rw [Go.WideShapes.add_plain, Nat.zero_add] at h; exact h
        have hki : (k : Int) < (j : Int) := by omega
        have hk00 : (0 : Int) ≤ (k : Int) := by omega
        have hzr := hB.size
        have HGE : Hid (gs.getD k [] = g) := hid (by rw [List.getD_eq_getElem?_getD, hgk2]; rfl)
        have HG2 := hid hgk2; have HU2 := hid hu; clear hm hgk2 hu
        go_wp2_with (at_builtin; go_must (refine wpList_append_own _ rfl _ _ 41 rfl w.heap.size 3 i1 (.int .i64 0) 1 8 Try.underlying41 hj hy0 hy1 hy2 rfl (by decide) (.slice ra m rc) m _ rfl (hrw.alloc _) ⟨wr.heap.size, 0, none⟩ 1 1 [.int .i64 (i : Int)] rfl rfl (new_cellsZ wr _ _ _ rfl) (fun u hu => by simp only [List.mem_cons, List.not_mem_nil, or_false] at hu; rcases hu with rfl; rfl) (by unfold maxLen; omega) (by omega) (by simp; omega) ?_; intro v' w6 ho6 hg6 hnil; have hB6 := Pb.below_grown (hB.alloc (by omega) _) hg6 (hrw.alloc _) (by simp; omega) (by omega); have hpt := giv_put HL1.out ho HR.out.1 HR.out.2 HG2.out HU2.out ((Below.refl _ wr).alloc (Nat.le_refl _) (.cells #[.int .i64 (i : Int)] 3)) hg6 (by rw [HM.out]; exact ho6); obtain ⟨⟨p0, p1⟩, hga⟩ := hpt; have HGA := hid hga; obtain ⟨xb, xd, rfl, -⟩ := owns_shape ho6; have hgbl : w.heap.size ≤ gb := (World.ownsRow.lt ho gb rfl).1; clear hga ho6 hg6 hnil r0))
        skip
        go_ret
        exact ⟨_, rfl, hB6.setCell (p := ⟨gb, k, none⟩) hgbl _, by have h := HGA.out; rw [HEND.out]; (try rw [HGE.out]); exact h⟩

end Go.Proofs.Ytnchhleokdkejaa

/- Bungs that numbers choose. -/
namespace Go.Proofs.Ytnchhleokdkejaa
open Go.RowKit Go.Pb Go.Pb.Ware Go.Pb.Sag
set_option linter.unusedVariables false
set_option linter.unusedSimpArgs false

open Go.Proofs Go.Pb.Bung
theorem giv_acc {j c : Nat} {gs : List (List Int)} (ha : Go.Pb.Sag.Acc j gs) (hc : c ≤ gs.length) : Go.Pb.Sag.Acc (j + 1) (givG gs c j) := by
  unfold givG
  by_cases e : c = gs.length
  · rw [if_pos e, e]
    have h1 : (gs ++ [[]]).getD gs.length [] = ([] : List Int) := by rw [List.getD_eq_getElem?_getD, List.getElem?_append_right (Nat.le_refl _), Nat.sub_self]; rfl
    rw [h1, set_last]
    exact acc_snoc ha
  · rw [if_neg e]
    have hg : gs[c]? = some (gs.getD c []) := by rw [List.getD_eq_getElem?_getD, List.getElem?_eq_getElem (by omega)]; rfl
    exact acc_set ha hg
theorem acc_small {n : Nat} {gs : List (List Int)} (ha : Go.Pb.Sag.Acc n gs) : (∀ g ∈ gs, g.length ≤ n) ∧ ∀ g ∈ gs, ∀ z ∈ g, 0 ≤ z ∧ z < (n : Int) := by
  refine ⟨fun g hg => ?_, fun g hg => ?_⟩
  · obtain ⟨k, hk⟩ := List.getElem?_of_mem hg
    exact (nodup_len ((ha.inc k g hk).imp fun h => by omega) (ha.lo k g hk)).1
  · obtain ⟨k, hk⟩ := List.getElem?_of_mem hg
    exact ha.lo k g hk
theorem lists_nil (W : World) : ListsAt (.slice none 0 0) [] W := ⟨none, 0, rfl, fun k g h => by simp at h⟩

set_option maxRecDepth 100000 in
set_option maxHeartbeats 1500000 in
theorem rParts_any {w : World} {v : Value} {zs : List Int} {n most : Nat} (hp : NumsAt w v zs) (hn : n ≤ 30) (hm1 : 1 ≤ most) (hm2 : most ≤ 1000) :
    Calls Try.prog 73 #[.int .i64 (n : Int), v, .int .i64 (most : Int)] w (fun e w' => ∃ (u : Value) (gs : List (List Int)), e = .returned u ∧ Below w.heap.size w w' ∧ ListsAt u gs w' ∧ Go.Pb.Sag.Acc n gs) := by
  obtain ⟨pa, pc, rfl, hp1, hp2⟩ := hp.shape
  have hpi : ∀ z ∈ zs, I64 z := hp.i64
  obtain ⟨m, hm⟩ : ∃ m, zs.length = m := ⟨_, rfl⟩
  have HM : Hid (zs.length = m) := hm
  have HPI : Hid (∀ z ∈ zs, I64 z) := hpi
  rw [hm] at hp hp1 ⊢
  clear hm hpi
  go_enter Try.func73, Try.ntmps73
  go_wp2_with fail
  go_loopg [7, 8] n (fun gk ov iv wr => ∃ (j : Nat) (gs : List (List Int)), j ≤ n ∧ gk = n - j ∧ iv = .int .i64 j ∧ ListsAt ov gs wr ∧ Hid (Go.Pb.Sag.Acc j gs) ∧ Below w.heap.size w wr)
  case atStart => exact ⟨0, [], Nat.zero_le _, rfl, rfl, lists_nil _, hid acc_nil, Below.refl _ _⟩
  case round =>
    obtain ⟨j, gs, hjn, hgk, rfl, hg, HA, hB⟩ := hrel
    have HGK := hid hgk; clear hgk
    have hgl := acc_len HA.out
    have hg0 := hg
    obtain ⟨ga, gc, rfl, -⟩ := hg0
    obtain ⟨N, hN⟩ : ∃ N, gs.length = N := ⟨_, rfl⟩
    have HN := hid hN
    rw [hN] at hg hgl
    (try rw [hN])
    clear hN
    by_cases hlt : j < n
    · have hji : (j : Int) < (n : Int) := by omega
      go_upto_if 17 with fail
      go_cut [9] from 10 to 34 (fun kv wc => ∃ c : Nat, kv = .int .i64 c ∧ c ≤ N ∧ wc = wr)
      case first =>
        by_cases hm0 : m = 0
        · have hmb : ¬ (0 : Int) < (m : Int) := by omega
          have HM0 := hid hm0; clear hm0
          go_wp2_with fail
          go_meet
          exact ⟨0, rfl, by omega, rfl⟩
        · have hmb : (0 : Int) < (m : Int) := by omega
          obtain ⟨q, hq⟩ : ∃ q, j % m = q := ⟨_, rfl⟩
          have hqm : q < m := by subst hq; exact Nat.mod_lt _ (by omega)
          obtain ⟨p', hpa, r0⟩ := (show NumsAt wr (.slice pa zs.length pc) zs by rw [HM.out]; exact hp.below hB).elem (k := q) (by rw [HM.out]; exact hqm)
          subst hpa
          obtain ⟨z, hz⟩ : ∃ z, zs[q]'(by rw [HM.out]; exact hqm) = z := ⟨_, rfl⟩
          rw [hz] at r0
          clear hz
          have hqi : (q : Int) < (m : Int) := by omega
          have hq0 : (0 : Int) ≤ (q : Int) := by omega
          have hmod : IntKind.i64.wrap ((j : Int).tmod (m : Int)) = (q : Int) := by rw [Int.tmod_eq_emod_of_nonneg (by omega), ← Int.natCast_emod, hq]; exact IntWalk.i64_in _ (by omega)
          have hmod2 : ((j : Int).tmod (m : Int)) = (q : Int) := by rw [Int.tmod_eq_emod_of_nonneg (by omega), ← Int.natCast_emod, hq]
          have hnz : ¬ (m : Int) = 0 := by omega
          have hnb : ((m : Int) == 0) = false := beq_eq_false_iff_ne.mpr (by omega)
          clear hq
          have hwN : IntKind.i64.wrap ((N : Int) + 1) = (N : Int) + 1 := IntWalk.i64_in _ (by omega)
          obtain ⟨M, hM⟩ : ∃ M : Int, min ((N : Int) + 1) (most : Int) = M := ⟨_, rfl⟩
          have hM1 : 1 ≤ M ∧ M ≤ (N : Int) + 1 := by omega
          obtain ⟨c, hc⟩ : ∃ c : Int, z % M = c := ⟨_, rfl⟩
          have hcb := mod_in hc hM1.1
          have HC : Hid _ := hid hc; clear hc
          obtain ⟨d, rfl⟩ : ∃ d : Nat, c = (d : Int) := ⟨c.toNat, by omega⟩
          go_wp2_with fail
          (try rw [hM])
          refine (modB HC.out hM1.1 (by omega)).mono ?_
          rintro e wm ⟨rfl, rfl⟩
          go_wp2_with fail
          go_meet
          exact ⟨d, rfl, by omega, rfl⟩
      case rest =>
        obtain ⟨c, rfl, hcN, rfl⟩ := hcut
        obtain ⟨wr, hwr⟩ : ∃ v, v = wc := ⟨_, rfl⟩
        subst hwr
        have hsm := acc_small HA.out
        have hga := giv_acc HA.out (c := c) (by rw [HN.out]; exact hcN)
        have HGA := hid hga
        have hsm2 := acc_small hga
        skip
        clear hga
        go_wp2_with fail
        refine (rGiven hg (by rw [HN.out]; omega) (fun g hgm => by have := hsm.1 g hgm; omega) (by rw [HN.out]; exact hcN)).mono ?_
        rintro e w1 ⟨u, rfl, hb, hgr⟩
        have hl1 := groupsAt_lists hgr (fun g hgm z hz => by have := hsm2.2 g hgm z hz; exact I64.mk (by omega) (by omega))
        have hB1 := bnext (w := w) hB hb
        clear hb hgr hsm hsm2
        go_wp2_with fail
        go_roundg (n - (j + 1))
        case measure => have h := HGK.out; omega
        case rel => exact ⟨j + 1, givG gs c j, by omega, rfl, by go_num, hl1, HGA, hB1⟩
    · obtain rfl : j = n := by omega
      have hjj : ¬ (j : Int) < (j : Int) := by omega
      go_wp2_with fail
      go_ret
      exact ⟨_, rfl, hB, gs, hg, HA.out⟩

end Go.Proofs.Ytnchhleokdkejaa

/- Saggars that numbers make. -/
namespace Go.Proofs.Ytnchhleokdkejaa
open Go.RowKit Go.Pb Go.Pb.Ware Go.Pb.Sag
set_option linter.unusedVariables false
set_option linter.unusedSimpArgs false

open Go.Proofs Go.Pb.Bung
theorem len7 {r : List Int} (h : r.length = 7) : ∃ a b c d e f g, r = [a, b, c, d, e, f, g] := by
  match r, h with
  | [a, b, c, d, e, f, g], _ => exact ⟨_, _, _, _, _, _, _, rfl⟩
theorem madeL_i64 {rows : List (List Int)} {k : Nat} (hk : k ≤ 12) : ∀ s ∈ madeL rows k, ∀ z ∈ rowG s, I64 z := by
  intro s hs z hz
  unfold madeL at hs
  obtain ⟨i, hi, rfl⟩ := List.mem_map.1 hs
  have := List.mem_range.1 hi
  simp only [rowG, madeG, List.mem_cons, List.not_mem_nil, or_false] at hz
  rcases hz with rfl | rfl | rfl | rfl | rfl | rfl | rfl | rfl <;> exact I64.mk (by omega) (by omega)

set_option maxRecDepth 100000 in
set_option maxHeartbeats 1000000 in
theorem rMade_any {w : World} {v : Value} {rows : List (List Int)} {most K : Nat} (h : RowsAt 7 w v rows) (hm : most ≤ 12) (hK : min rows.length most = K) :
    Calls Try.prog 70 #[v, .int .i64 (most : Int)] w (fun e w' => ∃ u, e = .returned u ∧ Below w.heap.size w w' ∧ RowsAt 8 w' u ((madeL rows K).map rowG)) := by
  obtain ⟨i0, hi0, hz0, hz1, hz2⟩ := info_parts Try.infoG
  obtain ⟨a, cap, rfl, hll⟩ := h.shape
  have hcap := RowsAt.caps h
  obtain ⟨n, hn⟩ : ∃ n, rows.length = n := ⟨_, rfl⟩
  have HN : Hid (rows.length = n) := hn
  have HI : Hid (∀ r ∈ rows, r.length = 7 ∧ ∀ z ∈ r, I64 z) := hid h.i64
  rw [hn] at h hll hcap hK ⊢
  obtain ⟨hcap1, hcap2⟩ := hcap
  have hK1 : K ≤ n := by omega
  have hK2 : K ≤ most := by omega
  have HK : Hid (min n most = K) := hid hK
  clear hn hK
  go_enter Try.func70, Try.ntmps70
  go_wp2_with fail
  go_loopg [5, 6] K (fun gk ov iv wr => ∃ k : Nat, k ≤ K ∧ gk = K - k ∧ iv = .int .i64 k ∧ wr.ownsRow w.heap.size 33 8 ov k ((madeL rows k).flatMap cellsG) ∧ Below w.heap.size w wr)
  case atStart => exact ⟨0, Nat.zero_le _, rfl, rfl, World.ownsRow_nil _ _ _ _, Below.refl _ _⟩
  case round =>
    obtain ⟨k, hk, hgk, rfl, ho, hB⟩ := hrel
    have HGK := hid hgk; clear hgk
    by_cases hlt : k < K
    · have hki : (k : Int) < (n : Int) := by omega
      have hkm : (k : Int) < (most : Int) := by omega
      obtain ⟨r, hr⟩ : ∃ r, rows[k]? = some r := ⟨_, List.getElem?_eq_getElem (by rw [HN.out]; omega)⟩
      obtain ⟨a', ha, hrl2, hc0, hcc⟩ := (show RowsAt 7 wr (.slice a rows.length cap) rows by rw [HN.out]; exact h.below hB).row (k := k) (by rw [HN.out]; omega)
      subst ha
      have her : rows[k]'(by rw [HN.out]; omega) = r := Option.some.inj ((List.getElem?_eq_getElem _).symm.trans hr)
      rw [her] at hrl2 hc0 hcc
      obtain ⟨y0, y1, y2, y3, y4, y5, y6, rfl⟩ := len7 hrl2
      have r0 := hc0 _ rfl
      have r1 := hcc 1 _ (by decide) rfl
      have r2 := hcc 2 _ (by decide) rfl
      have r3 := hcc 3 _ (by decide) rfl
      have r4 := hcc 4 _ (by decide) rfl
      have r5 := hcc 5 _ (by decide) rfl
      have r6 := hcc 6 _ (by decide) rfl
      obtain ⟨p0, hp0⟩ : ∃ p, y0 % 200 = p := ⟨_, rfl⟩
      have b0 := mod_in hp0 (by decide)
      have HP0 : Hid _ := hid hp0
      obtain ⟨p1, hp1⟩ : ∃ p, y1 % 40 = p := ⟨_, rfl⟩
      have b1 := mod_in hp1 (by decide)
      have HP1 : Hid _ := hid hp1
      obtain ⟨p2, hp2⟩ : ∃ p, y2 % 900 = p := ⟨_, rfl⟩
      have b2 := mod_in hp2 (by decide)
      have HP2 : Hid _ := hid hp2
      obtain ⟨p3, hp3⟩ : ∃ p, y3 % 60 = p := ⟨_, rfl⟩
      have b3 := mod_in hp3 (by decide)
      have HP3 : Hid _ := hid hp3
      obtain ⟨p4, hp4⟩ : ∃ p, y4 % 300 = p := ⟨_, rfl⟩
      have b4 := mod_in hp4 (by decide)
      have HP4 : Hid _ := hid hp4
      obtain ⟨p5, hp5⟩ : ∃ p, y5 % 12 = p := ⟨_, rfl⟩
      have b5 := mod_in hp5 (by decide)
      have HP5 : Hid _ := hid hp5
      obtain ⟨p6, hp6⟩ : ∃ p, y6 % 20 = p := ⟨_, rfl⟩
      have b6 := mod_in hp6 (by decide)
      have HP6 : Hid _ := hid hp6
      obtain ⟨p7, hp7⟩ : ∃ p, y6 % 25 = p := ⟨_, rfl⟩
      have b7 := mod_in hp7 (by decide)
      have HP7 : Hid _ := hid hp7
      have HE : Hid (madeL rows (k + 1) = madeL rows k ++ [(⟨1 + (k : Int) + 40 * p6, p0, p0 + p1, p2, p2 + p3, 20 + p4, 20 + p4 + p5, p7⟩ : Sg)]) := hid (by rw [madeL_snoc hr]; unfold madeG; simp only [List.getD_cons_zero, List.getD_cons_succ]; rw [hp0, hp1, hp2, hp3, hp4, hp5, hp6, hp7])
      clear hr her hc0 hcc hrl2 hp0 hp1 hp2 hp3 hp4 hp5 hp6 hp7
      obtain ⟨ua, uc, rfl, hul⟩ := owns_shape ho
      go_upto_region 6 with fail
      have r5w : Below wr.heap.size wr (wr.alloc (.cells #[.int .i64 y0, .int .i64 y1, .int .i64 y2, .int .i64 y3, .int .i64 y4, .int .i64 y5, .int .i64 y6] 158)) := (Below.refl _ _).alloc (Nat.le_refl _) _
      have yc : CellsAt (wr.alloc (.cells #[.int .i64 y0, .int .i64 y1, .int .i64 y2, .int .i64 y3, .int .i64 y4, .int .i64 y5, .int .i64 y6] 158)) wr.heap.size [.int .i64 y0, .int .i64 y1, .int .i64 y2, .int .i64 y3, .int .i64 y4, .int .i64 y5, .int .i64 y6] := CellsAt.new wr _ 158
      have ho9 := owns_below ho r5w
      have hB9 := bnext (w := w) hB r5w
      have hz9 := r5w.size
      generalize World.alloc wr _ = W9 at *
      clear r5w r0 r1 r2 r3 r4 r5 r6
      have c0 := (yc 0 _ rfl).1
      have c1 := (yc 1 _ rfl).1
      have c2 := (yc 2 _ rfl).1
      have c3 := (yc 3 _ rfl).1
      have c4 := (yc 4 _ rfl).1
      have c5 := (yc 5 _ rfl).1
      have c6 := (yc 6 _ rfl).1
      go_wp2_with fail
      refine (modB HP0.out (by decide) (by decide)).mono ?_
      rintro e wm ⟨rfl, rfl⟩
      go_wp2_with fail
      refine (modB HP2.out (by decide) (by decide)).mono ?_
      rintro e wm ⟨rfl, rfl⟩
      go_wp2_with fail
      refine (modB HP4.out (by decide) (by decide)).mono ?_
      rintro e wm ⟨rfl, rfl⟩
      go_upto_region 9 with fail
      refine wp_region_Rs [(5, fun v _ => v = .int .i64 p6), (12, fun v _ => v = .int .i64 p1), (19, fun v _ => v = .int .i64 p3), (26, fun v _ => v = .int .i64 p5), (31, fun v _ => v = .int .i64 p7), (33, NewList W9.heap.size 1 [.int .i64 (1 + (k : Int) + 40 * p6), .int .i64 p0, .int .i64 (p0 + p1), .int .i64 p2, .int .i64 (p2 + p3), .int .i64 (20 + p4), .int .i64 (20 + p4 + p5), .int .i64 p7])] [0, 1, 2, 3, 4, 5, 6, 7, 8, 9, 10, 11, 12, 13, 14, 15, 16, 17, 18, 19, 20, 21, 22, 23, 24, 25, 26, 27, 28, 29, 30, 31, 32, 33] 2 (by kernel_rfl) rfl (by simp only [List.forall_mem_cons]; exact ⟨keeps_eq, keeps_eq, keeps_eq, keeps_eq, keeps_eq, keeps_list, fun _ h => by cases h⟩) (by kernel_rfl) ?_
      simp only [numbered, List.filterMap_cons, List.filterMap_nil, List.getElem?_toArray, List.getElem?_cons_succ, List.getElem?_cons_zero, Option.map_some]
      show wpS _ _ _ _ _ _ _ [(_, _), (_, _), (_, _), (_, _), (_, _), (_, _), (_, _), (_, _), (_, _), (_, _), (_, _), (_, _), (_, _), (_, _), (_, _), (_, _), (_, _), (_, _), (_, _), (_, _), (_, _), (_, _), (_, _), (_, _), (_, _), (_, _), (_, _), (_, _), (_, _), (_, _), (_, _), (_, _), (_, _), (_, _)] _ _
      (refine wpS_quiet rfl rfl ?_; intro K2 hK inst hx; go_big_quiet_op; (first | go_big_quiet_on | (refine ⟨_, fun _ => rfl, ?_⟩; go_big_quiet_on)); clear hx inst)
      (refine wpS_quiet rfl rfl ?_; intro K2 hK inst hx; go_big_quiet_op; (first | go_big_quiet_on | (refine ⟨_, fun _ => rfl, ?_⟩; go_big_quiet_on)); clear hx inst)
      (refine wpS_quiet rfl rfl ?_; intro K2 hK inst hx; go_big_quiet_op; (first | go_big_quiet_on | (refine ⟨_, fun _ => rfl, ?_⟩; go_big_quiet_on)); clear hx inst)
      (refine wpS_quiet rfl rfl ?_; intro K2 hK inst hx; go_big_quiet_op; (first | go_big_quiet_on | (refine ⟨_, fun _ => rfl, ?_⟩; go_big_quiet_on)); clear hx inst)
      (refine wpS_quiet rfl rfl ?_; intro K2 hK inst hx; have sc6 := fun x => (fun _ => bkeep (BQ.below x) c6) (hx x); go_big_quiet_op; (first | go_big_quiet_on | (refine ⟨_, fun _ => rfl, ?_⟩; go_big_quiet_on)); clear hx inst)
      refine wpS_fresh rfl rfl (fun w' hb hF => ?_) ?_
      · change freshAt _ _ _ (fun v _ => v = .int .i64 p6) _; unfold freshAt; go_simp; exact modBR HP6.out (by decide) (by decide)
      intro v W hv; simp only [pOf, List.lookup_cons, Nat.reduceBEq, beq_self_eq_true] at hv; subst hv
      simp only [Act.put, List.setIfInBounds_toArray, List.set_cons_succ, List.set_cons_zero]
      (refine wpS_quiet rfl rfl ?_; intro K2 hK inst hx; go_big_quiet_op; (first | go_big_quiet_on | (refine ⟨_, fun _ => rfl, ?_⟩; go_big_quiet_on)); clear hx inst)
      (refine wpS_quiet rfl rfl ?_; intro K2 hK inst hx; go_big_quiet_op; (first | go_big_quiet_on | (refine ⟨_, fun _ => rfl, ?_⟩; go_big_quiet_on)); clear hx inst)
      (refine wpS_quiet rfl rfl ?_; intro K2 hK inst hx; go_big_quiet_op; (first | go_big_quiet_on | (refine ⟨_, fun _ => rfl, ?_⟩; go_big_quiet_on)); clear hx inst)
      (refine wpS_quiet rfl rfl ?_; intro K2 hK inst hx; go_big_quiet_op; (first | go_big_quiet_on | (refine ⟨_, fun _ => rfl, ?_⟩; go_big_quiet_on)); clear hx inst)
      (refine wpS_quiet rfl rfl ?_; intro K2 hK inst hx; go_big_quiet_op; (first | go_big_quiet_on | (refine ⟨_, fun _ => rfl, ?_⟩; go_big_quiet_on)); clear hx inst)
      (refine wpS_quiet rfl rfl ?_; intro K2 hK inst hx; have sc1 := fun x => (fun _ => bkeep (BQ.below x) c1) (hx x); go_big_quiet_op; (first | go_big_quiet_on | (refine ⟨_, fun _ => rfl, ?_⟩; go_big_quiet_on)); clear hx inst)
      refine wpS_fresh rfl rfl (fun w' hb hF => ?_) ?_
      · change freshAt _ _ _ (fun v _ => v = .int .i64 p1) _; unfold freshAt; go_simp; exact modBR HP1.out (by decide) (by decide)
      intro v W hv; simp only [pOf, List.lookup_cons, Nat.reduceBEq, beq_self_eq_true] at hv; subst hv
      simp only [Act.put, List.setIfInBounds_toArray, List.set_cons_succ, List.set_cons_zero]
      (refine wpS_quiet rfl rfl ?_; intro K2 hK inst hx; go_big_quiet_op; (first | go_big_quiet_on | (refine ⟨_, fun _ => rfl, ?_⟩; go_big_quiet_on)); clear hx inst)
      (refine wpS_quiet rfl rfl ?_; intro K2 hK inst hx; go_big_quiet_op; (first | go_big_quiet_on | (refine ⟨_, fun _ => rfl, ?_⟩; go_big_quiet_on)); clear hx inst)
      (refine wpS_quiet rfl rfl ?_; intro K2 hK inst hx; go_big_quiet_op; (first | go_big_quiet_on | (refine ⟨_, fun _ => rfl, ?_⟩; go_big_quiet_on)); clear hx inst)
      (refine wpS_quiet rfl rfl ?_; intro K2 hK inst hx; go_big_quiet_op; (first | go_big_quiet_on | (refine ⟨_, fun _ => rfl, ?_⟩; go_big_quiet_on)); clear hx inst)
      (refine wpS_quiet rfl rfl ?_; intro K2 hK inst hx; go_big_quiet_op; (first | go_big_quiet_on | (refine ⟨_, fun _ => rfl, ?_⟩; go_big_quiet_on)); clear hx inst)
      (refine wpS_quiet rfl rfl ?_; intro K2 hK inst hx; have sc3 := fun x => (fun _ => bkeep (BQ.below x) c3) (hx x); go_big_quiet_op; (first | go_big_quiet_on | (refine ⟨_, fun _ => rfl, ?_⟩; go_big_quiet_on)); clear hx inst)
      refine wpS_fresh rfl rfl (fun w' hb hF => ?_) ?_
      · change freshAt _ _ _ (fun v _ => v = .int .i64 p3) _; unfold freshAt; go_simp; exact modBR HP3.out (by decide) (by decide)
      intro v W hv; simp only [pOf, List.lookup_cons, Nat.reduceBEq, beq_self_eq_true] at hv; subst hv
      simp only [Act.put, List.setIfInBounds_toArray, List.set_cons_succ, List.set_cons_zero]
      (refine wpS_quiet rfl rfl ?_; intro K2 hK inst hx; go_big_quiet_op; (first | go_big_quiet_on | (refine ⟨_, fun _ => rfl, ?_⟩; go_big_quiet_on)); clear hx inst)
      (refine wpS_quiet rfl rfl ?_; intro K2 hK inst hx; go_big_quiet_op; (first | go_big_quiet_on | (refine ⟨_, fun _ => rfl, ?_⟩; go_big_quiet_on)); clear hx inst)
      (refine wpS_quiet rfl rfl ?_; intro K2 hK inst hx; go_big_quiet_op; (first | go_big_quiet_on | (refine ⟨_, fun _ => rfl, ?_⟩; go_big_quiet_on)); clear hx inst)
      (refine wpS_quiet rfl rfl ?_; intro K2 hK inst hx; go_big_quiet_op; (first | go_big_quiet_on | (refine ⟨_, fun _ => rfl, ?_⟩; go_big_quiet_on)); clear hx inst)
      (refine wpS_quiet rfl rfl ?_; intro K2 hK inst hx; go_big_quiet_op; (first | go_big_quiet_on | (refine ⟨_, fun _ => rfl, ?_⟩; go_big_quiet_on)); clear hx inst)
      (refine wpS_quiet rfl rfl ?_; intro K2 hK inst hx; have sc5 := fun x => (fun _ => bkeep (BQ.below x) c5) (hx x); go_big_quiet_op; (first | go_big_quiet_on | (refine ⟨_, fun _ => rfl, ?_⟩; go_big_quiet_on)); clear hx inst)
      refine wpS_fresh rfl rfl (fun w' hb hF => ?_) ?_
      · change freshAt _ _ _ (fun v _ => v = .int .i64 p5) _; unfold freshAt; go_simp; exact modBR HP5.out (by decide) (by decide)
      intro v W hv; simp only [pOf, List.lookup_cons, Nat.reduceBEq, beq_self_eq_true] at hv; subst hv
      simp only [Act.put, List.setIfInBounds_toArray, List.set_cons_succ, List.set_cons_zero]
      (refine wpS_quiet rfl rfl ?_; intro K2 hK inst hx; go_big_quiet_op; (first | go_big_quiet_on | (refine ⟨_, fun _ => rfl, ?_⟩; go_big_quiet_on)); clear hx inst)
      (refine wpS_quiet rfl rfl ?_; intro K2 hK inst hx; go_big_quiet_op; (first | go_big_quiet_on | (refine ⟨_, fun _ => rfl, ?_⟩; go_big_quiet_on)); clear hx inst)
      (refine wpS_quiet rfl rfl ?_; intro K2 hK inst hx; go_big_quiet_op; (first | go_big_quiet_on | (refine ⟨_, fun _ => rfl, ?_⟩; go_big_quiet_on)); clear hx inst)
      (refine wpS_quiet rfl rfl ?_; intro K2 hK inst hx; have sc6 := fun x => (fun _ => bkeep (BQ.below x) c6) (hx x); go_big_quiet_op; (first | go_big_quiet_on | (refine ⟨_, fun _ => rfl, ?_⟩; go_big_quiet_on)); clear hx inst)
      refine wpS_fresh rfl rfl (fun w' hb hF => ?_) ?_
      · change freshAt _ _ _ (fun v _ => v = .int .i64 p7) _; unfold freshAt; go_simp; exact modBR HP7.out (by decide) (by decide)
      intro v W hv; simp only [pOf, List.lookup_cons, Nat.reduceBEq, beq_self_eq_true] at hv; subst hv
      simp only [Act.put, List.setIfInBounds_toArray, List.set_cons_succ, List.set_cons_zero]
      (refine wpS_quiet rfl rfl ?_; intro K2 hK inst hx; go_big_quiet_op; (first | go_big_quiet_on | (refine ⟨_, fun _ => rfl, ?_⟩; go_big_quiet_on)); clear hx inst)
      refine wpS_fresh rfl rfl (fun w' hb hF => ?_) ?_
      · change freshAt _ _ _ (NewList W9.heap.size 1 [.int .i64 (1 + (k : Int) + 40 * p6), .int .i64 p0, .int .i64 (p0 + p1), .int .i64 p2, .int .i64 (p2 + p3), .int .i64 (20 + p4), .int .i64 (20 + p4 + p5), .int .i64 p7]) _; unfold freshAt; go_simp; exact list_of hb
      intro v W hv; simp only [pOf, List.lookup_cons, Nat.reduceBEq, beq_self_eq_true] at hv; obtain ⟨B33, hB33, rfl, -⟩ := hv
      simp only [Act.put, List.setIfInBounds_toArray, List.set_cons_succ, List.set_cons_zero]
      refine wpS_nil ?_
      intro w2 hall
      have hb := hall.1
      have h33 : NewList W9.heap.size 1 [.int .i64 (1 + (k : Int) + 40 * p6), .int .i64 p0, .int .i64 (p0 + p1), .int .i64 p2, .int .i64 (p2 + p3), .int .i64 (20 + p4), .int .i64 (20 + p4 + p5), .int .i64 p7] _ w2 := hall.2 33 _ rfl
      obtain ⟨B', hB', hv', hn'⟩ := h33
      obtain rfl : B33 = B' := by simpa using hv'
      clear hall
      have ho2 := owns_below ho9 hb
      have hB2 := bnext (w := w) hB9 hb
      have hzw2 := hb.size
      refine wpAny_ready (rs := [34]) (by kernel_rfl) (by simp) ?_
      refine AllReady.cons rfl (fun K hK => ?_) AllReady.nil
      refine (if_pos (show Region.wanted _ _ = true from rfl)).mpr ?_
      refine wp_append_own w2 (.tmp 36) (.tmp 69) 24 rfl w.heap.size 33 i0 (.agg #[.int .i64 0, .int .i64 0, .int .i64 0, .int .i64 0, .int .i64 0, .int .i64 0, .int .i64 0, .int .i64 0]) 8 64 Try.underlying24 hi0 hz0 hz1 hz2 rfl (by decide) (.slice ua k uc) k _ rfl ho2 ⟨B33, 0, none⟩ 1 1 [.int .i64 (1 + (k : Int) + 40 * p6), .int .i64 p0, .int .i64 (p0 + p1), .int .i64 p2, .int .i64 (p2 + p3), .int .i64 (20 + p4), .int .i64 (20 + p4 + p5), .int .i64 p7] rfl rfl (fun j u h => by rw [Go.WideShapes.add_plain, Nat.zero_add]; exact (hn' j u h).1) (one_cellsG (⟨1 + (k : Int) + 40 * p6, p0, p0 + p1, p2, p2 + p3, 20 + p4, 20 + p4 + p5, p7⟩ : Sg)) (by unfold maxLen; omega) (by omega) (by have := hB2.size; omega) ?_
      intro v70 w3 ho3 hg3 hnil3
      refine hK _ _ ?_
      clear hK K hnil3
      obtain ⟨xa, xc, rfl, -⟩ := owns_shape ho3
      have hB3 : Below w.heap.size w w3 := Pb.below_grown hB2 hg3 ho2 hB2.size (Nat.le_refl _)
      refine wpAny_ready (rs := [35]) (by kernel_rfl) (by simp) ?_
      refine AllReady.cons rfl (fun K hK => ?_) AllReady.nil
      go_simp
      refine hK _ _ ?_; clear hK K
      refine wpAny_done (by kernel_rfl) ?_ _
      clear hB2 ho2 hg3 hn' hB9 ho9 yc c0 c1 c2 c3 c4 c5 c6
      go_wp2_with fail
      go_roundg (K - (k + 1))
      case measure => have h := HGK.out; omega
      case rel => exact ⟨k + 1, by omega, rfl, by go_num, by rw [HE.out, List.flatMap_append, List.flatMap_singleton]; exact ho3, hB3⟩
    · obtain rfl : k = K := by omega
      by_cases hkn : k < n
      · have hki : (k : Int) < (n : Int) := by omega
        have hkm : ¬ (k : Int) < (most : Int) := by have := HK.out; omega
        go_wp2_with fail
        go_ret
        exact ⟨_, rfl, hB, rows_of_owns (by rw [madeL_len]; exact ho) (madeL_i64 (by omega))⟩
      · have hki : ¬ (k : Int) < (n : Int) := by omega
        go_wp2_with fail
        go_ret
        exact ⟨_, rfl, hB, rows_of_owns (by rw [madeL_len]; exact ho) (madeL_i64 (by omega))⟩

end Go.Proofs.Ytnchhleokdkejaa

/- A bung of made saggars, in an order that numbers choose. -/
namespace Go.Proofs.Ytnchhleokdkejaa
open Go.RowKit Go.Pb Go.Pb.Ware Go.Pb.Sag
set_option linter.unusedVariables false
set_option linter.unusedSimpArgs false

open Go.Proofs Go.Pb.Bung
theorem wad_made (n0 n1 : Int) : wadOk (n0 % 15) (n0 % 15 + n1 % 10) = true := by
  unfold wadOk
  rw [rgOk_iff]
  dsimp only
  omega
theorem wad_small {lo hi : Int} (h : wadOk lo hi = true) : (0 ≤ lo ∧ lo ≤ hi) ∧ hi ≤ 200 := by
  unfold wadOk at h
  rw [rgOk_iff] at h
  exact ⟨⟨h.1, h.2.1⟩, h.2.2⟩
end Go.Proofs.Ytnchhleokdkejaa

/- BungCounted returns true. -/
namespace Go.Proofs.Ytnchhleokdkejaa
open Go.RowKit Go.Pb Go.Pb.Ware Go.Pb.Sag
set_option linter.unusedVariables false
set_option linter.unusedSimpArgs false

open Go.Proofs Go.Pb.Bung
theorem hh_perm {l m : List Sg} (h : l.Perm m) : (l.map (·.hh)).sum = (m.map (·.hh)).sum := by
  induction h with
  | nil => rfl
  | cons x _ ih => rw [List.map_cons, List.map_cons, List.sum_cons, List.sum_cons, ih]
  | swap x y l => simp only [List.map_cons, List.sum_cons]; omega
  | trans _ _ h1 h2 => rw [h1, h2]
theorem does_high {lo hi : Int} {l : List Sg} {cr le : Int} {g : List Int} (hd : doesB lo hi l cr le g = true) : ((g.length - 1 : Nat) : Int) * hi + ((chosenG l g).map (·.hh)).sum ≤ cr := by
  unfold doesB at hd
  rw [decide_eq_true_iff, fit_one] at hd
  have h := hd.2.1
  rw [hiL_is, hh_perm (ruledL_perm _), ruledL_length, chosen_length] at h
  omega
theorem yard_mk {lo hi cr le : Int} {l : List Sg} (hw : wadOk lo hi = true) (hl : listOk l = true) (h1 : 0 ≤ cr ∧ cr ≤ 400000) (h2 : 0 ≤ le ∧ le ≤ 100000) : ckYd lo hi l cr le = 0 := by
  unfold ckYd ckWd ckLs ckSp
  rw [if_pos hw, if_pos hl, if_pos (show (btw cr 0 400000 && btw le 0 100000) = true by rw [Bool.and_eq_true, btw_iff, btw_iff]; exact ⟨h1, h2⟩)]
  rfl
theorem pt_val {lo hi cr le : Int} {l : List Sg} {gs : List (List Int)} (hy : ckYd lo hi l cr le = 0) (ha : Go.Pb.Sag.Acc l.length gs) : ckPt lo hi l cr le gs = if allB lo hi l cr le gs = true then 0 else 3 := by
  unfold ckPt
  rw [if_neg (by rw [hy]; simp), if_pos (are_acc.2 ha)]
theorem all_iff {lo hi cr le : Int} {l : List Sg} {gs : List (List Int)} : allB lo hi l cr le gs = true ↔ ∀ g ∈ gs, doesB lo hi l cr le g = true := by unfold allB; rw [List.all_eq_true]
def fewV : Option (List (List Int)) → List (List Int) × Int
  | some gs => (gs, 0)
  | none => ([], 3)
theorem few_val {lo hi cr le : Int} {l : List Sg} {r : Option (List (List Int))} (hy : ckYd lo hi l cr le = 0) (hn : l.length ≤ 9) (hr : fewG (doesB lo hi l cr le) l.length = r) : fewA lo hi l cr le = fewV r := by
  unfold fewA
  rw [if_neg (by rw [hy]; simp), if_neg (by omega), hr]
  cases r <;> rfl

set_option maxRecDepth 100000 in
set_option maxHeartbeats 1000000 in
theorem bungCounted_walk {w : World} {v u pv : Value} {rows : List (List Int)} {zs ps : List Int} {n0 n1 c0 c1 : Int} (h : RowsAt 7 w v rows) (ho : NumsAt w u zs) (hp : NumsAt w pv ps) :
    Calls Try.prog 17 #[.agg #[v, u, .int .i64 n0, .int .i64 n1], .agg #[.int .i64 c0, .int .i64 c1], pv] w (Ret w (.bool true)) := by
  unfold Ret
  obtain ⟨pa, pc, rfl, hp1, hp2⟩ := hp.shape
  obtain ⟨pn, hpn⟩ : ∃ n, ps.length = n := ⟨_, rfl⟩
  rw [hpn] at hp hp1 ⊢
  clear hpn
  obtain ⟨ra, rc, rfl, hrl⟩ := h.shape
  obtain ⟨oa, oc, rfl, ho1, ho2⟩ := ho.shape
  obtain ⟨rn, hrn⟩ : ∃ n, rows.length = n := ⟨_, rfl⟩
  obtain ⟨on, hon⟩ : ∃ n, zs.length = n := ⟨_, rfl⟩
  rw [hrn] at h hrl ⊢
  rw [hon] at ho ⊢
  have HRN := hid hrn; clear hrn hon ho1
  obtain ⟨K, hK⟩ : ∃ K, min rows.length 6 = K := ⟨_, rfl⟩
  have HKK := hid hK
  have hK6 : K ≤ 6 := by omega
  clear hK
  obtain ⟨lo, hlo⟩ : ∃ z, n0 % 15 = z := ⟨_, rfl⟩
  obtain ⟨hi, hhi⟩ : ∃ z, lo + n1 % 10 = z := ⟨_, rfl⟩
  have hwd : wadOk lo hi = true := by have h := wad_made n0 n1; rw [hlo, hhi] at h; exact h
  have hws := wad_small hwd
  have hWd := fun (W : World) => (rWadM (w := W) (n0 := n0) (n1 := n1))
  rw [hlo, hhi] at hWd
  have HWd := hid hWd
  have HWD := hid hwd
  clear hlo hhi hwd hWd
  obtain ⟨cr, hcr⟩ : ∃ z, c0 % 1200 = z := ⟨_, rfl⟩
  obtain ⟨le, hle⟩ : ∃ z, c1 % 40 = z := ⟨_, rfl⟩
  have hcrb := mod_in hcr (by decide); have hleb := mod_in hle (by decide)
  have HCR := hid hcr; have HLE := hid hle; clear hcr hle
  go_enter Try.func17, Try.ntmps17
  go_upto_region 1 with fail
  generalize hW : World.alloc (World.alloc w _) _ = w1
  have y0 : CellsAt w1 w.heap.size [.slice ra rn rc, .slice oa on oc, .int .i64 n0, .int .i64 n1] := by rw [← hW]; exact (CellsAt.new w [.slice ra rn rc, .slice oa on oc, .int .i64 n0, .int .i64 n1] 92).alloc _
  have yb : CellsAt w1 (w.heap.size + 1) [.int .i64 c0, .int .i64 c1] := by rw [← hW]; have h := CellsAt.new (w.alloc (.cells #[.slice ra rn rc, .slice oa on oc, .int .i64 n0, .int .i64 n1] 92)) [.int .i64 c0, .int .i64 c1] 90; rwa [World.size_alloc] at h
  have hB : Below w.heap.size w w1 := by rw [← hW]; exact ((Below.refl _ w).alloc (Nat.le_refl _) _).alloc (by simp) _
  clear hW
  have y0_0 := (y0 0 _ rfl).1
  have y0_1 := (y0 1 _ rfl).1
  have y0_2 := (y0 2 _ rfl).1
  have y0_3 := (y0 3 _ rfl).1
  have yb_0 := (yb 0 _ rfl).1
  have yb_1 := (yb 1 _ rfl).1
  go_wp2_with fail
  refine (sane_any).mono ?_
  rintro e w1 ⟨rfl, hb⟩
  clear y0_0 y0_1 y0_2 y0_3 yb_0 yb_1
  replace y0 := y0.below hb
  replace yb := yb.below hb
  replace hB := bnext (w := w) hB hb
  clear hb
  (try dsimp only)
  have y0_0 := (y0 0 _ rfl).1
  have y0_1 := (y0 1 _ rfl).1
  have y0_2 := (y0 2 _ rfl).1
  have y0_3 := (y0 3 _ rfl).1
  have yb_0 := (yb 0 _ rfl).1
  have yb_1 := (yb 1 _ rfl).1
  go_wp2_with fail
  refine (rMade_any (K := K) (most := 6) (h.below hB) (by decide) HKK.out).mono ?_
  rintro e w1 ⟨mv, rfl, hb, hl⟩
  clear y0_0 y0_1 y0_2 y0_3 yb_0 yb_1
  replace y0 := y0.below hb
  replace yb := yb.below hb
  replace hB := bnext (w := w) hB hb
  clear hb
  (try dsimp only)
  have y0_0 := (y0 0 _ rfl).1
  have y0_1 := (y0 1 _ rfl).1
  have y0_2 := (y0 2 _ rfl).1
  have y0_3 := (y0 3 _ rfl).1
  have yb_0 := (yb 0 _ rfl).1
  have yb_1 := (yb 1 _ rfl).1
  have hlen0 := madeL_len rows K
  have hlk0 := madeL_ok (rows := rows) (show K ≤ 12 by omega)
  generalize madeL rows K = l at *
  have HN := hid hlen0; have HLK := hid hlk0; clear hlen0 hlk0
  obtain ⟨sa, sc, rfl, hsl⟩ := hl.shape
  simp only [List.length_map, HN.out] at hl hsl ⊢
  go_wp2_with fail
  refine (HWd.out _).mono ?_
  rintro e w1 ⟨rfl, hb⟩
  clear y0_0 y0_1 y0_2 y0_3 yb_0 yb_1
  replace y0 := y0.below hb
  replace yb := yb.below hb
  replace hl := hl.below hb
  replace hB := bnext (w := w) hB hb
  clear hb
  (try dsimp only)
  have y0_0 := (y0 0 _ rfl).1
  have y0_1 := (y0 1 _ rfl).1
  have y0_2 := (y0 2 _ rfl).1
  have y0_3 := (y0 3 _ rfl).1
  have yb_0 := (yb 0 _ rfl).1
  have yb_1 := (yb 1 _ rfl).1
  obtain ⟨vA, hv9⟩ : ∃ v, v = w1 := ⟨_, rfl⟩
  subst hv9
  go_upto_region 4 with fail
  generalize hW : World.alloc vA _ = vB
  have yw : CellsAt vB vA.heap.size [.int .i64 lo, .int .i64 hi] := by rw [← hW]; exact CellsAt.new vA [.int .i64 lo, .int .i64 hi] 23
  have hb : Below vA.heap.size vA vB := by rw [← hW]; exact (Below.refl _ _).alloc (Nat.le_refl _) _
  clear y0_0 y0_1 y0_2 y0_3 yb_0 yb_1
  replace y0 := y0.below hb
  replace yb := yb.below hb
  replace hl := hl.below hb
  replace hB := bnext (w := w) hB hb
  clear hW hb
  have y0_0 := (y0 0 _ rfl).1
  have y0_1 := (y0 1 _ rfl).1
  have y0_2 := (y0 2 _ rfl).1
  have y0_3 := (y0 3 _ rfl).1
  have yb_0 := (yb 0 _ rfl).1
  have yb_1 := (yb 1 _ rfl).1
  have yw_0 := (yw 0 _ rfl).1
  have yw_1 := (yw 1 _ rfl).1
  obtain ⟨vr, hvr⟩ : ∃ v, v = vB := ⟨_, rfl⟩
  subst hvr
  refine wp_region_Rs [(2, fun v _ => v = .int .i64 cr), (5, fun v _ => v = .int .i64 le), (7, NewCells vr.heap.size [.int .i64 0, .int .i64 0])] [0, 1, 2, 3, 4, 5, 6, 7] 1 (by kernel_rfl) rfl (by simp only [List.forall_mem_cons]; exact ⟨keeps_eq, keeps_eq, keeps_new, fun _ h => by cases h⟩) (by kernel_rfl) ?_
  simp only [numbered, List.filterMap_cons, List.filterMap_nil, List.getElem?_toArray, List.getElem?_cons_succ, List.getElem?_cons_zero, Option.map_some]
  show wpS _ _ _ _ _ _ _ [(_, _), (_, _), (_, _), (_, _), (_, _), (_, _), (_, _), (_, _)] _ _
  (refine wpS_quiet rfl rfl ?_; intro K hK inst hx; have s0 := fun x => (fun _ => bkeep (BQ.below x) yb_0) (hx x); have s1 := fun x => (fun _ => bkeep (BQ.below x) yb_1) (hx x); go_big_quiet_op; (first | go_big_quiet_on | (refine ⟨_, fun _ => rfl, ?_⟩; go_big_quiet_on)); clear hx inst)
  (refine wpS_quiet rfl rfl ?_; intro K hK inst hx; have s0 := fun x => (fun _ => bkeep (BQ.below x) yb_0) (hx x); have s1 := fun x => (fun _ => bkeep (BQ.below x) yb_1) (hx x); go_big_quiet_op; (first | go_big_quiet_on | (refine ⟨_, fun _ => rfl, ?_⟩; go_big_quiet_on)); clear hx inst)
  refine wpS_fresh rfl rfl (fun w' hb hF => ?_) ?_
  · change freshAt _ _ _ (fun v _ => v = .int .i64 cr) _; unfold freshAt; go_simp; exact modBR HCR.out (by decide) (by decide)
  intro v W hv; simp only [pOf, List.lookup_cons, Nat.reduceBEq, beq_self_eq_true] at hv; subst hv
  simp only [Act.put, List.setIfInBounds_toArray, List.set_cons_succ, List.set_cons_zero]
  (refine wpS_quiet rfl rfl ?_; intro K hK inst hx; have s0 := fun x => (fun _ => bkeep (BQ.below x) yb_0) (hx x); have s1 := fun x => (fun _ => bkeep (BQ.below x) yb_1) (hx x); go_big_quiet_op; (first | go_big_quiet_on | (refine ⟨_, fun _ => rfl, ?_⟩; go_big_quiet_on)); clear hx inst)
  (refine wpS_quiet rfl rfl ?_; intro K hK inst hx; have s0 := fun x => (fun _ => bkeep (BQ.below x) yb_0) (hx x); have s1 := fun x => (fun _ => bkeep (BQ.below x) yb_1) (hx x); go_big_quiet_op; (first | go_big_quiet_on | (refine ⟨_, fun _ => rfl, ?_⟩; go_big_quiet_on)); clear hx inst)
  refine wpS_fresh rfl rfl (fun w' hb hF => ?_) ?_
  · change freshAt _ _ _ (fun v _ => v = .int .i64 le) _; unfold freshAt; go_simp; exact modBR HLE.out (by decide) (by decide)
  intro v W hv; simp only [pOf, List.lookup_cons, Nat.reduceBEq, beq_self_eq_true] at hv; subst hv
  simp only [Act.put, List.setIfInBounds_toArray, List.set_cons_succ, List.set_cons_zero]
  (refine wpS_quiet rfl rfl ?_; intro K hK inst hx; have s0 := fun x => (fun _ => bkeep (BQ.below x) yb_0) (hx x); have s1 := fun x => (fun _ => bkeep (BQ.below x) yb_1) (hx x); go_big_quiet_op; (first | go_big_quiet_on | (refine ⟨_, fun _ => rfl, ?_⟩; go_big_quiet_on)); clear hx inst)
  refine wpS_fresh rfl rfl (fun w' hb hF => ?_) ?_
  · change freshAt _ _ _ (NewCells vr.heap.size [.int .i64 0, .int .i64 0]) _; unfold freshAt; go_simp; exact new_of hb
  intro v W hv; simp only [pOf, List.lookup_cons, Nat.reduceBEq, beq_self_eq_true] at hv; obtain ⟨B7, hB7, rfl, -⟩ := hv
  simp only [Act.put, List.setIfInBounds_toArray, List.set_cons_succ, List.set_cons_zero]
  refine wpS_nil ?_
  intro w2 hall
  have hb := hall.1
  have hN : NewCells vr.heap.size [.int .i64 0, .int .i64 0] _ w2 := hall.2 7 _ rfl
  obtain ⟨B', hB', hv', hn⟩ := hN
  obtain rfl : B7 = B' := by simpa using hv'
  have k0 := (hn 0 _ rfl).1; have k1 := (hn 1 _ rfl).1; have m0 := (hn 0 _ rfl).2; have m1 := (hn 1 _ rfl).2
  clear hall hv'
  refine wpAny_ready (rs := [8]) (by kernel_rfl) (by simp) ?_
  refine AllReady.cons rfl (fun K hK => ?_) AllReady.nil
  go_simp
  refine hK _ _ ?_; clear hK K
  refine wpAny_done (by kernel_rfl) ?_ _
  have yx := cells_store (o := 1) (u := .int .i64 le) (cells_store (o := 0) (u := .int .i64 cr) (show CellsAt w2 B7 [.int .i64 0, .int .i64 0] from hn))
  replace hb := (hb.setCell (p := ⟨B7, 0, none⟩) hB7 (.int .i64 cr)).setCell (p := ⟨B7, 1, none⟩) hB7 (.int .i64 le)
  clear hn k0 k1 m0 m1 hB'
  generalize (World.setCell _ _ _ : World) = w1 at *
  have yx : CellsAt w1 B7 [.int .i64 cr, .int .i64 le] := yx
  clear y0_0 y0_1 y0_2 y0_3 yb_0 yb_1 yw_0 yw_1
  replace y0 := y0.below hb
  replace yb := yb.below hb
  replace yw := yw.below hb
  replace hl := hl.below hb
  replace hB := bnext (w := w) hB hb
  clear hb
  clear y0 yb
  have yw_0 := (yw 0 _ rfl).1
  have yw_1 := (yw 1 _ rfl).1
  have yx_0 := (yx 0 _ rfl).1
  have yx_1 := (yx 1 _ rfl).1
  have hyd := yard_mk (cr := cr) (le := le) HWD.out HLK.out (by omega) (by omega)
  have HYD := hid hyd
  have hdn := does_down (lo := lo) (hi := hi) (cr := cr) (le := le) HLK.out (by omega) (by omega)
  have HDN := hid hdn; clear hyd hdn
  obtain ⟨fr, hfr⟩ : ∃ r, fewG (doesB lo hi l cr le) l.length = r := ⟨_, rfl⟩
  have hfv := few_val HYD.out (by rw [HN.out]; omega) hfr
  cases fr with
  | none =>
    replace hfv : fewA lo hi l cr le = ([], 3) := hfv
    have HFV := hid hfv; have HFR := hid hfr; clear hfv hfr
    go_wp2_with fail
    refine (Fewest_any hl HFV.out).mono ?_
    rintro e w1 ⟨pv, rfl, hb, hgr⟩
    clear yw_0 yw_1 yx_0 yx_1
    replace yw := yw.below hb
    replace yx := yx.below hb
    replace hl := hl.below hb
    replace hB := bnext (w := w) hB hb
    clear hb
    (try dsimp only)
    have yw_0 := (yw 0 _ rfl).1
    have yw_1 := (yw 1 _ rfl).1
    have yx_0 := (yx 0 _ rfl).1
    have yx_1 := (yx 1 _ rfl).1
    clear hgr
    go_wp2_with fail
    refine (rParts_any (n := K) (most := 6) (hp.below hB) (by omega) (by decide) (by decide)).mono ?_
    rintro e w1 ⟨tv, gs2, rfl, hb, ht, hta⟩
    clear yw_0 yw_1 yx_0 yx_1
    replace yw := yw.below hb
    replace yx := yx.below hb
    replace hl := hl.below hb
    replace hB := bnext (w := w) hB hb
    clear hb
    (try dsimp only)
    have yw_0 := (yw 0 _ rfl).1
    have yw_1 := (yw 1 _ rfl).1
    have yx_0 := (yx 0 _ rfl).1
    have yx_1 := (yx 1 _ rfl).1
    have HTA : Hid (Go.Pb.Sag.Acc l.length gs2) := hid (by rw [HN.out]; exact hta)
    have htl := acc_len hta
    clear hta
    obtain ⟨al, hal⟩ : ∃ b, allB lo hi l cr le gs2 = b := ⟨_, rfl⟩
    have hcp := pt_val HYD.out HTA.out
    have HAL := hid hal
    rw [hal] at hcp
    obtain ⟨f, hf⟩ : ∃ f, (if al = true then (0 : Int) else 3) = f := ⟨_, rfl⟩
    rw [hf] at hcp
    have HCP := hid hcp
    have hft : al = true → f = 0 := fun e => by rw [← hf, if_pos e]
    have hff : al = false → f = 3 := fun e => by rw [← hf, if_neg (by rw [e]; simp)]
    clear hal hcp hf
    go_wp2_with fail
    refine (ckPt_any hl ht (by omega) HCP.out).mono ?_
    rintro e w1 ⟨rfl, hb⟩
    clear yw_0 yw_1 yx_0 yx_1
    replace yw := yw.below hb
    replace yx := yx.below hb
    replace hl := hl.below hb
    replace ht := ht.below hb
    replace hB := bnext (w := w) hB hb
    clear hb
    (try dsimp only)
    have yw_0 := (yw 0 _ rfl).1
    have yw_1 := (yw 1 _ rfl).1
    have yx_0 := (yx 0 _ rfl).1
    have yx_1 := (yx 1 _ rfl).1
    cases al
    · obtain rfl : f = 3 := hff rfl
      clear HCP hft hff
      go_wp2_with fail
      go_ret
      exact ⟨rfl, hB⟩
    · exact absurd (all_iff.1 HAL.out) (fun hh => few_none HDN.out HFR.out gs2 HTA.out hh)
  | some gs =>
    replace hfv : fewA lo hi l cr le = (gs, 0) := hfv
    have HFV := hid hfv
    obtain ⟨⟨hpa, hpd⟩, hmin⟩ := few_some HDN.out hfr
    have HPA := hid hpa; have HPD := hid hpd; have HMIN := hid hmin; have hpl := acc_len hpa
    rw [HN.out] at hpl
    clear hfv hfr hpa hpd hmin
    go_wp2_with fail
    refine (Fewest_any hl HFV.out).mono ?_
    rintro e w1 ⟨pv, rfl, hb, hgr⟩
    clear yw_0 yw_1 yx_0 yx_1
    replace yw := yw.below hb
    replace yx := yx.below hb
    replace hl := hl.below hb
    replace hB := bnext (w := w) hB hb
    clear hb
    (try dsimp only)
    dsimp only at hgr
    have yw_0 := (yw 0 _ rfl).1
    have yw_1 := (yw 1 _ rfl).1
    have yx_0 := (yx 0 _ rfl).1
    have yx_1 := (yx 1 _ rfl).1
    have hpv := groupsAt_lists hgr (fun g hg z hz => by have := (acc_small HPA.out).2 g hg z hz; rw [HN.out] at this; exact I64.mk (by omega) (by omega))
    clear hgr
    have hpv0 := hpv
    obtain ⟨qa, qc, rfl, -⟩ := hpv0
    obtain ⟨q, hq⟩ : ∃ q, gs.length = q := ⟨_, rfl⟩
    have HQ := hid hq
    rw [hq] at hpl
    (try rw [hq])
    have HQV : Hid (∀ W, ListsAt (.slice qa gs.length qc) gs W = ListsAt (.slice qa q qc) gs W) := hid (fun W => by rw [hq])
    rw [hq] at hpv
    clear hq
    go_wp2_with fail
    refine (rParts_any (n := K) (most := 6) (hp.below hB) (by omega) (by decide) (by decide)).mono ?_
    rintro e w1 ⟨tv, gs2, rfl, hb, ht, hta⟩
    clear yw_0 yw_1 yx_0 yx_1
    replace yw := yw.below hb
    replace yx := yx.below hb
    replace hl := hl.below hb
    replace hpv := hpv.below hb
    replace hB := bnext (w := w) hB hb
    clear hb
    (try dsimp only)
    have yw_0 := (yw 0 _ rfl).1
    have yw_1 := (yw 1 _ rfl).1
    have yx_0 := (yx 0 _ rfl).1
    have yx_1 := (yx 1 _ rfl).1
    have HTA : Hid (Go.Pb.Sag.Acc l.length gs2) := hid (by rw [HN.out]; exact hta)
    have htl := acc_len hta
    clear hta
    obtain ⟨al, hal⟩ : ∃ b, allB lo hi l cr le gs2 = b := ⟨_, rfl⟩
    have hcp := pt_val HYD.out HTA.out
    have HAL := hid hal
    rw [hal] at hcp
    obtain ⟨f, hf⟩ : ∃ f, (if al = true then (0 : Int) else 3) = f := ⟨_, rfl⟩
    rw [hf] at hcp
    have HCP := hid hcp
    have hft : al = true → f = 0 := fun e => by rw [← hf, if_pos e]
    have hff : al = false → f = 3 := fun e => by rw [← hf, if_neg (by rw [e]; simp)]
    clear hal hcp hf
    go_wp2_with fail
    refine (ckPt_any hl ht (by omega) HCP.out).mono ?_
    rintro e w1 ⟨rfl, hb⟩
    clear yw_0 yw_1 yx_0 yx_1
    replace yw := yw.below hb
    replace yx := yx.below hb
    replace hl := hl.below hb
    replace hpv := hpv.below hb
    replace ht := ht.below hb
    replace hB := bnext (w := w) hB hb
    clear hb
    (try dsimp only)
    have yw_0 := (yw 0 _ rfl).1
    have yw_1 := (yw 1 _ rfl).1
    have yx_0 := (yx 0 _ rfl).1
    have yx_1 := (yx 1 _ rfl).1
    have ht0 := ht
    obtain ⟨ta, tc, rfl, -⟩ := ht0
    obtain ⟨t, htq⟩ : ∃ t, gs2.length = t := ⟨_, rfl⟩
    have HTQ := hid htq
    rw [htq] at ht htl
    (try rw [htq])
    clear htq
    have HCQ : Hid (ckPt lo hi l cr le gs = 0) := hid (by rw [pt_val HYD.out HPA.out, if_pos (all_iff.2 HPD.out)])
    obtain ⟨v8, hv8⟩ : ∃ v, v = w1 := ⟨_, rfl⟩
    subst hv8
    skip
    have hmn : al = true → q ≤ t := fun e => by subst e; have h9 := HMIN.out gs2 HTA.out (all_iff.1 HAL.out); rw [HQ.out, HTQ.out] at h9; exact h9
    go_wp2_with fail
    refine (ckPt_any hl hpv (by rw [HQ.out]; omega) HCQ.out).mono ?_
    rintro e w1 ⟨rfl, hb⟩
    clear yw_0 yw_1 yx_0 yx_1
    replace yw := yw.below hb
    replace yx := yx.below hb
    replace hl := hl.below hb
    replace hpv := hpv.below hb
    replace ht := ht.below hb
    replace hB := bnext (w := w) hB hb
    clear hb HCP HCQ
    have yw_0 := (yw 0 _ rfl).1
    have yw_1 := (yw 1 _ rfl).1
    have yx_0 := (yx 0 _ rfl).1
    have yx_1 := (yx 1 _ rfl).1
    obtain ⟨v9, hv9⟩ : ∃ v, v = w1 := ⟨_, rfl⟩
    subst hv9
    cases al
    · clear hmn
      obtain rfl : f = 3 := hff rfl
      clear hft hff
      go_upto_region 12 with fail
      clear yw_0 yw_1 yx_0 yx_1
      go_wp2_with fail
      go_loopg [15] q (fun gk iv wr => ∃ k : Nat, k ≤ q ∧ gk = q - k ∧ iv = .int .i64 k ∧ Below v9.heap.size v9 wr)
      case atStart => exact ⟨0, Nat.zero_le _, rfl, rfl, Below.refl _ _⟩
      case round =>
        obtain ⟨k, hk, hgk, rfl, hK9⟩ := hrel
        have HGK := hid hgk; clear hgk
        replace yw := yw.below hK9; replace yx := yx.below hK9; replace hl := hl.below hK9; replace hpv := hpv.below hK9; replace hB := bnext (w := w) hB hK9
        by_cases hlt : k < q
        · have hki : (k : Int) < (q : Int) := by omega
          have hk00 : (0 : Int) ≤ (k : Int) := by omega
          obtain ⟨g, hgk⟩ : ∃ g, gs[k]? = some g := ⟨_, List.getElem?_eq_getElem (by rw [HQ.out]; exact hlt)⟩
          obtain ⟨qa', qc', hqe, hrow⟩ := hpv
          injection hqe with e1 e2 e3
          subst e1; subst e3
          obtain ⟨a', ha, ru, hcu, hnu⟩ := hrow k g hgk
          subst ha
          clear hrow e2
          obtain ⟨ga, gc, rfl, hg1, hg2⟩ := hnu.shape
          obtain ⟨m, hm⟩ : ∃ m, g.length = m := ⟨_, rfl⟩
          have HM := hid hm
          have hmb : m ≤ 6 := by have h9 := (acc_small HPA.out).1 g (List.mem_of_getElem? hgk); rw [HN.out, hm] at h9; omega
          have hm1 : 1 ≤ m := by obtain ⟨x, hx⟩ := HPA.out.one k g hgk; have := (List.getElem?_eq_some_iff.1 hx).1; omega
          have HDG := hid (does_high (HPD.out g (List.mem_of_getElem? hgk)))
          have HLO := hid (HPA.out.lo k g hgk)
          rw [hm] at hcu hnu hg1
          rw [hm] at HDG
          have hhm0 : (0 : Int) ≤ ((m - 1 : Nat) : Int) := by omega
          have hmul : ∀ z : Int, lo ≤ z → z ≤ hi → IntKind.i64.wrap (((m : Int) - 1) * z) = ((m : Int) - 1) * z ∧ 0 ≤ ((m : Int) - 1) * z ∧ ((m : Int) - 1) * z ≤ ((m - 1 : Nat) : Int) * hi ∧ ((m : Int) - 1) * z ≤ 1200 := fun z h1 h2 => by
            have e0 : ((m : Int) - 1) = ((m - 1 : Nat) : Int) := by omega
            have e1 := Int.mul_le_mul_of_nonneg_left h2 hhm0
            have e2 := Int.mul_nonneg hhm0 (show 0 ≤ z by omega)
            have e3 : ((m - 1 : Nat) : Int) * hi ≤ 6 * 200 := Int.mul_le_mul (by omega) (by omega) (by omega) (by omega)
            rw [e0]
            exact ⟨IntWalk.i64_in _ (by omega), e2, e1, by omega⟩
          have hwm1 : IntKind.i64.wrap ((m : Int) - 1) = (m : Int) - 1 := IntWalk.i64_in _ (by omega)
          have HMU := hid hmul; clear hm hgk hmul
          have w0 := (yw 0 _ rfl).1; have w1' := (yw 1 _ rfl).1
          have hpk := hp.below hB
          obtain ⟨GK, rfl⟩ : ∃ GK, GK = gk := ⟨_, rfl⟩
          obtain ⟨vr, hvr⟩ : ∃ v, v = wr := ⟨_, rfl⟩
          subst hvr
          go_upto_region 15 with fail
          refine wp_region_Rs [(9, IsI64), (10, InRg lo hi)] [0, 1, 2, 3, 4, 5, 6, 7, 8, 9, 10, 11, 12] 0 (by kernel_rfl) rfl (by simp only [List.forall_mem_cons]; exact ⟨keeps_isI64, keeps_inRg, fun _ h => by cases h⟩) (by kernel_rfl) ?_
          simp only [numbered, List.filterMap_cons, List.filterMap_nil, List.getElem?_toArray, List.getElem?_cons_succ, List.getElem?_cons_zero, Option.map_some]
          show wpS _ _ _ _ _ _ _ [(_, _), (_, _), (_, _), (_, _), (_, _), (_, _), (_, _), (_, _), (_, _), (_, _), (_, _), (_, _), (_, _)] _ _
          (refine wpS_quiet rfl rfl ?_; intro K hK inst hx; have s0 := fun x => (fun _ => bkeep (BQ.below x) hcu) (hx x); have s1 := fun x => (fun _ => bkeep (BQ.below x) w0) (hx x); have s2 := fun x => (fun _ => bkeep (BQ.below x) w1') (hx x); go_big_quiet_op; (first | go_big_quiet_on | (refine ⟨_, fun _ => rfl, ?_⟩; go_big_quiet_on)); clear hx inst)
          (refine wpS_quiet rfl rfl ?_; intro K hK inst hx; have s0 := fun x => (fun _ => bkeep (BQ.below x) hcu) (hx x); have s1 := fun x => (fun _ => bkeep (BQ.below x) w0) (hx x); have s2 := fun x => (fun _ => bkeep (BQ.below x) w1') (hx x); go_big_quiet_op; (first | go_big_quiet_on | (refine ⟨_, fun _ => rfl, ?_⟩; go_big_quiet_on)); clear hx inst)
          (refine wpS_quiet rfl rfl ?_; intro K hK inst hx; have s0 := fun x => (fun _ => bkeep (BQ.below x) hcu) (hx x); have s1 := fun x => (fun _ => bkeep (BQ.below x) w0) (hx x); have s2 := fun x => (fun _ => bkeep (BQ.below x) w1') (hx x); go_big_quiet_op; (first | go_big_quiet_on | (refine ⟨_, fun _ => rfl, ?_⟩; go_big_quiet_on)); clear hx inst)
          (refine wpS_quiet rfl rfl ?_; intro K hK inst hx; have s0 := fun x => (fun _ => bkeep (BQ.below x) hcu) (hx x); have s1 := fun x => (fun _ => bkeep (BQ.below x) w0) (hx x); have s2 := fun x => (fun _ => bkeep (BQ.below x) w1') (hx x); go_big_quiet_op; (first | go_big_quiet_on | (refine ⟨_, fun _ => rfl, ?_⟩; go_big_quiet_on)); clear hx inst)
          (refine wpS_quiet rfl rfl ?_; intro K hK inst hx; have s0 := fun x => (fun _ => bkeep (BQ.below x) hcu) (hx x); have s1 := fun x => (fun _ => bkeep (BQ.below x) w0) (hx x); have s2 := fun x => (fun _ => bkeep (BQ.below x) w1') (hx x); go_big_quiet_op; (first | go_big_quiet_on | (refine ⟨_, fun _ => rfl, ?_⟩; go_big_quiet_on)); clear hx inst)
          (refine wpS_quiet rfl rfl ?_; intro K hK inst hx; have s0 := fun x => (fun _ => bkeep (BQ.below x) hcu) (hx x); have s1 := fun x => (fun _ => bkeep (BQ.below x) w0) (hx x); have s2 := fun x => (fun _ => bkeep (BQ.below x) w1') (hx x); go_big_quiet_op; (first | go_big_quiet_on | (refine ⟨_, fun _ => rfl, ?_⟩; go_big_quiet_on)); clear hx inst)
          (refine wpS_quiet rfl rfl ?_; intro K hK inst hx; have s0 := fun x => (fun _ => bkeep (BQ.below x) hcu) (hx x); have s1 := fun x => (fun _ => bkeep (BQ.below x) w0) (hx x); have s2 := fun x => (fun _ => bkeep (BQ.below x) w1') (hx x); go_big_quiet_op; (first | go_big_quiet_on | (refine ⟨_, fun _ => rfl, ?_⟩; go_big_quiet_on)); clear hx inst)
          (refine wpS_quiet rfl rfl ?_; intro K hK inst hx; have s0 := fun x => (fun _ => bkeep (BQ.below x) hcu) (hx x); have s1 := fun x => (fun _ => bkeep (BQ.below x) w0) (hx x); have s2 := fun x => (fun _ => bkeep (BQ.below x) w1') (hx x); go_big_quiet_op; (first | go_big_quiet_on | (refine ⟨_, fun _ => rfl, ?_⟩; go_big_quiet_on)); clear hx inst)
          (refine wpS_quiet rfl rfl ?_; intro K hK inst hx; have s0 := fun x => (fun _ => bkeep (BQ.below x) hcu) (hx x); have s1 := fun x => (fun _ => bkeep (BQ.below x) w0) (hx x); have s2 := fun x => (fun _ => bkeep (BQ.below x) w1') (hx x); go_big_quiet_op; (first | go_big_quiet_on | (refine ⟨_, fun _ => rfl, ?_⟩; go_big_quiet_on)); clear hx inst)
          refine wpS_fresh rfl rfl (fun w' hb hF => ?_) ?_
          · change freshAt _ _ _ (IsI64) _; unfold freshAt; go_simp; exact at_any (hpk.below hb) (by omega)
          intro v W hv; simp only [pOf, List.lookup_cons, Nat.reduceBEq, beq_self_eq_true] at hv; obtain ⟨pz, rfl, -⟩ := hv
          simp only [Act.put, List.setIfInBounds_toArray, List.set_cons_succ, List.set_cons_zero]
          refine wpS_fresh rfl rfl (fun w' hb hF => ?_) ?_
          · change freshAt _ _ _ (InRg lo hi) _; unfold freshAt; go_simp; exact one_any (by omega) (by omega) (by omega)
          intro v W hv; simp only [pOf, List.lookup_cons, Nat.reduceBEq, beq_self_eq_true] at hv; obtain ⟨z, rfl, hzl, hzh⟩ := hv; have hmz := HMU.out z hzl hzh; obtain ⟨hmw, hmz0, hmz1, hmz2⟩ := hmz
          simp only [Act.put, List.setIfInBounds_toArray, List.set_cons_succ, List.set_cons_zero]
          (refine wpS_quiet rfl rfl ?_; intro K hK inst hx; have s0 := fun x => (fun _ => bkeep (BQ.below x) hcu) (hx x); have s1 := fun x => (fun _ => bkeep (BQ.below x) w0) (hx x); have s2 := fun x => (fun _ => bkeep (BQ.below x) w1') (hx x); go_big_quiet_op; (first | go_big_quiet_on | (refine ⟨_, fun _ => rfl, ?_⟩; go_big_quiet_on)); clear hx inst)
          (refine wpS_quiet rfl rfl ?_; intro K hK inst hx; have s0 := fun x => (fun _ => bkeep (BQ.below x) hcu) (hx x); have s1 := fun x => (fun _ => bkeep (BQ.below x) w0) (hx x); have s2 := fun x => (fun _ => bkeep (BQ.below x) w1') (hx x); go_big_quiet_op; (first | go_big_quiet_on | (refine ⟨_, fun _ => rfl, ?_⟩; go_big_quiet_on)); clear hx inst)
          refine wpS_nil ?_
          intro w3 hall
          have hb := hall.1
          clear hall w0 w1'
          refine wpAny_done (by kernel_rfl) ?_ _
          obtain ⟨hv0, hhv⟩ : ∃ x, ((m : Int) - 1) * z = x := ⟨_, rfl⟩
          rw [hhv] at hmz0 hmz1 hmz2 ⊢
          clear hhv hmw
          have hKr := hb
          clear hb hpk
          go_wp2_with fail
          go_loopg [16, 17] m (fun gk xv nv wr => ∃ (j : Nat) (x : Int), j ≤ m ∧ gk = m - j ∧ xv = .int .i64 x ∧ nv = .int .i64 j ∧ (0 ≤ x ∧ x ≤ 1200 + 10000 * j) ∧ Hid (x ≤ ((m - 1 : Nat) : Int) * hi + ((chosenG l (g.take j)).map (·.hh)).sum) ∧ Below vr.heap.size vr wr)
          case atStart => exact ⟨0, hv0, Nat.zero_le _, rfl, rfl, rfl, ⟨hmz0, by omega⟩, hid (by simpa [chosenG] using hmz1), hKr⟩
          case round =>
            clear hKr hmz0 hmz1 hmz2
            obtain ⟨j, x, hj, hgj, rfl, rfl, hxb, HX, hK5⟩ := hrel
            have HGJ := hid hgj; clear hgj
            have yxr := yx.below hK5; have hlr := hl.below hK5; have hBr := bnext (w := w) hB hK5; have hnr := hnu.below hK5
            have hcr5 : wr.cell? (a'.add k) = some (.slice ga m gc) := (World.cell?_of_block (hK5.block _ (World.block_lt_of_cell? vr _ hcu))).trans hcu
            by_cases hjm : j < m
            · have hji : (j : Int) < (m : Int) := by omega
              have hj00 : (0 : Int) ≤ (j : Int) := by omega
              obtain ⟨g', hge, o0⟩ := (show NumsAt wr (.slice ga g.length gc) g by rw [HM.out]; exact hnr).elem (k := j) (by rw [HM.out]; exact hjm)
              subst hge
              obtain ⟨zi, hzi⟩ : ∃ z, g[j]'(by rw [HM.out]; exact hjm) = z := ⟨_, rfl⟩
              have hzb := HLO.out zi (hzi ▸ List.getElem_mem (by rw [HM.out]; exact hjm))
              rw [hzi] at o0
              rw [HN.out] at hzb
              obtain ⟨d, rfl⟩ : ∃ d : Nat, zi = (d : Int) := ⟨zi.toNat, by omega⟩
              have hd0 : (0 : Int) ≤ (d : Int) := by omega
              have hdK : (d : Int) < (K : Int) := hzb.2
              obtain ⟨s, hs⟩ : ∃ s, l[d]? = some s := ⟨_, List.getElem?_eq_getElem (by rw [HN.out]; omega)⟩
              have hsf := sg_facts ((listOk_iff.1 HLK.out).2.1 s (List.mem_of_getElem? hs))
              have HE := hid (chosenG_snoc (zs := g) (k := j) (by rw [HM.out]; exact hjm) hzi hs)
              obtain ⟨b', hb', p0, hpc, -⟩ := sg_row (show RowsAt 8 wr (.slice sa l.length sc) (l.map rowG) by rw [HN.out]; exact hlr) hs
              subst hb'
              obtain ⟨sid, swl, swh, sbl, sbh, shl, shh, sti⟩ := s
              dsimp only at hsf
              have p5 := hpc 5 _ (by decide) rfl; have p6 := hpc 6 _ (by decide) rfl
              dsimp only at p5 p6
              clear hpc p0 hs hzi hzb
              have hwj : IntKind.i64.wrap ((j : Int) + 1) = ((j + 1 : Nat) : Int) := (IntWalk.i64_in _ (by omega)).trans (by omega)
              obtain ⟨J1, hJ1⟩ : ∃ m, j + 1 = m := ⟨_, rfl⟩
              rw [hJ1] at hwj
              have hJ1b : J1 ≤ 1000000 := by omega
              have HJ1 := hid hJ1; clear hJ1
              have hadd : ∀ z : Int, shl ≤ z → z ≤ shh → IntKind.i64.wrap (x + z) = x + z := fun z h1 h2 => IntWalk.i64_in _ (by omega)
              have HAD := hid hadd; clear hadd
              have hpk := hp.below hBr
              go_upto_region 21 with fail
              refine wp_region_Rs [(15, IsI64), (16, InRg shl shh)] [0, 1, 2, 3, 4, 5, 6, 7, 8, 9, 10, 11, 12, 13, 14, 15, 16, 17, 18] 0 (by kernel_rfl) rfl (by simp only [List.forall_mem_cons]; exact ⟨keeps_isI64, keeps_inRg, fun _ h => by cases h⟩) (by kernel_rfl) ?_
              simp only [numbered, List.filterMap_cons, List.filterMap_nil, List.getElem?_toArray, List.getElem?_cons_succ, List.getElem?_cons_zero, Option.map_some]
              show wpS _ _ _ _ _ _ _ [(_, _), (_, _), (_, _), (_, _), (_, _), (_, _), (_, _), (_, _), (_, _), (_, _), (_, _), (_, _), (_, _), (_, _), (_, _), (_, _), (_, _), (_, _), (_, _)] _ _
              (refine wpS_quiet rfl rfl ?_; intro K hK inst hx; have s0 := fun x => (fun _ => bkeep (BQ.below x) hcr5) (hx x); have s1 := fun x => (fun _ => bkeep (BQ.below x) o0) (hx x); have s2 := fun x => (fun _ => bkeep (BQ.below x) p5) (hx x); have s3 := fun x => (fun _ => bkeep (BQ.below x) p6) (hx x); go_big_quiet_op; (first | go_big_quiet_on | (refine ⟨_, fun _ => rfl, ?_⟩; go_big_quiet_on)); clear hx inst)
              (refine wpS_quiet rfl rfl ?_; intro K hK inst hx; have s0 := fun x => (fun _ => bkeep (BQ.below x) hcr5) (hx x); have s1 := fun x => (fun _ => bkeep (BQ.below x) o0) (hx x); have s2 := fun x => (fun _ => bkeep (BQ.below x) p5) (hx x); have s3 := fun x => (fun _ => bkeep (BQ.below x) p6) (hx x); go_big_quiet_op; (first | go_big_quiet_on | (refine ⟨_, fun _ => rfl, ?_⟩; go_big_quiet_on)); clear hx inst)
              (refine wpS_quiet rfl rfl ?_; intro K hK inst hx; have s0 := fun x => (fun _ => bkeep (BQ.below x) hcr5) (hx x); have s1 := fun x => (fun _ => bkeep (BQ.below x) o0) (hx x); have s2 := fun x => (fun _ => bkeep (BQ.below x) p5) (hx x); have s3 := fun x => (fun _ => bkeep (BQ.below x) p6) (hx x); go_big_quiet_op; (first | go_big_quiet_on | (refine ⟨_, fun _ => rfl, ?_⟩; go_big_quiet_on)); clear hx inst)
              (refine wpS_quiet rfl rfl ?_; intro K hK inst hx; have s0 := fun x => (fun _ => bkeep (BQ.below x) hcr5) (hx x); have s1 := fun x => (fun _ => bkeep (BQ.below x) o0) (hx x); have s2 := fun x => (fun _ => bkeep (BQ.below x) p5) (hx x); have s3 := fun x => (fun _ => bkeep (BQ.below x) p6) (hx x); go_big_quiet_op; (first | go_big_quiet_on | (refine ⟨_, fun _ => rfl, ?_⟩; go_big_quiet_on)); clear hx inst)
              (refine wpS_quiet rfl rfl ?_; intro K hK inst hx; have s0 := fun x => (fun _ => bkeep (BQ.below x) hcr5) (hx x); have s1 := fun x => (fun _ => bkeep (BQ.below x) o0) (hx x); have s2 := fun x => (fun _ => bkeep (BQ.below x) p5) (hx x); have s3 := fun x => (fun _ => bkeep (BQ.below x) p6) (hx x); go_big_quiet_op; (first | go_big_quiet_on | (refine ⟨_, fun _ => rfl, ?_⟩; go_big_quiet_on)); clear hx inst)
              (refine wpS_quiet rfl rfl ?_; intro K hK inst hx; have s0 := fun x => (fun _ => bkeep (BQ.below x) hcr5) (hx x); have s1 := fun x => (fun _ => bkeep (BQ.below x) o0) (hx x); have s2 := fun x => (fun _ => bkeep (BQ.below x) p5) (hx x); have s3 := fun x => (fun _ => bkeep (BQ.below x) p6) (hx x); go_big_quiet_op; (first | go_big_quiet_on | (refine ⟨_, fun _ => rfl, ?_⟩; go_big_quiet_on)); clear hx inst)
              (refine wpS_quiet rfl rfl ?_; intro K hK inst hx; have s0 := fun x => (fun _ => bkeep (BQ.below x) hcr5) (hx x); have s1 := fun x => (fun _ => bkeep (BQ.below x) o0) (hx x); have s2 := fun x => (fun _ => bkeep (BQ.below x) p5) (hx x); have s3 := fun x => (fun _ => bkeep (BQ.below x) p6) (hx x); go_big_quiet_op; (first | go_big_quiet_on | (refine ⟨_, fun _ => rfl, ?_⟩; go_big_quiet_on)); clear hx inst)
              (refine wpS_quiet rfl rfl ?_; intro K hK inst hx; have s0 := fun x => (fun _ => bkeep (BQ.below x) hcr5) (hx x); have s1 := fun x => (fun _ => bkeep (BQ.below x) o0) (hx x); have s2 := fun x => (fun _ => bkeep (BQ.below x) p5) (hx x); have s3 := fun x => (fun _ => bkeep (BQ.below x) p6) (hx x); go_big_quiet_op; (first | go_big_quiet_on | (refine ⟨_, fun _ => rfl, ?_⟩; go_big_quiet_on)); clear hx inst)
              (refine wpS_quiet rfl rfl ?_; intro K hK inst hx; have s0 := fun x => (fun _ => bkeep (BQ.below x) hcr5) (hx x); have s1 := fun x => (fun _ => bkeep (BQ.below x) o0) (hx x); have s2 := fun x => (fun _ => bkeep (BQ.below x) p5) (hx x); have s3 := fun x => (fun _ => bkeep (BQ.below x) p6) (hx x); go_big_quiet_op; (first | go_big_quiet_on | (refine ⟨_, fun _ => rfl, ?_⟩; go_big_quiet_on)); clear hx inst)
              (refine wpS_quiet rfl rfl ?_; intro K hK inst hx; have s0 := fun x => (fun _ => bkeep (BQ.below x) hcr5) (hx x); have s1 := fun x => (fun _ => bkeep (BQ.below x) o0) (hx x); have s2 := fun x => (fun _ => bkeep (BQ.below x) p5) (hx x); have s3 := fun x => (fun _ => bkeep (BQ.below x) p6) (hx x); go_big_quiet_op; (first | go_big_quiet_on | (refine ⟨_, fun _ => rfl, ?_⟩; go_big_quiet_on)); clear hx inst)
              (refine wpS_quiet rfl rfl ?_; intro K hK inst hx; have s0 := fun x => (fun _ => bkeep (BQ.below x) hcr5) (hx x); have s1 := fun x => (fun _ => bkeep (BQ.below x) o0) (hx x); have s2 := fun x => (fun _ => bkeep (BQ.below x) p5) (hx x); have s3 := fun x => (fun _ => bkeep (BQ.below x) p6) (hx x); go_big_quiet_op; (first | go_big_quiet_on | (refine ⟨_, fun _ => rfl, ?_⟩; go_big_quiet_on)); clear hx inst)
              (refine wpS_quiet rfl rfl ?_; intro K hK inst hx; have s0 := fun x => (fun _ => bkeep (BQ.below x) hcr5) (hx x); have s1 := fun x => (fun _ => bkeep (BQ.below x) o0) (hx x); have s2 := fun x => (fun _ => bkeep (BQ.below x) p5) (hx x); have s3 := fun x => (fun _ => bkeep (BQ.below x) p6) (hx x); go_big_quiet_op; (first | go_big_quiet_on | (refine ⟨_, fun _ => rfl, ?_⟩; go_big_quiet_on)); clear hx inst)
              (refine wpS_quiet rfl rfl ?_; intro K hK inst hx; have s0 := fun x => (fun _ => bkeep (BQ.below x) hcr5) (hx x); have s1 := fun x => (fun _ => bkeep (BQ.below x) o0) (hx x); have s2 := fun x => (fun _ => bkeep (BQ.below x) p5) (hx x); have s3 := fun x => (fun _ => bkeep (BQ.below x) p6) (hx x); go_big_quiet_op; (first | go_big_quiet_on | (refine ⟨_, fun _ => rfl, ?_⟩; go_big_quiet_on)); clear hx inst)
              (refine wpS_quiet rfl rfl ?_; intro K hK inst hx; have s0 := fun x => (fun _ => bkeep (BQ.below x) hcr5) (hx x); have s1 := fun x => (fun _ => bkeep (BQ.below x) o0) (hx x); have s2 := fun x => (fun _ => bkeep (BQ.below x) p5) (hx x); have s3 := fun x => (fun _ => bkeep (BQ.below x) p6) (hx x); go_big_quiet_op; (first | go_big_quiet_on | (refine ⟨_, fun _ => rfl, ?_⟩; go_big_quiet_on)); clear hx inst)
              (refine wpS_quiet rfl rfl ?_; intro K hK inst hx; have s0 := fun x => (fun _ => bkeep (BQ.below x) hcr5) (hx x); have s1 := fun x => (fun _ => bkeep (BQ.below x) o0) (hx x); have s2 := fun x => (fun _ => bkeep (BQ.below x) p5) (hx x); have s3 := fun x => (fun _ => bkeep (BQ.below x) p6) (hx x); go_big_quiet_op; (first | go_big_quiet_on | (refine ⟨_, fun _ => rfl, ?_⟩; go_big_quiet_on)); clear hx inst)
              refine wpS_fresh rfl rfl (fun w' hb hF => ?_) ?_
              · change freshAt _ _ _ (IsI64) _; unfold freshAt; go_simp; exact at_any (hpk.below hb) hJ1b
              intro v W hv; simp only [pOf, List.lookup_cons, Nat.reduceBEq, beq_self_eq_true] at hv; obtain ⟨pz, rfl, -⟩ := hv
              simp only [Act.put, List.setIfInBounds_toArray, List.set_cons_succ, List.set_cons_zero]
              refine wpS_fresh rfl rfl (fun w' hb hF => ?_) ?_
              · change freshAt _ _ _ (InRg shl shh) _; unfold freshAt; go_simp; exact one_any (by omega) (by omega) (by omega)
              intro v W hv; simp only [pOf, List.lookup_cons, Nat.reduceBEq, beq_self_eq_true] at hv; obtain ⟨z, rfl, hzl, hzh⟩ := hv; have hadz := HAD.out z hzl hzh
              simp only [Act.put, List.setIfInBounds_toArray, List.set_cons_succ, List.set_cons_zero]
              (refine wpS_quiet rfl rfl ?_; intro K hK inst hx; have s0 := fun x => (fun _ => bkeep (BQ.below x) hcr5) (hx x); have s1 := fun x => (fun _ => bkeep (BQ.below x) o0) (hx x); have s2 := fun x => (fun _ => bkeep (BQ.below x) p5) (hx x); have s3 := fun x => (fun _ => bkeep (BQ.below x) p6) (hx x); go_big_quiet_op; (first | go_big_quiet_on | (refine ⟨_, fun _ => rfl, ?_⟩; go_big_quiet_on)); clear hx inst)
              (refine wpS_quiet rfl rfl ?_; intro K hK inst hx; have s0 := fun x => (fun _ => bkeep (BQ.below x) hcr5) (hx x); have s1 := fun x => (fun _ => bkeep (BQ.below x) o0) (hx x); have s2 := fun x => (fun _ => bkeep (BQ.below x) p5) (hx x); have s3 := fun x => (fun _ => bkeep (BQ.below x) p6) (hx x); go_big_quiet_op; (first | go_big_quiet_on | (refine ⟨_, fun _ => rfl, ?_⟩; go_big_quiet_on)); clear hx inst)
              refine wpS_nil ?_
              intro w4 hall
              have hb := hall.1
              clear hall o0 p5 p6 hcr5 yxr hlr hBr hnr hpk
              refine wpAny_done (by kernel_rfl) ?_ _
              have hK6 := bnext (w := vr) hK5 hb
              clear hb hwj hadz
              go_wp2_with fail
              go_roundg (m - (j + 1))
              case measure => have h := HGJ.out; omega
              case rel => have h9 : j + 1 = J1 := HJ1.out; exact ⟨j + 1, x + z, by omega, rfl, rfl, by go_num, by omega, hid (by rw [← HE.out, List.map_append, List.sum_append]; have := HX.out; simp only [List.map_cons, List.map_nil, List.sum_cons, List.sum_nil]; omega), hK6⟩
            · obtain rfl : j = m := by omega
              have hjj : ¬ (j : Int) < (j : Int) := by omega
              have hX := HX.out
              rw [List.take_of_length_le (by rw [HM.out]; exact Nat.le_refl _)] at hX
              have hcrx : ¬ cr < x := by have h9 := HDG.out; omega
              clear hX
              have x0 := (yxr 0 _ rfl).1
              have hK8 := bnext (w := v9) hK9 hK5
              clear hnr hlr yxr hBr
              go_wp2_with fail
              go_roundg (q - (k + 1))
              case measure => have h := HGK.out; omega
              case rel => exact ⟨k + 1, by omega, rfl, by go_num, hK8⟩
        · obtain rfl : k = q := by omega
          have hkk : ¬ (k : Int) < (k : Int) := by omega
          go_wp2_with fail
          go_ret
          exact ⟨rfl, hB⟩
    · obtain rfl : f = 0 := hft rfl
      clear hft hff
      have hqt := hmn rfl
      have hqti : ¬ (t : Int) < (q : Int) := by omega
      have hqtn : ¬ t < q := by omega
      have hqtb : decide (t < q) = false := decide_eq_false hqtn
      clear hmn
      go_upto_region 12 with fail
      clear yw_0 yw_1 yx_0 yx_1
      go_wp2_with fail
      go_loopg [15] q (fun gk iv wr => ∃ k : Nat, k ≤ q ∧ gk = q - k ∧ iv = .int .i64 k ∧ Below v9.heap.size v9 wr)
      case atStart => exact ⟨0, Nat.zero_le _, rfl, rfl, Below.refl _ _⟩
      case round =>
        obtain ⟨k, hk, hgk, rfl, hK9⟩ := hrel
        have HGK := hid hgk; clear hgk
        replace yw := yw.below hK9; replace yx := yx.below hK9; replace hl := hl.below hK9; replace hpv := hpv.below hK9; replace hB := bnext (w := w) hB hK9
        by_cases hlt : k < q
        · have hki : (k : Int) < (q : Int) := by omega
          have hk00 : (0 : Int) ≤ (k : Int) := by omega
          obtain ⟨g, hgk⟩ : ∃ g, gs[k]? = some g := ⟨_, List.getElem?_eq_getElem (by rw [HQ.out]; exact hlt)⟩
          obtain ⟨qa', qc', hqe, hrow⟩ := hpv
          injection hqe with e1 e2 e3
          subst e1; subst e3
          obtain ⟨a', ha, ru, hcu, hnu⟩ := hrow k g hgk
          subst ha
          clear hrow e2
          obtain ⟨ga, gc, rfl, hg1, hg2⟩ := hnu.shape
          obtain ⟨m, hm⟩ : ∃ m, g.length = m := ⟨_, rfl⟩
          have HM := hid hm
          have hmb : m ≤ 6 := by have h9 := (acc_small HPA.out).1 g (List.mem_of_getElem? hgk); rw [HN.out, hm] at h9; omega
          have hm1 : 1 ≤ m := by obtain ⟨x, hx⟩ := HPA.out.one k g hgk; have := (List.getElem?_eq_some_iff.1 hx).1; omega
          have HDG := hid (does_high (HPD.out g (List.mem_of_getElem? hgk)))
          have HLO := hid (HPA.out.lo k g hgk)
          rw [hm] at hcu hnu hg1
          rw [hm] at HDG
          have hhm0 : (0 : Int) ≤ ((m - 1 : Nat) : Int) := by omega
          have hmul : ∀ z : Int, lo ≤ z → z ≤ hi → IntKind.i64.wrap (((m : Int) - 1) * z) = ((m : Int) - 1) * z ∧ 0 ≤ ((m : Int) - 1) * z ∧ ((m : Int) - 1) * z ≤ ((m - 1 : Nat) : Int) * hi ∧ ((m : Int) - 1) * z ≤ 1200 := fun z h1 h2 => by
            have e0 : ((m : Int) - 1) = ((m - 1 : Nat) : Int) := by omega
            have e1 := Int.mul_le_mul_of_nonneg_left h2 hhm0
            have e2 := Int.mul_nonneg hhm0 (show 0 ≤ z by omega)
            have e3 : ((m - 1 : Nat) : Int) * hi ≤ 6 * 200 := Int.mul_le_mul (by omega) (by omega) (by omega) (by omega)
            rw [e0]
            exact ⟨IntWalk.i64_in _ (by omega), e2, e1, by omega⟩
          have hwm1 : IntKind.i64.wrap ((m : Int) - 1) = (m : Int) - 1 := IntWalk.i64_in _ (by omega)
          have HMU := hid hmul; clear hm hgk hmul
          have w0 := (yw 0 _ rfl).1; have w1' := (yw 1 _ rfl).1
          have hpk := hp.below hB
          obtain ⟨GK, rfl⟩ : ∃ GK, GK = gk := ⟨_, rfl⟩
          obtain ⟨vr, hvr⟩ : ∃ v, v = wr := ⟨_, rfl⟩
          subst hvr
          go_upto_region 15 with fail
          refine wp_region_Rs [(9, IsI64), (10, InRg lo hi)] [0, 1, 2, 3, 4, 5, 6, 7, 8, 9, 10, 11, 12] 0 (by kernel_rfl) rfl (by simp only [List.forall_mem_cons]; exact ⟨keeps_isI64, keeps_inRg, fun _ h => by cases h⟩) (by kernel_rfl) ?_
          simp only [numbered, List.filterMap_cons, List.filterMap_nil, List.getElem?_toArray, List.getElem?_cons_succ, List.getElem?_cons_zero, Option.map_some]
          show wpS _ _ _ _ _ _ _ [(_, _), (_, _), (_, _), (_, _), (_, _), (_, _), (_, _), (_, _), (_, _), (_, _), (_, _), (_, _), (_, _)] _ _
          (refine wpS_quiet rfl rfl ?_; intro K hK inst hx; have s0 := fun x => (fun _ => bkeep (BQ.below x) hcu) (hx x); have s1 := fun x => (fun _ => bkeep (BQ.below x) w0) (hx x); have s2 := fun x => (fun _ => bkeep (BQ.below x) w1') (hx x); go_big_quiet_op; (first | go_big_quiet_on | (refine ⟨_, fun _ => rfl, ?_⟩; go_big_quiet_on)); clear hx inst)
          (refine wpS_quiet rfl rfl ?_; intro K hK inst hx; have s0 := fun x => (fun _ => bkeep (BQ.below x) hcu) (hx x); have s1 := fun x => (fun _ => bkeep (BQ.below x) w0) (hx x); have s2 := fun x => (fun _ => bkeep (BQ.below x) w1') (hx x); go_big_quiet_op; (first | go_big_quiet_on | (refine ⟨_, fun _ => rfl, ?_⟩; go_big_quiet_on)); clear hx inst)
          (refine wpS_quiet rfl rfl ?_; intro K hK inst hx; have s0 := fun x => (fun _ => bkeep (BQ.below x) hcu) (hx x); have s1 := fun x => (fun _ => bkeep (BQ.below x) w0) (hx x); have s2 := fun x => (fun _ => bkeep (BQ.below x) w1') (hx x); go_big_quiet_op; (first | go_big_quiet_on | (refine ⟨_, fun _ => rfl, ?_⟩; go_big_quiet_on)); clear hx inst)
          (refine wpS_quiet rfl rfl ?_; intro K hK inst hx; have s0 := fun x => (fun _ => bkeep (BQ.below x) hcu) (hx x); have s1 := fun x => (fun _ => bkeep (BQ.below x) w0) (hx x); have s2 := fun x => (fun _ => bkeep (BQ.below x) w1') (hx x); go_big_quiet_op; (first | go_big_quiet_on | (refine ⟨_, fun _ => rfl, ?_⟩; go_big_quiet_on)); clear hx inst)
          (refine wpS_quiet rfl rfl ?_; intro K hK inst hx; have s0 := fun x => (fun _ => bkeep (BQ.below x) hcu) (hx x); have s1 := fun x => (fun _ => bkeep (BQ.below x) w0) (hx x); have s2 := fun x => (fun _ => bkeep (BQ.below x) w1') (hx x); go_big_quiet_op; (first | go_big_quiet_on | (refine ⟨_, fun _ => rfl, ?_⟩; go_big_quiet_on)); clear hx inst)
          (refine wpS_quiet rfl rfl ?_; intro K hK inst hx; have s0 := fun x => (fun _ => bkeep (BQ.below x) hcu) (hx x); have s1 := fun x => (fun _ => bkeep (BQ.below x) w0) (hx x); have s2 := fun x => (fun _ => bkeep (BQ.below x) w1') (hx x); go_big_quiet_op; (first | go_big_quiet_on | (refine ⟨_, fun _ => rfl, ?_⟩; go_big_quiet_on)); clear hx inst)
          (refine wpS_quiet rfl rfl ?_; intro K hK inst hx; have s0 := fun x => (fun _ => bkeep (BQ.below x) hcu) (hx x); have s1 := fun x => (fun _ => bkeep (BQ.below x) w0) (hx x); have s2 := fun x => (fun _ => bkeep (BQ.below x) w1') (hx x); go_big_quiet_op; (first | go_big_quiet_on | (refine ⟨_, fun _ => rfl, ?_⟩; go_big_quiet_on)); clear hx inst)
          (refine wpS_quiet rfl rfl ?_; intro K hK inst hx; have s0 := fun x => (fun _ => bkeep (BQ.below x) hcu) (hx x); have s1 := fun x => (fun _ => bkeep (BQ.below x) w0) (hx x); have s2 := fun x => (fun _ => bkeep (BQ.below x) w1') (hx x); go_big_quiet_op; (first | go_big_quiet_on | (refine ⟨_, fun _ => rfl, ?_⟩; go_big_quiet_on)); clear hx inst)
          (refine wpS_quiet rfl rfl ?_; intro K hK inst hx; have s0 := fun x => (fun _ => bkeep (BQ.below x) hcu) (hx x); have s1 := fun x => (fun _ => bkeep (BQ.below x) w0) (hx x); have s2 := fun x => (fun _ => bkeep (BQ.below x) w1') (hx x); go_big_quiet_op; (first | go_big_quiet_on | (refine ⟨_, fun _ => rfl, ?_⟩; go_big_quiet_on)); clear hx inst)
          refine wpS_fresh rfl rfl (fun w' hb hF => ?_) ?_
          · change freshAt _ _ _ (IsI64) _; unfold freshAt; go_simp; exact at_any (hpk.below hb) (by omega)
          intro v W hv; simp only [pOf, List.lookup_cons, Nat.reduceBEq, beq_self_eq_true] at hv; obtain ⟨pz, rfl, -⟩ := hv
          simp only [Act.put, List.setIfInBounds_toArray, List.set_cons_succ, List.set_cons_zero]
          refine wpS_fresh rfl rfl (fun w' hb hF => ?_) ?_
          · change freshAt _ _ _ (InRg lo hi) _; unfold freshAt; go_simp; exact one_any (by omega) (by omega) (by omega)
          intro v W hv; simp only [pOf, List.lookup_cons, Nat.reduceBEq, beq_self_eq_true] at hv; obtain ⟨z, rfl, hzl, hzh⟩ := hv; have hmz := HMU.out z hzl hzh; obtain ⟨hmw, hmz0, hmz1, hmz2⟩ := hmz
          simp only [Act.put, List.setIfInBounds_toArray, List.set_cons_succ, List.set_cons_zero]
          (refine wpS_quiet rfl rfl ?_; intro K hK inst hx; have s0 := fun x => (fun _ => bkeep (BQ.below x) hcu) (hx x); have s1 := fun x => (fun _ => bkeep (BQ.below x) w0) (hx x); have s2 := fun x => (fun _ => bkeep (BQ.below x) w1') (hx x); go_big_quiet_op; (first | go_big_quiet_on | (refine ⟨_, fun _ => rfl, ?_⟩; go_big_quiet_on)); clear hx inst)
          (refine wpS_quiet rfl rfl ?_; intro K hK inst hx; have s0 := fun x => (fun _ => bkeep (BQ.below x) hcu) (hx x); have s1 := fun x => (fun _ => bkeep (BQ.below x) w0) (hx x); have s2 := fun x => (fun _ => bkeep (BQ.below x) w1') (hx x); go_big_quiet_op; (first | go_big_quiet_on | (refine ⟨_, fun _ => rfl, ?_⟩; go_big_quiet_on)); clear hx inst)
          refine wpS_nil ?_
          intro w3 hall
          have hb := hall.1
          clear hall w0 w1'
          refine wpAny_done (by kernel_rfl) ?_ _
          obtain ⟨hv0, hhv⟩ : ∃ x, ((m : Int) - 1) * z = x := ⟨_, rfl⟩
          rw [hhv] at hmz0 hmz1 hmz2 ⊢
          clear hhv hmw
          have hKr := hb
          clear hb hpk
          go_wp2_with fail
          go_loopg [16, 17] m (fun gk xv nv wr => ∃ (j : Nat) (x : Int), j ≤ m ∧ gk = m - j ∧ xv = .int .i64 x ∧ nv = .int .i64 j ∧ (0 ≤ x ∧ x ≤ 1200 + 10000 * j) ∧ Hid (x ≤ ((m - 1 : Nat) : Int) * hi + ((chosenG l (g.take j)).map (·.hh)).sum) ∧ Below vr.heap.size vr wr)
          case atStart => exact ⟨0, hv0, Nat.zero_le _, rfl, rfl, rfl, ⟨hmz0, by omega⟩, hid (by simpa [chosenG] using hmz1), hKr⟩
          case round =>
            clear hKr hmz0 hmz1 hmz2
            obtain ⟨j, x, hj, hgj, rfl, rfl, hxb, HX, hK5⟩ := hrel
            have HGJ := hid hgj; clear hgj
            have yxr := yx.below hK5; have hlr := hl.below hK5; have hBr := bnext (w := w) hB hK5; have hnr := hnu.below hK5
            have hcr5 : wr.cell? (a'.add k) = some (.slice ga m gc) := (World.cell?_of_block (hK5.block _ (World.block_lt_of_cell? vr _ hcu))).trans hcu
            by_cases hjm : j < m
            · have hji : (j : Int) < (m : Int) := by omega
              have hj00 : (0 : Int) ≤ (j : Int) := by omega
              obtain ⟨g', hge, o0⟩ := (show NumsAt wr (.slice ga g.length gc) g by rw [HM.out]; exact hnr).elem (k := j) (by rw [HM.out]; exact hjm)
              subst hge
              obtain ⟨zi, hzi⟩ : ∃ z, g[j]'(by rw [HM.out]; exact hjm) = z := ⟨_, rfl⟩
              have hzb := HLO.out zi (hzi ▸ List.getElem_mem (by rw [HM.out]; exact hjm))
              rw [hzi] at o0
              rw [HN.out] at hzb
              obtain ⟨d, rfl⟩ : ∃ d : Nat, zi = (d : Int) := ⟨zi.toNat, by omega⟩
              have hd0 : (0 : Int) ≤ (d : Int) := by omega
              have hdK : (d : Int) < (K : Int) := hzb.2
              obtain ⟨s, hs⟩ : ∃ s, l[d]? = some s := ⟨_, List.getElem?_eq_getElem (by rw [HN.out]; omega)⟩
              have hsf := sg_facts ((listOk_iff.1 HLK.out).2.1 s (List.mem_of_getElem? hs))
              have HE := hid (chosenG_snoc (zs := g) (k := j) (by rw [HM.out]; exact hjm) hzi hs)
              obtain ⟨b', hb', p0, hpc, -⟩ := sg_row (show RowsAt 8 wr (.slice sa l.length sc) (l.map rowG) by rw [HN.out]; exact hlr) hs
              subst hb'
              obtain ⟨sid, swl, swh, sbl, sbh, shl, shh, sti⟩ := s
              dsimp only at hsf
              have p5 := hpc 5 _ (by decide) rfl; have p6 := hpc 6 _ (by decide) rfl
              dsimp only at p5 p6
              clear hpc p0 hs hzi hzb
              have hwj : IntKind.i64.wrap ((j : Int) + 1) = ((j + 1 : Nat) : Int) := (IntWalk.i64_in _ (by omega)).trans (by omega)
              obtain ⟨J1, hJ1⟩ : ∃ m, j + 1 = m := ⟨_, rfl⟩
              rw [hJ1] at hwj
              have hJ1b : J1 ≤ 1000000 := by omega
              have HJ1 := hid hJ1; clear hJ1
              have hadd : ∀ z : Int, shl ≤ z → z ≤ shh → IntKind.i64.wrap (x + z) = x + z := fun z h1 h2 => IntWalk.i64_in _ (by omega)
              have HAD := hid hadd; clear hadd
              have hpk := hp.below hBr
              go_upto_region 21 with fail
              refine wp_region_Rs [(15, IsI64), (16, InRg shl shh)] [0, 1, 2, 3, 4, 5, 6, 7, 8, 9, 10, 11, 12, 13, 14, 15, 16, 17, 18] 0 (by kernel_rfl) rfl (by simp only [List.forall_mem_cons]; exact ⟨keeps_isI64, keeps_inRg, fun _ h => by cases h⟩) (by kernel_rfl) ?_
              simp only [numbered, List.filterMap_cons, List.filterMap_nil, List.getElem?_toArray, List.getElem?_cons_succ, List.getElem?_cons_zero, Option.map_some]
              show wpS _ _ _ _ _ _ _ [(_, _), (_, _), (_, _), (_, _), (_, _), (_, _), (_, _), (_, _), (_, _), (_, _), (_, _), (_, _), (_, _), (_, _), (_, _), (_, _), (_, _), (_, _), (_, _)] _ _
              (refine wpS_quiet rfl rfl ?_; intro K hK inst hx; have s0 := fun x => (fun _ => bkeep (BQ.below x) hcr5) (hx x); have s1 := fun x => (fun _ => bkeep (BQ.below x) o0) (hx x); have s2 := fun x => (fun _ => bkeep (BQ.below x) p5) (hx x); have s3 := fun x => (fun _ => bkeep (BQ.below x) p6) (hx x); go_big_quiet_op; (first | go_big_quiet_on | (refine ⟨_, fun _ => rfl, ?_⟩; go_big_quiet_on)); clear hx inst)
              (refine wpS_quiet rfl rfl ?_; intro K hK inst hx; have s0 := fun x => (fun _ => bkeep (BQ.below x) hcr5) (hx x); have s1 := fun x => (fun _ => bkeep (BQ.below x) o0) (hx x); have s2 := fun x => (fun _ => bkeep (BQ.below x) p5) (hx x); have s3 := fun x => (fun _ => bkeep (BQ.below x) p6) (hx x); go_big_quiet_op; (first | go_big_quiet_on | (refine ⟨_, fun _ => rfl, ?_⟩; go_big_quiet_on)); clear hx inst)
              (refine wpS_quiet rfl rfl ?_; intro K hK inst hx; have s0 := fun x => (fun _ => bkeep (BQ.below x) hcr5) (hx x); have s1 := fun x => (fun _ => bkeep (BQ.below x) o0) (hx x); have s2 := fun x => (fun _ => bkeep (BQ.below x) p5) (hx x); have s3 := fun x => (fun _ => bkeep (BQ.below x) p6) (hx x); go_big_quiet_op; (first | go_big_quiet_on | (refine ⟨_, fun _ => rfl, ?_⟩; go_big_quiet_on)); clear hx inst)
              (refine wpS_quiet rfl rfl ?_; intro K hK inst hx; have s0 := fun x => (fun _ => bkeep (BQ.below x) hcr5) (hx x); have s1 := fun x => (fun _ => bkeep (BQ.below x) o0) (hx x); have s2 := fun x => (fun _ => bkeep (BQ.below x) p5) (hx x); have s3 := fun x => (fun _ => bkeep (BQ.below x) p6) (hx x); go_big_quiet_op; (first | go_big_quiet_on | (refine ⟨_, fun _ => rfl, ?_⟩; go_big_quiet_on)); clear hx inst)
              (refine wpS_quiet rfl rfl ?_; intro K hK inst hx; have s0 := fun x => (fun _ => bkeep (BQ.below x) hcr5) (hx x); have s1 := fun x => (fun _ => bkeep (BQ.below x) o0) (hx x); have s2 := fun x => (fun _ => bkeep (BQ.below x) p5) (hx x); have s3 := fun x => (fun _ => bkeep (BQ.below x) p6) (hx x); go_big_quiet_op; (first | go_big_quiet_on | (refine ⟨_, fun _ => rfl, ?_⟩; go_big_quiet_on)); clear hx inst)
              (refine wpS_quiet rfl rfl ?_; intro K hK inst hx; have s0 := fun x => (fun _ => bkeep (BQ.below x) hcr5) (hx x); have s1 := fun x => (fun _ => bkeep (BQ.below x) o0) (hx x); have s2 := fun x => (fun _ => bkeep (BQ.below x) p5) (hx x); have s3 := fun x => (fun _ => bkeep (BQ.below x) p6) (hx x); go_big_quiet_op; (first | go_big_quiet_on | (refine ⟨_, fun _ => rfl, ?_⟩; go_big_quiet_on)); clear hx inst)
              (refine wpS_quiet rfl rfl ?_; intro K hK inst hx; have s0 := fun x => (fun _ => bkeep (BQ.below x) hcr5) (hx x); have s1 := fun x => (fun _ => bkeep (BQ.below x) o0) (hx x); have s2 := fun x => (fun _ => bkeep (BQ.below x) p5) (hx x); have s3 := fun x => (fun _ => bkeep (BQ.below x) p6) (hx x); go_big_quiet_op; (first | go_big_quiet_on | (refine ⟨_, fun _ => rfl, ?_⟩; go_big_quiet_on)); clear hx inst)
              (refine wpS_quiet rfl rfl ?_; intro K hK inst hx; have s0 := fun x => (fun _ => bkeep (BQ.below x) hcr5) (hx x); have s1 := fun x => (fun _ => bkeep (BQ.below x) o0) (hx x); have s2 := fun x => (fun _ => bkeep (BQ.below x) p5) (hx x); have s3 := fun x => (fun _ => bkeep (BQ.below x) p6) (hx x); go_big_quiet_op; (first | go_big_quiet_on | (refine ⟨_, fun _ => rfl, ?_⟩; go_big_quiet_on)); clear hx inst)
              (refine wpS_quiet rfl rfl ?_; intro K hK inst hx; have s0 := fun x => (fun _ => bkeep (BQ.below x) hcr5) (hx x); have s1 := fun x => (fun _ => bkeep (BQ.below x) o0) (hx x); have s2 := fun x => (fun _ => bkeep (BQ.below x) p5) (hx x); have s3 := fun x => (fun _ => bkeep (BQ.below x) p6) (hx x); go_big_quiet_op; (first | go_big_quiet_on | (refine ⟨_, fun _ => rfl, ?_⟩; go_big_quiet_on)); clear hx inst)
              (refine wpS_quiet rfl rfl ?_; intro K hK inst hx; have s0 := fun x => (fun _ => bkeep (BQ.below x) hcr5) (hx x); have s1 := fun x => (fun _ => bkeep (BQ.below x) o0) (hx x); have s2 := fun x => (fun _ => bkeep (BQ.below x) p5) (hx x); have s3 := fun x => (fun _ => bkeep (BQ.below x) p6) (hx x); go_big_quiet_op; (first | go_big_quiet_on | (refine ⟨_, fun _ => rfl, ?_⟩; go_big_quiet_on)); clear hx inst)
              (refine wpS_quiet rfl rfl ?_; intro K hK inst hx; have s0 := fun x => (fun _ => bkeep (BQ.below x) hcr5) (hx x); have s1 := fun x => (fun _ => bkeep (BQ.below x) o0) (hx x); have s2 := fun x => (fun _ => bkeep (BQ.below x) p5) (hx x); have s3 := fun x => (fun _ => bkeep (BQ.below x) p6) (hx x); go_big_quiet_op; (first | go_big_quiet_on | (refine ⟨_, fun _ => rfl, ?_⟩; go_big_quiet_on)); clear hx inst)
              (refine wpS_quiet rfl rfl ?_; intro K hK inst hx; have s0 := fun x => (fun _ => bkeep (BQ.below x) hcr5) (hx x); have s1 := fun x => (fun _ => bkeep (BQ.below x) o0) (hx x); have s2 := fun x => (fun _ => bkeep (BQ.below x) p5) (hx x); have s3 := fun x => (fun _ => bkeep (BQ.below x) p6) (hx x); go_big_quiet_op; (first | go_big_quiet_on | (refine ⟨_, fun _ => rfl, ?_⟩; go_big_quiet_on)); clear hx inst)
              (refine wpS_quiet rfl rfl ?_; intro K hK inst hx; have s0 := fun x => (fun _ => bkeep (BQ.below x) hcr5) (hx x); have s1 := fun x => (fun _ => bkeep (BQ.below x) o0) (hx x); have s2 := fun x => (fun _ => bkeep (BQ.below x) p5) (hx x); have s3 := fun x => (fun _ => bkeep (BQ.below x) p6) (hx x); go_big_quiet_op; (first | go_big_quiet_on | (refine ⟨_, fun _ => rfl, ?_⟩; go_big_quiet_on)); clear hx inst)
              (refine wpS_quiet rfl rfl ?_; intro K hK inst hx; have s0 := fun x => (fun _ => bkeep (BQ.below x) hcr5) (hx x); have s1 := fun x => (fun _ => bkeep (BQ.below x) o0) (hx x); have s2 := fun x => (fun _ => bkeep (BQ.below x) p5) (hx x); have s3 := fun x => (fun _ => bkeep (BQ.below x) p6) (hx x); go_big_quiet_op; (first | go_big_quiet_on | (refine ⟨_, fun _ => rfl, ?_⟩; go_big_quiet_on)); clear hx inst)
              (refine wpS_quiet rfl rfl ?_; intro K hK inst hx; have s0 := fun x => (fun _ => bkeep (BQ.below x) hcr5) (hx x); have s1 := fun x => (fun _ => bkeep (BQ.below x) o0) (hx x); have s2 := fun x => (fun _ => bkeep (BQ.below x) p5) (hx x); have s3 := fun x => (fun _ => bkeep (BQ.below x) p6) (hx x); go_big_quiet_op; (first | go_big_quiet_on | (refine ⟨_, fun _ => rfl, ?_⟩; go_big_quiet_on)); clear hx inst)
              refine wpS_fresh rfl rfl (fun w' hb hF => ?_) ?_
              · change freshAt _ _ _ (IsI64) _; unfold freshAt; go_simp; exact at_any (hpk.below hb) hJ1b
              intro v W hv; simp only [pOf, List.lookup_cons, Nat.reduceBEq, beq_self_eq_true] at hv; obtain ⟨pz, rfl, -⟩ := hv
              simp only [Act.put, List.setIfInBounds_toArray, List.set_cons_succ, List.set_cons_zero]
              refine wpS_fresh rfl rfl (fun w' hb hF => ?_) ?_
              · change freshAt _ _ _ (InRg shl shh) _; unfold freshAt; go_simp; exact one_any (by omega) (by omega) (by omega)
              intro v W hv; simp only [pOf, List.lookup_cons, Nat.reduceBEq, beq_self_eq_true] at hv; obtain ⟨z, rfl, hzl, hzh⟩ := hv; have hadz := HAD.out z hzl hzh
              simp only [Act.put, List.setIfInBounds_toArray, List.set_cons_succ, List.set_cons_zero]
              (refine wpS_quiet rfl rfl ?_; intro K hK inst hx; have s0 := fun x => (fun _ => bkeep (BQ.below x) hcr5) (hx x); have s1 := fun x => (fun _ => bkeep (BQ.below x) o0) (hx x); have s2 := fun x => (fun _ => bkeep (BQ.below x) p5) (hx x); have s3 := fun x => (fun _ => bkeep (BQ.below x) p6) (hx x); go_big_quiet_op; (first | go_big_quiet_on | (refine ⟨_, fun _ => rfl, ?_⟩; go_big_quiet_on)); clear hx inst)
              (refine wpS_quiet rfl rfl ?_; intro K hK inst hx; have s0 := fun x => (fun _ => bkeep (BQ.below x) hcr5) (hx x); have s1 := fun x => (fun _ => bkeep (BQ.below x) o0) (hx x); have s2 := fun x => (fun _ => bkeep (BQ.below x) p5) (hx x); have s3 := fun x => (fun _ => bkeep (BQ.below x) p6) (hx x); go_big_quiet_op; (first | go_big_quiet_on | (refine ⟨_, fun _ => rfl, ?_⟩; go_big_quiet_on)); clear hx inst)
              refine wpS_nil ?_
              intro w4 hall
              have hb := hall.1
              clear hall o0 p5 p6 hcr5 yxr hlr hBr hnr hpk
              refine wpAny_done (by kernel_rfl) ?_ _
              have hK6 := bnext (w := vr) hK5 hb
              clear hb hwj hadz
              go_wp2_with fail
              go_roundg (m - (j + 1))
              case measure => have h := HGJ.out; omega
              case rel => have h9 : j + 1 = J1 := HJ1.out; exact ⟨j + 1, x + z, by omega, rfl, rfl, by go_num, by omega, hid (by rw [← HE.out, List.map_append, List.sum_append]; have := HX.out; simp only [List.map_cons, List.map_nil, List.sum_cons, List.sum_nil]; omega), hK6⟩
            · obtain rfl : j = m := by omega
              have hjj : ¬ (j : Int) < (j : Int) := by omega
              have hX := HX.out
              rw [List.take_of_length_le (by rw [HM.out]; exact Nat.le_refl _)] at hX
              have hcrx : ¬ cr < x := by have h9 := HDG.out; omega
              clear hX
              have x0 := (yxr 0 _ rfl).1
              have hK8 := bnext (w := v9) hK9 hK5
              clear hnr hlr yxr hBr
              go_wp2_with fail
              go_roundg (q - (k + 1))
              case measure => have h := HGK.out; omega
              case rel => exact ⟨k + 1, by omega, rfl, by go_num, hK8⟩
        · obtain rfl : k = q := by omega
          have hkk : ¬ (k : Int) < (k : Int) := by omega
          go_wp2_with fail
          go_ret
          exact ⟨rfl, hB⟩

end Go.Proofs.Ytnchhleokdkejaa
