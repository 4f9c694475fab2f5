/- Which groups are accepted, as the program's loop goes. -/
import Derived.Test.YtnchhleokdkejaaKB22Y
import Derived.Test.YtnchhleokdkejaaKScY
import Derived.Test.YtnchhleokdkejaaKInRoundY
import Derived.Test.YtnchhleokdkejaaKLibY
import Derived.Test.YtnchhleokdkejaaKB11Y
import Derived.Deep.LoopGhost
import Derived.OwnWalk
import Derived.Test.YtnchhleokdkejaaKTkY
import Derived.Laws.AppendOwn
namespace Go.Pb.Sag
open Go Go.Pb Go.Pb.Ware Go.RowKit
set_option linter.unusedVariables false
theorem idx_iff {n : Int} : ∀ {zs : List Int} {last : Int}, idxB n last zs = true ↔ zs.Pairwise (· < ·) ∧ ∀ z ∈ zs, last < z ∧ z < n
  | [], last => by simp [idxB]
  | z :: zs, last => by
    rw [idxB, Bool.and_eq_true, btw_iff, idx_iff (zs := zs) (last := z), List.pairwise_cons]
    constructor
    · rintro ⟨h1, h2, h3⟩
      refine ⟨⟨fun y hy => (h3 y hy).1, h2⟩, fun y hy => ?_⟩
      rcases List.mem_cons.1 hy with e | e
      · omega
      · have := h3 y e; omega
    · rintro ⟨⟨h1, h2⟩, h3⟩
      have h4 := h3 z (by simp)
      exact ⟨by omega, h2, fun y hy => ⟨h1 y hy, (h3 y (by simp [hy])).2⟩⟩
end Go.Pb.Sag

/- Whether lists are parts of things. -/
namespace Go.Proofs.Ytnchhleokdkejaa
open Go.RowKit Go.Pb Go.Pb.Ware Go.Pb.Sag
set_option linter.unusedVariables false
set_option linter.unusedSimpArgs false

set_option maxRecDepth 100000 in
set_option maxHeartbeats 600000 in
theorem areIndices_any {w : World} {v : Value} {zs : List Int} {many : Int} {b : Bool} (hi : NumsAt w v zs) (hm0 : 0 ≤ many) (hm : many ≤ 1000) (hb : idxB many (-1) zs = b) :
    Calls Try.prog 138 #[v, .int .i64 many] w (Ret w (.bool b)) := by
  unfold Ret
  obtain ⟨a, cap, rfl, hl1, hl2⟩ := hi.shape
  go_enter Try.func138, Try.ntmps138
  go_wp2_with fail
  go_loopw [5, 10] (fun lv iv wr => ∃ (k : Nat) (last : Int), k ≤ zs.length ∧ iv = .int .i64 k ∧ lv = .int .i64 last ∧ (-1 ≤ last ∧ last ≤ 1000) ∧ Hid (idxB many last (zs.drop k) = b) ∧ Below w.heap.size w wr) (fun _ iv _ => zs.length - (intOf iv).toNat)
  case atStart => exact ⟨0, -1, Nat.zero_le _, rfl, rfl, by omega, hb, by go_grown⟩
  case round =>
    obtain ⟨k, last, hk, rfl, rfl, hla, HP, hb0⟩ := hrel
    have hzz := hb0.size
    by_cases hlt : k < zs.length
    · obtain ⟨a', ha, r0⟩ := (hi.below hb0).elem hlt
      subst ha
      obtain ⟨z, hz⟩ : ∃ z, z = zs[k] := ⟨_, rfl⟩
      have hzi := hi.i64 zs[k] (List.getElem_mem hlt)
      have hst := idx_step hlt HP.out
      rw [← hz] at r0 hst hzi
      have hzb := hzi.bd
      clear hz hzi HP
      obtain ⟨g, hg⟩ : ∃ g, btw z (last + 1) (many - 1) = g := ⟨_, rfl⟩
      rw [hg] at hst
      have HG := hid hg; have HST := hid hst
      have hkl : (k : Int) < (zs.length : Int) := by omega
      cases g
      · clear hg hst
        go_wp2_with (go_at_call 76; refine (bB HG.out).mono ?_; rintro e w1 ⟨rfl, hb⟩; replace hb0 := bnext (w := w) hb0 hb)
        go_ret
        exact ⟨ret_bool (by rw [HST.out]; rfl), hb0⟩
      · have hg2 := btw_iff.1 hg
        clear hg hst
        go_wp2_with (go_at_call 76; refine (bB HG.out).mono ?_; rintro e w1 ⟨rfl, hb⟩; replace hb0 := bnext (w := w) hb0 hb)
        go_roundw
        case rel => exact ⟨k + 1, z, by omega, by go_num, rfl, by omega, (show idxB _ _ _ = b from by have h := HST.out; simpa using h.symm), hb0⟩
        case measure => first | (simp [intOf]; done) | (simp [intOf]; omega)
    · have hb2 := idx_end (by omega) HP.out
      go_wp2_with fail
      go_ret
      exact ⟨ret_bool hb2.symm, hb0⟩

/-- Whether lists are parts of n things. -/
def areB (n : Nat) : Int → List Int → List (List Int) → Bool
  | _, seen, [] => decide (seen.length = n)
  | first, seen, g :: gs => match g[0]? with
    | none => false
    | some x => idxB (n : Int) (-1) g && (decide (first < x) && (g.all (fun z => !seen.contains z) && areB n x (seen ++ g) gs))
theorem are_empty {n : Nat} {first : Int} {seen g : List Int} {gs : List (List Int)} (h : g.length = 0) : areB n first seen (g :: gs) = false := by
  obtain rfl : g = [] := List.length_eq_zero_iff.1 h
  rfl
theorem are_idx {n : Nat} {first : Int} {seen g : List Int} {gs : List (List Int)} (h : idxB (n : Int) (-1) g = false) : areB n first seen (g :: gs) = false := by
  rw [areB]
  cases g[0]? with
  | none => rfl
  | some x => dsimp only; rw [h]; rfl
theorem are_head {n : Nat} {first x : Int} {seen g : List Int} {gs : List (List Int)} (hx : g[0]? = some x) (h : x ≤ first) : areB n first seen (g :: gs) = false := by
  rw [areB, hx]
  dsimp only
  rw [decide_eq_false (show ¬ first < x by omega)]; simp
theorem are_dup {n : Nat} {first z : Int} {seen g : List Int} {gs : List (List Int)} (hg : z ∈ g) (hs : z ∈ seen) : areB n first seen (g :: gs) = false := by
  rw [areB]
  cases g[0]? with
  | none => rfl
  | some x =>
    dsimp only
    have h : g.all (fun z => !seen.contains z) = false := by
      rw [List.all_eq_false]
      exact ⟨z, hg, by simp [hs]⟩
    rw [h]; simp
theorem are_next {n : Nat} {first x : Int} {seen g : List Int} {gs : List (List Int)} (hx : g[0]? = some x) (hi : idxB (n : Int) (-1) g = true) (hf : first < x) (hn : (seen ++ g).Nodup) :
    areB n first seen (g :: gs) = areB n x (seen ++ g) gs := by
  rw [areB, hx]
  dsimp only
  have h : g.all (fun z => !seen.contains z) = true := by
    rw [List.all_eq_true]
    intro z hz
    have := (List.nodup_append.1 hn).2.2
    simp only [Bool.not_eq_true', List.contains_eq_mem, decide_eq_false_iff_not]
    exact fun h => this z h z hz rfl
  rw [hi, h, decide_eq_true hf]; rfl
theorem pair_take {g : List Int} {j : Nat} (h : g.Pairwise (· < ·)) (hj : j < g.length) : g[j] ∉ g.take j := by
  intro hm
  obtain ⟨i, hi, he⟩ := List.mem_iff_getElem.1 hm
  rw [List.getElem_take] at he
  rw [List.length_take] at hi
  have := List.pairwise_iff_getElem.1 h i j (by omega) hj (by omega)
  omega
theorem nodup_snoc {l : List Int} {z : Int} (h : l.Nodup) (hz : z ∉ l) : (l ++ [z]).Nodup := by
  rw [List.nodup_append]
  exact ⟨h, by simp, fun a ha b hb e => by simp at hb; subst hb; exact hz (e ▸ ha)⟩
/-- Which numbers below n have been seen. -/
def SeenAt (B n : Nat) (seen : List Int) (W : World) : Prop := ∀ i : Nat, i < n → W.cell? ⟨B, i, none⟩ = some (.bool (seen.contains (i : Int))) ∧ W.frozen? ⟨B, i, none⟩ = false
theorem SeenAt.below {B n : Nat} {seen : List Int} {W W' : World} (h : SeenAt B n seen W) (hb : Below W.heap.size W W') : SeenAt B n seen W' := fun i hi => ⟨bkeep hb (h i hi).1, bfree hb (h i hi).1 (h i hi).2⟩
theorem SeenAt.set {B n m : Nat} {seen : List Int} {W : World} (h : SeenAt B n seen W) (hm : m < n) : SeenAt B n (seen ++ [(m : Int)]) (W.setCell ⟨B, m, none⟩ (.bool true)) := by
  intro i hi
  obtain ⟨h1, h2⟩ := h i hi
  refine ⟨?_, set_free h1 h2⟩
  by_cases e : i = m
  · subst e
    rw [setc_same h1]; simp
  · rw [setc_other h1 e]
    have : ¬ (i : Int) = (m : Int) := by omega
    simp [this]
theorem seen_new {W : World} {lo T n B : Nat} (h : W.ownsRow lo T 1 (.slice (some ⟨B, 0, none⟩) n n) n (madeCells (Value.bool false).cells (n * 1)).toList) : SeenAt B n [] W := by
  intro i hi
  refine ⟨?_, owns_frozen h rfl i⟩
  have h1 := h.cells (g := B) rfl i (.bool false) (by
    rw [Array.getElem?_toList]
    unfold madeCells
    rw [Array.getElem?_map, Array.getElem?_range, if_pos (by omega)]
    show some ((#[Value.bool false] : Array Value)[i % 1]!) = _
    rw [Nat.mod_one]; rfl)
  rw [Go.WideShapes.add_plain, Nat.zero_add] at h1
  exact h1

theorem Try.infoB1 : (Try.prog.info? 4).map (fun i => (i.zero, i.size, i.bytes)) = some (some (.bool false), 1, 1) := by kernel_rfl
set_option maxRecDepth 100000 in
set_option maxHeartbeats 1500000 in
theorem are_any {w : World} {gv : Value} {gs : List (List Int)} {n : Nat} {d : Bool} (hn : n ≤ 1000) (hg : ListsAt gv gs w) (hgl : gs.length ≤ 9223372036854775807) (hd : areB n (-1) [] gs = d) :
    Calls Try.prog 117 #[gv, .int .i64 (n : Int)] w (Ret w (.bool d)) := by
  unfold Ret
  obtain ⟨ga, gcap, rfl, hgs⟩ := hg
  obtain ⟨q, hq⟩ : ∃ q, gs.length = q := ⟨_, rfl⟩
  rw [hq] at hgl ⊢
  have HD := hid hd; have HQ := hid hq; have HGS := hid hgs; clear hd hq hgs
  obtain ⟨i1, hj1, hy0, hy1, hy2⟩ := info_parts Try.infoB1
  go_enter Try.func117, Try.ntmps117
  go_upto_region 2 with (at_make; refine wpList_make_full _ rfl _ _ 154 rfl w.heap.size 4 i1 (.bool false) 1 Try.underlying154 hj1 hy0 hy1 .i64 .i64 _ _ n rfl rfl rfl rfl (by rw [hy2]; omega) (by unfold maxLen; omega) (Nat.le_refl _) ?_; intro v1 ho1 hg1)
  have hB1 : Below w.heap.size w v1 := (Below.refl _ w).grown hg1 (Nat.le_refl _) (fun k h => by cases h)
  have hin : SeenAt w.heap.size n [] v1 := seen_new ho1
  clear ho1 hg1
  go_wp2_with fail
  go_loopg [6, 7, 9, 11, 16] q (fun gk pv fv _ _ kv wr => ∃ (k : Nat) (first : Int) (seen : List Int), k ≤ q ∧ gk = q - k ∧ kv = .int .i64 k ∧ pv = .int .i64 seen.length ∧ fv = .int .i64 first ∧ Hid (areB n (-1) [] gs = areB n first seen (gs.drop k)) ∧ (-1 ≤ first ∧ first ≤ n) ∧ Hid (seen.Nodup ∧ ∀ z ∈ seen, 0 ≤ z ∧ z < (n : Int)) ∧ SeenAt w.heap.size n seen wr ∧ Below w.heap.size w wr)
  case atStart => exact ⟨0, -1, [], Nat.zero_le _, rfl, rfl, rfl, rfl, rfl, by omega, ⟨by simp, fun z h => by cases h⟩, hin, hB1⟩
  case round =>
    clear hin hB1
    obtain ⟨k, first, seen, hk, hgk, rfl, rfl, rfl, HA, hfi, HS, hin, hB⟩ := hrel
    have HGK := hid hgk; clear hgk
    obtain ⟨GK, rfl⟩ : ∃ GK, GK = gk := ⟨_, rfl⟩
    have hsl : seen.length ≤ n := (nodup_len HS.out.1 HS.out.2).1
    obtain ⟨sl, hsl2⟩ : ∃ sl, seen.length = sl := ⟨_, rfl⟩
    rw [hsl2] at hsl ⊢
    have HSL := hid hsl2; clear hsl2
    by_cases hlt : k < q
    · have hki : (k : Int) < (q : Int) := by omega
      have hkg : k < gs.length := by rw [HQ.out]; exact hlt
      obtain ⟨g, hg⟩ : ∃ g, gs[k] = g := ⟨_, rfl⟩
      obtain ⟨a', e1, u, r0, hu⟩ := HGS.out k g (by rw [List.getElem?_eq_getElem hkg, hg])
      subst e1
      have hu0 := hu
      replace r0 := bkeep hB r0
      replace hu := hu.below hB
      obtain ⟨ua, uc, rfl, hul1, hul2⟩ := hu.shape; have HUw := hid hu0; clear hu0
      have HA2 : Hid (areB n (-1) [] gs = areB n first seen (g :: gs.drop (k + 1))) := by have h := HA.out; rw [List.drop_eq_getElem_cons hkg, hg] at h; exact h
      clear HA hg
      obtain ⟨p, hp⟩ : ∃ p, g.length = p := ⟨_, rfl⟩
      rw [hp] at r0 hul1
      have HP := hid hp
      by_cases hp0 : p = 0
      · subst hp0
        have hd3 : d = false := by rw [← HD.out, HA2.out, are_empty HP.out]
        subst hd3
        clear hp HD
        go_wp2_with fail
        go_ret
        exact ⟨rfl, hB⟩
      · have hp1 : ¬ (p : Int) = 0 := by omega
        have hp2 : ((p : Int) == 0) = false := beq_eq_false_iff_ne.mpr hp1
        obtain ⟨x, hx⟩ : ∃ x, g[0]? = some x := ⟨_, List.getElem?_eq_getElem (by rw [hp]; omega)⟩
        have hgp : 0 < g.length := by omega
        obtain ⟨ua', e2, r1⟩ := (show NumsAt wr (.slice ua g.length uc) g from hu).elem hgp
        subst e2
        have hxg : g[0] = x := by have h := hx; rw [List.getElem?_eq_getElem hgp] at h; injection h
        rw [hxg] at r1
        have hxi := (hu.i64 x (List.mem_of_getElem? hx)).bd
        obtain ⟨bi, hbi⟩ : ∃ bi, idxB (n : Int) (-1) g = bi := ⟨_, rfl⟩
        have HI := hid hbi; have HXG := hid hx; have HU := hid hu; have hz5 : ua'.add 0 = ua' := by cases ua' with | mk b o l => cases l <;> simp [Addr.add]
        rw [hz5] at r1
        clear hbi hx hxg hz5 hgp
        rw [hp] at hu
        clear hp hu
        cases bi
        · have hd3 : d = false := by rw [← HD.out, HA2.out, are_idx HI.out]
          subst hd3
          clear HD
          go_wp2_with (go_at_call 138; refine (areIndices_any (b := false) (show NumsAt wr (.slice (some ua') p uc) g by rw [← HP.out]; exact HU.out) (by omega) (by omega) HI.out).mono ?_; rintro e w2 ⟨rfl, hb⟩; replace hB := bnext (w := w) hB hb; replace hin := hin.below hb; replace r1 := bkeep hb r1; clear hb)
          go_ret
          exact ⟨rfl, hB⟩
        · have hzr := fun z hz => idx_all (show (-1 : Int) ≤ -1 by omega) HI.out z hz
          have HZR := hid hzr; clear hzr
          have hxr := HZR.out x (List.mem_of_getElem? HXG.out)
          by_cases hfx : x ≤ first
          · have hd3 : d = false := by rw [← HD.out, HA2.out, are_head HXG.out hfx]
            subst hd3
            clear HD
            go_wp2_with (go_at_call 138; refine (areIndices_any (b := true) (show NumsAt wr (.slice (some ua') p uc) g by rw [← HP.out]; exact HU.out) (by omega) (by omega) HI.out).mono ?_; rintro e w2 ⟨rfl, hb⟩; replace hB := bnext (w := w) hB hb; replace hin := hin.below hb; replace r1 := bkeep hb r1; clear hb)
            go_ret
            exact ⟨rfl, hB⟩
          · go_wp2_with (go_at_call 138; refine (areIndices_any (b := true) (show NumsAt wr (.slice (some ua') p uc) g by rw [← HP.out]; exact HU.out) (by omega) (by omega) HI.out).mono ?_; rintro e w2 ⟨rfl, hb⟩; replace hB := bnext (w := w) hB hb; replace hin := hin.below hb; replace r1 := bkeep hb r1; clear hb)
            obtain ⟨v2, hv2⟩ : ∃ v, v = w2 := ⟨_, rfl⟩
            subst hv2
            go_loopg [6, 11, 41] p (fun gk pv _ jv wr => ∃ (j : Nat), j ≤ p ∧ gk = p - j ∧ jv = .int .i64 j ∧ pv = .int .i64 ((sl + j : Nat) : Int) ∧ Hid ((seen ++ g.take j).Nodup ∧ ∀ z ∈ seen ++ g.take j, 0 ≤ z ∧ z < (n : Int)) ∧ SeenAt w.heap.size n (seen ++ g.take j) wr ∧ Below w.heap.size w wr)
            case atStart => exact ⟨0, Nat.zero_le _, rfl, rfl, rfl, (show (seen ++ g.take 0).Nodup ∧ ∀ z ∈ seen ++ g.take 0, 0 ≤ z ∧ z < (n : Int) from by rw [List.take_zero, List.append_nil]; exact HS.out), by simpa using hin, hB⟩
            case round =>
              clear hin hB
              obtain ⟨j, hj, hgk, rfl, rfl, HS2, hin, hB⟩ := hrel
              have HGK2 := hid hgk; clear hgk
              have hjl : (seen ++ g.take j).length ≤ n := (nodup_len HS2.out.1 HS2.out.2).1
              rw [List.length_append, List.length_take, HSL.out, HP.out, Nat.min_eq_left hj] at hjl
              by_cases hlj : j < p
              · have hji : (j : Int) < (p : Int) := by omega
                have hjg : j < g.length := by rw [HP.out]; exact hlj
                have hug : NumsAt wr (.slice (some ua') g.length uc) g := NumsAt.below HUw.out hB
                obtain ⟨u2, e3, r2⟩ := hug.elem hjg
                injection e3 with e3; subst e3
                obtain ⟨m, hm⟩ : ∃ m : Nat, g[j] = (m : Int) := ⟨g[j].toNat, by have := HZR.out _ (List.getElem_mem hjg); omega⟩
                have hmb := HZR.out _ (List.getElem_mem hjg)
                rw [hm] at r2 hmb
                have hm5 : m < n := by omega
                have hmi : (m : Int) < (n : Int) := by omega
                obtain ⟨r3, f3⟩ := hin m hm5
                obtain ⟨bs2, hbs⟩ : ∃ b, (seen ++ g.take j).contains (m : Int) = b := ⟨_, rfl⟩
                rw [hbs] at r3
                have HM := hid hm; have HBS := hid hbs; clear hm hbs hug
                cases bs2
                · have hsn : (m : Int) ∉ seen ++ g.take j := by have h := HBS.out; simpa using h
                  have hset := hin.set hm5
                  have hnod := nodup_snoc HS2.out.1 hsn
                  have e4 : seen ++ g.take (j + 1) = seen ++ g.take j ++ [(m : Int)] := by rw [List.take_succ_eq_append_getElem hjg, HM.out, List.append_assoc]
                  have HE4 := hid e4; have HSET := hid hset; have HNOD := hid hnod; clear e4 hset hnod hsn
                  go_wp2_with fail
                  go_roundg (p - (j + 1))
                  case measure => have h := HGK2.out; omega
                  case rel => exact ⟨j + 1, by omega, rfl, by go_num, by go_num, by (rw [HE4.out]; exact ⟨HNOD.out, fun z hz => by (rcases List.mem_append.1 hz with h | h); exact HS2.out.2 z h; (simp at h; subst h; omega)⟩), by (rw [HE4.out]; exact HSET.out), hB.setCell (p := ⟨w.heap.size, m, none⟩) (Nat.le_refl _) _⟩
                · have hsn : (m : Int) ∈ seen := by
                    have h : (m : Int) ∈ seen ++ g.take j := by have h := HBS.out; simpa using h
                    rcases List.mem_append.1 h with h | h
                    · exact h
                    · exact absurd (HM.out ▸ h) (pair_take (idx_iff.1 HI.out).1 hjg)
                  have hd3 : d = false := by rw [← HD.out, HA2.out, are_dup (HM.out ▸ List.getElem_mem hjg) hsn]
                  subst hd3
                  clear HD
                  go_wp2_with fail
                  go_ret
                  exact ⟨rfl, hB⟩
              · obtain rfl : j = p := by omega
                rw [List.take_of_length_le (by rw [HP.out]; exact Nat.le_refl _)] at hin
                have hS3 := HS2.out
                rw [List.take_of_length_le (by rw [HP.out]; exact Nat.le_refl _)] at hS3
                have HS3 := hid hS3; clear hS3 HS2
                have hac : areB n (-1) [] gs = areB n x (seen ++ g) (gs.drop (k + 1)) := by rw [HA2.out, are_next HXG.out HI.out (show first < x by omega) HS3.out.1]
                have HAC := hid hac; clear hac
                have hlen : (seen ++ g).length = sl + j := by rw [List.length_append, HSL.out, HP.out]
                have HLEN := hid hlen; clear hlen
                go_wp2_with fail
                go_roundg (q - (k + 1))
                case measure => have h := HGK.out; omega
                case rel => exact ⟨k + 1, x, seen ++ g, by omega, rfl, by go_num, by rw [HLEN.out], rfl, HAC, by omega, HS3, hin, hB⟩
    · obtain rfl : k = q := by omega
      have hacc : areB n (-1) [] gs = decide (sl = n) := by have h := HA.out; rw [List.drop_of_length_le (by rw [HQ.out]; exact Nat.le_refl _)] at h; rw [h, areB, HSL.out]
      have hd3 : d = decide (sl = n) := by rw [← HD.out, hacc]
      clear hacc HA
      subst hd3
      clear HD
      go_wp2_with fail
      go_ret
      exact ⟨ret_bool (by rw [Bool.eq_iff_iff]; simp; omega), hB⟩

end Go.Proofs.Ytnchhleokdkejaa

/- Whether lists are bungs that do. -/
namespace Go.Proofs.Ytnchhleokdkejaa
open Go.RowKit Go.Pb Go.Pb.Ware Go.Pb.Sag
set_option linter.unusedVariables false
set_option linter.unusedSimpArgs false

open Go.Proofs Go.Pb.Bung
theorem bungs_of {n : Nat} (hn : n ≤ 30) : ∀ {gs : List (List Int)} {first : Int} {seen : List Int}, areB n first seen gs = true → Bungs n gs
  | [], _, _, _ => fun g hg => by cases hg
  | g :: gs, first, seen, h => by
    rw [areB] at h
    cases hx : g[0]? with
    | none => rw [hx] at h; cases h
    | some x =>
      rw [hx] at h
      dsimp only at h
      rw [Bool.and_eq_true, Bool.and_eq_true, Bool.and_eq_true] at h
      obtain ⟨h1, -, -, h4⟩ := h
      have ih := bungs_of hn h4
      obtain ⟨i1, i2⟩ := idx_iff.1 h1
      have hr : ∀ z ∈ g, 0 ≤ z ∧ z < (n : Int) := fun z hz => by have := i2 z hz; omega
      have hd : g.Pairwise (· ≠ ·) := i1.imp fun hlt => by omega
      intro q hq
      rcases List.mem_cons.1 hq with rfl | hq
      · exact ⟨hr, hd, Nat.le_trans (nodup_len hd hr).1 hn, fun e => by rw [e] at hx; cases hx⟩
      · exact ih q hq
def ckPt (lo hi : Int) (l : List Sg) (cr le : Int) (gs : List (List Int)) : Int := if ckYd lo hi l cr le ≠ 0 then ckYd lo hi l cr le else if areB l.length (-1) [] gs = true then (if allB lo hi l cr le gs = true then 0 else 3) else 37

set_option maxRecDepth 100000 in
set_option maxHeartbeats 1000000 in
theorem ckPt_any {w : World} {v gv : Value} {l : List Sg} {gs : List (List Int)} {lo hi cr le r : Int} (h : RowsAt 8 w v (l.map rowG)) (hg : ListsAt gv gs w) (hgl : gs.length ≤ 9223372036854775807) (hr : ckPt lo hi l cr le gs = r) :
    Calls Try.prog 62 #[.agg #[.int .i64 lo, .int .i64 hi], v, .agg #[.int .i64 cr, .int .i64 le], gv] w (Ret w (.int .i64 r)) := by
  unfold Ret
  obtain ⟨a, cap, rfl, hll⟩ := h.shape
  rw [List.length_map] at h hll ⊢
  obtain ⟨n, hn⟩ : ∃ n, l.length = n := ⟨_, rfl⟩
  have HN : Hid (l.length = n) := hn
  obtain ⟨ga, gcap, hgv, hgs⟩ := id hg
  obtain ⟨q, hq⟩ : ∃ q, gs.length = q := ⟨_, rfl⟩
  have HQ : Hid (gs.length = q) := hq
  rw [hq] at hgl hgv
  subst hgv
  obtain ⟨c, hc⟩ : ∃ c, ckYd lo hi l cr le = c := ⟨_, rfl⟩
  obtain ⟨ab, hab⟩ : ∃ b, areB l.length (-1) [] gs = b := ⟨_, rfl⟩
  obtain ⟨d, hd⟩ : ∃ d, allB lo hi l cr le gs = d := ⟨_, rfl⟩
  have hr2 : r = if c ≠ 0 then c else if ab = true then (if d = true then 0 else 3) else 37 := by rw [← hr]; unfold ckPt; rw [hc, hab, hd]
  clear hr
  have HC : Hid (ckYd lo hi l cr le = c) := hc
  by_cases hc0 : c = 0
  · subst hc0
    rw [if_neg (by simp)] at hr2
    obtain ⟨h1, h2, hk⟩ := yard_ok hc
    have hl30 := (listOk_iff.1 hk).1
    clear hc
    have HAB : Hid (areB l.length (-1) [] gs = ab) := hab
    rw [hn] at h hll hl30 hab HAB ⊢
    clear hn
    cases ab
    · obtain rfl : r = 37 := hr2
      clear hab hd
      go_enter Try.func62, Try.ntmps62
      go_wp2_with fail
      refine (ckYd_any (h.below (by go_grown)) HC.out).mono ?_
      rintro e w1 ⟨rfl, hb⟩
      replace hb0 := bnext (w := w) (by go_grown) hb; have hz := hb.size; (try simp only [World.size_alloc, World.size_setCell] at hz); replace q0 : w1.cell? ⟨w.heap.size, 0, none⟩ = some (.int .i64 lo) := bkeep hb (by first | (with_reducible exact q0) | (with_reducible exact akeep q0) | simp [*, go_sem]); replace q1 : w1.cell? ⟨w.heap.size, 1, none⟩ = some (.int .i64 hi) := bkeep hb (by first | (with_reducible exact q1) | (with_reducible exact akeep q1) | simp [*, go_sem]); replace q2 : w1.cell? ⟨w.heap.size + 1, 0, none⟩ = some (.int .i64 cr) := bkeep hb (by first | (with_reducible exact q2) | (with_reducible exact akeep q2) | simp [*, go_sem]); replace q3 : w1.cell? ⟨w.heap.size + 1, 1, none⟩ = some (.int .i64 le) := bkeep hb (by first | (with_reducible exact q3) | (with_reducible exact akeep q3) | simp [*, go_sem]); skip
      clear hb
      go_wp2_with fail
      refine (are_any (by omega) (hg.below (by go_grown)) (by rw [HQ.out]; exact hgl) HAB.out).mono ?_
      rintro e w1 ⟨rfl, hb⟩
      replace hb0 := bnext (w := w) (by go_grown) hb; have hz := hb.size; (try simp only [World.size_alloc, World.size_setCell] at hz); replace q0 : w1.cell? ⟨w.heap.size, 0, none⟩ = some (.int .i64 lo) := bkeep hb (by first | (with_reducible exact q0) | (with_reducible exact akeep q0) | simp [*, go_sem]); replace q1 : w1.cell? ⟨w.heap.size, 1, none⟩ = some (.int .i64 hi) := bkeep hb (by first | (with_reducible exact q1) | (with_reducible exact akeep q1) | simp [*, go_sem]); replace q2 : w1.cell? ⟨w.heap.size + 1, 0, none⟩ = some (.int .i64 cr) := bkeep hb (by first | (with_reducible exact q2) | (with_reducible exact akeep q2) | simp [*, go_sem]); replace q3 : w1.cell? ⟨w.heap.size + 1, 1, none⟩ = some (.int .i64 le) := bkeep hb (by first | (with_reducible exact q3) | (with_reducible exact akeep q3) | simp [*, go_sem]); skip
      clear hb
      go_wp2_with fail
      go_ret
      exact ⟨rfl, by first | exact hb0 | go_grown⟩
    · rw [if_pos rfl] at hr2
      have HGB : Hid (Bungs n gs) := bungs_of hl30 hab
      have HGS := hid hgs; have HK : Hid (listOk l = true) := hk; have HL1 := hid h1; have HL2 := hid h2; have HD : Hid (allB lo hi l cr le gs = d) := hd
      clear hgs hk h1 h2 hd hab
      go_enter Try.func62, Try.ntmps62
      go_wp2_with fail
      refine (ckYd_any (h.below (by go_grown)) HC.out).mono ?_
      rintro e w1 ⟨rfl, hb⟩
      replace hb0 := bnext (w := w) (by go_grown) hb; have hz := hb.size; (try simp only [World.size_alloc, World.size_setCell] at hz); replace q0 : w1.cell? ⟨w.heap.size, 0, none⟩ = some (.int .i64 lo) := bkeep hb (by first | (with_reducible exact q0) | (with_reducible exact akeep q0) | simp [*, go_sem]); replace q1 : w1.cell? ⟨w.heap.size, 1, none⟩ = some (.int .i64 hi) := bkeep hb (by first | (with_reducible exact q1) | (with_reducible exact akeep q1) | simp [*, go_sem]); replace q2 : w1.cell? ⟨w.heap.size + 1, 0, none⟩ = some (.int .i64 cr) := bkeep hb (by first | (with_reducible exact q2) | (with_reducible exact akeep q2) | simp [*, go_sem]); replace q3 : w1.cell? ⟨w.heap.size + 1, 1, none⟩ = some (.int .i64 le) := bkeep hb (by first | (with_reducible exact q3) | (with_reducible exact akeep q3) | simp [*, go_sem]); skip
      clear hb
      go_wp2_with fail
      refine (are_any (by omega) (hg.below (by go_grown)) (by rw [HQ.out]; exact hgl) HAB.out).mono ?_
      rintro e w1 ⟨rfl, hb⟩
      replace hb0 := bnext (w := w) (by go_grown) hb; have hz := hb.size; (try simp only [World.size_alloc, World.size_setCell] at hz); replace q0 : w1.cell? ⟨w.heap.size, 0, none⟩ = some (.int .i64 lo) := bkeep hb (by first | (with_reducible exact q0) | (with_reducible exact akeep q0) | simp [*, go_sem]); replace q1 : w1.cell? ⟨w.heap.size, 1, none⟩ = some (.int .i64 hi) := bkeep hb (by first | (with_reducible exact q1) | (with_reducible exact akeep q1) | simp [*, go_sem]); replace q2 : w1.cell? ⟨w.heap.size + 1, 0, none⟩ = some (.int .i64 cr) := bkeep hb (by first | (with_reducible exact q2) | (with_reducible exact akeep q2) | simp [*, go_sem]); replace q3 : w1.cell? ⟨w.heap.size + 1, 1, none⟩ = some (.int .i64 le) := bkeep hb (by first | (with_reducible exact q3) | (with_reducible exact akeep q3) | simp [*, go_sem]); skip
      clear hb
      obtain ⟨v2, hv2⟩ : ∃ v, v = w1 := ⟨_, rfl⟩
      subst hv2
      go_upto_region 7 with fail
      generalize hW : World.alloc v2 _ = v3
      have y0 : CellsAt v3 v2.heap.size [.int .i64 lo, .int .i64 hi, .slice a n cap, .int .i64 cr, .int .i64 le] := by rw [← hW]; exact CellsAt.new v2 _ 143
      have hb : Below v2.heap.size v2 v3 := by rw [← hW]; exact (Below.refl _ _).alloc (Nat.le_refl _) _
      have hz3 : v2.heap.size < v3.heap.size := by rw [← hW]; simp
      have hB := bnext (w := w) hb0 hb
      clear hW hb hb0 q0 q1 q2 q3
      go_wp2_with fail
      go_loopg [31] q (fun gk iv wr => ∃ k : Nat, k ≤ q ∧ gk = q - k ∧ iv = .int .i64 k ∧ Hid (∀ (j : Nat) (g : List Int), j < k → gs[j]? = some g → doesB lo hi l cr le g = true) ∧ CellsAt wr v2.heap.size [.int .i64 lo, .int .i64 hi, .slice a n cap, .int .i64 cr, .int .i64 le] ∧ Below w.heap.size w wr)
      case atStart => exact ⟨0, Nat.zero_le _, rfl, rfl, hid (fun j g h => by omega), y0, hB⟩
      case round =>
        clear y0 hB
        obtain ⟨k, hk, hgk, rfl, HA, y0, hB⟩ := hrel
        have HGK := hid hgk; clear hgk
        have q0 := (y0 0 _ rfl).1; have q1 := (y0 1 _ rfl).1; have q2 := (y0 2 _ rfl).1; have q3 := (y0 3 _ rfl).1; have q4 := (y0 4 _ rfl).1
        by_cases hlt : k < q
        · have hki : (k : Int) < (q : Int) := by omega
          obtain ⟨g, hg2⟩ : ∃ g, gs[k]? = some g := ⟨_, List.getElem?_eq_getElem (by rw [HQ.out]; exact hlt)⟩
          obtain ⟨a', e1, u, r0, hu⟩ := HGS.out k g hg2
          subst e1
          obtain ⟨g1, g2, g3, g4⟩ := HGB.out g (List.mem_of_getElem? hg2)
          obtain ⟨b, hb9⟩ : ∃ b, doesB lo hi l cr le g = b := ⟨_, rfl⟩
          replace r0 := bkeep hB r0
          replace hu := hu.below hB
          obtain ⟨m, hm⟩ : ∃ m, g.length = m := ⟨_, rfl⟩
          obtain ⟨ua, uc, rfl⟩ := nums_shape hu hm
          have HG : Hid (gs[k]? = some g) := hg2; have HG1 : Hid (∀ z ∈ g, 0 ≤ z ∧ z < (n : Int)) := g1; have HG2 : Hid (g.Pairwise (· ≠ ·)) := g2; have HG3 : Hid (g.length ≤ 30) := g3; have HB9 : Hid (doesB lo hi l cr le g = b) := hb9
          clear hg2 g1 g2 g3 g4 hb9 hm
          go_wp2_with fail
          refine (does_any (l := l) (g := g) (h.below hB) HK.out HL1.out HL2.out hu (by rw [HN.out]; exact HG1.out) HG2.out HG3.out).mono ?_
          rw [HB9.out]
          rintro e w6 ⟨rfl, hb⟩
          replace y0 := y0.below hb
          replace hB := bnext (w := w) hB hb
          clear hb r0 hu q0 q1 q2 q3 q4
          cases b
          · obtain rfl : d = false := HD.out.symm.trans (allB_no (List.mem_of_getElem? HG.out) HB9.out)
            obtain rfl : r = 3 := hr2
            go_wp2_with fail
            go_ret
            exact ⟨rfl, hB⟩
          · go_wp2_with fail
            go_roundg (q - (k + 1))
            case measure => have h := HGK.out; omega
            case rel => exact ⟨k + 1, by omega, rfl, by go_num, hid (fun j g2 hj hg2 => by rcases Nat.lt_or_ge j k with h3 | h3; exact HA.out j g2 h3 hg2; (have e : j = k := by omega); subst e; rw [HG.out] at hg2; injection hg2 with hg2; subst hg2; exact HB9.out), y0, hB⟩
        · obtain rfl : k = q := by omega
          have hkk : ¬ (k : Int) < (k : Int) := by omega
          obtain rfl : d = true := HD.out.symm.trans (allB_yes fun j g hj => HA.out j g (by have := (List.getElem?_eq_some_iff.1 hj).1; rw [HQ.out] at this; exact this) hj)
          obtain rfl : r = 0 := hr2
          go_wp2_with fail
          go_ret
          exact ⟨rfl, hB⟩
  · rw [if_pos hc0] at hr2
    subst hr2
    have hcn : (r != 0) = true := by simpa using hc0
    clear hc hab hd
    rw [hn] at h hll ⊢
    clear hn
    go_enter Try.func62, Try.ntmps62
    go_wp2_with fail
    refine (ckYd_any (h.below (by go_grown)) HC.out).mono ?_
    rintro e w1 ⟨rfl, hb⟩
    replace hb0 := bnext (w := w) (by go_grown) hb; have hz := hb.size; (try simp only [World.size_alloc, World.size_setCell] at hz); replace q0 : w1.cell? ⟨w.heap.size, 0, none⟩ = some (.int .i64 lo) := bkeep hb (by first | (with_reducible exact q0) | (with_reducible exact akeep q0) | simp [*, go_sem]); replace q1 : w1.cell? ⟨w.heap.size, 1, none⟩ = some (.int .i64 hi) := bkeep hb (by first | (with_reducible exact q1) | (with_reducible exact akeep q1) | simp [*, go_sem]); replace q2 : w1.cell? ⟨w.heap.size + 1, 0, none⟩ = some (.int .i64 cr) := bkeep hb (by first | (with_reducible exact q2) | (with_reducible exact akeep q2) | simp [*, go_sem]); replace q3 : w1.cell? ⟨w.heap.size + 1, 1, none⟩ = some (.int .i64 le) := bkeep hb (by first | (with_reducible exact q3) | (with_reducible exact akeep q3) | simp [*, go_sem]); skip
    clear hb
    go_wp2_with fail
    go_ret
    exact ⟨rfl, by first | exact hb0 | go_grown⟩

end Go.Proofs.Ytnchhleokdkejaa

/- Whether lists are parts, by the reference. -/
namespace Go.Proofs.Ytnchhleokdkejaa
open Go.RowKit Go.Pb Go.Pb.Ware Go.Pb.Sag
set_option linter.unusedVariables false
set_option linter.unusedSimpArgs false

open Go.Proofs
theorem idx_no {n : Nat} {g : List Int} {z : Int} (hz : z ∈ g) (h : btw z 0 ((n : Int) - 1) = false) : idxB (n : Int) (-1) g = false := by
  cases hb : idxB (n : Int) (-1) g with
  | false => rfl
  | true =>
    have h1 := (idx_iff.1 hb).2 z hz
    rw [btw_iff.2 (by omega)] at h
    cases h
theorem idx_back {n : Nat} {g : List Int} {j t : Nat} {y z : Int} (hj : g[j]? = some z) (ht : g[t]? = some y) (htj : t < j) (h : z ≤ y) : idxB (n : Int) (-1) g = false := by
  cases hb : idxB (n : Int) (-1) g with
  | false => rfl
  | true =>
    obtain ⟨h1, rfl⟩ := List.getElem?_eq_some_iff.1 hj
    obtain ⟨h2, rfl⟩ := List.getElem?_eq_some_iff.1 ht
    have := List.pairwise_iff_getElem.1 (idx_iff.1 hb).1 t j h2 h1 htj
    omega
theorem are_twice {n : Nat} {first z : Int} {seen g : List Int} {gs : List (List Int)} {j : Nat} (hj : g[j]? = some z) (h : z ∈ seen ++ g.take j) : areB n first seen (g :: gs) = false := by
  rcases List.mem_append.1 h with h | h
  · exact are_dup (List.mem_of_getElem? hj) h
  · refine are_idx ?_
    cases hb : idxB (n : Int) (-1) g with
    | false => rfl
    | true =>
      obtain ⟨h1, rfl⟩ := List.getElem?_eq_some_iff.1 hj
      exact absurd h (pair_take (idx_iff.1 hb).1 h1)
theorem pw_snoc {g : List Int} {j t : Nat} {y z : Int} (h : (g.take j).Pairwise (· < ·)) (hj : g[j]? = some z) (ht : g[t]? = some y) (htj : t + 1 = j) (hyz : y < z) : (g.take (j + 1)).Pairwise (· < ·) := by
  rw [List.take_add_one, hj, Option.toList_some, List.pairwise_append]
  refine ⟨h, by simp, fun a ha b hb => ?_⟩
  rw [List.mem_singleton] at hb
  subst hb
  obtain ⟨i, hi, rfl⟩ := List.mem_take_iff_getElem.1 ha
  obtain ⟨h2, rfl⟩ := List.getElem?_eq_some_iff.1 ht
  rcases Nat.lt_or_ge i t with h3 | h3
  · have h4 := List.pairwise_iff_getElem.1 h i t (by rw [List.length_take]; omega) (by rw [List.length_take]; omega) h3
    rw [List.getElem_take, List.getElem_take] at h4
    omega
  · have : i = t := by omega
    subst this
    exact hyz
theorem take_snoc {g : List Int} {j : Nat} {z : Int} (hj : g[j]? = some z) : g.take (j + 1) = g.take j ++ [z] := by
  rw [List.take_add_one, hj]
  rfl

set_option maxRecDepth 100000 in
set_option maxHeartbeats 2000000 in
theorem rAre_any {w : World} {gv : Value} {gs : List (List Int)} {n : Nat} {d : Bool} (hn : n ≤ 1000) (hg : ListsAt gv gs w) (hgl : gs.length ≤ 9223372036854775807) (hd : areB n (-1) [] gs = d) :
    Calls Try.prog 119 #[gv, .int .i64 (n : Int)] w (Ret w (.bool d)) := by
  unfold Ret
  obtain ⟨i0, hi0, hz0, hz1, hz2⟩ := info_parts Try.infoInt
  obtain ⟨ga, gcap, hgv, hgs⟩ := id hg
  obtain ⟨q, hq⟩ : ∃ q, gs.length = q := ⟨_, rfl⟩
  have HQ : Hid (gs.length = q) := hq
  rw [hq] at hgl hgv
  subst hgv
  have HGS := hid hgs; have HD : Hid (areB n (-1) [] gs = d) := hd
  have hw1 : IntKind.i64.wrap ((n : Int) - 1) = (n : Int) - 1 := IntWalk.i64_in _ (by omega)
  clear hq hgs hd
  go_enter Try.func119, Try.ntmps119
  go_wp2_with fail
  go_loopg [5, 6] q (fun gk av kv wr => ∃ (k : Nat) (first : Int) (seen : List Int), k ≤ q ∧ gk = q - k ∧ kv = .int .i64 k ∧ wr.ownsRow w.heap.size 3 1 av seen.length (seen.map (Value.int .i64)) ∧ Hid (areB n (-1) [] gs = areB n first seen (gs.drop k)) ∧ Hid ((k = 0 ∧ first = -1) ∨ ∃ (p : Nat) (g : List Int), k = p + 1 ∧ gs[p]? = some g ∧ g[0]? = some first) ∧ Hid (seen.Nodup ∧ ∀ z ∈ seen, 0 ≤ z ∧ z < (n : Int)) ∧ Below w.heap.size w wr)
  case atStart => exact ⟨0, -1, [], Nat.zero_le _, rfl, rfl, World.ownsRow_nil _ _ _ _, rfl, hid (.inl ⟨rfl, rfl⟩), ⟨by simp, fun z h => by cases h⟩, Below.refl _ _⟩
  case round =>
    obtain ⟨k, first, seen, hk, hgk, rfl, ho, HA, HF, HS, hB⟩ := hrel
    have HGK := hid hgk; clear hgk
    obtain ⟨GK, rfl⟩ : ∃ GK, GK = gk := ⟨_, rfl⟩
    have hsl : seen.length ≤ n := (nodup_len HS.out.1 HS.out.2).1
    obtain ⟨sl, hsl2⟩ : ∃ sl, seen.length = sl := ⟨_, rfl⟩
    rw [hsl2] at hsl ho
    have HSL := hid hsl2; clear hsl2
    obtain ⟨aa, ac, rfl, hal⟩ := owns_shape ho
    by_cases hlt : k < q
    · have hki : (k : Int) < (q : Int) := by omega
      have hkg : k < gs.length := by rw [HQ.out]; exact hlt
      obtain ⟨g, hgk⟩ : ∃ g, gs[k]? = some g := ⟨_, List.getElem?_eq_getElem hkg⟩
      obtain ⟨a', e1, u, r0, hu0⟩ := HGS.out k g hgk
      subst e1
      have HR0 : Hid _ := hid r0
      replace r0 := bkeep hB r0
      have hu := hu0.below hB
      obtain ⟨m, hm⟩ : ∃ m, g.length = m := ⟨_, rfl⟩
      obtain ⟨ua, uc, rfl⟩ := nums_shape hu hm
      skip
      have HM : Hid (g.length = m) := hm
      have HA2 : Hid (areB n (-1) [] gs = areB n first seen (g :: gs.drop (k + 1))) := by have h := HA.out; rw [List.drop_eq_getElem_cons hkg, show gs[k] = g from Option.some.inj ((List.getElem?_eq_getElem hkg).symm.trans hgk)] at h; exact h
      clear HA
      have HGK2 : Hid (gs[k]? = some g) := hgk
      have HU0 : Hid (NumsAt w (.slice ua m uc) g) := hu0
      clear hgk hu0 hkg
      by_cases hm0 : m = 0
      · subst hm0
        obtain rfl : d = false := HD.out.symm.trans (HA2.out.trans (are_empty HM.out))
        obtain ⟨v5, hv5⟩ : ∃ v, v = wr := ⟨_, rfl⟩
        subst hv5
        go_upto_region 5 with fail
        have s0 := fun z : BW v5 => bkeep z.below r0
        refine wp_region_qb (by kernel_rfl) (by kernel_rfl) fun hcq => ?_
        repeat (go_big_quiet_step (fail))
        refine wpQuiet_nil ?_
        intro v6 hb
        clear s0
        replace ho := owns_below ho hb
        replace hB := bnext (w := w) hB hb
        replace r0 := bkeep hb r0
        clear hb
        go_wp2_with fail
        go_ret
        exact ⟨rfl, hB⟩
      · have hmi : ¬ (m : Int) = 0 := by omega
        have hmb : ((m : Int) == 0) = false := beq_eq_false_iff_ne.mpr hmi
        obtain ⟨x, hx⟩ : ∃ x, g[0]? = some x := ⟨_, List.getElem?_eq_getElem (by omega)⟩
        have HX : Hid (g[0]? = some x) := hx
        obtain ⟨ub, e2, r1⟩ := (show NumsAt wr (.slice ua g.length uc) g by rw [HM.out]; exact hu).elem (show 0 < g.length by omega)
        subst e2
        rw [show g[0]'(by omega) = x from Option.some.inj ((List.getElem?_eq_getElem _).symm.trans hx)] at r1
        replace r1 : wr.cell? ub = some (.int .i64 x) := r1
        have hm0i : (0 : Int) < (m : Int) := by omega
        clear hx hm hu
        rcases HF.out with ⟨hk0, hf1⟩ | ⟨p, g', hkp, hgp, hfp⟩
        · have HK0 := hid hk0
          have hk0n : decide (0 < k) = false := by simp [hk0]
          have hk0m : ¬ 0 < k := by omega
          clear hk0 HF
          obtain ⟨v5, hv5⟩ : ∃ v, v = wr := ⟨_, rfl⟩
          subst hv5
          go_upto_region 5 with fail
          have s0 := fun z : BW v5 => bkeep z.below r0
          have s1 := fun z : BW v5 => bkeep z.below r1
          refine wp_region_qb (by kernel_rfl) (by kernel_rfl) fun hcq => ?_
          repeat (go_big_quiet_step (fail))
          refine wpQuiet_nil ?_
          intro v6 hb
          clear s0 s1
          replace ho := owns_below ho hb
          replace hB := bnext (w := w) hB hb
          replace r0 := bkeep hb r0
          clear hb r1 hk0n hk0m
          go_wp2_with fail
          go_loopg [5, 7] m (fun gk av jv wr => ∃ (j : Nat), j ≤ m ∧ gk = m - j ∧ jv = .int .i64 j ∧ wr.ownsRow w.heap.size 3 1 av (sl + j) ((seen ++ g.take j).map (Value.int .i64)) ∧ Hid ((g.take j).Pairwise (· < ·) ∧ ∀ z ∈ g.take j, 0 ≤ z ∧ z < (n : Int)) ∧ Hid ((seen ++ g.take j).Nodup) ∧ Below w.heap.size w wr)
          case atStart => exact ⟨0, Nat.zero_le _, rfl, rfl, by simpa using ho, ⟨by simp, fun z h => by simp at h⟩, by have := HS.out.1; simpa [Hid] using hid this, hB⟩
          case round =>
            clear ho hB
            obtain ⟨j, hj, hgk, rfl, ho, HP, HND, hB⟩ := hrel
            have HGJ := hid hgk; clear hgk
            obtain ⟨ab, acc, rfl, hbl⟩ := owns_shape ho
            have hr5 : ∀ z ∈ seen ++ g.take j, 0 ≤ z ∧ z < (n : Int) := fun z hz => by rcases List.mem_append.1 hz with h | h; exact HS.out.2 z h; exact HP.out.2 z h
            have hsj : sl + j ≤ n := by have h := (nodup_len HND.out hr5).1; rw [List.length_append, List.length_take, HSL.out, HM.out, Nat.min_eq_left hj] at h; exact h
            have hjl : (seen ++ g.take j).length = sl + j := by rw [List.length_append, List.length_take, HSL.out, HM.out, Nat.min_eq_left hj]
            have HR5 : Hid (∀ z ∈ seen ++ g.take j, 0 ≤ z ∧ z < (n : Int)) := hr5; have HJL := hid hjl; clear hr5 hjl
            replace r0 := bkeep hB HR0.out
            by_cases hlj : j < m
            · have hji : (j : Int) < (m : Int) := by omega
              obtain ⟨z, hz⟩ : ∃ z, g[j]? = some z := ⟨_, List.getElem?_eq_getElem (by rw [HM.out]; exact hlj)⟩
              obtain ⟨ub2, e3, r2⟩ := (show NumsAt wr (.slice (some ub) g.length uc) g by rw [HM.out]; exact HU0.out.below hB).elem (show j < g.length by rw [HM.out]; exact hlj)
              injection e3 with e3
              subst e3
              rw [show g[j]'(by rw [HM.out]; exact hlj) = z from Option.some.inj ((List.getElem?_eq_getElem _).symm.trans hz)] at r2
              have HZ : Hid (g[j]? = some z) := hz
              have hna := numsAt_of_owns (zs := seen ++ g.take j) (fun y hy => by have := HR5.out y hy; exact I64.mk (by omega) (by omega)) (by rw [HJL.out]; exact ho)
              skip
              obtain ⟨b1, hb1⟩ : ∃ b, btw z 0 ((n : Int) - 1) = b := ⟨_, rfl⟩
              obtain ⟨b2, hb2⟩ : ∃ b, (seen ++ g.take j).contains z = b := ⟨_, rfl⟩
              have HB1 := hid hb1; have HB2 := hid hb2
              have hnv : NumsAt wr (.slice ab (sl + j) acc) (seen ++ g.take j) := hna
              clear hna hz
              obtain ⟨v7, hv7⟩ : ∃ v, v = wr := ⟨_, rfl⟩
              subst hv7
              cases b1
              · obtain rfl : d = false := HD.out.symm.trans (HA2.out.trans (are_idx (idx_no (List.mem_of_getElem? HZ.out) HB1.out)))
                clear hb1 hb2
                go_wp2_with fail
                refine (rB HB1.out).mono ?_
                rintro e v8 ⟨rfl, hb⟩
                replace r0 := bkeep hb r0
                replace r2 := bkeep hb r2
                replace hnv := hnv.below hb
                replace ho := owns_below ho hb
                replace hB := bnext (w := w) hB hb
                clear hb
                go_wp2_with fail
                go_ret
                exact ⟨rfl, hB⟩
              · cases b2
                · by_cases hj0 : j = 0
                  · have HJ0 := hid hj0
                    have hjn : decide (0 < j) = false := by simp [hj0]
                    have hjm : ¬ 0 < j := by omega
                    clear hb1 hb2 hj0
                    go_wp2_with fail
                    refine (rB HB1.out).mono ?_
                    rintro e v8 ⟨rfl, hb⟩
                    replace r0 := bkeep hb r0
                    replace r2 := bkeep hb r2
                    replace hnv := hnv.below hb
                    replace ho := owns_below ho hb
                    replace hB := bnext (w := w) hB hb
                    clear hb
                    go_wp2_with fail
                    refine (has_eq hnv HB2.out).mono ?_
                    rintro e v9 ⟨rfl, hb⟩
                    replace r0 := bkeep hb r0
                    replace r2 := bkeep hb r2
                    replace hnv := hnv.below hb
                    replace ho := owns_below ho hb
                    replace hB := bnext (w := w) hB hb
                    clear hb
                    have hzb := btw_iff.1 HB1.out
                    have hzn : z ∉ seen ++ g.take j := by have := HB2.out; simpa using this
                    have HNX : Hid (seen ++ g.take (j + 1) = seen ++ g.take j ++ [z]) := hid (by rw [take_snoc HZ.out, List.append_assoc])
                    have HPW : Hid ((g.take (j + 1)).Pairwise (· < ·)) := hid (by rw [take_snoc HZ.out, HJ0.out]; simp)
                    have hz0w := hB.size
                    go_wp2_with (at_builtin; go_must (refine wpList_append_own _ rfl _ _ 41 rfl w.heap.size 3 i0 (.int .i64 0) 1 8 Try.underlying41 hi0 hz0 hz1 hz2 rfl (by decide) _ _ _ rfl (ho.alloc _) ⟨v9.heap.size, 0, none⟩ 1 1 [.int .i64 z] rfl rfl (one_int _ _ _ _ rfl) (by simp [Value.oneCell']) (by unfold maxLen; omega) (by omega) (by simp; omega) ?_; intro v' w10 ho9 hg9 hnil; have hb9 := Pb.below_grown (hB.alloc (by omega) (.cells #[.int .i64 z] 3)) hg9 (ho.alloc _) (by simp; omega) (by omega); clear hnil hg9))
                    go_roundg (m - (j + 1))
                    case measure => have h := HGJ.out; omega
                    case rel => exact ⟨j + 1, by omega, rfl, by go_num, by rw [HNX.out, List.map_append, ← Nat.add_assoc]; exact ho9, hid ⟨HPW.out, fun y hy => by rw [take_snoc HZ.out] at hy; rcases List.mem_append.1 hy with h | h; exact HP.out.2 y h; (rw [List.mem_singleton] at h); subst h; omega⟩, hid (by rw [HNX.out]; exact nodup_snoc HND.out hzn), hb9⟩
                  · obtain ⟨t, ht⟩ : ∃ t, t + 1 = j := ⟨j - 1, by omega⟩
                    have HT := hid ht
                    have hwt : IntKind.i64.wrap ((j : Int) - 1) = (t : Int) := (IntWalk.i64_in _ (by omega)).trans (by omega)
                    have htm : (t : Int) < (m : Int) := by omega
                    have hjp : (0 : Int) < (j : Int) := by omega
                    have hjm : 0 < j := by omega
                    have hjn : decide (0 < j) = true := by simp [hjm]
                    obtain ⟨y, hy⟩ : ∃ y, g[t]? = some y := ⟨_, List.getElem?_eq_getElem (by rw [HM.out]; omega)⟩
                    obtain ⟨ub3, e4, r3⟩ := (show NumsAt v7 (.slice (some ub) g.length uc) g by rw [HM.out]; exact HU0.out.below hB).elem (show t < g.length by rw [HM.out]; omega)
                    injection e4 with e4
                    subst e4
                    rw [show g[t]'(by rw [HM.out]; omega) = y from Option.some.inj ((List.getElem?_eq_getElem _).symm.trans hy)] at r3
                    have HY : Hid (g[t]? = some y) := hy
                    clear hy ht hb1 hb2
                    by_cases hyz : z ≤ y
                    · obtain rfl : d = false := HD.out.symm.trans (HA2.out.trans (are_idx (idx_back HZ.out HY.out (by have := HT.out; omega) hyz)))
                      go_wp2_with fail
                      refine (rB HB1.out).mono ?_
                      rintro e v8 ⟨rfl, hb⟩
                      replace r0 := bkeep hb r0
                      replace r2 := bkeep hb r2
                      replace r3 := bkeep hb r3
                      replace hnv := hnv.below hb
                      replace ho := owns_below ho hb
                      replace hB := bnext (w := w) hB hb
                      clear hb
                      go_wp2_with fail
                      refine (has_eq hnv HB2.out).mono ?_
                      rintro e v9 ⟨rfl, hb⟩
                      replace r0 := bkeep hb r0
                      replace r2 := bkeep hb r2
                      replace r3 := bkeep hb r3
                      replace hnv := hnv.below hb
                      replace ho := owns_below ho hb
                      replace hB := bnext (w := w) hB hb
                      clear hb
                      go_wp2_with fail
                      go_ret
                      exact ⟨rfl, hB⟩
                    · go_wp2_with fail
                      refine (rB HB1.out).mono ?_
                      rintro e v8 ⟨rfl, hb⟩
                      replace r0 := bkeep hb r0
                      replace r2 := bkeep hb r2
                      replace r3 := bkeep hb r3
                      replace hnv := hnv.below hb
                      replace ho := owns_below ho hb
                      replace hB := bnext (w := w) hB hb
                      clear hb
                      go_wp2_with fail
                      refine (has_eq hnv HB2.out).mono ?_
                      rintro e v9 ⟨rfl, hb⟩
                      replace r0 := bkeep hb r0
                      replace r2 := bkeep hb r2
                      replace r3 := bkeep hb r3
                      replace hnv := hnv.below hb
                      replace ho := owns_below ho hb
                      replace hB := bnext (w := w) hB hb
                      clear hb
                      have hzb := btw_iff.1 HB1.out
                      have hzn : z ∉ seen ++ g.take j := by have := HB2.out; simpa using this
                      have HNX : Hid (seen ++ g.take (j + 1) = seen ++ g.take j ++ [z]) := hid (by rw [take_snoc HZ.out, List.append_assoc])
                      have HPW : Hid ((g.take (j + 1)).Pairwise (· < ·)) := hid (pw_snoc HP.out.1 HZ.out HY.out HT.out (by omega))
                      have hz0w := hB.size
                      go_wp2_with (at_builtin; go_must (refine wpList_append_own _ rfl _ _ 41 rfl w.heap.size 3 i0 (.int .i64 0) 1 8 Try.underlying41 hi0 hz0 hz1 hz2 rfl (by decide) _ _ _ rfl (ho.alloc _) ⟨v9.heap.size, 0, none⟩ 1 1 [.int .i64 z] rfl rfl (one_int _ _ _ _ rfl) (by simp [Value.oneCell']) (by unfold maxLen; omega) (by omega) (by simp; omega) ?_; intro v' w10 ho9 hg9 hnil; have hb9 := Pb.below_grown (hB.alloc (by omega) (.cells #[.int .i64 z] 3)) hg9 (ho.alloc _) (by simp; omega) (by omega); clear hnil hg9))
                      go_roundg (m - (j + 1))
                      case measure => have h := HGJ.out; omega
                      case rel => exact ⟨j + 1, by omega, rfl, by go_num, by rw [HNX.out, List.map_append, ← Nat.add_assoc]; exact ho9, hid ⟨HPW.out, fun y hy => by rw [take_snoc HZ.out] at hy; rcases List.mem_append.1 hy with h | h; exact HP.out.2 y h; (rw [List.mem_singleton] at h); subst h; omega⟩, hid (by rw [HNX.out]; exact nodup_snoc HND.out hzn), hb9⟩
                · obtain rfl : d = false := HD.out.symm.trans (HA2.out.trans (are_twice HZ.out (by have := HB2.out; simpa using this)))
                  clear hb1 hb2
                  go_wp2_with fail
                  refine (rB HB1.out).mono ?_
                  rintro e v8 ⟨rfl, hb⟩
                  replace r0 := bkeep hb r0
                  replace r2 := bkeep hb r2
                  replace hnv := hnv.below hb
                  replace ho := owns_below ho hb
                  replace hB := bnext (w := w) hB hb
                  clear hb
                  go_wp2_with fail
                  refine (has_eq hnv HB2.out).mono ?_
                  rintro e v9 ⟨rfl, hb⟩
                  replace r0 := bkeep hb r0
                  replace r2 := bkeep hb r2
                  replace hnv := hnv.below hb
                  replace ho := owns_below ho hb
                  replace hB := bnext (w := w) hB hb
                  clear hb
                  go_wp2_with fail
                  go_ret
                  exact ⟨rfl, hB⟩
            · obtain rfl : j = m := by omega
              have hjj : ¬ (j : Int) < (j : Int) := by omega
              have htk : g.take j = g := List.take_of_length_le (by rw [HM.out]; exact Nat.le_refl _)
              rw [htk] at ho
              have HP2 := HP.out; have HND2 := HND.out
              rw [htk] at HP2 HND2
              have hix : idxB (n : Int) (-1) g = true := idx_iff.2 ⟨HP2.1, fun z hz => by have := HP2.2 z hz; omega⟩
              have hxr := HP2.2 x (List.mem_of_getElem? HX.out)
              have HAC : Hid (areB n (-1) [] gs = areB n x (seen ++ g) (gs.drop (k + 1))) := hid (by rw [HA2.out, are_next HX.out hix (by have := hf1; omega) HND2])
              have HSN : Hid ((seen ++ g).Nodup ∧ ∀ z ∈ seen ++ g, 0 ≤ z ∧ z < (n : Int)) := hid ⟨HND2, fun z hz => by rcases List.mem_append.1 hz with h | h; exact HS.out.2 z h; exact HP2.2 z h⟩
              have HLN : Hid ((seen ++ g).length = sl + j) := hid (by rw [List.length_append, HSL.out, HM.out])
              clear HP2 HND2 hix htk
              go_wp2_with fail
              go_roundg (q - (k + 1))
              case measure => have h := HGK.out; omega
              case rel => exact ⟨k + 1, x, seen ++ g, by omega, rfl, by go_num, by rw [HLN.out]; exact ho, HAC, hid (.inr ⟨k, g, rfl, HGK2.out, HX.out⟩), HSN, hB⟩
        · obtain ⟨a2, e5, u2, t0, hu2⟩ := HGS.out p g' hgp
          injection e5 with e5
          subst e5
          replace t0 := bkeep hB t0
          replace hu2 := hu2.below hB
          obtain ⟨m2, hm2⟩ : ∃ m, g'.length = m := ⟨_, rfl⟩
          have hm2p : 0 < m2 := by rw [← hm2]; exact (List.getElem?_eq_some_iff.1 hfp).1
          obtain ⟨ua2, uc2, rfl⟩ := nums_shape hu2 hm2
          obtain ⟨ub9, e6, t1⟩ := (show NumsAt wr (.slice ua2 g'.length uc2) g' by rw [hm2]; exact hu2).elem (show 0 < g'.length by omega)
          subst e6
          rw [show g'[0]'(by omega) = first from Option.some.inj ((List.getElem?_eq_getElem _).symm.trans hfp)] at t1
          replace t1 : wr.cell? ub9 = some (.int .i64 first) := t1
          have hwp : IntKind.i64.wrap ((k : Int) - 1) = (p : Int) := (IntWalk.i64_in _ (by omega)).trans (by omega)
          have hpq : (p : Int) < (q : Int) := by omega
          have hk0 : (0 : Int) < (k : Int) := by omega
          have hk0m : 0 < k := by omega
          have hk0n : decide (0 < k) = true := by simp [hk0m]
          have hm2i : (0 : Int) < (m2 : Int) := by omega
          have HKP := hid hkp
          clear hu2 hm2 hgp hfp hkp HF
          by_cases hxf : x ≤ first
          · obtain rfl : d = false := HD.out.symm.trans (HA2.out.trans (are_head HX.out hxf))
            obtain ⟨v5, hv5⟩ : ∃ v, v = wr := ⟨_, rfl⟩
            subst hv5
            go_upto_region 5 with fail
            have s0 := fun z : BW v5 => bkeep z.below r0
            have s1 := fun z : BW v5 => bkeep z.below r1
            have s2 := fun z : BW v5 => bkeep z.below t0
            have s3 := fun z : BW v5 => bkeep z.below t1
            refine wp_region_qb (by kernel_rfl) (by kernel_rfl) fun hcq => ?_
            repeat (go_big_quiet_step (fail))
            refine wpQuiet_nil ?_
            intro v6 hb
            clear s0 s1 s2 s3
            replace ho := owns_below ho hb
            replace hB := bnext (w := w) hB hb
            replace r0 := bkeep hb r0
            clear hb
            go_wp2_with fail
            go_ret
            exact ⟨rfl, hB⟩
          · obtain ⟨v5, hv5⟩ : ∃ v, v = wr := ⟨_, rfl⟩
            subst hv5
            go_upto_region 5 with fail
            have s0 := fun z : BW v5 => bkeep z.below r0
            have s1 := fun z : BW v5 => bkeep z.below r1
            have s2 := fun z : BW v5 => bkeep z.below t0
            have s3 := fun z : BW v5 => bkeep z.below t1
            refine wp_region_qb (by kernel_rfl) (by kernel_rfl) fun hcq => ?_
            repeat (go_big_quiet_step (fail))
            refine wpQuiet_nil ?_
            intro v6 hb
            clear s0 s1 s2 s3
            replace ho := owns_below ho hb
            replace hB := bnext (w := w) hB hb
            replace r0 := bkeep hb r0
            clear hb r1 t0 t1 hwp hpq hk0 hk0m hk0n hm2i
            go_wp2_with fail
            go_loopg [5, 7] m (fun gk av jv wr => ∃ (j : Nat), j ≤ m ∧ gk = m - j ∧ jv = .int .i64 j ∧ wr.ownsRow w.heap.size 3 1 av (sl + j) ((seen ++ g.take j).map (Value.int .i64)) ∧ Hid ((g.take j).Pairwise (· < ·) ∧ ∀ z ∈ g.take j, 0 ≤ z ∧ z < (n : Int)) ∧ Hid ((seen ++ g.take j).Nodup) ∧ Below w.heap.size w wr)
            case atStart => exact ⟨0, Nat.zero_le _, rfl, rfl, by simpa using ho, ⟨by simp, fun z h => by simp at h⟩, by have := HS.out.1; simpa [Hid] using hid this, hB⟩
            case round =>
              clear ho hB
              obtain ⟨j, hj, hgk, rfl, ho, HP, HND, hB⟩ := hrel
              have HGJ := hid hgk; clear hgk
              obtain ⟨ab, acc, rfl, hbl⟩ := owns_shape ho
              have hr5 : ∀ z ∈ seen ++ g.take j, 0 ≤ z ∧ z < (n : Int) := fun z hz => by rcases List.mem_append.1 hz with h | h; exact HS.out.2 z h; exact HP.out.2 z h
              have hsj : sl + j ≤ n := by have h := (nodup_len HND.out hr5).1; rw [List.length_append, List.length_take, HSL.out, HM.out, Nat.min_eq_left hj] at h; exact h
              have hjl : (seen ++ g.take j).length = sl + j := by rw [List.length_append, List.length_take, HSL.out, HM.out, Nat.min_eq_left hj]
              have HR5 : Hid (∀ z ∈ seen ++ g.take j, 0 ≤ z ∧ z < (n : Int)) := hr5; have HJL := hid hjl; clear hr5 hjl
              replace r0 := bkeep hB HR0.out
              by_cases hlj : j < m
              · have hji : (j : Int) < (m : Int) := by omega
                obtain ⟨z, hz⟩ : ∃ z, g[j]? = some z := ⟨_, List.getElem?_eq_getElem (by rw [HM.out]; exact hlj)⟩
                obtain ⟨ub2, e3, r2⟩ := (show NumsAt wr (.slice (some ub) g.length uc) g by rw [HM.out]; exact HU0.out.below hB).elem (show j < g.length by rw [HM.out]; exact hlj)
                injection e3 with e3
                subst e3
                rw [show g[j]'(by rw [HM.out]; exact hlj) = z from Option.some.inj ((List.getElem?_eq_getElem _).symm.trans hz)] at r2
                have HZ : Hid (g[j]? = some z) := hz
                have hna := numsAt_of_owns (zs := seen ++ g.take j) (fun y hy => by have := HR5.out y hy; exact I64.mk (by omega) (by omega)) (by rw [HJL.out]; exact ho)
                skip
                obtain ⟨b1, hb1⟩ : ∃ b, btw z 0 ((n : Int) - 1) = b := ⟨_, rfl⟩
                obtain ⟨b2, hb2⟩ : ∃ b, (seen ++ g.take j).contains z = b := ⟨_, rfl⟩
                have HB1 := hid hb1; have HB2 := hid hb2
                have hnv : NumsAt wr (.slice ab (sl + j) acc) (seen ++ g.take j) := hna
                clear hna hz
                obtain ⟨v7, hv7⟩ : ∃ v, v = wr := ⟨_, rfl⟩
                subst hv7
                cases b1
                · obtain rfl : d = false := HD.out.symm.trans (HA2.out.trans (are_idx (idx_no (List.mem_of_getElem? HZ.out) HB1.out)))
                  clear hb1 hb2
                  go_wp2_with fail
                  refine (rB HB1.out).mono ?_
                  rintro e v8 ⟨rfl, hb⟩
                  replace r0 := bkeep hb r0
                  replace r2 := bkeep hb r2
                  replace hnv := hnv.below hb
                  replace ho := owns_below ho hb
                  replace hB := bnext (w := w) hB hb
                  clear hb
                  go_wp2_with fail
                  go_ret
                  exact ⟨rfl, hB⟩
                · cases b2
                  · by_cases hj0 : j = 0
                    · have HJ0 := hid hj0
                      have hjn : decide (0 < j) = false := by simp [hj0]
                      have hjm : ¬ 0 < j := by omega
                      clear hb1 hb2 hj0
                      go_wp2_with fail
                      refine (rB HB1.out).mono ?_
                      rintro e v8 ⟨rfl, hb⟩
                      replace r0 := bkeep hb r0
                      replace r2 := bkeep hb r2
                      replace hnv := hnv.below hb
                      replace ho := owns_below ho hb
                      replace hB := bnext (w := w) hB hb
                      clear hb
                      go_wp2_with fail
                      refine (has_eq hnv HB2.out).mono ?_
                      rintro e v9 ⟨rfl, hb⟩
                      replace r0 := bkeep hb r0
                      replace r2 := bkeep hb r2
                      replace hnv := hnv.below hb
                      replace ho := owns_below ho hb
                      replace hB := bnext (w := w) hB hb
                      clear hb
                      have hzb := btw_iff.1 HB1.out
                      have hzn : z ∉ seen ++ g.take j := by have := HB2.out; simpa using this
                      have HNX : Hid (seen ++ g.take (j + 1) = seen ++ g.take j ++ [z]) := hid (by rw [take_snoc HZ.out, List.append_assoc])
                      have HPW : Hid ((g.take (j + 1)).Pairwise (· < ·)) := hid (by rw [take_snoc HZ.out, HJ0.out]; simp)
                      have hz0w := hB.size
                      go_wp2_with (at_builtin; go_must (refine wpList_append_own _ rfl _ _ 41 rfl w.heap.size 3 i0 (.int .i64 0) 1 8 Try.underlying41 hi0 hz0 hz1 hz2 rfl (by decide) _ _ _ rfl (ho.alloc _) ⟨v9.heap.size, 0, none⟩ 1 1 [.int .i64 z] rfl rfl (one_int _ _ _ _ rfl) (by simp [Value.oneCell']) (by unfold maxLen; omega) (by omega) (by simp; omega) ?_; intro v' w10 ho9 hg9 hnil; have hb9 := Pb.below_grown (hB.alloc (by omega) (.cells #[.int .i64 z] 3)) hg9 (ho.alloc _) (by simp; omega) (by omega); clear hnil hg9))
                      go_roundg (m - (j + 1))
                      case measure => have h := HGJ.out; omega
                      case rel => exact ⟨j + 1, by omega, rfl, by go_num, by rw [HNX.out, List.map_append, ← Nat.add_assoc]; exact ho9, hid ⟨HPW.out, fun y hy => by rw [take_snoc HZ.out] at hy; rcases List.mem_append.1 hy with h | h; exact HP.out.2 y h; (rw [List.mem_singleton] at h); subst h; omega⟩, hid (by rw [HNX.out]; exact nodup_snoc HND.out hzn), hb9⟩
                    · obtain ⟨t, ht⟩ : ∃ t, t + 1 = j := ⟨j - 1, by omega⟩
                      have HT := hid ht
                      have hwt : IntKind.i64.wrap ((j : Int) - 1) = (t : Int) := (IntWalk.i64_in _ (by omega)).trans (by omega)
                      have htm : (t : Int) < (m : Int) := by omega
                      have hjp : (0 : Int) < (j : Int) := by omega
                      have hjm : 0 < j := by omega
                      have hjn : decide (0 < j) = true := by simp [hjm]
                      obtain ⟨y, hy⟩ : ∃ y, g[t]? = some y := ⟨_, List.getElem?_eq_getElem (by rw [HM.out]; omega)⟩
                      obtain ⟨ub3, e4, r3⟩ := (show NumsAt v7 (.slice (some ub) g.length uc) g by rw [HM.out]; exact HU0.out.below hB).elem (show t < g.length by rw [HM.out]; omega)
                      injection e4 with e4
                      subst e4
                      rw [show g[t]'(by rw [HM.out]; omega) = y from Option.some.inj ((List.getElem?_eq_getElem _).symm.trans hy)] at r3
                      have HY : Hid (g[t]? = some y) := hy
                      clear hy ht hb1 hb2
                      by_cases hyz : z ≤ y
                      · obtain rfl : d = false := HD.out.symm.trans (HA2.out.trans (are_idx (idx_back HZ.out HY.out (by have := HT.out; omega) hyz)))
                        go_wp2_with fail
                        refine (rB HB1.out).mono ?_
                        rintro e v8 ⟨rfl, hb⟩
                        replace r0 := bkeep hb r0
                        replace r2 := bkeep hb r2
                        replace r3 := bkeep hb r3
                        replace hnv := hnv.below hb
                        replace ho := owns_below ho hb
                        replace hB := bnext (w := w) hB hb
                        clear hb
                        go_wp2_with fail
                        refine (has_eq hnv HB2.out).mono ?_
                        rintro e v9 ⟨rfl, hb⟩
                        replace r0 := bkeep hb r0
                        replace r2 := bkeep hb r2
                        replace r3 := bkeep hb r3
                        replace hnv := hnv.below hb
                        replace ho := owns_below ho hb
                        replace hB := bnext (w := w) hB hb
                        clear hb
                        go_wp2_with fail
                        go_ret
                        exact ⟨rfl, hB⟩
                      · go_wp2_with fail
                        refine (rB HB1.out).mono ?_
                        rintro e v8 ⟨rfl, hb⟩
                        replace r0 := bkeep hb r0
                        replace r2 := bkeep hb r2
                        replace r3 := bkeep hb r3
                        replace hnv := hnv.below hb
                        replace ho := owns_below ho hb
                        replace hB := bnext (w := w) hB hb
                        clear hb
                        go_wp2_with fail
                        refine (has_eq hnv HB2.out).mono ?_
                        rintro e v9 ⟨rfl, hb⟩
                        replace r0 := bkeep hb r0
                        replace r2 := bkeep hb r2
                        replace r3 := bkeep hb r3
                        replace hnv := hnv.below hb
                        replace ho := owns_below ho hb
                        replace hB := bnext (w := w) hB hb
                        clear hb
                        have hzb := btw_iff.1 HB1.out
                        have hzn : z ∉ seen ++ g.take j := by have := HB2.out; simpa using this
                        have HNX : Hid (seen ++ g.take (j + 1) = seen ++ g.take j ++ [z]) := hid (by rw [take_snoc HZ.out, List.append_assoc])
                        have HPW : Hid ((g.take (j + 1)).Pairwise (· < ·)) := hid (pw_snoc HP.out.1 HZ.out HY.out HT.out (by omega))
                        have hz0w := hB.size
                        go_wp2_with (at_builtin; go_must (refine wpList_append_own _ rfl _ _ 41 rfl w.heap.size 3 i0 (.int .i64 0) 1 8 Try.underlying41 hi0 hz0 hz1 hz2 rfl (by decide) _ _ _ rfl (ho.alloc _) ⟨v9.heap.size, 0, none⟩ 1 1 [.int .i64 z] rfl rfl (one_int _ _ _ _ rfl) (by simp [Value.oneCell']) (by unfold maxLen; omega) (by omega) (by simp; omega) ?_; intro v' w10 ho9 hg9 hnil; have hb9 := Pb.below_grown (hB.alloc (by omega) (.cells #[.int .i64 z] 3)) hg9 (ho.alloc _) (by simp; omega) (by omega); clear hnil hg9))
                        go_roundg (m - (j + 1))
                        case measure => have h := HGJ.out; omega
                        case rel => exact ⟨j + 1, by omega, rfl, by go_num, by rw [HNX.out, List.map_append, ← Nat.add_assoc]; exact ho9, hid ⟨HPW.out, fun y hy => by rw [take_snoc HZ.out] at hy; rcases List.mem_append.1 hy with h | h; exact HP.out.2 y h; (rw [List.mem_singleton] at h); subst h; omega⟩, hid (by rw [HNX.out]; exact nodup_snoc HND.out hzn), hb9⟩
                  · obtain rfl : d = false := HD.out.symm.trans (HA2.out.trans (are_twice HZ.out (by have := HB2.out; simpa using this)))
                    clear hb1 hb2
                    go_wp2_with fail
                    refine (rB HB1.out).mono ?_
                    rintro e v8 ⟨rfl, hb⟩
                    replace r0 := bkeep hb r0
                    replace r2 := bkeep hb r2
                    replace hnv := hnv.below hb
                    replace ho := owns_below ho hb
                    replace hB := bnext (w := w) hB hb
                    clear hb
                    go_wp2_with fail
                    refine (has_eq hnv HB2.out).mono ?_
                    rintro e v9 ⟨rfl, hb⟩
                    replace r0 := bkeep hb r0
                    replace r2 := bkeep hb r2
                    replace hnv := hnv.below hb
                    replace ho := owns_below ho hb
                    replace hB := bnext (w := w) hB hb
                    clear hb
                    go_wp2_with fail
                    go_ret
                    exact ⟨rfl, hB⟩
              · obtain rfl : j = m := by omega
                have hjj : ¬ (j : Int) < (j : Int) := by omega
                have htk : g.take j = g := List.take_of_length_le (by rw [HM.out]; exact Nat.le_refl _)
                rw [htk] at ho
                have HP2 := HP.out; have HND2 := HND.out
                rw [htk] at HP2 HND2
                have hix : idxB (n : Int) (-1) g = true := idx_iff.2 ⟨HP2.1, fun z hz => by have := HP2.2 z hz; omega⟩
                have hxr := HP2.2 x (List.mem_of_getElem? HX.out)
                have HAC : Hid (areB n (-1) [] gs = areB n x (seen ++ g) (gs.drop (k + 1))) := hid (by rw [HA2.out, are_next HX.out hix (by omega) HND2])
                have HSN : Hid ((seen ++ g).Nodup ∧ ∀ z ∈ seen ++ g, 0 ≤ z ∧ z < (n : Int)) := hid ⟨HND2, fun z hz => by rcases List.mem_append.1 hz with h | h; exact HS.out.2 z h; exact HP2.2 z h⟩
                have HLN : Hid ((seen ++ g).length = sl + j) := hid (by rw [List.length_append, HSL.out, HM.out])
                clear HP2 HND2 hix htk
                go_wp2_with fail
                go_roundg (q - (k + 1))
                case measure => have h := HGK.out; omega
                case rel => exact ⟨k + 1, x, seen ++ g, by omega, rfl, by go_num, by rw [HLN.out]; exact ho, HAC, hid (.inr ⟨k, g, rfl, HGK2.out, HX.out⟩), HSN, hB⟩
    · obtain rfl : k = q := by omega
      have hkk : ¬ (k : Int) < (k : Int) := by omega
      have hacc : d = decide (sl = n) := by rw [← HD.out, HA.out, List.drop_of_length_le (by rw [HQ.out]; exact Nat.le_refl _), areB, HSL.out]
      subst hacc
      clear HD
      go_wp2_with fail
      go_ret
      exact ⟨ret_bool (by rw [Bool.eq_iff_iff]; simp; omega), hB⟩

end Go.Proofs.Ytnchhleokdkejaa

/- BungParted returns true. -/
namespace Go.Proofs.Ytnchhleokdkejaa
open Go.RowKit Go.Pb Go.Pb.Ware Go.Pb.Sag
set_option linter.unusedVariables false
set_option linter.unusedSimpArgs false

open Go.Proofs Go.Pb.Bung
set_option maxRecDepth 100000 in
set_option maxHeartbeats 1000000 in
theorem rCkPt {w : World} {v gv : Value} {l : List Sg} {gs : List (List Int)} {lo hi cr le r : Int} (h : RowsAt 8 w v (l.map rowG)) (hg : ListsAt gv gs w) (hgl : gs.length ≤ 9223372036854775807) (hr : ckPt lo hi l cr le gs = r) :
    Calls Try.prog 63 #[.agg #[.int .i64 lo, .int .i64 hi, v, .int .i64 cr, .int .i64 le], gv] w (Ret w (.int .i64 r)) := by
  unfold Ret
  obtain ⟨a, cap, rfl, hll⟩ := h.shape
  rw [List.length_map] at h hll ⊢
  obtain ⟨n, hn⟩ : ∃ n, l.length = n := ⟨_, rfl⟩
  have HN : Hid (l.length = n) := hn
  obtain ⟨ga, gcap, hgv, hgs⟩ := id hg
  obtain ⟨q, hq⟩ : ∃ q, gs.length = q := ⟨_, rfl⟩
  have HQ : Hid (gs.length = q) := hq
  rw [hq] at hgl hgv
  subst hgv
  obtain ⟨c, hc⟩ : ∃ c, ckYd lo hi l cr le = c := ⟨_, rfl⟩
  obtain ⟨ab, hab⟩ : ∃ b, areB l.length (-1) [] gs = b := ⟨_, rfl⟩
  obtain ⟨d, hd⟩ : ∃ d, allB lo hi l cr le gs = d := ⟨_, rfl⟩
  have hr2 : r = if c ≠ 0 then c else if ab = true then (if d = true then 0 else 3) else 37 := by rw [← hr]; unfold ckPt; rw [hc, hab, hd]
  clear hr
  have HC : Hid (ckYd lo hi l cr le = c) := hc
  by_cases hc0 : c = 0
  · subst hc0
    rw [if_neg (by simp)] at hr2
    obtain ⟨h1, h2, hk⟩ := yard_ok hc
    have hl30 := (listOk_iff.1 hk).1
    clear hc
    have HAB : Hid (areB l.length (-1) [] gs = ab) := hab
    rw [hn] at h hll hl30 hab HAB ⊢
    clear hn
    cases ab
    · obtain rfl : r = 37 := hr2
      clear hab hd
      go_enter Try.func63, Try.ntmps63
      go_wp2_with fail
      refine (rChk_any (h.below (by go_grown)) HC.out).mono ?_
      rintro e w1 ⟨rfl, hb⟩
      replace hb0 := bnext (w := w) (by go_grown) hb; have hz := hb.size; (try simp only [World.size_alloc, World.size_setCell] at hz); replace q0 : w1.cell? ⟨w.heap.size, 0, none⟩ = some (.int .i64 lo) := bkeep hb (by first | (with_reducible exact q0) | (with_reducible exact akeep q0) | simp [*, go_sem]); replace q1 : w1.cell? ⟨w.heap.size, 1, none⟩ = some (.int .i64 hi) := bkeep hb (by first | (with_reducible exact q1) | (with_reducible exact akeep q1) | simp [*, go_sem]); replace q2 : w1.cell? ⟨w.heap.size, 2, none⟩ = some (.slice a n cap) := bkeep hb (by first | (with_reducible exact q2) | (with_reducible exact akeep q2) | simp [*, go_sem]); replace q3 : w1.cell? ⟨w.heap.size, 3, none⟩ = some (.int .i64 cr) := bkeep hb (by first | (with_reducible exact q3) | (with_reducible exact akeep q3) | simp [*, go_sem]); replace q4 : w1.cell? ⟨w.heap.size, 4, none⟩ = some (.int .i64 le) := bkeep hb (by first | (with_reducible exact q4) | (with_reducible exact akeep q4) | simp [*, go_sem]); skip
      clear hb
      go_wp2_with fail
      refine (rAre_any (by omega) (hg.below (by go_grown)) (by rw [HQ.out]; exact hgl) HAB.out).mono ?_
      rintro e w1 ⟨rfl, hb⟩
      replace hb0 := bnext (w := w) (by go_grown) hb; have hz := hb.size; (try simp only [World.size_alloc, World.size_setCell] at hz); replace q0 : w1.cell? ⟨w.heap.size, 0, none⟩ = some (.int .i64 lo) := bkeep hb (by first | (with_reducible exact q0) | (with_reducible exact akeep q0) | simp [*, go_sem]); replace q1 : w1.cell? ⟨w.heap.size, 1, none⟩ = some (.int .i64 hi) := bkeep hb (by first | (with_reducible exact q1) | (with_reducible exact akeep q1) | simp [*, go_sem]); replace q2 : w1.cell? ⟨w.heap.size, 2, none⟩ = some (.slice a n cap) := bkeep hb (by first | (with_reducible exact q2) | (with_reducible exact akeep q2) | simp [*, go_sem]); replace q3 : w1.cell? ⟨w.heap.size, 3, none⟩ = some (.int .i64 cr) := bkeep hb (by first | (with_reducible exact q3) | (with_reducible exact akeep q3) | simp [*, go_sem]); replace q4 : w1.cell? ⟨w.heap.size, 4, none⟩ = some (.int .i64 le) := bkeep hb (by first | (with_reducible exact q4) | (with_reducible exact akeep q4) | simp [*, go_sem]); skip
      clear hb
      go_wp2_with fail
      go_ret
      exact ⟨rfl, by first | exact hb0 | go_grown⟩
    · rw [if_pos rfl] at hr2
      have HGB : Hid (Bungs n gs) := bungs_of hl30 hab
      have HK : Hid (listOk l = true) := hk; have HL1 := hid h1; have HL2 := hid h2; have HD : Hid (allB lo hi l cr le gs = d) := hd
      clear hgs hk h1 h2 hd hab
      cases d
      · obtain rfl : r = 3 := hr2
        go_enter Try.func63, Try.ntmps63
        go_wp2_with fail
        refine (rChk_any (h.below (by go_grown)) HC.out).mono ?_
        rintro e w1 ⟨rfl, hb⟩
        replace hb0 := bnext (w := w) (by go_grown) hb; have hz := hb.size; (try simp only [World.size_alloc, World.size_setCell] at hz); replace q0 : w1.cell? ⟨w.heap.size, 0, none⟩ = some (.int .i64 lo) := bkeep hb (by first | (with_reducible exact q0) | (with_reducible exact akeep q0) | simp [*, go_sem]); replace q1 : w1.cell? ⟨w.heap.size, 1, none⟩ = some (.int .i64 hi) := bkeep hb (by first | (with_reducible exact q1) | (with_reducible exact akeep q1) | simp [*, go_sem]); replace q2 : w1.cell? ⟨w.heap.size, 2, none⟩ = some (.slice a n cap) := bkeep hb (by first | (with_reducible exact q2) | (with_reducible exact akeep q2) | simp [*, go_sem]); replace q3 : w1.cell? ⟨w.heap.size, 3, none⟩ = some (.int .i64 cr) := bkeep hb (by first | (with_reducible exact q3) | (with_reducible exact akeep q3) | simp [*, go_sem]); replace q4 : w1.cell? ⟨w.heap.size, 4, none⟩ = some (.int .i64 le) := bkeep hb (by first | (with_reducible exact q4) | (with_reducible exact akeep q4) | simp [*, go_sem]); skip
        clear hb
        go_wp2_with fail
        refine (rAre_any (by omega) (hg.below (by go_grown)) (by rw [HQ.out]; exact hgl) HAB.out).mono ?_
        rintro e w1 ⟨rfl, hb⟩
        replace hb0 := bnext (w := w) (by go_grown) hb; have hz := hb.size; (try simp only [World.size_alloc, World.size_setCell] at hz); replace q0 : w1.cell? ⟨w.heap.size, 0, none⟩ = some (.int .i64 lo) := bkeep hb (by first | (with_reducible exact q0) | (with_reducible exact akeep q0) | simp [*, go_sem]); replace q1 : w1.cell? ⟨w.heap.size, 1, none⟩ = some (.int .i64 hi) := bkeep hb (by first | (with_reducible exact q1) | (with_reducible exact akeep q1) | simp [*, go_sem]); replace q2 : w1.cell? ⟨w.heap.size, 2, none⟩ = some (.slice a n cap) := bkeep hb (by first | (with_reducible exact q2) | (with_reducible exact akeep q2) | simp [*, go_sem]); replace q3 : w1.cell? ⟨w.heap.size, 3, none⟩ = some (.int .i64 cr) := bkeep hb (by first | (with_reducible exact q3) | (with_reducible exact akeep q3) | simp [*, go_sem]); replace q4 : w1.cell? ⟨w.heap.size, 4, none⟩ = some (.int .i64 le) := bkeep hb (by first | (with_reducible exact q4) | (with_reducible exact akeep q4) | simp [*, go_sem]); skip
        clear hb
        go_wp2_with fail
        refine (rAllDo_any (l := l) (gs := gs) (h.below (by go_grown)) HK.out HL1.out HL2.out (hg.below (by go_grown)) (by rw [HQ.out]; exact hgl) (by rw [HN.out]; exact HGB.out) HD.out).mono ?_
        rintro e w1 ⟨rfl, hb⟩
        replace hb0 := bnext (w := w) (by go_grown) hb; have hz := hb.size; (try simp only [World.size_alloc, World.size_setCell] at hz); replace q0 : w1.cell? ⟨w.heap.size, 0, none⟩ = some (.int .i64 lo) := bkeep hb (by first | (with_reducible exact q0) | (with_reducible exact akeep q0) | simp [*, go_sem]); replace q1 : w1.cell? ⟨w.heap.size, 1, none⟩ = some (.int .i64 hi) := bkeep hb (by first | (with_reducible exact q1) | (with_reducible exact akeep q1) | simp [*, go_sem]); replace q2 : w1.cell? ⟨w.heap.size, 2, none⟩ = some (.slice a n cap) := bkeep hb (by first | (with_reducible exact q2) | (with_reducible exact akeep q2) | simp [*, go_sem]); replace q3 : w1.cell? ⟨w.heap.size, 3, none⟩ = some (.int .i64 cr) := bkeep hb (by first | (with_reducible exact q3) | (with_reducible exact akeep q3) | simp [*, go_sem]); replace q4 : w1.cell? ⟨w.heap.size, 4, none⟩ = some (.int .i64 le) := bkeep hb (by first | (with_reducible exact q4) | (with_reducible exact akeep q4) | simp [*, go_sem]); skip
        clear hb
        go_wp2_with fail
        go_ret
        exact ⟨rfl, by first | exact hb0 | go_grown⟩
      · obtain rfl : r = 0 := hr2
        go_enter Try.func63, Try.ntmps63
        go_wp2_with fail
        refine (rChk_any (h.below (by go_grown)) HC.out).mono ?_
        rintro e w1 ⟨rfl, hb⟩
        replace hb0 := bnext (w := w) (by go_grown) hb; have hz := hb.size; (try simp only [World.size_alloc, World.size_setCell] at hz); replace q0 : w1.cell? ⟨w.heap.size, 0, none⟩ = some (.int .i64 lo) := bkeep hb (by first | (with_reducible exact q0) | (with_reducible exact akeep q0) | simp [*, go_sem]); replace q1 : w1.cell? ⟨w.heap.size, 1, none⟩ = some (.int .i64 hi) := bkeep hb (by first | (with_reducible exact q1) | (with_reducible exact akeep q1) | simp [*, go_sem]); replace q2 : w1.cell? ⟨w.heap.size, 2, none⟩ = some (.slice a n cap) := bkeep hb (by first | (with_reducible exact q2) | (with_reducible exact akeep q2) | simp [*, go_sem]); replace q3 : w1.cell? ⟨w.heap.size, 3, none⟩ = some (.int .i64 cr) := bkeep hb (by first | (with_reducible exact q3) | (with_reducible exact akeep q3) | simp [*, go_sem]); replace q4 : w1.cell? ⟨w.heap.size, 4, none⟩ = some (.int .i64 le) := bkeep hb (by first | (with_reducible exact q4) | (with_reducible exact akeep q4) | simp [*, go_sem]); skip
        clear hb
        go_wp2_with fail
        refine (rAre_any (by omega) (hg.below (by go_grown)) (by rw [HQ.out]; exact hgl) HAB.out).mono ?_
        rintro e w1 ⟨rfl, hb⟩
        replace hb0 := bnext (w := w) (by go_grown) hb; have hz := hb.size; (try simp only [World.size_alloc, World.size_setCell] at hz); replace q0 : w1.cell? ⟨w.heap.size, 0, none⟩ = some (.int .i64 lo) := bkeep hb (by first | (with_reducible exact q0) | (with_reducible exact akeep q0) | simp [*, go_sem]); replace q1 : w1.cell? ⟨w.heap.size, 1, none⟩ = some (.int .i64 hi) := bkeep hb (by first | (with_reducible exact q1) | (with_reducible exact akeep q1) | simp [*, go_sem]); replace q2 : w1.cell? ⟨w.heap.size, 2, none⟩ = some (.slice a n cap) := bkeep hb (by first | (with_reducible exact q2) | (with_reducible exact akeep q2) | simp [*, go_sem]); replace q3 : w1.cell? ⟨w.heap.size, 3, none⟩ = some (.int .i64 cr) := bkeep hb (by first | (with_reducible exact q3) | (with_reducible exact akeep q3) | simp [*, go_sem]); replace q4 : w1.cell? ⟨w.heap.size, 4, none⟩ = some (.int .i64 le) := bkeep hb (by first | (with_reducible exact q4) | (with_reducible exact akeep q4) | simp [*, go_sem]); skip
        clear hb
        go_wp2_with fail
        refine (rAllDo_any (l := l) (gs := gs) (h.below (by go_grown)) HK.out HL1.out HL2.out (hg.below (by go_grown)) (by rw [HQ.out]; exact hgl) (by rw [HN.out]; exact HGB.out) HD.out).mono ?_
        rintro e w1 ⟨rfl, hb⟩
        replace hb0 := bnext (w := w) (by go_grown) hb; have hz := hb.size; (try simp only [World.size_alloc, World.size_setCell] at hz); replace q0 : w1.cell? ⟨w.heap.size, 0, none⟩ = some (.int .i64 lo) := bkeep hb (by first | (with_reducible exact q0) | (with_reducible exact akeep q0) | simp [*, go_sem]); replace q1 : w1.cell? ⟨w.heap.size, 1, none⟩ = some (.int .i64 hi) := bkeep hb (by first | (with_reducible exact q1) | (with_reducible exact akeep q1) | simp [*, go_sem]); replace q2 : w1.cell? ⟨w.heap.size, 2, none⟩ = some (.slice a n cap) := bkeep hb (by first | (with_reducible exact q2) | (with_reducible exact akeep q2) | simp [*, go_sem]); replace q3 : w1.cell? ⟨w.heap.size, 3, none⟩ = some (.int .i64 cr) := bkeep hb (by first | (with_reducible exact q3) | (with_reducible exact akeep q3) | simp [*, go_sem]); replace q4 : w1.cell? ⟨w.heap.size, 4, none⟩ = some (.int .i64 le) := bkeep hb (by first | (with_reducible exact q4) | (with_reducible exact akeep q4) | simp [*, go_sem]); skip
        clear hb
        go_wp2_with fail
        go_ret
        exact ⟨rfl, by first | exact hb0 | go_grown⟩
  · rw [if_pos hc0] at hr2
    subst hr2
    have hcn : (r != 0) = true := by simpa using hc0
    clear hc hab hd
    rw [hn] at h hll ⊢
    clear hn
    go_enter Try.func63, Try.ntmps63
    go_wp2_with fail
    refine (rChk_any (h.below (by go_grown)) HC.out).mono ?_
    rintro e w1 ⟨rfl, hb⟩
    replace hb0 := bnext (w := w) (by go_grown) hb; have hz := hb.size; (try simp only [World.size_alloc, World.size_setCell] at hz); replace q0 : w1.cell? ⟨w.heap.size, 0, none⟩ = some (.int .i64 lo) := bkeep hb (by first | (with_reducible exact q0) | (with_reducible exact akeep q0) | simp [*, go_sem]); replace q1 : w1.cell? ⟨w.heap.size, 1, none⟩ = some (.int .i64 hi) := bkeep hb (by first | (with_reducible exact q1) | (with_reducible exact akeep q1) | simp [*, go_sem]); replace q2 : w1.cell? ⟨w.heap.size, 2, none⟩ = some (.slice a n cap) := bkeep hb (by first | (with_reducible exact q2) | (with_reducible exact akeep q2) | simp [*, go_sem]); replace q3 : w1.cell? ⟨w.heap.size, 3, none⟩ = some (.int .i64 cr) := bkeep hb (by first | (with_reducible exact q3) | (with_reducible exact akeep q3) | simp [*, go_sem]); replace q4 : w1.cell? ⟨w.heap.size, 4, none⟩ = some (.int .i64 le) := bkeep hb (by first | (with_reducible exact q4) | (with_reducible exact akeep q4) | simp [*, go_sem]); skip
    clear hb
    go_wp2_with fail
    go_ret
    exact ⟨rfl, by first | exact hb0 | go_grown⟩

set_option maxRecDepth 100000 in
set_option maxHeartbeats 1000000 in
theorem bungParted_walk {w : World} {v gv : Value} {l : List Sg} {gs : List (List Int)} {lo hi cr le : Int} (h : RowsAt 8 w v (l.map rowG)) (hg : ListsAt gv gs w) (hgl : gs.length ≤ 9223372036854775807) :
    Calls Try.prog 11 #[.agg #[.int .i64 lo, .int .i64 hi, v, .int .i64 cr, .int .i64 le], gv] w (Ret w (.bool true)) := by
  unfold Ret
  obtain ⟨a, cap, rfl, hll⟩ := h.shape
  simp only [List.length_map] at h hll ⊢
  obtain ⟨n, hn⟩ : ∃ n, l.length = n := ⟨_, rfl⟩
  rw [hn] at h hll ⊢
  clear hn
  obtain ⟨ga, gcap, hgv, hgs⟩ := id hg
  obtain ⟨q, hq⟩ : ∃ q, gs.length = q := ⟨_, rfl⟩
  have HQ : Hid (gs.length = q) := hq
  rw [hq] at hgl hgv
  subst hgv
  clear hgs hq
  obtain ⟨c, hc⟩ : ∃ c, ckPt lo hi l cr le gs = c := ⟨_, rfl⟩
  have HC : Hid _ := hc; clear hc
  go_enter Try.func11, Try.ntmps11
  go_wp2_with fail
  refine (sane_any).mono ?_
  rintro e w1 ⟨rfl, hb⟩
  replace hb0 := bnext (w := w) (by go_grown) hb; have hz := hb.size; (try simp only [World.size_alloc, World.size_setCell] at hz); replace q0 : w1.cell? ⟨w.heap.size, 0, none⟩ = some (.int .i64 lo) := bkeep hb (by first | (with_reducible exact q0) | (with_reducible exact akeep q0) | simp [*, go_sem]); replace q1 : w1.cell? ⟨w.heap.size, 1, none⟩ = some (.int .i64 hi) := bkeep hb (by first | (with_reducible exact q1) | (with_reducible exact akeep q1) | simp [*, go_sem]); replace q2 : w1.cell? ⟨w.heap.size, 2, none⟩ = some (.slice a n cap) := bkeep hb (by first | (with_reducible exact q2) | (with_reducible exact akeep q2) | simp [*, go_sem]); replace q3 : w1.cell? ⟨w.heap.size, 3, none⟩ = some (.int .i64 cr) := bkeep hb (by first | (with_reducible exact q3) | (with_reducible exact akeep q3) | simp [*, go_sem]); replace q4 : w1.cell? ⟨w.heap.size, 4, none⟩ = some (.int .i64 le) := bkeep hb (by first | (with_reducible exact q4) | (with_reducible exact akeep q4) | simp [*, go_sem]); skip
  clear hb
  obtain ⟨vE, hv9⟩ : ∃ v, v = w1 := ⟨_, rfl⟩
  subst hv9
  go_upto_region 2 with fail
  have h9 := h.below hb0; have u9 := hg.below hb0
  have s0 := fun z : BW vE => bkeep z.below q0
  have s1 := fun z : BW vE => bkeep z.below q1
  have s2 := fun z : BW vE => bkeep z.below q2
  have s3 := fun z : BW vE => bkeep z.below q3
  have s4 := fun z : BW vE => bkeep z.below q4
  refine wp_region_qb (by kernel_rfl) (by kernel_rfl) fun hcq => ?_
  repeat (go_big_quiet_step ((first | (go_at_call 62; exact BW.call _ (ckPt_any (h9.below (BW.below _)) (u9.below (BW.below _)) (by rw [HQ.out]; exact hgl) HC.out)) | (go_at_call 63; exact BW.call _ (rCkPt (h9.below (BW.below _)) (u9.below (BW.below _)) (by rw [HQ.out]; exact hgl) HC.out)))))
  refine wpQuiet_nil ?_
  intro vF hb
  replace hb0 := bnext (w := w) hb0 hb
  clear s0 s1 s2 s3 s4
  go_wp2_with fail
  go_ret
  exact ⟨rfl, hb0⟩

end Go.Proofs.Ytnchhleokdkejaa
