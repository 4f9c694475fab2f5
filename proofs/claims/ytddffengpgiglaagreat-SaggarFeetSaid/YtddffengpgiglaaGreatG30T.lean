/- The fewest groups. -/
import Derived.Test.YtddffengpgiglaaGreatG29T
import Derived.Deep.LoopGhost
namespace Go.Proofs.YtddffengpgiglaaGreat
open Go.RowKit Go.Pb Go.Pb.Ware Go.Pb.Sag
set_option linter.unusedVariables false
set_option linter.unusedSimpArgs false

/-- What Groups answers. -/
def GroupsRes (r : List (List Int) × Int) (W : World) (e : Ending) (w' : World) : Prop := ∃ v, e = .returned (.tuple #[v, .int .i64 r.2]) ∧ Below W.heap.size W w' ∧ GroupsAt W.heap.size v r.1 w'
theorem groupsAt_nil (lo : Nat) (W : World) : GroupsAt lo (.slice none 0 0) [] W := ⟨[], World.ownsRow_nil _ _ _ _, fun k v g h => by simp at h⟩
theorem groupsAt_base {lo lo2 : Nat} {v : Value} {gs : List (List Int)} {W : World} (h : GroupsAt lo v gs W) (hb : lo2 ≤ lo) : GroupsAt lo2 v gs W := by
  obtain ⟨us, h1, h2⟩ := h
  exact ⟨us, owns_base hb h1, fun k v g h3 h4 => owns_base hb (h2 k v g h3 h4)⟩

set_option maxRecDepth 100000 in
set_option maxHeartbeats 1000000 in
theorem Groups_any {w : World} {vs vb : Value} {ss bs : List (List Int)} (h1 : RowsAt 11 w vs ss) (h2 : RowsAt 7 w vb bs) {lv : Value} {xs : List It} {bid bwi bde bce bhi bbe : Int} (hl : RowsAt 3 w lv (xs.map rowX)) :
    Calls Tryz.prog 49 #[.agg #[vs, vb], .agg #[.int .i64 bid, .int .i64 bwi, .int .i64 bde, .int .i64 bce, .int .i64 bhi, .int .i64 bbe], lv] w (GroupsRes (groupsA ss bs ⟨bid, bwi, bde, bce, bhi, bbe⟩ xs) w) := by
  obtain ⟨la, lc, rfl, hll⟩ := hl.shape
  rw [List.length_map] at hl ⊢
  obtain ⟨c, hc⟩ : ∃ c, ckL ss bs ⟨bid, bwi, bde, bce, bhi, bbe⟩ xs = c := ⟨_, rfl⟩
  unfold GroupsRes
  by_cases hc0 : c = 0
  · subst hc0
    obtain ⟨hw, hX, hxl, -⟩ := ckL_0 hc
    obtain ⟨fs, hfs⟩ : ∃ fs, (feetV ss bs ⟨bid, bwi, bde, bce, bhi, bbe⟩ xs) = fs := ⟨_, rfl⟩
    have hok : ∀ f ∈ fs, FtOk f := hfs ▸ feet_ok
    have hn : fs.length ≤ 5 := hfs ▸ feet_len
    have hR : groupsA ss bs ⟨bid, bwi, bde, bce, bhi, bbe⟩ xs = if fs.all (fun f => fitsB ⟨bid, bwi, bde, bce, bhi, bbe⟩ [f]) = true then ((groupsF ⟨bid, bwi, bde, bce, bhi, bbe⟩ fs).getD [], 0) else ([], 24) := by unfold groupsA; rw [if_pos hc, hfs]
    have HR := hid hR
    have HFS := hid hfs; have HC := hid hc; have HX := hid hX; clear hc hw hX hfs hR
    go_enter Tryz.func49, Tryz.ntmps49
    go_wp2_with fail
    refine (Feet_any (h1.below (by go_grown)) (h2.below (by go_grown)) (hl.below (by go_grown))).mono ?_
    rintro e w1 ⟨fv, rfl, hb, ho⟩
    replace hb0 := bnext (w := w) (by go_grown) hb; have hz := hb.size; (try simp only [World.size_alloc, World.size_setCell] at hz); replace q0 : w1.cell? ⟨w.heap.size, 0, none⟩ = some (vs) := bkeep hb (by first | (with_reducible exact q0) | (with_reducible exact akeep q0) | simp [*, go_sem]); replace q1 : w1.cell? ⟨w.heap.size, 1, none⟩ = some (vb) := bkeep hb (by first | (with_reducible exact q1) | (with_reducible exact akeep q1) | simp [*, go_sem]); replace q2 : w1.cell? ⟨w.heap.size + 1, 0, none⟩ = some (.int .i64 bid) := bkeep hb (by first | (with_reducible exact q2) | (with_reducible exact akeep q2) | simp [*, go_sem]); replace q3 : w1.cell? ⟨w.heap.size + 1, 1, none⟩ = some (.int .i64 bwi) := bkeep hb (by first | (with_reducible exact q3) | (with_reducible exact akeep q3) | simp [*, go_sem]); replace q4 : w1.cell? ⟨w.heap.size + 1, 2, none⟩ = some (.int .i64 bde) := bkeep hb (by first | (with_reducible exact q4) | (with_reducible exact akeep q4) | simp [*, go_sem]); replace q5 : w1.cell? ⟨w.heap.size + 1, 3, none⟩ = some (.int .i64 bce) := bkeep hb (by first | (with_reducible exact q5) | (with_reducible exact akeep q5) | simp [*, go_sem]); replace q6 : w1.cell? ⟨w.heap.size + 1, 4, none⟩ = some (.int .i64 bhi) := bkeep hb (by first | (with_reducible exact q6) | (with_reducible exact akeep q6) | simp [*, go_sem]); replace q7 : w1.cell? ⟨w.heap.size + 1, 5, none⟩ = some (.int .i64 bbe) := bkeep hb (by first | (with_reducible exact q7) | (with_reducible exact akeep q7) | simp [*, go_sem]); skip
    clear hb
    rw [HC.out]
    rw [HFS.out] at ho
    have hfa := feetAt_of_owns hok ho
    obtain ⟨fa, fc, rfl, hfl⟩ := owns_shape ho
    have hfb : ∀ b, (Value.slice fa fs.length fc).ownBlock = some b → b < w1.heap.size := fun b e => (World.ownsRow.lt ho b e).2
    have hca : ∀ a, fa = some a → fs.length ≤ fc ∧ fc ≤ 9223372036854775807 := fun a e => by (rcases ho.2 with ⟨h, _⟩ | ⟨g, cap, cur, h, _, _, h4, h5, _⟩); (injection h with h; rw [h] at e; cases e); injection h with _ _ h3; subst h3; exact ⟨h4, by unfold maxLen at h5; omega⟩
    have hz1 := hb0.size
    clear ho HC
    obtain ⟨n, hnn⟩ : ∃ n, fs.length = n := ⟨_, rfl⟩
    have HN := hid hnn
    rw [hnn] at hn hfa hfb hca hfl ⊢
    clear hnn
    have HFB := hid hfb; have HCA := hid hca; clear hfb hca
    go_wp2_with fail
    go_loopg [24] n (fun gk kv wr => ∃ k : Nat, k ≤ n ∧ gk = n - k ∧ kv = .int .i64 k ∧ (fs.take k).all (fun f => fitsB ⟨bid, bwi, bde, bce, bhi, bbe⟩ [f]) = true ∧ FeetAt wr (.slice fa n fc) fs ∧ Below w.heap.size w wr ∧ (wr.cell? ⟨w.heap.size + 1, 0, none⟩ = some (.int .i64 bid) ∧ wr.cell? ⟨w.heap.size + 1, 1, none⟩ = some (.int .i64 bwi) ∧ wr.cell? ⟨w.heap.size + 1, 2, none⟩ = some (.int .i64 bde) ∧ wr.cell? ⟨w.heap.size + 1, 3, none⟩ = some (.int .i64 bce) ∧ wr.cell? ⟨w.heap.size + 1, 4, none⟩ = some (.int .i64 bhi) ∧ wr.cell? ⟨w.heap.size + 1, 5, none⟩ = some (.int .i64 bbe)) ∧ w1.heap.size ≤ wr.heap.size)
    case atStart => exact ⟨0, Nat.zero_le _, rfl, rfl, by simp, hfa, hb0, ⟨q2, q3, q4, q5, q6, q7⟩, Nat.le_refl _⟩
    case round =>
      clear hfa hb0 q0 q1 q2 q3 q4 q5 q6 q7
      obtain ⟨k, hk, hgk, rfl, hall, hfa, hb0, ⟨b2, b3, b4, b5, b6, b7⟩, hz2⟩ := hrel
      have HGK := hid hgk; have HALL := hid hall; clear hgk hall
      have hzz := hb0.size
      by_cases hlt : k < n
      · have hki : (k : Int) < (n : Int) := by omega
        have hkf : k < fs.length := by rw [HN.out]; exact hlt
        obtain ⟨b, hbb⟩ : ∃ b, fitsB ⟨bid, bwi, bde, bce, bhi, bbe⟩ [fs[k]] = b := ⟨_, rfl⟩
        have hfk : (fs.map rowF)[k]? = some (rowF fs[k]) := by rw [List.getElem?_map, List.getElem?_eq_getElem hkf]; rfl
        obtain ⟨ba, hba⟩ : ∃ a, fa = some a := by
          cases fa with
          | none => exfalso; rcases hfa with ⟨_, h⟩ | ⟨a, _, h, _⟩; (rw [List.map_eq_nil_iff] at h; rw [h] at hkf; simp at hkf); (injection h with h; cases h)
          | some a => exact ⟨a, rfl⟩
        subst hba
        obtain ⟨hc1, hc2⟩ := HCA.out ba rfl
        have hft : ∀ (W' : World) (q : Addr) (cap2 : Nat), Below wr.heap.size wr W' → (∀ j, q.add j = ba.add (k * 4 + j)) → 1 ≤ cap2 → cap2 ≤ 9223372036854775807 → Calls Tryz.prog 89 #[.agg #[.int .i64 bid, .int .i64 bwi, .int .i64 bde, .int .i64 bce, .int .i64 bhi, .int .i64 bbe], .slice (some q) 1 cap2] W' (Ret W' (.bool b)) := fun W' q cap2 hb hq h1 h2 => fits_any hbb HX.out (rows_cut (hfa.below hb) hfk hq h1 h2) (fun f hf => by rw [List.mem_singleton.1 hf]; exact hok _ (List.getElem_mem hkf)) (by simp)
        have HFT := hid hft; have HBB := hid hbb; clear hft hbb hfk
        have hk1 : (0 : Int) ≤ (k : Int) := by omega
        have hk2 : (k : Int) + 1 ≤ (fc : Int) := by omega
        have hk3 : (k : Int) ≤ (k : Int) + 1 := by omega
        have hk4 : ¬ fc = k := by omega
        go_upto_region 7 with fail
        refine wp_region_Rs [(6, fun v _ => v = .bool b)] [0, 1, 2, 3, 4, 5, 6, 7] 0 (by kernel_rfl) rfl (by simp only [List.forall_mem_cons]; exact ⟨keeps_eq, fun _ h => by cases h⟩) (by kernel_rfl) ?_
        simp only [numbered, List.filterMap_cons, List.filterMap_nil, List.getElem?_toArray, List.getElem?_cons_succ, List.getElem?_cons_zero, Option.map_some]
        show wpS _ _ _ _ _ _ _ [(_, _), (_, _), (_, _), (_, _), (_, _), (_, _), (_, _), (_, _)] _ _
        (refine wpS_quiet rfl rfl ?_; intro K hK inst hx; have s2 := fun x => (fun _ => bkeep (BQ.below x) b2) (hx x); have s3 := fun x => (fun _ => bkeep (BQ.below x) b3) (hx x); have s4 := fun x => (fun _ => bkeep (BQ.below x) b4) (hx x); have s5 := fun x => (fun _ => bkeep (BQ.below x) b5) (hx x); have s6 := fun x => (fun _ => bkeep (BQ.below x) b6) (hx x); have s7 := fun x => (fun _ => bkeep (BQ.below x) b7) (hx x); go_big_quiet_op; (first | go_big_quiet_on | (refine ⟨_, fun _ => rfl, ?_⟩; go_big_quiet_on)); clear hx inst)
        (refine wpS_quiet rfl rfl ?_; intro K hK inst hx; go_big_quiet_op; (first | go_big_quiet_on | (refine ⟨_, fun _ => rfl, ?_⟩; go_big_quiet_on)); clear hx inst)
        (refine wpS_quiet rfl rfl ?_; intro K hK inst hx; go_big_quiet_op; (first | go_big_quiet_on | (refine ⟨_, fun _ => rfl, ?_⟩; go_big_quiet_on)); clear hx inst)
        (refine wpS_quiet rfl rfl ?_; intro K hK inst hx; go_big_quiet_op; (first | go_big_quiet_on | (refine ⟨_, fun _ => rfl, ?_⟩; go_big_quiet_on)); clear hx inst)
        (refine wpS_quiet rfl rfl ?_; intro K hK inst hx; go_big_quiet_op; (first | go_big_quiet_on | (refine ⟨_, fun _ => rfl, ?_⟩; go_big_quiet_on)); clear hx inst)
        (refine wpS_quiet rfl rfl ?_; intro K hK inst hx; go_big_quiet_op; (first | go_big_quiet_on | (refine ⟨_, fun _ => rfl, ?_⟩; go_big_quiet_on)); clear hx inst)
        refine wpS_fresh rfl rfl (fun w' hb hF => ?_) ?_
        · change freshAt _ _ _ (fun v _ => v = .bool b) _; unfold freshAt; go_simp; refine HFT.out _ _ _ hb (fun j => ?_) (by omega) (by omega); rw [Go.Deep.add_add]
        intro v W hv; simp only [pOf, List.lookup_cons, Nat.reduceBEq, beq_self_eq_true] at hv; subst hv
        simp only [Act.put, List.setIfInBounds_toArray, List.set_cons_succ, List.set_cons_zero]
        (refine wpS_quiet rfl rfl ?_; intro K hK inst hx; go_big_quiet_op; (first | go_big_quiet_on | (refine ⟨_, fun _ => rfl, ?_⟩; go_big_quiet_on)); clear hx inst)
        refine wpS_nil ?_
        intro w2 hall2
        have hb := hall2.1
        clear hall2
        refine wpAny_done (by kernel_rfl) ?_ _
        replace hfa := hfa.below hb
        replace hb0 := bnext (w := w) hb0 hb
        replace b2 := bkeep hb b2
        replace b3 := bkeep hb b3
        replace b4 := bkeep hb b4
        replace b5 := bkeep hb b5
        replace b6 := bkeep hb b6
        replace b7 := bkeep hb b7
        have hz3 := hb.size
        clear hb
        cases b
        · have hR2 : groupsA ss bs ⟨bid, bwi, bde, bce, bhi, bbe⟩ xs = ([], 24) := by rw [HR.out, if_neg]; rw [all_not (p := (fun f => fitsB ⟨bid, bwi, bde, bce, bhi, bbe⟩ [f])) hkf HBB.out]; simp
          have HR2 := hid hR2; clear hR2
          go_wp2_with fail
          go_ret2
          rw [HR2.out]
          exact ⟨_, rfl, hb0, groupsAt_nil _ _⟩
        · go_wp2_with fail
          go_roundg (n - (k + 1))
          case measure => have h := HGK.out; omega
          case rel => exact ⟨k + 1, by omega, rfl, by go_num, all_snoc (p := (fun f => fitsB ⟨bid, bwi, bde, bce, bhi, bbe⟩ [f])) hkf HALL.out HBB.out, hfa, hb0, ⟨b2, b3, b4, b5, b6, b7⟩, by omega⟩
      · obtain rfl : k = n := by omega
        have hall := HALL.out
        rw [List.take_of_length_le (by rw [HN.out]; exact Nat.le_refl _)] at hall
        have hR2 : groupsA ss bs ⟨bid, bwi, bde, bce, bhi, bbe⟩ xs = ((groupsF ⟨bid, bwi, bde, bce, bhi, bbe⟩ fs).getD [], 0) := by rw [HR.out, if_pos hall]
        have HR2 := hid hR2; clear hR2 hall HALL HR
        go_wp2_with fail
        obtain ⟨v1, hv1⟩ : ∃ v, v = wr := ⟨_, rfl⟩
        subst hv1
        go_loopg [] k (fun gk wr => ∃ m : Nat, m ≤ k ∧ gk = k - m ∧ (∀ j, j < m → putF ⟨bid, bwi, bde, bce, bhi, bbe⟩ fs j k 0 [] = none) ∧ PutAt v1.heap.size 79 3 [] wr ∧ GAt v1.heap.size [.int .i64 bid, .int .i64 bwi, .int .i64 bde, .int .i64 bce, .int .i64 bhi, .int .i64 bbe, .slice fa k fc, .int .i64 (m : Int)] wr ∧ Below v1.heap.size v1 wr)
        case atStart => exact ⟨0, Nat.zero_le _, rfl, fun j h => by omega, ⟨_, [], ⟨by simp [go_sem], by simp [go_sem]⟩, World.ownsRow_nil _ _ _ _, fun k v g h => by simp at h⟩, fun o u hu => CellsAt.new v1 [.int .i64 bid, .int .i64 bwi, .int .i64 bde, .int .i64 bce, .int .i64 bhi, .int .i64 bbe, .slice fa k fc, .int .i64 0, .slice none 0 0] 139 o u ((List.getElem?_append_left (l₂ := [Value.slice none 0 0]) (List.getElem?_eq_some_iff.1 hu).1).trans hu), (Below.refl _ v1).alloc (Nat.le_refl _) _⟩
        case round =>
          obtain ⟨m, hm, hgk2, hno, hP, hgc, hB2⟩ := hrel
          have HGK2 := hid hgk2; have HNO := hid hno; clear hgk2 hno
          have hfl2 : fs.length ≤ 5 := by rw [HN.out]; exact hn
          have hput := put_any (most := m) HX.out hok hfl2 (fun b e => Nat.lt_of_lt_of_le (HFB.out b e) hz2) (by omega) fs.length 0 [] wr (by omega) Good.nil (by simp) hP hgc (hfa.below hB2)
          rw [show ((0 : Nat) : Int) = 0 from rfl, HN.out] at hput
          have HPUT := hid hput; clear hput hfl2
          go_wp2_with fail
          refine HPUT.out.mono ?_
          rintro e w3 ⟨hB3, hgc3, ⟨rs, hrs, rfl, hP3⟩ | ⟨hrs, rfl, hP3⟩⟩
          · have hgd := putF_good _ _ _ _ Good.nil (by simp) hrs
            have hgr : groupsF ⟨bid, bwi, bde, bce, bhi, bbe⟩ fs = some rs := by unfold groupsF; rw [HN.out]; exact find_here (k := m) (by omega) HNO.out hrs
            have HGR := hid hgr; clear hgr hrs
            go_wp2_with fail
            refine (shown_any hgd.1 (by omega) (by omega) hP3).mono ?_
            rintro e w4 ⟨gv, rfl, hb4, hga⟩
            have hB5 : Below w.heap.size w w4 := bnext (w := w) (hb0.trans (hB2.trans (hB3.mono (Nat.le_refl _)) |>.mono (by omega))) hb4
            have hsz5 := hB3.size
            have hsz6 := hB2.size
            go_wp2_with fail
            go_ret2
            rw [HR2.out, HGR.out]
            exact ⟨_, rfl, hB5, groupsAt_base hga (by omega)⟩
          · have hmk : m < k := by
              rcases Nat.lt_or_ge m k with h | h
              · exact h
              · exfalso; obtain ⟨r, hr⟩ := putF_some (s := ⟨bid, bwi, bde, bce, bhi, bbe⟩) (fs := fs) (most := m) k 0 [] (by omega) (by simp); rw [hr] at hrs; cases hrs
            have z7 := (hgc3 7 _ rfl).1; have z9 := (hgc3 7 _ rfl).2
            have HRS := hid hrs; clear hrs
            have hm2 := GAt.most (l := [.int .i64 bid, .int .i64 bwi, .int .i64 bde, .int .i64 bce, .int .i64 bhi, .int .i64 bbe, .slice fa k fc]) (v := .int .i64 ((m : Int) + 1)) rfl hgc3
            have hP4 : PutAt v1.heap.size 79 3 [] (w3.setCell ⟨v1.heap.size, 7, none⟩ (.int .i64 ((m : Int) + 1))) := by
              obtain ⟨gv, vs, ⟨c1, c2⟩, ho, hr⟩ := hP3
              exact ⟨gv, vs, ⟨setc_other c1 (by omega), set_free c1 c2⟩, set_own ho (.inr fun e => by have := own_ge ho _ e; omega), fun k v g h1 h2 => by simp at h2⟩
            have HM := hid hm2; have HP4 := hid hP4; clear hm2 hP4
            go_wp2_with fail
            go_roundg (k - (m + 1))
            case measure => have h := HGK2.out; omega
            case rel => exact ⟨m + 1, by omega, rfl, fun j hj => by (rcases Nat.lt_or_ge j m with h3 | h3); exact HNO.out j h3; rw [show j = m by omega]; exact HRS.out, HP4.out, HM.out, (hB2.trans hB3).setCell (p := ⟨v1.heap.size, 7, none⟩) (Nat.le_refl _) _⟩
  · have hR : groupsA ss bs ⟨bid, bwi, bde, bce, bhi, bbe⟩ xs = ([], c) := by unfold groupsA; rw [if_neg (by rw [hc]; exact hc0), hc]
    rw [hR]
    have hcn : (c != 0) = true := by simpa using hc0
    have HC := hid hc; clear hc hR
    go_enter Tryz.func49, Tryz.ntmps49
    go_wp2_with fail
    refine (Feet_any (h1.below (by go_grown)) (h2.below (by go_grown)) (hl.below (by go_grown))).mono ?_
    rintro e w1 ⟨fv, rfl, hb, ho⟩
    replace hb0 := bnext (w := w) (by go_grown) hb; have hz := hb.size; (try simp only [World.size_alloc, World.size_setCell] at hz); replace q0 : w1.cell? ⟨w.heap.size, 0, none⟩ = some (vs) := bkeep hb (by first | (with_reducible exact q0) | (with_reducible exact akeep q0) | simp [*, go_sem]); replace q1 : w1.cell? ⟨w.heap.size, 1, none⟩ = some (vb) := bkeep hb (by first | (with_reducible exact q1) | (with_reducible exact akeep q1) | simp [*, go_sem]); replace q2 : w1.cell? ⟨w.heap.size + 1, 0, none⟩ = some (.int .i64 bid) := bkeep hb (by first | (with_reducible exact q2) | (with_reducible exact akeep q2) | simp [*, go_sem]); replace q3 : w1.cell? ⟨w.heap.size + 1, 1, none⟩ = some (.int .i64 bwi) := bkeep hb (by first | (with_reducible exact q3) | (with_reducible exact akeep q3) | simp [*, go_sem]); replace q4 : w1.cell? ⟨w.heap.size + 1, 2, none⟩ = some (.int .i64 bde) := bkeep hb (by first | (with_reducible exact q4) | (with_reducible exact akeep q4) | simp [*, go_sem]); replace q5 : w1.cell? ⟨w.heap.size + 1, 3, none⟩ = some (.int .i64 bce) := bkeep hb (by first | (with_reducible exact q5) | (with_reducible exact akeep q5) | simp [*, go_sem]); replace q6 : w1.cell? ⟨w.heap.size + 1, 4, none⟩ = some (.int .i64 bhi) := bkeep hb (by first | (with_reducible exact q6) | (with_reducible exact akeep q6) | simp [*, go_sem]); replace q7 : w1.cell? ⟨w.heap.size + 1, 5, none⟩ = some (.int .i64 bbe) := bkeep hb (by first | (with_reducible exact q7) | (with_reducible exact akeep q7) | simp [*, go_sem]); skip
    clear hb
    rw [HC.out]
    go_wp2_with fail
    go_ret2
    exact ⟨_, rfl, by go_grown, groupsAt_nil _ _⟩

end Go.Proofs.YtddffengpgiglaaGreat
