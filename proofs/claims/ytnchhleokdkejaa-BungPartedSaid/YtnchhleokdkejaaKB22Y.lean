/- A copy of parts. -/
import Derived.Test.YtnchhleokdkejaaKB11Y
import Derived.Test.YtnchhleokdkejaaKInRoundY
import Derived.Deep.LoopGhost
import Derived.Test.YtnchhleokdkejaaKScY
import Derived.Test.YtnchhleokdkejaaKLibY
import Derived.Test.YtnchhleokdkejaaKSwY
namespace Go.Proofs.Ytnchhleokdkejaa
open Go.RowKit Go.Pb Go.Pb.Ware Go.Pb.Sag
set_option linter.unusedVariables false
set_option linter.unusedSimpArgs false

/-- New memory that holds these groups. -/
def GroupsAt (lo : Nat) (v : Value) (gs : List (List Int)) (W : World) : Prop := ∃ us : List Value, W.ownsRow lo 41 1 v gs.length us ∧ Go.Pb.Sag.RowsIn lo 3 W us gs
theorem rows_snoc {lo T k : Nat} {W W' : World} {us : List Value} {gs : List (List Int)} {g : List Int} {u : Value} (h : Go.Pb.Sag.RowsIn lo T W us (gs.take k)) (hk : us.length = k) (hg : gs[k]? = some g) (hold : ∀ (v : Value) (n : Nat) (xs : List Value), W.ownsRow lo T 1 v n xs → W'.ownsRow lo T 1 v n xs) (hu : W'.ownsRow lo T 1 u g.length (g.map (Value.int .i64))) : Go.Pb.Sag.RowsIn lo T W' (us ++ [u]) (gs.take (k + 1)) := by
  have hkl := (List.getElem?_eq_some_iff.1 hg).1
  intro j v g' hv hg'
  rcases Nat.lt_or_ge j k with h1 | h1
  · rw [List.getElem?_append_left (by omega)] at hv
    rw [List.getElem?_take, if_pos (by omega)] at hg'
    exact hold v _ _ (h j v g' hv (by rw [List.getElem?_take, if_pos h1]; exact hg'))
  · rw [List.getElem?_append_right (by omega), hk] at hv
    have h2 := (List.getElem?_eq_some_iff.1 hv).1
    simp at h2
    have e : j = k := by omega
    subst e
    rw [List.getElem?_take, if_pos (by omega), hg] at hg'
    simp at hv hg'
    subst hv; subst hg'
    exact hu

set_option maxRecDepth 100000 in
set_option maxHeartbeats 1000000 in
theorem copied_any {w : World} {lo i : Nat} {gs : List (List Int)} {gv : Value} {vs : List Value} (hG : Go.Pb.Sag.Good i gs) (hi5 : i ≤ 1000) (hn5 : gs.length ≤ 1000) (ho : w.ownsRow lo 41 1 gv gs.length vs) (hr : Go.Pb.Sag.RowsIn lo 3 w vs gs) :
    Calls Try.prog 147 #[gv] w (fun e w' => ∃ v, e = .returned v ∧ Below w.heap.size w w' ∧ GroupsAt w.heap.size v gs w') := by
  obtain ⟨n, hnn⟩ : ∃ n, gs.length = n := ⟨_, rfl⟩
  have HN := hid hnn
  rw [hnn] at ho hn5
  clear hnn
  obtain ⟨ga, gcap, rfl, -⟩ := owns_shape ho
  obtain ⟨i2, hq, ha0, ha1, ha2⟩ := info_parts Try.infoGG
  obtain ⟨i1, hj, hy0, hy1, hy2⟩ := info_parts Try.infoI
  go_enter Try.func147, Try.ntmps147
  go_wp2_with (at_make; refine wpList_make_own _ rfl _ _ 76 rfl w.heap.size 41 i2 (.slice none 0 0) 1 Try.underlying76 hq ha0 ha1 .i64 .i64 _ n rfl rfl rfl (by rw [ha2]; omega) (by unfold maxLen; omega) (Nat.le_refl _) ?_; intro w2 ho2 hg; have hb0 : Below w.heap.size w w2 := (Below.refl _ w).grown hg (Nat.le_refl _) (fun k h => by cases h); clear hg; skip)
  go_loopg [3, 12] n (fun gk av kv wr => ∃ (k : Nat) (us : List Value), k ≤ n ∧ gk = n - k ∧ kv = .int .i64 k ∧ wr.ownsRow w.heap.size 41 1 av k us ∧ Go.Pb.Sag.RowsIn w.heap.size 3 wr us (gs.take k) ∧ us.length = k ∧ Below w.heap.size w wr)
  case atStart => exact ⟨0, [], Nat.zero_le _, rfl, rfl, ho2, fun k v g h => by simp at h, rfl, hb0⟩
  case round =>
    clear ho2 hb0
    obtain ⟨k, us, hk, hgk, rfl, ho3, hr3, hul, hB⟩ := hrel
    have HGK := hid hgk; clear hgk
    obtain ⟨aa, ac, rfl, -⟩ := owns_shape ho3
    have hsz := hB.size
    by_cases hlt : k < n
    · have hki : (k : Int) < (n : Int) := by omega
      obtain ⟨gb, gc2, e1, hc1, hc2⟩ := own_some ho (by omega)
      injection e1 with e1 _ e2
      subst e1; subst e2
      obtain ⟨g, hg⟩ : ∃ g, gs[k]? = some g := ⟨_, List.getElem?_eq_getElem (by rw [HN.out]; exact hlt)⟩
      obtain ⟨v, hv⟩ : ∃ v, vs[k]? = some v := ⟨_, List.getElem?_eq_getElem (by have := ho.1; omega)⟩
      have hrow := owns_below (hr k v g hv hg) hB
      obtain ⟨x0, hx0⟩ := hG.one k g hg
      have hgl : 0 < g.length := (List.getElem?_eq_some_iff.1 hx0).1
      have hgl2 := hG.len g (List.mem_of_getElem? hg)
      obtain ⟨vb, vc, rfl, hv1, hv2⟩ := own_some hrow hgl
      have q1 : wr.cell? ⟨gb, k, none⟩ = some (.slice (some ⟨vb, 0, none⟩) g.length vc) := by have h := ho.cells (g := gb) rfl k _ hv; rw [Go.WideShapes.add_plain, Nat.zero_add] at h; exact bkeep hB h
      have HR3 := hid hr3; have HUL := hid hul; clear hr3 hul hx0
      go_upto_region 6 with (at_make; refine wpList_make_full _ rfl _ _ 41 rfl w.heap.size 3 i1 (.int .i64 0) 1 Try.underlying41 hj hy0 hy1 .i64 .i64 _ _ g.length rfl rfl rfl rfl (by rw [hy2]; omega) (by unfold maxLen; omega) hsz ?_; intro w5 ho5 hg5)
      have hb5 : Below wr.heap.size wr w5 := (Below.refl _ wr).grown hg5 (Nat.le_refl _) (fun k h => by cases h)
      obtain ⟨cur, hcur, hcs⟩ : ∃ cur, w5.heap[wr.heap.size]? = some (.cells cur 3 (0, 0)) ∧ cur.size = g.length := by
        rcases ho5.2 with ⟨h1, _⟩ | ⟨g', cap, cur, h1, _, h3, _, _, h6, _⟩
        · cases h1
        · injection h1 with h1 _ h2; injection h1 with h1; injection h1 with h1; subst h1; subst h2; exact ⟨cur, h3, by omega⟩
      clear ho5 hg5
      have hsrc : ∀ j u, (g.map (Value.int .i64))[j]? = some u → w5.cell? ((⟨vb, 0, none⟩ : Addr).add j) = some u := fun j u h => bkeep hb5 (hrow.cells (g := vb) rfl j u h)
      have HSRC := hid hsrc; clear hsrc
      have hmin : (g.map (Value.int .i64)).length = Nat.min g.length g.length := by rw [List.length_map]; exact (Nat.min_self _).symm
      have HMIN := hid hmin; clear hmin
      go_upto_region 7 with (with_reducible refine wpList_copy_own rfl (.tmp 19) (.tmp 20) 41 41 rfl 3 Try.underlying41 (by kernel_rfl) wr.heap.size 0 g.length g.length ⟨vb, 0, none⟩ g.length vc rfl rfl cur 3 hcur (g.map (Value.int .i64)) HMIN.out HSRC.out (by simp; omega) nums_one ?_)
      have hco := copy_owns (lo := w.heap.size) (cs := g.map (Value.int .i64)) hcur hsz hcs (by unfold maxLen; omega) (by simp)
      have hb6 := below_setRow hb5 (Nat.le_refl _) (cur.toList.take 0 ++ (g.map (Value.int .i64) ++ cur.toList.drop (0 + (g.map (Value.int .i64)).length))).toArray
      generalize hW6 : w5.setRow wr.heap.size (cur.toList.take 0 ++ (g.map (Value.int .i64) ++ cur.toList.drop (0 + (g.map (Value.int .i64)).length))).toArray = w6 at *
      clear hW6 hb5 hcur hcs HSRC HMIN q1
      have ho6 := owns_below ho3 hb6
      have hr6 : Go.Pb.Sag.RowsIn w.heap.size 3 w6 us (gs.take k) := fun j u h h1 h2 => owns_below (HR3.out j u h h1 h2) hb6
      have HR6 := hid hr6; clear hr6
      have hB6 : Below w.heap.size w w6 := bnext (w := w) hB hb6
      have hs6 : w.heap.size ≤ w6.heap.size := hB6.size
      have hcg : ∀ j u, ([.slice (some ⟨wr.heap.size, 0, none⟩) g.length g.length] : List Value)[j]? = some u → (w6.alloc (.cells #[.slice (some ⟨wr.heap.size, 0, none⟩) g.length g.length] 41)).cell? ((⟨w6.heap.size, 0, none⟩ : Addr).add j) = some u := fun j u h => by
        rw [Go.WideShapes.add_plain, Nat.zero_add]
        exact (CellsAt.new w6 [.slice (some ⟨wr.heap.size, 0, none⟩) g.length g.length] 41 j u h).1
      have HCG := hid hcg; have HCO := hid hco; clear hcg hco
      go_wp2_with (at_builtin; go_must (refine wpList_append_own _ rfl _ _ 76 rfl w.heap.size 41 i2 (.slice none 0 0) 1 24 Try.underlying76 hq ha0 ha1 ha2 rfl (by decide) _ _ _ rfl (ho6.alloc _) ⟨w6.heap.size, 0, none⟩ 1 1 [.slice (some ⟨wr.heap.size, 0, none⟩) g.length g.length] rfl rfl HCG.out (fun u h => by simp only [List.mem_cons, List.not_mem_nil, or_false] at h; rcases h with rfl; rfl) (by unfold maxLen; omega) (by omega) (by simp; omega) ?_; intro v' w7 ho7 hg7 hnil))
      have hold : ∀ (v : Value) (n : Nat) (xs : List Value), w6.ownsRow w.heap.size 3 1 v n xs → w7.ownsRow w.heap.size 3 1 v n xs := fun v n xs h => (h.alloc (.cells #[.slice (some ⟨wr.heap.size, 0, none⟩) g.length g.length] 41)).kept hg7 (apart_types (h.alloc (.cells #[.slice (some ⟨wr.heap.size, 0, none⟩) g.length g.length] 41)) (ho6.alloc (.cells #[.slice (some ⟨wr.heap.size, 0, none⟩) g.length g.length] 41)) (show (3 : Nat) ≠ 41 by decide))
      have hB7 : Below w.heap.size w w7 := Pb.below_grown (hB6.alloc hs6 (.cells #[.slice (some ⟨wr.heap.size, 0, none⟩) g.length g.length] 41)) hg7 (ho6.alloc (.cells #[.slice (some ⟨wr.heap.size, 0, none⟩) g.length g.length] 41)) (by simp; omega) (Nat.le_refl _)
      have HOLD := hid hold; clear hg7 hold
      go_roundg (n - (k + 1))
      case measure => have h := HGK.out; omega
      case rel => exact ⟨k + 1, us ++ [.slice (some ⟨wr.heap.size, 0, none⟩) g.length g.length], by omega, rfl, by go_num, ho7, rows_snoc HR6.out HUL.out hg HOLD.out (HOLD.out _ _ _ HCO.out), by rw [List.length_append, HUL.out]; rfl, hB7⟩
    · obtain rfl : k = n := by omega
      rw [List.take_of_length_le (by rw [HN.out]; exact Nat.le_refl _)] at hr3
      have HR3 := hid hr3; clear hr3
      go_wp2_with fail
      go_ret
      exact ⟨_, rfl, hB, us, by rw [HN.out]; exact ho3, HR3.out⟩

end Go.Proofs.Ytnchhleokdkejaa

/- The fewest parts. -/
namespace Go.Proofs.Ytnchhleokdkejaa
open Go.RowKit Go.Pb Go.Pb.Ware Go.Pb.Sag
set_option linter.unusedVariables false
set_option linter.unusedSimpArgs false

/-- What First answers. -/
def FirstRes (lo : Nat) (r : Option (List (List Int))) (e : Ending) (w' : World) : Prop := (∃ rs v, r = some rs ∧ e = .returned (.tuple #[v, .bool true]) ∧ GroupsAt lo v rs w') ∨ (r = none ∧ e = .returned (.tuple #[.slice none 0 0, .bool false]))
theorem groupsAt_base {lo lo2 : Nat} {v : Value} {gs : List (List Int)} {W : World} (h : GroupsAt lo v gs W) (hb : lo2 ≤ lo) : GroupsAt lo2 v gs W := by
  obtain ⟨us, h1, h2⟩ := h
  exact ⟨us, owns_base hb h1, fun k v g h3 h4 => owns_base hb (h2 k v g h3 h4)⟩
theorem groupsAt_nil (lo : Nat) (W : World) : GroupsAt lo (.slice none 0 0) [] W := ⟨[], World.ownsRow_nil _ _ _ _, fun k v g h => by simp at h⟩

set_option maxRecDepth 100000 in
set_option maxHeartbeats 1500000 in
theorem firstP_any {w : World} {n most : Nat} {ca cb : Value} {does : List Int → Bool} {Q : World → Prop} (hn : n ≤ 1000) (hmn : most ≤ n) (hQ : (∀ W W', Q W → Below w.heap.size W W' → Q W')) (hdo : (∀ (W : World) (v : Value) (g : List Int), Q W → NumsAt W v g → (∀ z ∈ g, 0 ≤ z ∧ z < (n : Int)) → 0 < g.length → g.length ≤ n → g.Pairwise (· < ·) → Calls Try.prog 137 #[v, ca, cb] W (fun e W' => e = .returned (.bool (does g)) ∧ Q W' ∧ Above w.heap.size W W'))) (hq : Q w) :
    Calls Try.prog 136 #[.int .i64 (n : Int), .int .i64 (most : Int), .func (.func 137) #[] #[ca, cb]] w (fun e w' => Q w' ∧ w.heap.size ≤ w'.heap.size ∧ FirstRes w.heap.size (putG does most n 0 []) e w') := by
  have hmf : ∀ (fn : Fn) (first cap : Array Value) (w : World), (Instr.makeFunc fn first cap).run Try.prog w = .ok (.func fn first cap) w := fun _ _ _ _ => rfl
  have hsf : ∀ (w : World) (a : Addr) (m : Mode) (fn : Fn) (first captured : Array Value), (store a (.func fn first captured) m).run Try.prog w = stored Try.prog w a (.func fn first captured) m := fun w a m _ _ _ => run_store _ w a _ m rfl
  go_enter Try.func136, Try.ntmps136
  go_upto_region 3 with fail
  generalize hW3 : World.alloc (World.alloc (World.alloc (World.alloc (World.alloc w _) _) _) _) _ = W3
  have x0 : W3.cell? ⟨w.heap.size, 0, none⟩ = some (.int .i64 (n : Int)) := by rw [← hW3]; simp [go_sem]
  have x1 : W3.cell? ⟨w.heap.size + 1, 0, none⟩ = some (.int .i64 (most : Int)) := by rw [← hW3]; simp [go_sem]
  have x2 : W3.cell? ⟨w.heap.size + 1 + 1, 0, none⟩ = some (.func (.func 137) #[] #[ca, cb]) := by rw [← hW3]; simp [go_sem]
  have x3 : W3.cell? ⟨w.heap.size + 1 + 1 + 1, 0, none⟩ = some (.slice none 0 0) := by rw [← hW3]; simp [go_sem]
  have x4 : W3.cell? ⟨w.heap.size + 1 + 1 + 1 + 1, 0, none⟩ = some (.nilFunc) := by rw [← hW3]; simp [go_sem]
  have f3 : W3.frozen? ⟨w.heap.size + 1 + 1 + 1, 0, none⟩ = false := by rw [← hW3]; simp [go_sem]
  have f4 : W3.frozen? ⟨w.heap.size + 1 + 1 + 1 + 1, 0, none⟩ = false := by rw [← hW3]; simp [go_sem]
  have hs3 : W3.heap.size = w.heap.size + 5 := by rw [← hW3]; simp
  have hb3 : Below w.heap.size w W3 := by rw [← hW3]; go_grown
  have HS3 := hid hs3; clear hs3 hW3
  go_upto_region 4 with fail
  generalize hW4 : World.alloc W3 _ = W4
  have y5 : W4.cell? ⟨W3.heap.size, 0, none⟩ = some (.func (.func 145) #[] #[.pointer (some ⟨w.heap.size + 1 + 1 + 1, 0, none⟩), .pointer (some ⟨w.heap.size + 1 + 1, 0, none⟩), .pointer (some ⟨w.heap.size + 1 + 1 + 1 + 1, 0, none⟩)]) := by rw [← hW4]; simp [go_sem]
  have y0 : W4.cell? ⟨w.heap.size, 0, none⟩ = some (.int .i64 (n : Int)) := by rw [← hW4]; exact akeep x0
  have y1 : W4.cell? ⟨w.heap.size + 1, 0, none⟩ = some (.int .i64 (most : Int)) := by rw [← hW4]; exact akeep x1
  have y2 : W4.cell? ⟨w.heap.size + 1 + 1, 0, none⟩ = some (.func (.func 137) #[] #[ca, cb]) := by rw [← hW4]; exact akeep x2
  have y3 : W4.cell? ⟨w.heap.size + 1 + 1 + 1, 0, none⟩ = some (.slice none 0 0) := by rw [← hW4]; exact akeep x3
  have y4 : W4.cell? ⟨w.heap.size + 1 + 1 + 1 + 1, 0, none⟩ = some (.nilFunc) := by rw [← hW4]; exact akeep x4
  have g3 : W4.frozen? ⟨w.heap.size + 1 + 1 + 1, 0, none⟩ = false := by rw [← hW4]; exact afree x3 f3
  have g4 : W4.frozen? ⟨w.heap.size + 1 + 1 + 1 + 1, 0, none⟩ = false := by rw [← hW4]; exact afree x4 f4
  have hs4 : W4.heap.size = w.heap.size + 6 := by rw [← hW4, World.size_alloc]; have := HS3.out; omega
  have hb4 : Below w.heap.size w W4 := by rw [← hW4]; exact hb3.alloc (by have := HS3.out; omega) _
  have HS4 := hid hs4
  clear hs4 hW4 hb3 x0 x1 x2 x3 x4 f3 f4
  go_upto_region 5 with fail
  generalize hW0 : World.setCell W4 _ _ = W0
  have hs0 : W0.heap.size = w.heap.size + 6 := by rw [← hW0]; have := HS4.out; simp; omega
  have hb0 : Below w.heap.size w W0 := by rw [← hW0]; exact hb4.setCell (p := ⟨w.heap.size + 1 + 1 + 1 + 1, 0, none⟩) (by show w.heap.size ≤ w.heap.size + 1 + 1 + 1 + 1; omega) _
  have hP0 : PartsAt w.heap.size 41 3 [] W0 := by
    refine ⟨.slice none 0 0, [], ⟨?_, ?_⟩, World.ownsRow_nil _ _ _ _, fun k v g h => by simp at h, fun j k u v h h1 => by simp at h1, by omega⟩
    · rw [← hW0]; exact setc_block y3 (by omega)
    · rw [← hW0]; exact set_free y3 g3
  have hB0 : BoxesAt w.heap.size (.int .i64 (n : Int)) (.int .i64 (most : Int)) (.func (.func 137) #[] #[ca, cb]) (.func (.func 146) #[] #[.pointer (some ⟨w.heap.size, 0, none⟩), .pointer (some ⟨w.heap.size + 3, 0, none⟩), .pointer (some ⟨w.heap.size + 5, 0, none⟩), .pointer (some ⟨w.heap.size + 1, 0, none⟩)]) (.func (.func 145) #[] #[.pointer (some ⟨w.heap.size + 3, 0, none⟩), .pointer (some ⟨w.heap.size + 2, 0, none⟩), .pointer (some ⟨w.heap.size + 4, 0, none⟩)]) W0 := by
    have z5 := y5
    rw [HS3.out] at z5 hW0
    rw [← hW0]
    exact ⟨setc_block y0 (by omega), setc_block y1 (by omega), setc_block y2 (by omega), setc_same y4, setc_block z5 (by omega)⟩
  have b4 := hB0.2.2.2.1
  clear hW0 hb4 y0 y1 y2 y3 y4 y5 g3 g4
  rw [HS3.out]
  go_wp2_with fail
  have hq0 := hQ _ _ hq hb0
  refine (puts_any (B := w.heap.size) hn hmn hQ hdo n 0 [] W0 (by omega) GoodR.nil (by simp) hP0 hB0 hq0).mono ?_
  unfold PutsRes
  rintro e w1 ⟨hq1, hB1, ⟨rs, hrs, rfl, hP1⟩ | ⟨hrs, rfl, hP1⟩⟩
  · have hgd := putG_good _ _ _ _ GoodR.nil (by simp) hrs
    obtain ⟨gv, vs, d1, ho, hr, hA, hz⟩ := hP1
    obtain ⟨ga, gcap, rfl, -⟩ := owns_shape ho
    have q0 := d1.1
    have HRS := hid hrs; clear hrs
    go_wp2_with fail
    refine (copied_any hgd.1.1 (by omega) (by omega) ho hr).mono ?_
    rintro e w2 ⟨v, rfl, hb2, hg2⟩
    have hq2 := hQ _ _ hq1 (hb2.mono (by omega))
    have hz2 := hb2.size
    go_wp2_with fail
    go_ret2
    exact ⟨hq2, by omega, .inl ⟨rs, v, HRS.out, rfl, groupsAt_base hg2 (by omega)⟩⟩
  · obtain ⟨gv, vs, d1, ho, hr, hA, hz⟩ := hP1
    have HRS := hid hrs; clear hrs
    go_wp2_with fail
    go_ret2
    exact ⟨hq1, by omega, .inr ⟨HRS.out, rfl⟩⟩

set_option maxRecDepth 100000 in
set_option maxHeartbeats 1500000 in
theorem fewest_any {w : World} {n : Nat} {ca cb : Value} {does : List Int → Bool} {Q : World → Prop} (hn : n ≤ 1000) (hQ : (∀ W W', Q W → Below w.heap.size W W' → Q W')) (hdo : (∀ (W : World) (v : Value) (g : List Int), Q W → NumsAt W v g → (∀ z ∈ g, 0 ≤ z ∧ z < (n : Int)) → 0 < g.length → g.length ≤ n → g.Pairwise (· < ·) → Calls Try.prog 137 #[v, ca, cb] W (fun e W' => e = .returned (.bool (does g)) ∧ Q W' ∧ Above w.heap.size W W'))) (hq : Q w) :
    Calls Try.prog 113 #[.int .i64 (n : Int), .func (.func 137) #[] #[ca, cb]] w (fun e w' => Q w' ∧ w.heap.size ≤ w'.heap.size ∧ FirstRes w.heap.size (fewG does n) e w') := by
  unfold FirstRes
  have HQ := hid hQ; have HDO := hid hdo; clear hQ hdo
  go_enter Try.func113, Try.ntmps113
  go_wp2_with fail
  go_loopg [11] n (fun gk iv wr => ∃ i : Nat, i ≤ n ∧ gk = n - i ∧ iv = .int .i64 i ∧ Q wr ∧ w.heap.size ≤ wr.heap.size ∧ (∀ j, j < i → does [(j : Int)] = true))
  case atStart => exact ⟨0, Nat.zero_le _, rfl, rfl, hq, Nat.le_refl _, fun j h => by omega⟩
  case round =>
    clear hq
    obtain ⟨i, hi, hgk, rfl, hq, hz, ho⟩ := hrel
    have HGK := hid hgk; have HO := hid ho; clear hgk ho
    by_cases hlt : i < n
    · have hki : (i : Int) < (n : Int) := by omega
      go_wp2_with fail
      obtain ⟨b, hbb⟩ : ∃ b, does [(i : Int)] = b := ⟨_, rfl⟩
      have hnum : NumsAt (wr.alloc (.cells #[.int .i64 (i : Int)] 3)) (.slice (some ⟨wr.heap.size, 0, none⟩) 1 1) [(i : Int)] := numsAt_of_owns (base := wr.heap.size) (e := 3) (fun z hz => by rw [List.mem_singleton.1 hz]; exact I64.mk (by omega) (by omega)) ⟨rfl, .inr ⟨wr.heap.size, 1, #[.int .i64 (i : Int)], rfl, Nat.le_refl _, World.alloc_heap_new wr _, Nat.le_refl _, by unfold maxLen; omega, rfl, rfl⟩⟩
      have hbl : Below w.heap.size wr (wr.alloc (.cells #[.int .i64 (i : Int)] 3)) := ((Below.refl _ wr).alloc (Nat.le_refl _) _).mono hz
      refine (HDO.out _ _ [(i : Int)] (HQ.out _ _ hq hbl) hnum (fun z hz => by rw [List.mem_singleton.1 hz]; omega) (by simp) (by simp; omega) (List.pairwise_singleton _ _)).mono ?_
      clear hnum hbl
      rintro e w2 ⟨rfl, hq2, ha2⟩
      rw [hbb]
      have hz2 : w.heap.size ≤ w2.heap.size := by have := ha2.size; simp at this; omega
      have HBB := hid hbb; clear hbb ha2 hq
      cases b
      · have hf : fewG does n = none := by unfold fewG; rw [if_neg]; intro h; have h2 := List.all_eq_true.1 h i (List.mem_range.2 hlt); rw [HBB.out] at h2; cases h2
        have HF := hid hf; clear hf
        go_wp2_with fail
        go_ret2
        exact ⟨hq2, hz2, .inr ⟨HF.out, rfl⟩⟩
      · go_wp2_with fail
        go_roundg (n - (i + 1))
        case measure => have h := HGK.out; omega
        case rel => exact ⟨i + 1, by omega, rfl, by go_num, hq2, hz2, fun j hj => by (rcases Nat.lt_or_ge j i with h3 | h3); exact HO.out j h3; rw [show j = i by omega]; exact HBB.out⟩
    · obtain rfl : i = n := by omega
      have hfw : fewG does i = (List.range (i + 1)).findSome? (fun m => putG does m i 0 []) := by unfold fewG; rw [if_pos (List.all_eq_true.2 fun j hj => HO.out j (List.mem_range.1 hj))]
      have HF := hid hfw; clear hfw
      go_wp2_with fail
      go_loopg [21] i (fun gk mv wr => ∃ m : Nat, m ≤ i ∧ gk = i - m ∧ mv = .int .i64 m ∧ Q wr ∧ w.heap.size ≤ wr.heap.size ∧ (∀ j, j < m → putG does j i 0 [] = none))
      case atStart => exact ⟨0, Nat.zero_le _, rfl, rfl, hq, hz, fun j h => by omega⟩
      case round =>
        clear hq hz
        obtain ⟨m, hm, hgk2, rfl, hq, hz, hno⟩ := hrel
        have HGK2 := hid hgk2; have HNO := hid hno; clear hgk2 hno
        by_cases hlt2 : m < i
        · have hmi : (m : Int) < (i : Int) := by omega
          go_wp2_with fail
          refine (firstP_any (w := wr) (n := i) (most := m) hn (by omega) (fun W W' h1 h2 => HQ.out W W' h1 (h2.mono (by omega))) (fun W v g h1 h2 h3 h4 h5 h6 => (HDO.out W v g h1 h2 h3 h4 h5 h6).mono fun e W' h => ⟨h.1, h.2.1, h.2.2.mono (by omega)⟩) hq).mono ?_
          unfold FirstRes
          rintro e w3 ⟨hq3, hz3, ⟨rs, v, hrs, rfl, hg3⟩ | ⟨hrs, rfl⟩⟩
          · have HRS := hid hrs; clear hrs
            go_wp2_with fail
            go_ret2
            exact ⟨hq3, by omega, .inl ⟨rs, v, by rw [HF.out]; exact find_here (k := m) (by omega) HNO.out HRS.out, rfl, groupsAt_base hg3 hz⟩⟩
          · have HRS := hid hrs; clear hrs
            go_wp2_with fail
            go_roundg (i - (m + 1))
            case measure => have h := HGK2.out; omega
            case rel => exact ⟨m + 1, by omega, rfl, by go_num, hq3, by omega, fun j hj => by (rcases Nat.lt_or_ge j m with h3 | h3); exact HNO.out j h3; rw [show j = m by omega]; exact HRS.out⟩
        · obtain rfl : m = i := by omega
          go_wp2_with fail
          refine (firstP_any (w := wr) (n := m) (most := m) hn (Nat.le_refl _) (fun W W' h1 h2 => HQ.out W W' h1 (h2.mono (by omega))) (fun W v g h1 h2 h3 h4 h5 h6 => (HDO.out W v g h1 h2 h3 h4 h5 h6).mono fun e W' h => ⟨h.1, h.2.1, h.2.2.mono (by omega)⟩) hq).mono ?_
          unfold FirstRes
          rintro e w3 ⟨hq3, hz3, ⟨rs, v, hrs, rfl, hg3⟩ | ⟨hrs, rfl⟩⟩
          · have HRS := hid hrs; clear hrs
            go_wp2_with fail
            go_ret2
            exact ⟨hq3, by omega, .inl ⟨rs, v, by rw [HF.out]; exact find_here (k := m) (by omega) HNO.out HRS.out, rfl, groupsAt_base hg3 hz⟩⟩
          · exfalso
            obtain ⟨r, hr⟩ := putG_some (does := does) (most := m) m 0 [] (fun j h1 h2 => HO.out j (by omega)) (by omega) (by simp)
            rw [hr] at hrs; cases hrs

end Go.Proofs.Ytnchhleokdkejaa

/- The fewest bungs. -/
namespace Go.Proofs.Ytnchhleokdkejaa
open Go.RowKit Go.Pb Go.Pb.Ware Go.Pb.Sag
set_option linter.unusedVariables false
set_option linter.unusedSimpArgs false

open Go.Proofs Go.Pb.Bung
def ckYd (lo hi : Int) (l : List Sg) (cr le : Int) : Int := if ckWd lo hi ≠ 0 then ckWd lo hi else if ckLs l ≠ 0 then ckLs l else ckSp cr le
/-- What Fewest answers. -/
def fewA (lo hi : Int) (l : List Sg) (cr le : Int) : List (List Int) × Int := if ckYd lo hi l cr le ≠ 0 then ([], ckYd lo hi l cr le) else if l.length > 9 then ([], 36) else match fewG (doesB lo hi l cr le) l.length with | some gs => (gs, 0) | none => ([], 3)
def FewRes (r : List (List Int) × Int) (W : World) (e : Ending) (w' : World) : Prop := ∃ v, e = .returned (.tuple #[v, .int .i64 r.2]) ∧ Below W.heap.size W w' ∧ GroupsAt W.heap.size v r.1 w'
theorem below_but {w w2 W : World} {M : Nat} (hb : Below w.heap.size w w2) (hg : w2.grownBy W (some M)) (hM : w.heap.size ≤ M) : Below w.heap.size w W :=
  ⟨hg.os.trans hb.os, hg.tape.trans hb.tape, hg.output.trans hb.output, Nat.le_trans hb.size hg.size, fun k hk => (hg.block k (Nat.lt_of_lt_of_le hk hb.size) (fun e => by injection e with e; omega)).trans (hb.block k hk)⟩
theorem yard_ok {lo hi cr le : Int} {l : List Sg} (h : ckYd lo hi l cr le = 0) : (0 ≤ lo ∧ lo ≤ 200) ∧ (0 ≤ hi ∧ hi ≤ 200) ∧ listOk l = true := by
  unfold ckYd at h
  by_cases h1 : ckWd lo hi = 0
  · rw [if_neg (by simpa using h1)] at h
    by_cases h2 : ckLs l = 0
    · unfold ckWd at h1
      split at h1
      · rename_i hw
        unfold wadOk rgOk at hw
        simp only [Bool.and_eq_true, decide_eq_true_eq] at hw
        refine ⟨by omega, by omega, ?_⟩
        unfold ckLs at h2
        split at h2
        · assumption
        · cases h2
      · cases h1
    · rw [if_pos h2] at h; exact absurd h h2
  · rw [if_pos h1] at h; exact absurd h h1

set_option maxRecDepth 100000 in
set_option maxHeartbeats 1000000 in
theorem ckYd_any {w : World} {v : Value} {l : List Sg} {lo hi cr le r : Int} (h : RowsAt 8 w v (l.map rowG)) (hr : ckYd lo hi l cr le = r) :
    Calls Try.prog 112 #[.agg #[.int .i64 lo, .int .i64 hi], v, .agg #[.int .i64 cr, .int .i64 le]] w (Ret w (.int .i64 r)) := by
  unfold Ret
  obtain ⟨a, cap, rfl, hll⟩ := h.shape
  rw [List.length_map] at h hll ⊢
  obtain ⟨c1, hc1⟩ : ∃ c, ckWd lo hi = c := ⟨_, rfl⟩
  obtain ⟨c2, hc2⟩ : ∃ c, ckLs l = c := ⟨_, rfl⟩
  obtain ⟨c3, hc3⟩ : ∃ c, ckSp cr le = c := ⟨_, rfl⟩
  have hr2 : r = if c1 ≠ 0 then c1 else if c2 ≠ 0 then c2 else c3 := by rw [← hr]; unfold ckYd; rw [hc1, hc2, hc3]
  clear hr
  have HC1 := hid hc1; have HC2 := hid hc2; have HC3 := hid hc3; clear hc1 hc2 hc3
  by_cases h1 : c1 = 0
  · subst h1
    by_cases h2 : c2 = 0
    · subst h2
      simp at hr2
      subst hr2
      go_enter Try.func112, Try.ntmps112
      go_wp2_with fail
      refine (ckWd_any HC1.out).mono ?_
      rintro e w1 ⟨rfl, hb⟩
      replace hb0 := bnext (w := w) (by go_grown) hb; have hz := hb.size; (try simp only [World.size_alloc, World.size_setCell] at hz); replace q0 : w1.cell? ⟨w.heap.size, 0, none⟩ = some (.int .i64 lo) := bkeep hb (by first | (with_reducible exact q0) | (with_reducible exact akeep q0) | simp [*, go_sem]); replace q1 : w1.cell? ⟨w.heap.size, 1, none⟩ = some (.int .i64 hi) := bkeep hb (by first | (with_reducible exact q1) | (with_reducible exact akeep q1) | simp [*, go_sem]); replace q2 : w1.cell? ⟨w.heap.size + 1, 0, none⟩ = some (.int .i64 cr) := bkeep hb (by first | (with_reducible exact q2) | (with_reducible exact akeep q2) | simp [*, go_sem]); replace q3 : w1.cell? ⟨w.heap.size + 1, 1, none⟩ = some (.int .i64 le) := bkeep hb (by first | (with_reducible exact q3) | (with_reducible exact akeep q3) | simp [*, go_sem]); skip
      clear hb
      go_wp2_with fail
      refine (ckLs_any (h.below (by go_grown)) HC2.out).mono ?_
      rintro e w1 ⟨rfl, hb⟩
      replace hb0 := bnext (w := w) (by go_grown) hb; have hz := hb.size; (try simp only [World.size_alloc, World.size_setCell] at hz); replace q0 : w1.cell? ⟨w.heap.size, 0, none⟩ = some (.int .i64 lo) := bkeep hb (by first | (with_reducible exact q0) | (with_reducible exact akeep q0) | simp [*, go_sem]); replace q1 : w1.cell? ⟨w.heap.size, 1, none⟩ = some (.int .i64 hi) := bkeep hb (by first | (with_reducible exact q1) | (with_reducible exact akeep q1) | simp [*, go_sem]); replace q2 : w1.cell? ⟨w.heap.size + 1, 0, none⟩ = some (.int .i64 cr) := bkeep hb (by first | (with_reducible exact q2) | (with_reducible exact akeep q2) | simp [*, go_sem]); replace q3 : w1.cell? ⟨w.heap.size + 1, 1, none⟩ = some (.int .i64 le) := bkeep hb (by first | (with_reducible exact q3) | (with_reducible exact akeep q3) | simp [*, go_sem]); skip
      clear hb
      go_wp2_with fail
      refine (ckSp_any HC3.out).mono ?_
      rintro e w1 ⟨rfl, hb⟩
      replace hb0 := bnext (w := w) (by go_grown) hb; have hz := hb.size; (try simp only [World.size_alloc, World.size_setCell] at hz); replace q0 : w1.cell? ⟨w.heap.size, 0, none⟩ = some (.int .i64 lo) := bkeep hb (by first | (with_reducible exact q0) | (with_reducible exact akeep q0) | simp [*, go_sem]); replace q1 : w1.cell? ⟨w.heap.size, 1, none⟩ = some (.int .i64 hi) := bkeep hb (by first | (with_reducible exact q1) | (with_reducible exact akeep q1) | simp [*, go_sem]); replace q2 : w1.cell? ⟨w.heap.size + 1, 0, none⟩ = some (.int .i64 cr) := bkeep hb (by first | (with_reducible exact q2) | (with_reducible exact akeep q2) | simp [*, go_sem]); replace q3 : w1.cell? ⟨w.heap.size + 1, 1, none⟩ = some (.int .i64 le) := bkeep hb (by first | (with_reducible exact q3) | (with_reducible exact akeep q3) | simp [*, go_sem]); skip
      clear hb
      go_wp2_with fail
      go_ret
      exact ⟨rfl, by first | exact hb0 | go_grown⟩
    · rw [if_neg (by simp), if_pos h2] at hr2
      subst hr2
      have h2b : (r != 0) = true := by simpa using h2
      go_enter Try.func112, Try.ntmps112
      go_wp2_with fail
      refine (ckWd_any HC1.out).mono ?_
      rintro e w1 ⟨rfl, hb⟩
      replace hb0 := bnext (w := w) (by go_grown) hb; have hz := hb.size; (try simp only [World.size_alloc, World.size_setCell] at hz); replace q0 : w1.cell? ⟨w.heap.size, 0, none⟩ = some (.int .i64 lo) := bkeep hb (by first | (with_reducible exact q0) | (with_reducible exact akeep q0) | simp [*, go_sem]); replace q1 : w1.cell? ⟨w.heap.size, 1, none⟩ = some (.int .i64 hi) := bkeep hb (by first | (with_reducible exact q1) | (with_reducible exact akeep q1) | simp [*, go_sem]); replace q2 : w1.cell? ⟨w.heap.size + 1, 0, none⟩ = some (.int .i64 cr) := bkeep hb (by first | (with_reducible exact q2) | (with_reducible exact akeep q2) | simp [*, go_sem]); replace q3 : w1.cell? ⟨w.heap.size + 1, 1, none⟩ = some (.int .i64 le) := bkeep hb (by first | (with_reducible exact q3) | (with_reducible exact akeep q3) | simp [*, go_sem]); skip
      clear hb
      go_wp2_with fail
      refine (ckLs_any (h.below (by go_grown)) HC2.out).mono ?_
      rintro e w1 ⟨rfl, hb⟩
      replace hb0 := bnext (w := w) (by go_grown) hb; have hz := hb.size; (try simp only [World.size_alloc, World.size_setCell] at hz); replace q0 : w1.cell? ⟨w.heap.size, 0, none⟩ = some (.int .i64 lo) := bkeep hb (by first | (with_reducible exact q0) | (with_reducible exact akeep q0) | simp [*, go_sem]); replace q1 : w1.cell? ⟨w.heap.size, 1, none⟩ = some (.int .i64 hi) := bkeep hb (by first | (with_reducible exact q1) | (with_reducible exact akeep q1) | simp [*, go_sem]); replace q2 : w1.cell? ⟨w.heap.size + 1, 0, none⟩ = some (.int .i64 cr) := bkeep hb (by first | (with_reducible exact q2) | (with_reducible exact akeep q2) | simp [*, go_sem]); replace q3 : w1.cell? ⟨w.heap.size + 1, 1, none⟩ = some (.int .i64 le) := bkeep hb (by first | (with_reducible exact q3) | (with_reducible exact akeep q3) | simp [*, go_sem]); skip
      clear hb
      go_wp2_with fail
      go_ret
      exact ⟨rfl, by first | exact hb0 | go_grown⟩
  · rw [if_pos h1] at hr2
    subst hr2
    have h1b : (r != 0) = true := by simpa using h1
    go_enter Try.func112, Try.ntmps112
    go_wp2_with fail
    refine (ckWd_any HC1.out).mono ?_
    rintro e w1 ⟨rfl, hb⟩
    replace hb0 := bnext (w := w) (by go_grown) hb; have hz := hb.size; (try simp only [World.size_alloc, World.size_setCell] at hz); replace q0 : w1.cell? ⟨w.heap.size, 0, none⟩ = some (.int .i64 lo) := bkeep hb (by first | (with_reducible exact q0) | (with_reducible exact akeep q0) | simp [*, go_sem]); replace q1 : w1.cell? ⟨w.heap.size, 1, none⟩ = some (.int .i64 hi) := bkeep hb (by first | (with_reducible exact q1) | (with_reducible exact akeep q1) | simp [*, go_sem]); replace q2 : w1.cell? ⟨w.heap.size + 1, 0, none⟩ = some (.int .i64 cr) := bkeep hb (by first | (with_reducible exact q2) | (with_reducible exact akeep q2) | simp [*, go_sem]); replace q3 : w1.cell? ⟨w.heap.size + 1, 1, none⟩ = some (.int .i64 le) := bkeep hb (by first | (with_reducible exact q3) | (with_reducible exact akeep q3) | simp [*, go_sem]); skip
    clear hb
    go_wp2_with fail
    go_ret
    exact ⟨rfl, by first | exact hb0 | go_grown⟩

set_option maxRecDepth 100000 in
set_option maxHeartbeats 1000000 in
theorem Fewest_any {w : World} {v : Value} {l : List Sg} {lo hi cr le : Int} {r : List (List Int) × Int} (h : RowsAt 8 w v (l.map rowG)) (hr : fewA lo hi l cr le = r) :
    Calls Try.prog 59 #[.agg #[.int .i64 lo, .int .i64 hi], v, .agg #[.int .i64 cr, .int .i64 le]] w (FewRes r w) := by
  obtain ⟨a, cap, rfl, hll⟩ := h.shape
  rw [List.length_map] at h hll ⊢
  obtain ⟨c, hc⟩ : ∃ c, ckYd lo hi l cr le = c := ⟨_, rfl⟩
  obtain ⟨n, hn⟩ : ∃ n, l.length = n := ⟨_, rfl⟩
  have hr2 : r = if c ≠ 0 then ([], c) else if n > 9 then ([], 36) else match fewG (doesB lo hi l cr le) n with | some gs => (gs, 0) | none => ([], 3) := by rw [← hr]; unfold fewA; rw [hc, hn]
  clear hr
  unfold FewRes
  have HN : Hid (l.length = n) := hn
  rw [hn] at h hll ⊢
  clear hn
  by_cases h1 : c = 0
  · subst h1
    obtain ⟨hw1, hw2, hk⟩ := yard_ok hc
    rw [if_neg (by simp)] at hr2
    have HC := hid hc; clear hc
    by_cases h9 : n > 9
    · rw [if_pos h9] at hr2
      subst hr2
      have h9i : (9 : Int) < (n : Int) := by omega
      go_enter Try.func59, Try.ntmps59
      go_wp2_with fail
      refine (ckYd_any (h.below (by go_grown)) HC.out).mono ?_
      rintro e w1 ⟨rfl, hb⟩
      replace hb0 := bnext (w := w) (by go_grown) hb; have hz := hb.size; (try simp only [World.size_alloc, World.size_setCell] at hz); replace q0 : w1.cell? ⟨w.heap.size, 0, none⟩ = some (.int .i64 lo) := bkeep hb (by first | (with_reducible exact q0) | (with_reducible exact akeep q0) | simp [*, go_sem]); replace q1 : w1.cell? ⟨w.heap.size, 1, none⟩ = some (.int .i64 hi) := bkeep hb (by first | (with_reducible exact q1) | (with_reducible exact akeep q1) | simp [*, go_sem]); replace q2 : w1.cell? ⟨w.heap.size + 1, 0, none⟩ = some (.int .i64 cr) := bkeep hb (by first | (with_reducible exact q2) | (with_reducible exact akeep q2) | simp [*, go_sem]); replace q3 : w1.cell? ⟨w.heap.size + 1, 1, none⟩ = some (.int .i64 le) := bkeep hb (by first | (with_reducible exact q3) | (with_reducible exact akeep q3) | simp [*, go_sem]); skip
      clear hb
      go_wp2_with fail
      go_ret2
      exact ⟨_, rfl, by first | exact hb0 | go_grown, groupsAt_nil _ _⟩
    · rw [if_neg h9] at hr2
      have h9i : ¬ (9 : Int) < (n : Int) := by omega
      have HR := hid hr2; clear hr2
      go_enter Try.func59, Try.ntmps59
      go_wp2_with fail
      refine (ckYd_any (h.below (by go_grown)) HC.out).mono ?_
      rintro e w1 ⟨rfl, hb⟩
      replace hb0 := bnext (w := w) (by go_grown) hb; have hz := hb.size; (try simp only [World.size_alloc, World.size_setCell] at hz); replace q0 : w1.cell? ⟨w.heap.size, 0, none⟩ = some (.int .i64 lo) := bkeep hb (by first | (with_reducible exact q0) | (with_reducible exact akeep q0) | simp [*, go_sem]); replace q1 : w1.cell? ⟨w.heap.size, 1, none⟩ = some (.int .i64 hi) := bkeep hb (by first | (with_reducible exact q1) | (with_reducible exact akeep q1) | simp [*, go_sem]); replace q2 : w1.cell? ⟨w.heap.size + 1, 0, none⟩ = some (.int .i64 cr) := bkeep hb (by first | (with_reducible exact q2) | (with_reducible exact akeep q2) | simp [*, go_sem]); replace q3 : w1.cell? ⟨w.heap.size + 1, 1, none⟩ = some (.int .i64 le) := bkeep hb (by first | (with_reducible exact q3) | (with_reducible exact akeep q3) | simp [*, go_sem]); skip
      clear hb
      go_wp2_with fail
      have h1 := h.below hb0
      obtain ⟨v1, hv1⟩ : ∃ v, v = w1 := ⟨_, rfl⟩
      subst hv1
      have hz1 := hb0.size
      refine (remembered_any (does := doesB lo hi l cr le) h1).mono ?_
      rintro e w2 ⟨XM, M, rfl, hb2, hM, hcM, hne1, hne2, hcY, hQ⟩
      have hb02 := bnext (w := w) hb0 hb2
      have hMl := hQ.lt
      have hMw : w.heap.size ≤ M := Nat.le_trans hz1 hM
      go_wp2_with fail
      refine (fewest_any (w := w2) (n := n) (does := doesB lo hi l cr le) (Q := fun W => w2.grownBy W (some M) ∧ MapQ Try.prog 152 4 M (doesB lo hi l cr le) W) (by omega) (fun W W' h1 h2 => ⟨⟨h2.os.trans h1.1.os, h2.tape.trans h1.1.tape, h2.output.trans h1.1.output, Nat.le_trans h1.1.size h2.size, fun k hk hne => (h2.block k hk).trans (h1.1.block k hk hne)⟩, h1.2.low h2 hMl⟩) (fun W v g hq hv hz h0 h1 h2 => ?_) ⟨grown_below (Below.refl _ _), hQ⟩).mono ?_
      · have hBW := below_but hb02 hq.1 hMw
        refine (recall_any (w := W) (u := v) (M := M) rfl (h.below hBW) hk (by rw [HN.out]; omega) hw1 hw2 hv (by rw [HN.out]; exact hz) h2 (by omega) (grown_cell hq.1 hcM hne1) ⟨grown_cell hq.1 hcY.1 hne2, grown_cell hq.1 hcY.2.1 hne2, grown_cell hq.1 hcY.2.2.1 hne2, grown_cell hq.1 hcY.2.2.2.1 hne2, grown_cell hq.1 hcY.2.2.2.2 hne2⟩ hq.2).mono ?_
        rintro e W' ⟨rfl, hg, hq2⟩
        exact ⟨rfl, ⟨hq.1.andThen hg (fun j e => .inr e), hq2⟩, ⟨hg.size, fun b hb1 hb2 => hg.block b hb2 (fun e => by injection e with e; omega)⟩⟩
      unfold FirstRes
      rintro e w3 ⟨⟨hg3, -⟩, hz3, ⟨rs, v, hrs, rfl, hgr⟩ | ⟨hrs, rfl⟩⟩
      all_goals have hb03 := below_but hb02 hg3 hMw
      · have hR := HR.out; rw [hrs] at hR; subst hR
        have HRS := hid hrs; clear hrs HR
        go_wp2_with fail
        go_ret2
        exact ⟨_, rfl, hb03, groupsAt_base hgr (by have := hb2.size; omega)⟩
      · have hR := HR.out; rw [hrs] at hR; subst hR
        have HRS := hid hrs; clear hrs HR
        go_wp2_with fail
        go_ret2
        exact ⟨_, rfl, hb03, groupsAt_nil _ _⟩
  · rw [if_pos h1] at hr2
    subst hr2
    have HC := hid hc; clear hc
    have h1b : (c != 0) = true := by simpa using h1
    go_enter Try.func59, Try.ntmps59
    go_wp2_with fail
    refine (ckYd_any (h.below (by go_grown)) HC.out).mono ?_
    rintro e w1 ⟨rfl, hb⟩
    replace hb0 := bnext (w := w) (by go_grown) hb; have hz := hb.size; (try simp only [World.size_alloc, World.size_setCell] at hz); replace q0 : w1.cell? ⟨w.heap.size, 0, none⟩ = some (.int .i64 lo) := bkeep hb (by first | (with_reducible exact q0) | (with_reducible exact akeep q0) | simp [*, go_sem]); replace q1 : w1.cell? ⟨w.heap.size, 1, none⟩ = some (.int .i64 hi) := bkeep hb (by first | (with_reducible exact q1) | (with_reducible exact akeep q1) | simp [*, go_sem]); replace q2 : w1.cell? ⟨w.heap.size + 1, 0, none⟩ = some (.int .i64 cr) := bkeep hb (by first | (with_reducible exact q2) | (with_reducible exact akeep q2) | simp [*, go_sem]); replace q3 : w1.cell? ⟨w.heap.size + 1, 1, none⟩ = some (.int .i64 le) := bkeep hb (by first | (with_reducible exact q3) | (with_reducible exact akeep q3) | simp [*, go_sem]); skip
    clear hb
    go_wp2_with fail
    go_ret2
    exact ⟨_, rfl, by first | exact hb0 | go_grown, groupsAt_nil _ _⟩

end Go.Proofs.Ytnchhleokdkejaa

/- Lists that are the same. -/
namespace Go.Proofs.Ytnchhleokdkejaa
open Go.RowKit Go.Pb Go.Pb.Ware Go.Pb.Sag
set_option linter.unusedVariables false
set_option linter.unusedSimpArgs false

open Go.Proofs Go.Pb.Bung
theorem take_same {zs ys : List Int} {k : Nat} (hk : k < zs.length) (hl : zs.length = ys.length) (h : zs.take k = ys.take k) (h2 : zs[k] = ys[k]'(by omega)) : zs.take (k + 1) = ys.take (k + 1) := by
  rw [List.take_succ_eq_append_getElem hk, List.take_succ_eq_append_getElem (by omega), h, h2]

set_option maxRecDepth 100000 in
set_option maxHeartbeats 600000 in
theorem same01_any {w : World} {v1 v2 : Value} {zs ys : List Int} {b : Bool} (h1 : NumsAt w v1 zs) (h2 : NumsAt w v2 ys) (hz : zs.length ≤ 1000) (hd : decide (zs = ys) = b) :
    Calls Try.prog 39 #[v1, v2] w (Ret w (.bool b)) := by
  unfold Ret
  obtain ⟨a, ac, rfl, ha1, ha2⟩ := h1.shape
  obtain ⟨c, cc, rfl, hc1, hc2⟩ := h2.shape
  obtain ⟨n, hn⟩ : ∃ n, zs.length = n := ⟨_, rfl⟩
  have HN := hid hn
  by_cases hl : zs.length = ys.length
  · have HL := hid hl
    rw [← hl] at h2 ⊢
    rw [hn] at h1 h2 hz ⊢
    clear hn hl ha1 hc1
    go_enter Try.func39, Try.ntmps39
    go_wp2_with fail
    go_loopg [5] n (fun gk kv wr => ∃ k : Nat, k ≤ n ∧ gk = n - k ∧ kv = .int .i64 k ∧ zs.take k = ys.take k ∧ Below w.heap.size w wr)
    case atStart => exact ⟨0, Nat.zero_le _, rfl, rfl, by simp, Below.refl _ _⟩
    case round =>
      obtain ⟨k, hk, hgk, rfl, ht, hB⟩ := hrel
      have HGK := hid hgk; have HT := hid ht; clear hgk ht
      by_cases hlt : k < n
      · have hki : (k : Int) < (n : Int) := by omega
        have k1 : k < zs.length := by rw [HN.out]; exact hlt
        have k2 : k < ys.length := by rw [← HL.out]; exact k1
        obtain ⟨a', e1, r0⟩ := (show NumsAt wr (.slice a zs.length ac) zs by rw [HN.out]; exact h1.below hB).elem k1
        obtain ⟨c', e2, r1⟩ := (show NumsAt wr (.slice c ys.length cc) ys by rw [← HL.out, HN.out]; exact h2.below hB).elem k2
        subst e1; subst e2
        obtain ⟨x, hx⟩ : ∃ x, zs[k] = x := ⟨_, rfl⟩
        obtain ⟨y, hy⟩ : ∃ y, ys[k] = y := ⟨_, rfl⟩
        rw [hx] at r0; rw [hy] at r1
        have HX := hid hx; have HY := hid hy; clear hx hy
        have s0 := fun x : BW wr => bkeep x.below r0
        have s1 := fun x : BW wr => bkeep x.below r1
        go_upto_region 6 with fail
        refine wp_region_qb (by kernel_rfl) (by kernel_rfl) fun hc => ?_
        repeat (go_big_quiet_step (fail))
        refine wpQuiet_nil ?_
        intro w3 hb
        replace hB := bnext (w := w) hB hb
        by_cases hxy : x = y
        · have hnx : (x != y) = false := by simp [hxy]
          rw [hnx]
          go_wp2_with fail
          go_roundg (n - (k + 1))
          case measure => have h := HGK.out; omega
          case rel => exact ⟨k + 1, by omega, rfl, by go_num, take_same k1 HL.out HT.out (by rw [HX.out, HY.out]; exact hxy), hB⟩
        · have hnx : (x != y) = true := by simp [hxy]
          rw [hnx]
          have hb2 : b = false := by
            rw [← hd, decide_eq_false_iff_not]; intro e; subst e; exact hxy (HX.out.symm.trans HY.out)
          subst hb2
          go_wp2_with fail
          go_ret
          exact ⟨rfl, hB⟩
      · obtain rfl : k = n := by omega
        have hb2 : b = true := by
          rw [← hd, decide_eq_true_eq]; have h := HT.out; rwa [List.take_of_length_le (by rw [HN.out]; exact Nat.le_refl _), List.take_of_length_le (by rw [← HL.out, HN.out]; exact Nat.le_refl _)] at h
        subst hb2
        go_wp2_with fail
        go_ret
        exact ⟨rfl, hB⟩
  · have hb2 : b = false := by
      rw [← hd, decide_eq_false_iff_not]; intro e; exact hl (by rw [e])
    subst hb2
    have hli : ¬ (zs.length : Int) = (ys.length : Int) := by omega
    go_enter Try.func39, Try.ntmps39
    go_wp2_with fail
    go_ret
    exact ⟨rfl, Below.refl _ _⟩

theorem take_sameR {zs ys : List (List Int)} {k : Nat} (hk : k < zs.length) (hl : zs.length = ys.length) (h : zs.take k = ys.take k) (h2 : zs[k] = ys[k]'(by omega)) : zs.take (k + 1) = ys.take (k + 1) := by
  rw [List.take_succ_eq_append_getElem hk, List.take_succ_eq_append_getElem (by omega), h, h2]

theorem len2 {z : List Int} (h : z.length = 2) : ∃ x0 x1, z = [x0, x1] := by
  match z, h with
  | [x0, x1], _ => exact ⟨_, _, rfl⟩
set_option maxRecDepth 100000 in
set_option maxHeartbeats 1000000 in
theorem sameRanges_any {w : World} {v1 v2 : Value} {xs ys : List (List Int)} {b : Bool} (h1 : RowsAt 2 w v1 xs) (h2 : RowsAt 2 w v2 ys) (hx : xs.length ≤ 1000) (hd : decide (xs = ys) = b) :
    Calls Try.prog 38 #[v1, v2] w (Ret w (.bool b)) := by
  unfold Ret
  obtain ⟨a, ac, rfl, ha1⟩ := h1.shape
  obtain ⟨d, dc, rfl, hd1⟩ := h2.shape
  obtain ⟨n, hn⟩ : ∃ n, xs.length = n := ⟨_, rfl⟩
  have HN := hid hn
  by_cases hl : xs.length = ys.length
  · have HL := hid hl
    rw [← hl] at h2 ⊢
    rw [hn] at h1 h2 hx ⊢
    clear hn hl ha1 hd1
    go_enter Try.func38, Try.ntmps38
    go_wp2_with fail
    go_loopg [5, 6] n (fun gk sv kv wr => ∃ (k : Nat) (sm : Bool), k ≤ n ∧ gk = n - k ∧ sv = .bool sm ∧ kv = .int .i64 k ∧ Hid (sm = true → xs.take k = ys.take k) ∧ Hid (sm = false → xs ≠ ys) ∧ Below w.heap.size w wr)
    case atStart => exact ⟨0, true, Nat.zero_le _, rfl, by simp, rfl, hid (fun _ => by simp), hid (fun h => by cases h), Below.refl _ _⟩
    case round =>
      obtain ⟨k, sm, hk, hgk, rfl, rfl, HT, HF, hB⟩ := hrel
      have HGK := hid hgk; clear hgk
      cases sm
      · obtain rfl : b = false := by rw [← hd, decide_eq_false_iff_not]; exact HF.out rfl
        by_cases hlt : k < n
        · have hki : (k : Int) < (n : Int) := by omega
          go_wp2_with fail
          go_ret
          exact ⟨rfl, hB⟩
        · have hki : ¬ (k : Int) < (n : Int) := by omega
          go_wp2_with fail
          go_ret
          exact ⟨rfl, hB⟩
      · by_cases hlt : k < n
        · have hki : (k : Int) < (n : Int) := by omega
          have k1 : k < xs.length := by rw [HN.out]; exact hlt
          have k2 : k < ys.length := by rw [← HL.out]; exact k1
          obtain ⟨x, hx0⟩ : ∃ x, xs[k] = x := ⟨_, rfl⟩
          obtain ⟨y, hy0⟩ : ∃ y, ys[k] = y := ⟨_, rfl⟩
          obtain ⟨a', e1, hxl, r0, rc⟩ := RowsAt.row (show RowsAt 2 wr (.slice a xs.length ac) xs by rw [HN.out]; exact h1.below hB) k1
          obtain ⟨d', e2, hyl, s0, sc⟩ := RowsAt.row (show RowsAt 2 wr (.slice d ys.length dc) ys by rw [← HL.out, HN.out]; exact h2.below hB) k2
          subst e1; subst e2
          rw [hx0] at hxl r0 rc; rw [hy0] at hyl s0 sc
          obtain ⟨x0, x1, rfl⟩ := len2 hxl
          obtain ⟨y0, y1, rfl⟩ := len2 hyl
          replace r0 := r0 _ rfl; replace s0 := s0 _ rfl
          have r1 := rc 1 _ (by decide) rfl; have s1 := sc 1 _ (by decide) rfl
          obtain ⟨bb, hbb⟩ : ∃ bb, decide ([x0, x1] = [y0, y1]) = bb := ⟨_, rfl⟩
          have HX := hid hx0; have HY := hid hy0; have HBB := hid hbb; clear hx0 hy0 hbb rc sc hxl hyl
          go_upto_region 5 with fail
          refine wp_region_Rs [(8, fun v _ => v = .bool bb)] [0, 1, 2, 3, 4, 5, 6, 7, 8] 1 (by kernel_rfl) rfl (by simp only [List.forall_mem_cons]; exact ⟨keeps_eq, fun _ h => by cases h⟩) (by kernel_rfl) ?_
          simp only [numbered, List.filterMap_cons, List.filterMap_nil, List.getElem?_toArray, List.getElem?_cons_succ, List.getElem?_cons_zero, Option.map_some]
          show wpS _ _ _ _ _ _ _ [(_, _), (_, _), (_, _), (_, _), (_, _), (_, _), (_, _), (_, _), (_, _)] _ _
          (refine wpS_quiet rfl rfl ?_; intro K hK inst hx; go_big_quiet_op; (first | go_big_quiet_on | (refine ⟨_, fun _ => rfl, ?_⟩; go_big_quiet_on)); clear hx inst)
          (refine wpS_quiet rfl rfl ?_; intro K hK inst hx; go_big_quiet_op; (first | go_big_quiet_on | (refine ⟨_, fun _ => rfl, ?_⟩; go_big_quiet_on)); clear hx inst)
          (refine wpS_quiet rfl rfl ?_; intro K hK inst hx; go_big_quiet_op; (first | go_big_quiet_on | (refine ⟨_, fun _ => rfl, ?_⟩; go_big_quiet_on)); clear hx inst)
          (refine wpS_quiet rfl rfl ?_; intro K hK inst hx; have t0 := fun x => (fun _ => bkeep (BQ.below x) r0) (hx x); have t1 := fun x => (fun _ => bkeep (BQ.below x) r1) (hx x); go_big_quiet_op; (first | go_big_quiet_on | (refine ⟨_, fun _ => rfl, ?_⟩; go_big_quiet_on)); clear hx inst)
          (refine wpS_quiet rfl rfl ?_; intro K hK inst hx; go_big_quiet_op; (first | go_big_quiet_on | (refine ⟨_, fun _ => rfl, ?_⟩; go_big_quiet_on)); clear hx inst)
          (refine wpS_quiet rfl rfl ?_; intro K hK inst hx; go_big_quiet_op; (first | go_big_quiet_on | (refine ⟨_, fun _ => rfl, ?_⟩; go_big_quiet_on)); clear hx inst)
          (refine wpS_quiet rfl rfl ?_; intro K hK inst hx; go_big_quiet_op; (first | go_big_quiet_on | (refine ⟨_, fun _ => rfl, ?_⟩; go_big_quiet_on)); clear hx inst)
          (refine wpS_quiet rfl rfl ?_; intro K hK inst hx; have t0 := fun x => (fun _ => bkeep (BQ.below x) s0) (hx x); have t1 := fun x => (fun _ => bkeep (BQ.below x) s1) (hx x); go_big_quiet_op; (first | go_big_quiet_on | (refine ⟨_, fun _ => rfl, ?_⟩; go_big_quiet_on)); clear hx inst)
          refine wpS_fresh rfl rfl (fun w' hb hF => ?_) ?_
          · change freshAt _ _ _ (fun v _ => v = .bool bb) _; unfold freshAt; go_simp; rw [← HBB.out]; by_cases e0 : x0 = y0; (by_cases e1 : x1 = y1; (simp [e0, e1, Below.refl]); (simp [e0, e1, Below.refl])); (simp [e0, Below.refl])
          intro v W hv; simp only [pOf, List.lookup_cons, Nat.reduceBEq, beq_self_eq_true] at hv; subst hv
          simp only [Act.put, List.setIfInBounds_toArray, List.set_cons_succ, List.set_cons_zero]
          refine wpS_nil ?_
          intro w3 hall
          have hb := hall.1
          clear hall
          refine wpAny_ready (rs := [9]) (by kernel_rfl) (by simp) ?_
          refine AllReady.cons rfl (fun K hK => ?_) AllReady.nil
          go_simp
          refine hK _ _ ?_; clear hK K
          refine wpAny_done (by kernel_rfl) ?_ _
          replace hB := bnext (w := w) hB hb
          go_wp2_with fail
          go_roundg (n - (k + 1))
          case measure => have h := HGK.out; omega
          case rel => exact ⟨k + 1, bb, by omega, rfl, rfl, by go_num, hid (fun e => take_sameR k1 HL.out (HT.out (by simp)) (by rw [HX.out, HY.out]; exact of_decide_eq_true (HBB.out.trans e))), hid (fun e e2 => (decide_eq_false_iff_not.1 (HBB.out.trans e)) (by subst e2; exact HX.out.symm.trans HY.out)), hB⟩
        · obtain rfl : k = n := by omega
          obtain rfl : b = true := by rw [← hd, decide_eq_true_eq]; have h := HT.out (by simp); rwa [List.take_of_length_le (by rw [HN.out]; exact Nat.le_refl _), List.take_of_length_le (by rw [← HL.out, HN.out]; exact Nat.le_refl _)] at h
          go_wp2_with fail
          go_ret
          exact ⟨rfl, hB⟩
  · obtain rfl : b = false := by rw [← hd, decide_eq_false_iff_not]; intro e; exact hl (by rw [e])
    have hle : ((n : Int) == (ys.length : Int)) = false := beq_eq_false_iff_ne.mpr (by omega)
    go_enter Try.func38, Try.ntmps38
    go_wp2_with fail
    refine wp_loop_rounds 1 ?_
    rw [rounds_succ]
    by_cases h0 : 0 < xs.length
    · have h0i : (0 : Int) < (xs.length : Int) := by omega
      go_wp2_with fail
      go_ret
      exact ⟨rfl, Below.refl _ _⟩
    · have h0i : ¬ (0 : Int) < (xs.length : Int) := by omega
      go_wp2_with fail
      go_ret
      exact ⟨rfl, Below.refl _ _⟩

/-- In the world w the slice v reads as these lists of numbers. -/
def ListsAt (v : Value) (gs : List (List Int)) (W : World) : Prop := ∃ (a : Option Addr) (cap : Nat), v = .slice a gs.length cap ∧ ∀ k g, gs[k]? = some g → ∃ a', a = some a' ∧ ∃ u, W.cell? (a'.add k) = some u ∧ NumsAt W u g
theorem ListsAt.below {v : Value} {gs : List (List Int)} {W W' : World} (h : ListsAt v gs W) (hb : Below W.heap.size W W') : ListsAt v gs W' := by
  obtain ⟨a, cap, e, h⟩ := h
  refine ⟨a, cap, e, fun k g hg => ?_⟩
  obtain ⟨a', e2, u, h1, h2⟩ := h k g hg
  exact ⟨a', e2, u, bkeep hb h1, h2.below hb⟩
set_option maxRecDepth 100000 in
set_option maxHeartbeats 1000000 in
theorem sameParts_any {w : World} {v1 v2 : Value} {zs ys : List (List Int)} {b : Bool} (h1 : ListsAt v1 zs w) (h2 : ListsAt v2 ys w) (hz : zs.length ≤ 1000) (hsz : ∀ z ∈ zs, z.length ≤ 1000) (hd : decide (zs = ys) = b) :
    Calls Try.prog 61 #[v1, v2] w (Ret w (.bool b)) := by
  unfold Ret
  obtain ⟨a, ac, rfl, ha⟩ := h1
  obtain ⟨d, dc, rfl, hdd⟩ := h2
  have HA := hid ha; have HC := hid hdd; clear ha hdd
  obtain ⟨n, hn⟩ : ∃ n, zs.length = n := ⟨_, rfl⟩
  have HN := hid hn
  by_cases hl : zs.length = ys.length
  · have HL := hid hl
    rw [← hl]
    rw [hn] at hz ⊢
    clear hn hl
    go_enter Try.func61, Try.ntmps61
    go_wp2_with fail
    go_loopg [5, 6] n (fun gk sv kv wr => ∃ (k : Nat) (sm : Bool), k ≤ n ∧ gk = n - k ∧ sv = .bool sm ∧ kv = .int .i64 k ∧ Hid (sm = true → zs.take k = ys.take k) ∧ Hid (sm = false → zs ≠ ys) ∧ Below w.heap.size w wr)
    case atStart => exact ⟨0, true, Nat.zero_le _, rfl, by simp, rfl, hid (fun _ => by simp), hid (fun h => by cases h), Below.refl _ _⟩
    case round =>
      obtain ⟨k, sm, hk, hgk, rfl, rfl, HT, HF, hB⟩ := hrel
      have HGK := hid hgk; clear hgk
      cases sm
      · obtain rfl : b = false := by rw [← hd, decide_eq_false_iff_not]; exact HF.out rfl
        by_cases hlt : k < n
        · have hki : (k : Int) < (n : Int) := by omega
          go_wp2_with fail
          go_ret
          exact ⟨rfl, hB⟩
        · have hki : ¬ (k : Int) < (n : Int) := by omega
          go_wp2_with fail
          go_ret
          exact ⟨rfl, hB⟩
      · by_cases hlt : k < n
        · have hki : (k : Int) < (n : Int) := by omega
          have k1 : k < zs.length := by rw [HN.out]; exact hlt
          have k2 : k < ys.length := by rw [← HL.out]; exact k1
          obtain ⟨x, hx0⟩ : ∃ x, zs[k] = x := ⟨_, rfl⟩
          obtain ⟨y, hy0⟩ : ∃ y, ys[k] = y := ⟨_, rfl⟩
          obtain ⟨a', e1, u, r0, hu⟩ := HA.out k x (by rw [List.getElem?_eq_getElem k1, hx0])
          obtain ⟨d', e2, t, s0, ht⟩ := HC.out k y (by rw [List.getElem?_eq_getElem k2, hy0])
          subst e1; subst e2
          replace r0 := bkeep hB r0; replace s0 := bkeep hB s0
          replace hu := hu.below hB; replace ht := ht.below hB
          have hxl := hsz x (by rw [← hx0]; exact List.getElem_mem k1)
          obtain ⟨ua, uc, rfl, -⟩ := hu.shape
          obtain ⟨ta, tc, rfl, -⟩ := ht.shape
          obtain ⟨bb, hbb⟩ : ∃ bb, decide (x = y) = bb := ⟨_, rfl⟩
          have HX := hid hx0; have HY := hid hy0; have HBB := hid hbb; clear hx0 hy0 hbb
          go_upto_region 5 with fail
          refine wp_region_Rs [(8, fun v _ => v = .bool bb)] [0, 1, 2, 3, 4, 5, 6, 7, 8] 1 (by kernel_rfl) rfl (by simp only [List.forall_mem_cons]; exact ⟨keeps_eq, fun _ h => by cases h⟩) (by kernel_rfl) ?_
          simp only [numbered, List.filterMap_cons, List.filterMap_nil, List.getElem?_toArray, List.getElem?_cons_succ, List.getElem?_cons_zero, Option.map_some]
          show wpS _ _ _ _ _ _ _ [(_, _), (_, _), (_, _), (_, _), (_, _), (_, _), (_, _), (_, _), (_, _)] _ _
          (refine wpS_quiet rfl rfl ?_; intro K hK inst hx; go_big_quiet_op; (first | go_big_quiet_on | (refine ⟨_, fun _ => rfl, ?_⟩; go_big_quiet_on)); clear hx inst)
          (refine wpS_quiet rfl rfl ?_; intro K hK inst hx; go_big_quiet_op; (first | go_big_quiet_on | (refine ⟨_, fun _ => rfl, ?_⟩; go_big_quiet_on)); clear hx inst)
          (refine wpS_quiet rfl rfl ?_; intro K hK inst hx; go_big_quiet_op; (first | go_big_quiet_on | (refine ⟨_, fun _ => rfl, ?_⟩; go_big_quiet_on)); clear hx inst)
          (refine wpS_quiet rfl rfl ?_; intro K hK inst hx; have t0 := fun x => (fun _ => bkeep (BQ.below x) r0) (hx x); go_big_quiet_op; (first | go_big_quiet_on | (refine ⟨_, fun _ => rfl, ?_⟩; go_big_quiet_on)); clear hx inst)
          (refine wpS_quiet rfl rfl ?_; intro K hK inst hx; go_big_quiet_op; (first | go_big_quiet_on | (refine ⟨_, fun _ => rfl, ?_⟩; go_big_quiet_on)); clear hx inst)
          (refine wpS_quiet rfl rfl ?_; intro K hK inst hx; go_big_quiet_op; (first | go_big_quiet_on | (refine ⟨_, fun _ => rfl, ?_⟩; go_big_quiet_on)); clear hx inst)
          (refine wpS_quiet rfl rfl ?_; intro K hK inst hx; go_big_quiet_op; (first | go_big_quiet_on | (refine ⟨_, fun _ => rfl, ?_⟩; go_big_quiet_on)); clear hx inst)
          (refine wpS_quiet rfl rfl ?_; intro K hK inst hx; have t0 := fun x => (fun _ => bkeep (BQ.below x) s0) (hx x); go_big_quiet_op; (first | go_big_quiet_on | (refine ⟨_, fun _ => rfl, ?_⟩; go_big_quiet_on)); clear hx inst)
          refine wpS_fresh rfl rfl (fun w' hb hF => ?_) ?_
          · change freshAt _ _ _ (fun v _ => v = .bool bb) _; unfold freshAt; go_simp; exact same01_any (hu.below hb) (ht.below hb) hxl HBB.out
          intro v W hv; simp only [pOf, List.lookup_cons, Nat.reduceBEq, beq_self_eq_true] at hv; subst hv
          simp only [Act.put, List.setIfInBounds_toArray, List.set_cons_succ, List.set_cons_zero]
          refine wpS_nil ?_
          intro w3 hall
          have hb := hall.1
          clear hall
          refine wpAny_ready (rs := [9]) (by kernel_rfl) (by simp) ?_
          refine AllReady.cons rfl (fun K hK => ?_) AllReady.nil
          go_simp
          refine hK _ _ ?_; clear hK K
          refine wpAny_done (by kernel_rfl) ?_ _
          replace hB := bnext (w := w) hB hb
          go_wp2_with fail
          go_roundg (n - (k + 1))
          case measure => have h := HGK.out; omega
          case rel => exact ⟨k + 1, bb, by omega, rfl, rfl, by go_num, hid (fun e => take_sameR k1 HL.out (HT.out (by simp)) (by rw [HX.out, HY.out]; exact of_decide_eq_true (HBB.out.trans e))), hid (fun e e2 => (decide_eq_false_iff_not.1 (HBB.out.trans e)) (by subst e2; exact HX.out.symm.trans HY.out)), hB⟩
        · obtain rfl : k = n := by omega
          obtain rfl : b = true := by rw [← hd, decide_eq_true_eq]; have h := HT.out (by simp); rwa [List.take_of_length_le (by rw [HN.out]; exact Nat.le_refl _), List.take_of_length_le (by rw [← HL.out, HN.out]; exact Nat.le_refl _)] at h
          go_wp2_with fail
          go_ret
          exact ⟨rfl, hB⟩
  · obtain rfl : b = false := by rw [← hd, decide_eq_false_iff_not]; intro e; exact hl (by rw [e])
    have hle : ((n : Int) == (ys.length : Int)) = false := beq_eq_false_iff_ne.mpr (by omega)
    go_enter Try.func61, Try.ntmps61
    go_wp2_with fail
    refine wp_loop_rounds 1 ?_
    rw [rounds_succ]
    by_cases h0 : 0 < zs.length
    · have h0i : (0 : Int) < (zs.length : Int) := by omega
      go_wp2_with fail
      go_ret
      exact ⟨rfl, Below.refl _ _⟩
    · have h0i : ¬ (0 : Int) < (zs.length : Int) := by omega
      go_wp2_with fail
      go_ret
      exact ⟨rfl, Below.refl _ _⟩

end Go.Proofs.Ytnchhleokdkejaa

/- An argument opened: a slice of slices of numbers. -/
namespace Go.Proofs.Ytnchhleokdkejaa
open Go Go.Pb Go.Pb.Ware Go.Pb.Sag Go.RowKit Go.ChangeShapes Go.WideShapes Go.ChangeAt Go.Deep
section
variable {H : Type} {enc : TypeId × Value → H} {P : Program} {w : World} {base : Nat} {spare : Nat → Bool} {held : Bool}
theorem open_lists {r : Reach} {b0 m : Nat} {t t2 e2 : TypeId} {v : Value} {d : DataW H} {p : List MemPlace} (ht : P.underlying t = some (.slice t2)) (u2 : P.underlying t2 = some (.slice e2)) (c2 : P.cellsOf t2 = 1) (hf2 : flatI P m e2 = true) (hn2 : P.cellsOf e2 = 1)
    (hv : Value.okWide P w r b0 t v) (h : DataW.Trod enc P w base spare held t v d p) : ∃ gs, ListsAt v gs w ∧ gs.length ≤ 9223372036854775807 := by
  obtain ⟨a0, l0, c0, rfl⟩ := okWide_slice ht hv
  obtain ⟨fuel, hf⟩ := h
  rcases Go.Deep.open_slice ht hf with ⟨h1, _⟩ | ⟨a, len, cap, k, f, D, Pl, hcs, hb, hl, hm, hk, _, hx⟩
  · simp [Value.cells] at h1
    obtain ⟨rfl, rfl, rfl⟩ := h1
    exact ⟨[], ⟨none, 0, rfl, fun k g hg => by simp at hg⟩, by simp⟩
  · have hlk : len ≤ k := by rw [hk]; split <;> omega
    have each : ∀ i, i < len → ∃ g : List Int, ∃ u, w.cell? (a.add i) = some u ∧ NumsAt w u g := by
      intro i hi
      obtain ⟨cs', h1, h2⟩ := hx i (by omega)
      rw [c2] at h1
      obtain ⟨_, hcl, hat⟩ := World.cells?_some h1
      obtain ⟨v2, r2, e2', h3⟩ := open_rows u2 hf2 hn2 h2
      obtain ⟨zs, hz⟩ := rows1_nums h3
      rcases h3 with ⟨rfl, _⟩ | ⟨q, qc, rfl, _⟩
      · have h4 := hat 0 (by omega)
        subst e2'
        rw [Go.Deep.add_add, Nat.mul_one, Nat.add_zero] at h4
        exact ⟨zs, _, h4, hz⟩
      · have h4 := hat 0 (by omega)
        subst e2'
        rw [Go.Deep.add_add, Nat.mul_one, Nat.add_zero] at h4
        exact ⟨zs, _, h4, hz⟩
    obtain ⟨R, hR⟩ := choose_lt each
    simp [Value.cells] at hcs
    obtain ⟨rfl, rfl, rfl⟩ := hcs
    refine ⟨(List.range l0).map R, ⟨some a, c0, by simp, fun i g hg => ?_⟩, by simp; unfold maxLen at hm; omega⟩
    have hi : i < l0 := by
      have := (List.getElem?_eq_some_iff.1 hg).1
      simpa using this
    rw [List.getElem?_map, List.getElem?_range hi] at hg
    simp at hg
    subst hg
    exact ⟨a, rfl, hR i hi⟩
end
end Go.Proofs.Ytnchhleokdkejaa

/- Arguments opened: a bung. -/
namespace Go.Pb
open Go.RowKit Go.ChangeShapes Go.WideShapes Go.ChangeAt Go.Deep
section
variable {H : Type} {enc : TypeId × Value → H} {P : Program} {w : World} {base : Nat} {spare : Nat → Bool} {held : Bool}
/-- A struct of a range, a slice of rows and a spot. -/
theorem open_job {r : Reach} {b0 m n : Nat} {t tr t2 e2 ts : TypeId} {f1 f2 f3 : Field} {v : Value} {d : DataW H} {p : List MemPlace} (hu : P.underlying t = some (.struct #[f1, f2, f3])) (hC : P.cellsOf t = 5)
    (ho1 : f1.offset = 0) (ho2 : f2.offset = 2) (ho3 : f3.offset = 3) (ht1 : f1.type = tr) (ht2 : f2.type = t2) (ht3 : f3.type = ts) (cr : P.cellsOf tr = 2) (c2 : P.cellsOf t2 = 1) (cs : P.cellsOf ts = 2) (hfr : flatI P m tr = true) (hfs : flatI P m ts = true) (u2 : P.underlying t2 = some (.slice e2)) (hf2 : flatI P m e2 = true) (hn2 : P.cellsOf e2 = n)
    (hv : Value.okWide P w r b0 t v) (h : DataW.Trod enc P w base spare held t v d p) : ∃ x1 x2 v2 x3 x4 rows, v = .agg #[.int .i64 x1, .int .i64 x2, v2, .int .i64 x3, .int .i64 x4] ∧ RowsAt n w v2 rows := by
  obtain ⟨cs', rfl, hsz⟩ := okWide_struct hu hv
  obtain ⟨fuel, hf⟩ := h
  obtain ⟨xs, k, _, _, hlen, hxl, hg⟩ := DataW.trod_struct hu hf
  obtain ⟨l⟩ := cs'
  match l, hsz.trans hC with
  | [a1, a2, a3, a4, a5], _ =>
    have g1 := hg 0 f1 rfl
    have g2 := hg 1 f2 rfl
    have g3 := hg 2 f3 rfl
    rw [ho1, ht1, cr] at g1
    rw [ho2, ht2, c2] at g2
    rw [ho3, ht3, cs] at g3
    have x1 : xs[0]? = some (xs[0]'(by simp at hxl; omega)) := List.getElem?_eq_getElem _
    have x2 : xs[1]? = some (xs[1]'(by simp at hxl; omega)) := List.getElem?_eq_getElem _
    have x3 : xs[2]? = some (xs[2]'(by simp at hxl; omega)) := List.getElem?_eq_getElem _
    rw [x1] at g1
    rw [x2] at g2
    rw [x3] at g3
    obtain ⟨_, hi⟩ := flat_cells m hfr g1
    obtain ⟨z0, hz0, hw0⟩ := hi 0 a1 rfl
    obtain ⟨z1, hz1, hw1⟩ := hi 1 a2 rfl
    obtain ⟨v2, r2, e2', h2⟩ := open_rows u2 hf2 hn2 g2
    obtain ⟨_, hj⟩ := flat_cells m hfs g3
    obtain ⟨z2, hz2, hw2⟩ := hj 0 a4 rfl
    obtain ⟨z3, hz3, hw3⟩ := hj 1 a5 rfl
    simp [Value.cells] at e2'
    subst e2'; subst hz0; subst hz1; subst hz2; subst hz3
    exact ⟨z0, z1, _, z2, z3, r2, rfl, h2⟩
end
end Go.Pb
namespace Go.Pb.Bung
open Go Go.Pb Go.Pb.Ware Go.RowKit
theorem rows_sg {w : World} {v : Value} {rows : List (List Int)} (h : RowsAt 8 w v rows) : ∃ l : List Sg, rows = l.map rowG := by
  have hl : ∀ r ∈ rows, r.length = 8 := fun r hr => (h.i64 r hr).1
  clear h
  induction rows with
  | nil => exact ⟨[], rfl⟩
  | cons r rows ih =>
    obtain ⟨l, hl2⟩ := ih fun x hx => hl x (List.mem_cons_of_mem _ hx)
    have h8 := hl r (List.mem_cons_self ..)
    match r, h8 with
    | [a, b, c, d, e, f, g, h], _ => exact ⟨⟨a, b, c, d, e, f, g, h⟩ :: l, by rw [hl2]; rfl⟩
end Go.Pb.Bung

/- The reference's load of a course. -/
namespace Go.Proofs.Ytnchhleokdkejaa
open Go.RowKit Go.Pb Go.Pb.Ware Go.Pb.Sag
set_option linter.unusedVariables false
set_option linter.unusedSimpArgs false

open Go.Pb.Bung
def upL (l : List Sg) (c j : Nat) : Int := (((l.drop (c + 1)).take j).map (·.wl)).sum
def upH (l : List Sg) (c j : Nat) : Int := (((l.drop (c + 1)).take j).map (·.wh)).sum
theorem up_next {l : List Sg} {c i j : Nat} {s : Sg} (hi : i = c + 1 + j) (h : l[i]? = some s) : upL l c (j + 1) = upL l c j + s.wl ∧ upH l c (j + 1) = upH l c j + s.wh := by
  subst hi
  have e : (l.drop (c + 1)).take (j + 1) = (l.drop (c + 1)).take j ++ [s] := by
    have h1 := List.take_add_one (i := j) (l := l.drop (c + 1))
    rw [List.getElem?_drop, h] at h1
    exact h1
  unfold upL upH
  rw [e]
  simp
theorem up_end {l : List Sg} {c j : Nat} (h : l.length ≤ c + 1 + j) : upL l c j = loadL l c ∧ upH l c j = loadH l c := by
  unfold upL upH loadL loadH
  rw [List.take_of_length_le (by rw [List.length_drop]; omega)]; exact ⟨rfl, rfl⟩
theorem up_small {l : List Sg} (h : ∀ s ∈ l, 0 ≤ s.wl ∧ s.wl ≤ 10000000 ∧ 0 ≤ s.wh ∧ s.wh ≤ 10000000) (c j : Nat) : 0 ≤ upL l c j ∧ upL l c j ≤ 10000000 * j ∧ 0 ≤ upH l c j ∧ upH l c j ≤ 10000000 * j := by
  have key : ∀ (f : Sg → Int) (m : List Sg), (∀ s ∈ m, 0 ≤ f s ∧ f s ≤ 10000000) → 0 ≤ (m.map f).sum ∧ (m.map f).sum ≤ 10000000 * m.length := by
    intro f m hm
    induction m with
    | nil => simp
    | cons s m ih =>
      have h1 := hm s (List.mem_cons_self ..)
      have h2 := ih fun x hx => hm x (List.mem_cons_of_mem _ hx)
      rw [List.map_cons, List.sum_cons, List.length_cons]
      omega
  have hd : ∀ s ∈ (l.drop (c + 1)).take j, s ∈ l := fun s hs => List.mem_of_mem_drop (List.mem_of_mem_take hs)
  have hl : ((l.drop (c + 1)).take j).length ≤ j := by rw [List.length_take]; omega
  have h1 := key (·.wl) _ fun s hs => ⟨(h s (hd s hs)).1, (h s (hd s hs)).2.1⟩
  have h2 := key (·.wh) _ fun s hs => ⟨(h s (hd s hs)).2.2.1, (h s (hd s hs)).2.2.2⟩
  unfold upL upH
  omega

set_option maxRecDepth 100000 in
set_option maxHeartbeats 1000000 in
theorem rLoad_any {w : World} {v : Value} {l : List Sg} {c : Nat} (h : RowsAt 8 w v (l.map rowG)) (hl : l.length ≤ 30) (hc : c < l.length) (hs : ∀ s ∈ l, 0 ≤ s.wl ∧ s.wl ≤ 10000000 ∧ 0 ≤ s.wh ∧ s.wh ≤ 10000000) :
    Calls Try.prog 85 #[v, .int .i64 (c : Int)] w (Ret w (.agg #[.int .i64 (loadL l c), .int .i64 (loadH l c)])) := by
  unfold Ret
  obtain ⟨a, cap, rfl, hll⟩ := h.shape
  rw [List.length_map] at h hll ⊢
  obtain ⟨n, hn⟩ : ∃ n, l.length = n := ⟨_, rfl⟩
  have HN := hid hn; have HS := hid hs
  rw [hn] at h hll hl hc ⊢
  clear hn hs
  go_enter Try.func85, Try.ntmps85
  go_upto_region 2 with fail
  generalize hW : World.alloc (World.alloc w _) _ = v1
  have y0 : CellsAt v1 w.heap.size [.int .i64 0, .int .i64 0] := by rw [← hW]; exact (CellsAt.new w [.int .i64 0, .int .i64 0] 23).alloc _
  have y1 : CellsAt v1 (w.heap.size + 1) [.int .i64 0, .int .i64 0] := by rw [← hW]; have h := CellsAt.new (w.alloc (.cells #[.int .i64 0, .int .i64 0] 23)) [.int .i64 0, .int .i64 0] 23; rwa [World.size_alloc] at h
  have hB1 : Below w.heap.size w v1 := by rw [← hW]; exact ((Below.refl _ w).alloc (Nat.le_refl _) _).alloc (by simp) _
  clear hW
  go_wp2_with fail
  go_loopg [6] (n - (c + 1)) (fun gk iv wr => ∃ i j : Nat, i = c + 1 + j ∧ i ≤ n ∧ gk = n - i ∧ iv = .int .i64 i ∧ CellsAt wr w.heap.size [.int .i64 0, .int .i64 0] ∧ CellsAt wr (w.heap.size + 1) [.int .i64 (upL l c j), .int .i64 (upH l c j)] ∧ Below w.heap.size w wr)
  case atStart => exact ⟨c + 1, 0, rfl, by omega, rfl, by go_num, y0, y1, hB1⟩
  case round =>
    clear y0 y1 hB1
    obtain ⟨i, j, hij, hin, hgk, rfl, y0, y1, hB⟩ := hrel
    have HGK := hid hgk; have HIJ := hid hij; clear hgk hij
    by_cases hlt : i < n
    · have hii : (i : Int) < (n : Int) := by omega
      have hil : i < l.length := by rw [HN.out]; exact hlt
      obtain ⟨s, hs⟩ : ∃ s, l[i]? = some s := ⟨_, List.getElem?_eq_getElem hil⟩
      have hsm := HS.out s (List.mem_of_getElem? hs)
      obtain ⟨a', ha, r0, hcc, -⟩ := sg_row (by rw [HN.out]; exact h.below hB) hs
      subst ha
      have hlt8 : (a'.add (i * 8)).block < w.heap.size := by obtain ⟨a2, e2, r9, -, -⟩ := sg_row (by rw [HN.out]; exact h) hs; injection e2 with e2; subst e2; exact World.block_lt_of_cell? w _ r9
      obtain ⟨hu1, hu2, hu3, hu4⟩ := up_small HS.out c j
      obtain ⟨hn1, hn2⟩ := up_next HIJ.out hs
      obtain ⟨x, hx⟩ : ∃ x, upL l c j = x := ⟨_, rfl⟩
      obtain ⟨y, hy⟩ : ∃ y, upH l c j = y := ⟨_, rfl⟩
      rw [hx] at y1 hu1 hu2 hn1; rw [hy] at y1 hu3 hu4 hn2
      have hjn : j ≤ 30 := by have := HIJ.out; omega
      obtain ⟨sid, swl, swh, sbl, sbh, shl, shh, sti⟩ := s
      dsimp only at hsm hn1 hn2
      have r1 := hcc 1 _ (by decide) rfl; have r2 := hcc 2 _ (by decide) rfl
      dsimp only at r1 r2
      have HN1 := hid hn1; have HN2 := hid hn2; clear hcc r0 hs hx hy hn1 hn2
      have hw1 : IntKind.i64.wrap (x + swl) = x + swl := IntWalk.i64_in _ (by omega)
      have hw2 : IntKind.i64.wrap (y + swh) = y + swh := IntWalk.i64_in _ (by omega)
      have q0 := (y1 0 _ rfl).1; have q1 := (y1 1 _ rfl).1; have f0 := (y1 0 _ rfl).2; have f1 := (y1 1 _ rfl).2
      go_upto_region 5 with fail
      refine wp_region_Rs [(8, fun v _ => v = .int .i64 (x + swl))] [0, 1, 2, 3, 4, 5, 6, 7, 8, 9] 1 (by kernel_rfl) rfl (by simp only [List.forall_mem_cons]; exact ⟨keeps_eq, fun _ h => by cases h⟩) (by kernel_rfl) ?_
      simp only [numbered, List.filterMap_cons, List.filterMap_nil, List.getElem?_toArray, List.getElem?_cons_succ, List.getElem?_cons_zero, Option.map_some]
      show wpS _ _ _ _ _ _ _ [(_, _), (_, _), (_, _), (_, _), (_, _), (_, _), (_, _), (_, _), (_, _), (_, _)] _ _
      (refine wpS_quiet rfl rfl ?_; intro K hK inst hx; have s0 := fun x => (fun _ => bkeep (BQ.below x) q0) (hx x); have s1 := fun x => (fun _ => bkeep (BQ.below x) r1) (hx x); go_big_quiet_op; (first | go_big_quiet_on | (refine ⟨_, fun _ => rfl, ?_⟩; go_big_quiet_on)); clear hx inst)
      (refine wpS_quiet rfl rfl ?_; intro K hK inst hx; have s0 := fun x => (fun _ => bkeep (BQ.below x) q0) (hx x); have s1 := fun x => (fun _ => bkeep (BQ.below x) r1) (hx x); go_big_quiet_op; (first | go_big_quiet_on | (refine ⟨_, fun _ => rfl, ?_⟩; go_big_quiet_on)); clear hx inst)
      (refine wpS_quiet rfl rfl ?_; intro K hK inst hx; have s0 := fun x => (fun _ => bkeep (BQ.below x) q0) (hx x); have s1 := fun x => (fun _ => bkeep (BQ.below x) r1) (hx x); go_big_quiet_op; (first | go_big_quiet_on | (refine ⟨_, fun _ => rfl, ?_⟩; go_big_quiet_on)); clear hx inst)
      (refine wpS_quiet rfl rfl ?_; intro K hK inst hx; have s0 := fun x => (fun _ => bkeep (BQ.below x) q0) (hx x); have s1 := fun x => (fun _ => bkeep (BQ.below x) r1) (hx x); go_big_quiet_op; (first | go_big_quiet_on | (refine ⟨_, fun _ => rfl, ?_⟩; go_big_quiet_on)); clear hx inst)
      (refine wpS_quiet rfl rfl ?_; intro K hK inst hx; have s0 := fun x => (fun _ => bkeep (BQ.below x) q0) (hx x); have s1 := fun x => (fun _ => bkeep (BQ.below x) r1) (hx x); go_big_quiet_op; (first | go_big_quiet_on | (refine ⟨_, fun _ => rfl, ?_⟩; go_big_quiet_on)); clear hx inst)
      (refine wpS_quiet rfl rfl ?_; intro K hK inst hx; have s0 := fun x => (fun _ => bkeep (BQ.below x) q0) (hx x); have s1 := fun x => (fun _ => bkeep (BQ.below x) r1) (hx x); go_big_quiet_op; (first | go_big_quiet_on | (refine ⟨_, fun _ => rfl, ?_⟩; go_big_quiet_on)); clear hx inst)
      (refine wpS_quiet rfl rfl ?_; intro K hK inst hx; have s0 := fun x => (fun _ => bkeep (BQ.below x) q0) (hx x); have s1 := fun x => (fun _ => bkeep (BQ.below x) r1) (hx x); go_big_quiet_op; (first | go_big_quiet_on | (refine ⟨_, fun _ => rfl, ?_⟩; go_big_quiet_on)); clear hx inst)
      (refine wpS_quiet rfl rfl ?_; intro K hK inst hx; have s0 := fun x => (fun _ => bkeep (BQ.below x) q0) (hx x); have s1 := fun x => (fun _ => bkeep (BQ.below x) r1) (hx x); go_big_quiet_op; (first | go_big_quiet_on | (refine ⟨_, fun _ => rfl, ?_⟩; go_big_quiet_on)); clear hx inst)
      refine wpS_fresh rfl rfl (fun w' hb hF => ?_) ?_
      · change freshAt _ _ _ (fun v _ => v = .int .i64 (x + swl)) _; unfold freshAt; go_simp; (first | exact Below.refl _ _ | exact ⟨Below.refl _ _, rfl⟩ | simp [*, Below.refl])
      intro v W hv; simp only [pOf, List.lookup_cons, Nat.reduceBEq, beq_self_eq_true] at hv; subst hv
      simp only [Act.put, List.setIfInBounds_toArray, List.set_cons_succ, List.set_cons_zero]
      (refine wpS_quiet rfl rfl ?_; intro K hK inst hx; have s0 := fun x => (fun _ => bkeep (BQ.below x) q0) (hx x); have s1 := fun x => (fun _ => bkeep (BQ.below x) r1) (hx x); go_big_quiet_op; (first | go_big_quiet_on | (refine ⟨_, fun _ => rfl, ?_⟩; go_big_quiet_on)); clear hx inst)
      refine wpS_nil ?_
      intro v3 hall
      have hb := hall.1
      clear hall
      replace y0 := y0.below hb; replace y1 := y1.below hb
      replace hB := hB.trans (hb.mono hB.size)
      replace r1 := bkeep hb r1; replace r2 := bkeep hb r2
      clear hb
      replace q0 := (y1 0 _ rfl).1; replace q1 := (y1 1 _ rfl).1; replace f0 := (y1 0 _ rfl).2; replace f1 := (y1 1 _ rfl).2
      refine wpAny_ready (rs := [10]) (by kernel_rfl) (by simp) ?_
      refine AllReady.cons rfl (fun K hK => ?_) AllReady.nil
      go_simp
      refine hK _ _ ?_; clear hK K
      refine wpAny_done (by kernel_rfl) ?_ _
      have z1 := cells_store (o := 0) (u := .int .i64 (x + swl)) y1
      replace y0 := y0.other (B' := w.heap.size + 1) (o' := 0) (by omega) (.int .i64 (x + swl))
      replace hB := hB.setCell (p := ⟨w.heap.size + 1, 0, none⟩) (Nat.le_succ _) (.int .i64 (x + swl))
      have r2b : (v3.setCell ⟨w.heap.size + 1, 0, none⟩ (.int .i64 (x + swl))).cell? ⟨(a'.add (i * 8)).block, (a'.add (i * 8)).off + 2, none⟩ = some (.int .i64 swh) := (World.cell?_setCell_other _ _ _ _ (by intro e; injection e with e _; omega)).trans r2
      clear y1 q0 q1 f0 f1 r1 r2
      generalize World.setCell _ _ _ = v4 at *
      have y1 : CellsAt v4 (w.heap.size + 1) [.int .i64 (x + swl), .int .i64 y] := z1
      clear z1
      have r1 := r2b; have r2 := r2b; clear r2b
      have q0 := (y1 0 _ rfl).1; have q1 := (y1 1 _ rfl).1; have f0 := (y1 0 _ rfl).2; have f1 := (y1 1 _ rfl).2
      go_upto_region 6 with fail
      refine wp_region_Rs [(8, fun v _ => v = .int .i64 (y + swh))] [0, 1, 2, 3, 4, 5, 6, 7, 8, 9] 1 (by kernel_rfl) rfl (by simp only [List.forall_mem_cons]; exact ⟨keeps_eq, fun _ h => by cases h⟩) (by kernel_rfl) ?_
      simp only [numbered, List.filterMap_cons, List.filterMap_nil, List.getElem?_toArray, List.getElem?_cons_succ, List.getElem?_cons_zero, Option.map_some]
      show wpS _ _ _ _ _ _ _ [(_, _), (_, _), (_, _), (_, _), (_, _), (_, _), (_, _), (_, _), (_, _), (_, _)] _ _
      (refine wpS_quiet rfl rfl ?_; intro K hK inst hx; have s0 := fun x => (fun _ => bkeep (BQ.below x) q1) (hx x); have s1 := fun x => (fun _ => bkeep (BQ.below x) r2) (hx x); go_big_quiet_op; (first | go_big_quiet_on | (refine ⟨_, fun _ => rfl, ?_⟩; go_big_quiet_on)); clear hx inst)
      (refine wpS_quiet rfl rfl ?_; intro K hK inst hx; have s0 := fun x => (fun _ => bkeep (BQ.below x) q1) (hx x); have s1 := fun x => (fun _ => bkeep (BQ.below x) r2) (hx x); go_big_quiet_op; (first | go_big_quiet_on | (refine ⟨_, fun _ => rfl, ?_⟩; go_big_quiet_on)); clear hx inst)
      (refine wpS_quiet rfl rfl ?_; intro K hK inst hx; have s0 := fun x => (fun _ => bkeep (BQ.below x) q1) (hx x); have s1 := fun x => (fun _ => bkeep (BQ.below x) r2) (hx x); go_big_quiet_op; (first | go_big_quiet_on | (refine ⟨_, fun _ => rfl, ?_⟩; go_big_quiet_on)); clear hx inst)
      (refine wpS_quiet rfl rfl ?_; intro K hK inst hx; have s0 := fun x => (fun _ => bkeep (BQ.below x) q1) (hx x); have s1 := fun x => (fun _ => bkeep (BQ.below x) r2) (hx x); go_big_quiet_op; (first | go_big_quiet_on | (refine ⟨_, fun _ => rfl, ?_⟩; go_big_quiet_on)); clear hx inst)
      (refine wpS_quiet rfl rfl ?_; intro K hK inst hx; have s0 := fun x => (fun _ => bkeep (BQ.below x) q1) (hx x); have s1 := fun x => (fun _ => bkeep (BQ.below x) r2) (hx x); go_big_quiet_op; (first | go_big_quiet_on | (refine ⟨_, fun _ => rfl, ?_⟩; go_big_quiet_on)); clear hx inst)
      (refine wpS_quiet rfl rfl ?_; intro K hK inst hx; have s0 := fun x => (fun _ => bkeep (BQ.below x) q1) (hx x); have s1 := fun x => (fun _ => bkeep (BQ.below x) r2) (hx x); go_big_quiet_op; (first | go_big_quiet_on | (refine ⟨_, fun _ => rfl, ?_⟩; go_big_quiet_on)); clear hx inst)
      (refine wpS_quiet rfl rfl ?_; intro K hK inst hx; have s0 := fun x => (fun _ => bkeep (BQ.below x) q1) (hx x); have s1 := fun x => (fun _ => bkeep (BQ.below x) r2) (hx x); go_big_quiet_op; (first | go_big_quiet_on | (refine ⟨_, fun _ => rfl, ?_⟩; go_big_quiet_on)); clear hx inst)
      (refine wpS_quiet rfl rfl ?_; intro K hK inst hx; have s0 := fun x => (fun _ => bkeep (BQ.below x) q1) (hx x); have s1 := fun x => (fun _ => bkeep (BQ.below x) r2) (hx x); go_big_quiet_op; (first | go_big_quiet_on | (refine ⟨_, fun _ => rfl, ?_⟩; go_big_quiet_on)); clear hx inst)
      refine wpS_fresh rfl rfl (fun w' hb hF => ?_) ?_
      · change freshAt _ _ _ (fun v _ => v = .int .i64 (y + swh)) _; unfold freshAt; go_simp; (first | exact Below.refl _ _ | exact ⟨Below.refl _ _, rfl⟩ | simp [*, Below.refl])
      intro v W hv; simp only [pOf, List.lookup_cons, Nat.reduceBEq, beq_self_eq_true] at hv; subst hv
      simp only [Act.put, List.setIfInBounds_toArray, List.set_cons_succ, List.set_cons_zero]
      (refine wpS_quiet rfl rfl ?_; intro K hK inst hx; have s0 := fun x => (fun _ => bkeep (BQ.below x) q1) (hx x); have s1 := fun x => (fun _ => bkeep (BQ.below x) r2) (hx x); go_big_quiet_op; (first | go_big_quiet_on | (refine ⟨_, fun _ => rfl, ?_⟩; go_big_quiet_on)); clear hx inst)
      refine wpS_nil ?_
      intro v5 hall
      have hb := hall.1
      clear hall
      replace y0 := y0.below hb; replace y1 := y1.below hb
      replace hB := hB.trans (hb.mono hB.size)
      replace r1 := bkeep hb r1; replace r2 := bkeep hb r2
      clear hb
      replace q0 := (y1 0 _ rfl).1; replace q1 := (y1 1 _ rfl).1; replace f0 := (y1 0 _ rfl).2; replace f1 := (y1 1 _ rfl).2
      refine wpAny_ready (rs := [10]) (by kernel_rfl) (by simp) ?_
      refine AllReady.cons rfl (fun K hK => ?_) AllReady.nil
      go_simp
      refine hK _ _ ?_; clear hK K
      refine wpAny_done (by kernel_rfl) ?_ _
      go_wp2_with fail
      go_roundg (n - (i + 1))
      case measure => have h := HGK.out; omega
      case rel => exact ⟨i + 1, j + 1, by have := HIJ.out; omega, by omega, rfl, by go_num, y0.other (by omega) _, by rw [HN1.out, HN2.out]; exact cells_store (o := 1) y1, hB.setCell (p := ⟨w.heap.size + 1, 1, none⟩) (Nat.le_succ _) _⟩
    · obtain ⟨hu1, hu2⟩ := up_end (l := l) (c := c) (j := j) (by have := HIJ.out; have := HN.out; omega)
      rw [hu1, hu2] at y1
      obtain ⟨x, hx⟩ : ∃ x, loadL l c = x := ⟨_, rfl⟩
      obtain ⟨y, hy⟩ : ∃ y, loadH l c = y := ⟨_, rfl⟩
      rw [hx, hy] at y1
      have HX := hid hx; have HY := hid hy; clear hx hy hu1 hu2
      have q0 := (y1 0 _ rfl).1; have q1 := (y1 1 _ rfl).1; have g0 := (y0 0 _ rfl).1; have g1 := (y0 1 _ rfl).1; have f0 := (y0 0 _ rfl).2; have f1 := (y0 1 _ rfl).2
      go_wp2_with fail
      have z1 := cells_store (o := 1) (u := .int .i64 y) (cells_store (o := 0) (u := .int .i64 x) y0)
      have d0 := (z1 0 _ rfl).1; have d1 := (z1 1 _ rfl).1
      exact bodyPost_ret (v := .agg #[.int .i64 x, .int .i64 y]) (by simp [results, Try.results85, go_sem, *]) rfl ⟨by rw [HX.out, HY.out], (hB.setCell (p := ⟨w.heap.size, 0, none⟩) (Nat.le_refl _) _).setCell (p := ⟨w.heap.size, 1, none⟩) (Nat.le_refl _) _⟩

end Go.Proofs.Ytnchhleokdkejaa

/- The reference's answers. -/
namespace Go.Proofs.Ytnchhleokdkejaa
open Go.RowKit Go.Pb Go.Pb.Ware Go.Pb.Sag
set_option linter.unusedVariables false
set_option linter.unusedSimpArgs false

open Go.Pb.Bung
set_option maxRecDepth 100000 in
set_option maxHeartbeats 400000 in
theorem rDownB {w : World} {n : Int} (h0 : -10000000000000 ≤ n) (h1 : n ≤ 10000000000000) :
    Calls Try.prog 141 #[.int .i64 n, .int .i64 1000] w (Ret w (.int .i64 (n / 1000))) := by
  unfold Ret
  have hd := down_eq n 1000 (by omega)
  have hb : -10000000000001 ≤ n.tdiv 1000 ∧ n.tdiv 1000 ≤ 10000000000001 := by
    rcases Int.lt_or_le (n.tmod 1000) 0 with h | h
    · have := hd.1 h; omega
    · have := hd.2 h; omega
  have HD := hid hd; have HB := hid hb; clear hd hb
  go_enter Try.func141, Try.ntmps141
  go_wp2
  all_goals go_ret
  · exact ⟨ret_int (by rw [HD.out.1 ‹_›]; exact IntWalk.wrap64_in _ (by have := HD.out.1 ‹_›; have := HB.out; omega)), by go_grown⟩
  · exact ⟨ret_int (HD.out.2 ‹_›), by go_grown⟩

set_option maxRecDepth 100000 in
set_option maxHeartbeats 400000 in
theorem rUpB {w : World} {n : Int} (h0 : 0 ≤ n) (h1 : n ≤ 10000000000000) :
    Calls Try.prog 128 #[.int .i64 n, .int .i64 1000] w (Ret w (.int .i64 ((n + 999) / 1000))) := by
  unfold Ret
  have hu : (n + 999) / 1000 = -(-n / 1000) := by have := up_eq n 1000 (by omega); unfold up at this; rw [← this]; congr 1; omega
  rw [hu]
  have HU := hid hu; clear hu
  have hn1 : IntKind.i64.wrap (-n) = -n := IntWalk.i64_in _ (by omega)
  go_enter Try.func128, Try.ntmps128
  go_wp2_with fail
  skip
  refine (rDownB (n := -n) (by omega) (by omega)).mono ?_
  rintro e w1 ⟨rfl, hb⟩
  go_wp2_with fail
  go_ret
  exact ⟨ret_int (by first | rfl | exact IntWalk.i64_in _ (by omega)), hb⟩

set_option maxRecDepth 100000 in
set_option maxHeartbeats 1000000 in
theorem rAns_any {w : World} {v : Value} {l : List Sg} {c : Nat} {r : Int} (h : RowsAt 8 w v (l.map rowG)) (hl : l.length ≤ 30) (hc : c < l.length) (hs : ∀ s ∈ l, 0 ≤ s.wl ∧ s.wl ≤ 10000000 ∧ 0 ≤ s.wh ∧ s.wh ≤ 10000000) (hr : ansL l c = r) :
    Calls Try.prog 87 #[v, .int .i64 (c : Int)] w (Ret w (.int .i64 r)) := by
  unfold Ret
  obtain ⟨a, cap, rfl, hll⟩ := h.shape
  rw [List.length_map] at h hll ⊢
  obtain ⟨s, hsk⟩ : ∃ s, l[c]? = some s := ⟨_, List.getElem?_eq_getElem hc⟩
  obtain ⟨x, hx⟩ : ∃ x, loadL l c = x := ⟨_, rfl⟩
  obtain ⟨y, hy⟩ : ∃ y, loadH l c = y := ⟨_, rfl⟩
  have hr2 : (if y ≤ s.bl then 1 else if x > s.bh then 0 else 2) = r := by rw [← hr]; unfold ansL ansS; rw [hx, hy, show l.getD c default = s by rw [List.getD, hsk]; rfl]
  clear hr
  obtain ⟨n, hn⟩ : ∃ n, l.length = n := ⟨_, rfl⟩
  have HN : Hid (l.length = n) := hn
  have HH : Hid (RowsAt 8 w (.slice a l.length cap) (l.map rowG)) := h
  rw [hn] at hll hl hc ⊢
  clear hn h
  have hci : (c : Int) < (n : Int) := by omega
  go_enter Try.func87, Try.ntmps87
  go_wp2_with fail
  skip
  refine (rLoad_any (l := l) (c := c) (by have h := HH.out; rwa [HN.out] at h) (by rw [HN.out]; exact hl) (by rw [HN.out]; exact hc) hs).mono ?_
  rw [hx, hy]
  rintro e w1 ⟨rfl, hb⟩
  obtain ⟨a', ha, r0, hcc, -⟩ := sg_row (HH.out.below hb) hsk
  subst ha
  obtain ⟨sid, swl, swh, sbl, sbh, shl, shh, sti⟩ := s
  dsimp only at r0 hr2
  have r3 := hcc 3 _ (by decide) rfl; have r4 := hcc 4 _ (by decide) rfl
  dsimp only at r3 r4
  clear hcc hx hy
  go_upto_region 2 with fail
  generalize hW : World.alloc w1 _ = v2
  have y1 : CellsAt v2 w1.heap.size [.int .i64 x, .int .i64 y] := by rw [← hW]; exact CellsAt.new w1 [.int .i64 x, .int .i64 y] 23
  have hb2 : Below w1.heap.size w1 v2 := by rw [← hW]; exact (Below.refl _ _).alloc (Nat.le_refl _) _
  replace r3 := bkeep hb2 r3; replace r4 := bkeep hb2 r4
  have hB := hb.trans (hb2.mono hb.size)
  clear hW hb hb2
  have q0 := (y1 0 _ rfl).1; have q1 := (y1 1 _ rfl).1
  by_cases h1 : y ≤ sbl
  · rw [if_pos h1] at hr2
    subst hr2
    have h1d : decide (y ≤ sbl) = true := decide_eq_true h1
    have s0 := fun z : BW v2 => bkeep z.below q0
    have s1 := fun z : BW v2 => bkeep z.below q1
    have s3 := fun z : BW v2 => bkeep z.below r3
    have s4 := fun z : BW v2 => bkeep z.below r4
    refine wp_region_qb (by kernel_rfl) (by kernel_rfl) fun hc => ?_
    repeat (go_big_quiet_step (fail))
    refine wpQuiet_nil ?_
    intro v3 hb
    replace q0 := bkeep hb q0; replace q1 := bkeep hb q1; replace r3 := bkeep hb r3; replace r4 := bkeep hb r4
    replace hB := bnext (w := w) hB hb
    clear hb s0 s1 s3 s4
    go_wp2_with fail
    go_ret
    exact ⟨rfl, hB⟩
  · rw [if_neg h1] at hr2
    have h1d : decide (y ≤ sbl) = false := decide_eq_false h1
    have s0 := fun z : BW v2 => bkeep z.below q0
    have s1 := fun z : BW v2 => bkeep z.below q1
    have s3 := fun z : BW v2 => bkeep z.below r3
    have s4 := fun z : BW v2 => bkeep z.below r4
    refine wp_region_qb (by kernel_rfl) (by kernel_rfl) fun hc => ?_
    repeat (go_big_quiet_step (fail))
    refine wpQuiet_nil ?_
    intro v3 hb
    replace q0 := bkeep hb q0; replace q1 := bkeep hb q1; replace r3 := bkeep hb r3; replace r4 := bkeep hb r4
    replace hB := bnext (w := w) hB hb
    clear hb s0 s1 s3 s4
    go_upto_region 4 with fail
    by_cases h2 : x > sbh
    · rw [if_pos h2] at hr2
      subst hr2
      have h2l : sbh < x := h2
      have h2d : decide (sbh < x) = true := decide_eq_true h2
      have s0 := fun z : BW v3 => bkeep z.below q0
      have s1 := fun z : BW v3 => bkeep z.below q1
      have s3 := fun z : BW v3 => bkeep z.below r3
      have s4 := fun z : BW v3 => bkeep z.below r4
      refine wp_region_qb (by kernel_rfl) (by kernel_rfl) fun hc => ?_
      repeat (go_big_quiet_step (fail))
      refine wpQuiet_nil ?_
      intro v4 hb
      replace q0 := bkeep hb q0; replace q1 := bkeep hb q1; replace r3 := bkeep hb r3; replace r4 := bkeep hb r4
      replace hB := bnext (w := w) hB hb
      clear hb s0 s1 s3 s4
      go_wp2_with fail
      go_ret
      exact ⟨rfl, hB⟩
    · rw [if_neg h2] at hr2
      subst hr2
      have h2l : ¬ sbh < x := h2
      have h2d : decide (sbh < x) = false := decide_eq_false h2
      have s0 := fun z : BW v3 => bkeep z.below q0
      have s1 := fun z : BW v3 => bkeep z.below q1
      have s3 := fun z : BW v3 => bkeep z.below r3
      have s4 := fun z : BW v3 => bkeep z.below r4
      refine wp_region_qb (by kernel_rfl) (by kernel_rfl) fun hc => ?_
      repeat (go_big_quiet_step (fail))
      refine wpQuiet_nil ?_
      intro v4 hb
      replace q0 := bkeep hb q0; replace q1 := bkeep hb q1; replace r3 := bkeep hb r3; replace r4 := bkeep hb r4
      replace hB := bnext (w := w) hB hb
      clear hb s0 s1 s3 s4
      go_wp2_with fail
      go_ret
      exact ⟨rfl, hB⟩

/-- What the first k courses say together. -/
def maybeUp (l : List Sg) (k : Nat) : Int := if (List.range k).any (fun i => decide (ansL l i = 2)) then 2 else 1
theorem maybe_zero (l : List Sg) : maybeUp l 0 = 1 := rfl
theorem maybe_next {l : List Sg} {k : Nat} {z : Int} (h : ansL l k = z) : maybeUp l (k + 1) = if z = 2 then 2 else maybeUp l k := by
  unfold maybeUp
  rw [List.range_succ, List.any_append]
  subst h
  by_cases h2 : ansL l k = 2
  · simp [h2]
  · simp [h2]
theorem stA_maybe {l : List Sg} (h : ∀ i, i < l.length → ansL l i ≠ 0) : stA l = maybeUp l l.length := by
  unfold stA maybeUp
  rw [if_neg]
  simpa using h

set_option maxRecDepth 100000 in
set_option maxHeartbeats 1000000 in
theorem rStands_any {w : World} {v : Value} {l : List Sg} {r : Int} (h : RowsAt 8 w v (l.map rowG)) (hl : l.length ≤ 30) (hs : ∀ s ∈ l, 0 ≤ s.wl ∧ s.wl ≤ 10000000 ∧ 0 ≤ s.wh ∧ s.wh ≤ 10000000) (hr : stA l = r) :
    Calls Try.prog 89 #[v] w (Ret w (.int .i64 r)) := by
  unfold Ret
  obtain ⟨a, cap, rfl, hll⟩ := h.shape
  rw [List.length_map] at h hll ⊢
  obtain ⟨n, hn⟩ : ∃ n, l.length = n := ⟨_, rfl⟩
  have HN : Hid (l.length = n) := hn
  have HR : Hid (stA l = r) := hr
  rw [hn] at h hll hl ⊢
  clear hn hr
  go_enter Try.func89, Try.ntmps89
  go_wp2_with fail
  go_loopg [3, 4] n (fun gk ov iv wr => ∃ k : Nat, k ≤ n ∧ gk = n - k ∧ ov = .int .i64 (maybeUp l k) ∧ iv = .int .i64 k ∧ Hid (∀ i, i < k → ansL l i ≠ 0) ∧ Below w.heap.size w wr)
  case atStart => exact ⟨0, Nat.zero_le _, rfl, by rw [maybe_zero], rfl, hid (fun i h => by omega), Below.refl _ _⟩
  case round =>
    obtain ⟨k, hk, hgk, rfl, rfl, HA, hB⟩ := hrel
    have HGK := hid hgk; clear hgk
    by_cases hlt : k < n
    · have hki : (k : Int) < (n : Int) := by omega
      obtain ⟨z, hz⟩ : ∃ z, ansL l k = z := ⟨_, rfl⟩
      obtain ⟨mu, hmu⟩ : ∃ m, maybeUp l k = m := ⟨_, rfl⟩
      have hnx := maybe_next hz
      rw [hmu] at hnx ⊢
      have HNX := hid hnx; have HZ := hid hz; clear hnx hmu hz
      go_wp2_with fail
      refine (rAns_any (l := l) (c := k) (h.below hB) (by rw [HN.out]; exact hl) (by rw [HN.out]; exact hlt) hs HZ.out).mono ?_
      rintro e w1 ⟨rfl, hb⟩
      replace hB := bnext (w := w) hB hb
      by_cases h0 : z = 0
      · subst h0
        obtain rfl : r = 0 := by rw [← HR.out]; exact stA_no (by rw [HN.out]; exact hlt) HZ.out
        go_wp2_with fail
        go_ret
        exact ⟨rfl, hB⟩
      · have h0b : (z == 0) = false := beq_eq_false_iff_ne.mpr h0
        by_cases h2 : z = 2
        · subst h2
          go_wp2_with fail
          go_roundg (n - (k + 1))
          case measure => have h := HGK.out; omega
          case rel => exact ⟨k + 1, by omega, rfl, by rw [HNX.out]; simp [*], by go_num, hid (fun i hi => by (rcases Nat.lt_or_ge i k with h3 | h3); exact HA.out i h3; rw [show i = k by omega, HZ.out]; exact h0), hB⟩
        · have h2b : (z == 2) = false := beq_eq_false_iff_ne.mpr h2
          go_wp2_with fail
          go_roundg (n - (k + 1))
          case measure => have h := HGK.out; omega
          case rel => exact ⟨k + 1, by omega, rfl, by rw [HNX.out]; simp [*], by go_num, hid (fun i hi => by (rcases Nat.lt_or_ge i k with h3 | h3); exact HA.out i h3; rw [show i = k by omega, HZ.out]; exact h0), hB⟩
    · obtain rfl : k = n := by omega
      obtain rfl : maybeUp l k = r := by rw [← HR.out, stA_maybe (by rw [HN.out]; exact HA.out), HN.out]
      go_wp2_with fail
      go_ret
      exact ⟨rfl, hB⟩

end Go.Proofs.Ytnchhleokdkejaa

/- What the reference of layer 2 does, by plain maths: covers, room, what can be packed. -/
namespace Go.Pb.Sag
open Go Go.Pb Go.Pb.Ware Go.RowKit
set_option linter.unusedVariables false
/-- No foot is higher than the box, and all together are not too heavy. -/
def lowB (s : Bx) (fs : List Ft) : Bool := !troubleB s fs 1 && !troubleB s fs 3
end Go.Pb.Sag

/- The fewest groups: whatever groups are accepted, the search finds some that are no more. -/
namespace Go.Pb.Sag
open Go Go.Pb Go.Pb.Ware Go.RowKit
set_option linter.unusedVariables false
/-- What of a group lies below i. -/
def below (i : Nat) (g : List Int) : List Int := g.filter fun z => decide (z < (i : Int))
/-- Distinct numbers below n are at most n; if they are n, they are all. -/
theorem nodup_len : ∀ {n : Nat} {l : List Int}, l.Nodup → (∀ z ∈ l, 0 ≤ z ∧ z < (n : Int)) → l.length ≤ n ∧ (l.length = n → ∀ i : Nat, i < n → (i : Int) ∈ l)
  | 0, l, _, h => by
    match l, h with
    | [], _ => exact ⟨Nat.le_refl _, fun _ i hi => by omega⟩
    | a :: l, h => have := h a (by simp); omega
  | n + 1, l, hn, h => by
    by_cases hm : (n : Int) ∈ l
    · have h1 : (l.erase (n : Int)).Nodup := hn.erase _
      have h2 : ∀ z ∈ l.erase (n : Int), 0 ≤ z ∧ z < (n : Int) := by
        intro z hz
        have h3 := (List.Nodup.mem_erase_iff hn).1 hz
        have := h z h3.2
        have := h3.1
        omega
      obtain ⟨h4, h5⟩ := nodup_len h1 h2
      have h6 := List.length_erase_of_mem hm
      have h7 := List.length_pos_of_mem hm
      refine ⟨by omega, fun he i hi => ?_⟩
      by_cases hin : i = n
      · subst hin; exact hm
      · exact List.mem_of_mem_erase (h5 (by omega) i (by omega))
    · have h2 : ∀ z ∈ l, 0 ≤ z ∧ z < (n : Int) := by
        intro z hz
        have := h z hz
        have : z ≠ (n : Int) := fun e => hm (e ▸ hz)
        omega
      obtain ⟨h4, _⟩ := nodup_len hn h2
      exact ⟨by omega, fun he => by omega⟩
end Go.Pb.Sag

/- Partitions of the reference of layer 2, by plain maths: the first one is the groups that the program's search finds. -/
namespace Go.Pb.Sag
open Go Go.Pb Go.Pb.Ware Go.RowKit
set_option linter.unusedVariables false
/-- The indices, from i on, of what is g. -/
def whereL (g : Nat) : Nat → List Nat → List Int
  | _, [] => []
  | i, a :: l => if a = g then (i : Int) :: whereL g (i + 1) l else whereL g (i + 1) l
/-- Lists of indices by group. -/
def groupedL (of : List Nat) (many : Nat) : List (List Int) := (List.range many).map fun g => whereL g 0 of
theorem grouped_len {of : List Nat} {many : Nat} : (groupedL of many).length = many := by unfold groupedL; simp
theorem grouped_at {of : List Nat} {many k : Nat} (h : k < many) : (groupedL of many)[k]? = some (whereL k 0 of) := by unfold groupedL; simp [h]
end Go.Pb.Sag

/- Lists of indices by group, as they are made: each in memory of its own. -/
namespace Go.Pb.Sag
open Go Go.Pb Go.Pb.Ware Go.RowKit
set_option linter.unusedVariables false
/-- Groups in memory of the call's own. -/
def GrpAt (lo TO TI : Nat) (gv : Value) (gs : List (List Int)) (W : World) : Prop := ∃ vs : List Value, W.ownsRow lo TO 1 gv gs.length vs ∧ RowsIn lo TI W vs gs ∧ Apart vs ∧ ∀ (k : Nat) (u : Value), vs[k]? = some u → gs[k]? = some [] → u.ownBlock = none
theorem GrpAt.push {lo TO TI i k n : Nat} (hT : TO ≠ TI) {gs : List (List Int)} {g : List Int} {W w2 w3 : World} {v v' : Value} {vs : List Value} {gb cap : Nat} (hn : gs.length = n) (hg : gs[k]? = some g) (hv : vs[k]? = some v)
    (hheads : ∀ (j : Nat) (g' : List Int) (x y : Int), j ≠ k → gs[j]? = some g' → g'[0]? = some x → (g ++ [(i : Int)])[0]? = some y → x ≠ y)
    (ho : W.ownsRow lo TO 1 (.slice (some ⟨gb, 0, none⟩) n cap) n vs) (hr : RowsIn lo TI W vs gs) (hA : Apart vs) (hE : ∀ (k : Nat) (u : Value), vs[k]? = some u → gs[k]? = some [] → u.ownBlock = none) (hsz : lo ≤ W.heap.size)
    (hb : Below W.heap.size W w2) (hg3 : w2.grownBy w3 v.ownBlock) (ho3 : w3.ownsRow lo TI 1 v' (g.length + 1) (g.map (Value.int .i64) ++ [.int .i64 (i : Int)])) :
    (w3.cell? ⟨gb, k, none⟩ = some v ∧ w3.frozen? ⟨gb, k, none⟩ = false) ∧ GrpAt lo TO TI (.slice (some ⟨gb, 0, none⟩) n cap) (gs.set k (g ++ [(i : Int)])) (w3.setCell ⟨gb, k, none⟩ v') ∧ Below lo W (w3.setCell ⟨gb, k, none⟩ v') := by
  subst hn
  have hk : k < gs.length := (List.getElem?_eq_some_iff.1 hg).1
  have hrow := hr k v g hv hg
  have ho2 := owns_below ho hb
  have hrow2 := owns_below hrow hb
  have hgb : lo ≤ gb := own_ge ho gb rfl
  have a1 : (Value.slice (some ⟨gb, 0, none⟩) gs.length cap).ownBlock = none ∨ (Value.slice (some ⟨gb, 0, none⟩) gs.length cap).ownBlock ≠ v.ownBlock := apart_types ho2 hrow2 hT
  have ho4 : w3.ownsRow lo TO 1 (.slice (some ⟨gb, 0, none⟩) gs.length cap) gs.length vs := ho2.kept hg3 a1
  have hbw : Below lo W w3 := (hb.mono hsz).grown hg3 (by have := hb.size; omega) (own_ge hrow)
  have hcell : w3.cell? ⟨gb, k, none⟩ = some v := by
    have h1 := ho4.cells (g := gb) rfl k v hv
    rw [Go.WideShapes.add_plain, Nat.zero_add] at h1
    exact h1
  have hvl : k < vs.length := (List.getElem?_eq_some_iff.1 hv).1
  have hts : ∀ {u : Value} {n : Nat} {xs : List Value}, w3.ownsRow lo TI 1 u n xs → u.ownBlock = none ∨ u.ownBlock ≠ some gb := fun h => apart_types h ho4 (Ne.symm hT)
  have hrj : ∀ (j : Nat) (u : Value) (g' : List Int), j ≠ k → vs[j]? = some u → gs[j]? = some g' → w3.ownsRow lo TI 1 u g'.length (g'.map (Value.int .i64)) := fun j u g' e hu hg' =>
    (owns_below (hr j u g' hu hg') hb).kept hg3 (hA j k u v e hu hv)
  have hvb : v'.ownBlock ≠ none := by
    obtain ⟨b, c, rfl, _⟩ := own_some ho3 (by omega)
    simp [Value.ownBlock]
  have hkey : ∀ (j : Nat) (u : Value), j ≠ k → vs[j]? = some u → (v'.ownBlock = none ∨ v'.ownBlock ≠ u.ownBlock) ∧ (u.ownBlock = none ∨ u.ownBlock ≠ v'.ownBlock) := fun j u e hu => by
    have hjl : j < gs.length := by have h1 := ho.1; have h2 := (List.getElem?_eq_some_iff.1 hu).1; omega
    have hg' : gs[j]? = some gs[j] := List.getElem?_eq_getElem hjl
    have hj := hrj j u _ e hu hg'
    cases hq : gs[j] with
    | nil =>
      have h0 := hE j u hu (by rw [hg', hq])
      exact ⟨.inr (by rw [h0]; exact hvb), .inl h0⟩
    | cons a l =>
      obtain ⟨y, hy⟩ : ∃ y, (g ++ [(i : Int)])[0]? = some y := ⟨_, List.getElem?_eq_getElem (by simp)⟩
      have hx : (gs[j])[0]? = some a := by rw [hq]; rfl
      have hxy := hheads j gs[j] a y e hg' hx hy
      have h1 : (gs[j].map (Value.int .i64))[0]? = some (.int .i64 a) := by rw [List.getElem?_map, hx]; rfl
      have h2 : (g.map (Value.int .i64) ++ [.int .i64 (i : Int)])[0]? = some (.int .i64 y) := by
        have h3 : ((g ++ [(i : Int)]).map (Value.int .i64))[0]? = some (.int .i64 y) := by rw [List.getElem?_map, hy]; rfl
        simpa using h3
      exact ⟨apart_heads ho3 hj h2 h1 (fun h => hxy (by injection h with _ h; exact h.symm)), apart_heads hj ho3 h1 h2 (fun h => hxy (by injection h))⟩
  refine ⟨⟨hcell, owns_frozen ho4 rfl k⟩, ⟨vs.set k v', ?_, ?_, ?_, ?_⟩, hbw.setCell (p := ⟨gb, k, none⟩) hgb v'⟩
  · rw [List.length_set]; exact row_set ho4 hk
  · intro j u g' hu hg'
    by_cases e : j = k
    · subst e
      rw [List.getElem?_set_self hvl] at hu
      rw [List.getElem?_set_self hk] at hg'
      obtain rfl : v' = u := by simpa using hu
      obtain rfl : g ++ [(i : Int)] = g' := by simpa using hg'
      have h1 := set_own (o := j) (u := v') ho3 (hts ho3)
      simpa using h1
    · rw [List.getElem?_set_ne (Ne.symm e)] at hu hg'
      have h3 := hrj j u g' e hu hg'
      exact set_own h3 (hts h3)
  · intro j l u x hne hu hx
    by_cases e : j = k
    · subst e
      rw [List.getElem?_set_self hvl] at hu
      rw [List.getElem?_set_ne hne] at hx
      obtain rfl : v' = u := by simpa using hu
      exact (hkey l x (Ne.symm hne) hx).1
    · rw [List.getElem?_set_ne (Ne.symm e)] at hu
      by_cases e2 : l = k
      · subst e2
        rw [List.getElem?_set_self hvl] at hx
        obtain rfl : v' = x := by simpa using hx
        exact (hkey j u e hu).2
      · rw [List.getElem?_set_ne (Ne.symm e2)] at hx
        exact hA j l u x hne hu hx
  · intro j u hu hg'
    by_cases e : j = k
    · subst e
      rw [List.getElem?_set_self hk] at hg'
      injection hg' with hg'
      simp at hg'
    · rw [List.getElem?_set_ne (Ne.symm e)] at hu hg'
      exact hE j u hu hg'
/-- So many empty groups. -/
theorem GrpAt.new {lo TO TI n B : Nat} {W : World} (h : W.ownsRow lo TO 1 (.slice (some ⟨B, 0, none⟩) n n) n (madeCells (Value.slice none 0 0).cells (n * 1)).toList) : GrpAt lo TO TI (.slice (some ⟨B, 0, none⟩) n n) (groupedL [] n) W := by
  have hnil : ∀ (k : Nat) (u : Value), (madeCells (Value.slice none 0 0).cells (n * 1)).toList[k]? = some u → u = .slice none 0 0 := by
    intro k u hu
    have hk : k < n := by have := (List.getElem?_eq_some_iff.1 hu).1; simpa [madeCells] using this
    rw [Array.getElem?_toList] at hu
    unfold madeCells at hu
    rw [Array.getElem?_map, Array.getElem?_range, if_pos (by omega)] at hu
    have h2 : (#[Value.slice none 0 0] : Array Value)[k % 1]! = u := by injection hu
    rw [Nat.mod_one] at h2
    exact h2.symm
  have hg : ∀ (k : Nat) (g : List Int), (groupedL [] n)[k]? = some g → g = [] := by
    intro k g h
    have hk : k < n := by have := (List.getElem?_eq_some_iff.1 h).1; rwa [grouped_len] at this
    rw [grouped_at hk] at h
    injection h with h
    exact h.symm
  refine ⟨_, by rw [grouped_len]; exact h, ?_, ?_, ?_⟩
  · intro k u g hu hg'
    rw [hnil k u hu, hg k g hg']
    exact World.ownsRow_nil _ _ _ _
  · intro j k u v _ hu _
    rw [hnil j u hu]
    exact .inl rfl
  · intro k u hu _
    rw [hnil k u hu]
    rfl
end Go.Pb.Sag
