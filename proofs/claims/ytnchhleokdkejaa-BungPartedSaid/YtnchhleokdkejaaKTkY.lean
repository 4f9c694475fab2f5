/- The reference's rule. -/
import Derived.Test.YtnchhleokdkejaaKB22Y
import Derived.Test.YtnchhleokdkejaaKScY
import Derived.Laws.OwnMore
import Derived.Test.YtnchhleokdkejaaKSwY
import Derived.Laws.AppendOwn
import Derived.OwnWalk
import Derived.Deep.LoopGhost
import Derived.Test.YtnchhleokdkejaaKLibY
import Derived.Test.YtnchhleokdkejaaKInRoundY
import Derived.Test.YtnchhleokdkejaaKB11Y
namespace Go.Proofs.Ytnchhleokdkejaa
open Go.RowKit Go.Pb Go.Pb.Ware Go.Pb.Sag
set_option linter.unusedVariables false
set_option linter.unusedSimpArgs false

open Go.Proofs Go.Pb.Bung
set_option maxRecDepth 100000 in
set_option maxHeartbeats 1000000 in
theorem rLow_any {w : World} {xid xwl xwh xbl xbh xhl xhh xti yid ywl ywh ybl ybh yhl yhh yti : Int} {r : Bool} (hx : (0 ≤ xwh ∧ xwh ≤ 10000000) ∧ 0 ≤ xbl ∧ xbl ≤ 10000000) (hy : (0 ≤ ywh ∧ ywh ≤ 10000000) ∧ 0 ≤ ybl ∧ ybl ≤ 10000000) (hr : Go.Pb.Bung.lowB ⟨xid, xwl, xwh, xbl, xbh, xhl, xhh, xti⟩ ⟨yid, ywl, ywh, ybl, ybh, yhl, yhh, yti⟩ = r) :
    Calls Try.prog 133 #[.agg #[.int .i64 xid, .int .i64 xwl, .int .i64 xwh, .int .i64 xbl, .int .i64 xbh, .int .i64 xhl, .int .i64 xhh, .int .i64 xti], .agg #[.int .i64 yid, .int .i64 ywl, .int .i64 ywh, .int .i64 ybl, .int .i64 ybh, .int .i64 yhl, .int .i64 yhh, .int .i64 yti]] w (Ret w (.bool r)) := by
  unfold Ret
  obtain ⟨kx, hkx⟩ : ∃ k, xwh + xbl = k := ⟨_, rfl⟩
  obtain ⟨ky, hky⟩ : ∃ k, ywh + ybl = k := ⟨_, rfl⟩
  have hr2 : r = (decide (ky < kx) || (decide (kx = ky) && decide (xid < yid))) := by rw [← hr]; unfold Go.Pb.Bung.lowB keyG; dsimp only; rw [hkx, hky]
  have w1 : IntKind.i64.wrap (xwh + xbl) = kx := by rw [IntWalk.i64_in _ (by omega)]; exact hkx
  have w2 : IntKind.i64.wrap (ywh + ybl) = ky := by rw [IntWalk.i64_in _ (by omega)]; exact hky
  clear hr hkx hky
  by_cases h1 : ky < kx
  · obtain rfl : r = true := by rw [hr2, decide_eq_true h1]; rfl
    clear hr2
    go_enter Try.func133, Try.ntmps133
    go_wp2_with fail
    go_ret
    exact ⟨rfl, by go_grown⟩
  · by_cases h2 : kx = ky
    · subst h2
      by_cases h3 : xid < yid
      · obtain rfl : r = true := by rw [hr2]; simp [h3]
        clear hr2
        go_enter Try.func133, Try.ntmps133
        go_wp2_with fail
        go_ret
        exact ⟨rfl, by go_grown⟩
      · obtain rfl : r = false := by rw [hr2]; simp [h3]
        clear hr2
        go_enter Try.func133, Try.ntmps133
        go_wp2_with fail
        go_ret
        exact ⟨rfl, by go_grown⟩
    · have h2b : (kx == ky) = false := beq_eq_false_iff_ne.mpr h2
      obtain rfl : r = false := by rw [hr2]; simp [h1, h2]
      clear hr2
      go_enter Try.func133, Try.ntmps133
      go_wp2_with fail
      go_ret
      exact ⟨rfl, by go_grown⟩

set_option maxRecDepth 100000 in
set_option maxHeartbeats 1000000 in
theorem rSome_any {w : World} {lv v : Value} {l : List Sg} {zs : List Int} (hl : RowsAt 8 w lv (l.map rowG)) (hn : l.length ≤ 1000) (hi : NumsAt w v zs) (hzn : zs.length ≤ 1000) (hz : ∀ z ∈ zs, 0 ≤ z ∧ z < (l.length : Int)) :
    Calls Try.prog 105 #[lv, v] w (NewSgs 33 (chosenG l zs) w) := by
  obtain ⟨i0, hi0, hz0, hz1, hz2⟩ := info_parts Try.infoG
  obtain ⟨a, cap, rfl, hl1, hl2⟩ := hi.shape
  obtain ⟨la, lc, rfl, hll⟩ := hl.shape
  rw [List.length_map] at hl hll ⊢
  unfold NewSgs
  go_enter Try.func105, Try.ntmps105
  go_wp2_with fail
  go_loopg [5, 6] zs.length (fun gk fv iv wr => ∃ k : Nat, k ≤ zs.length ∧ gk = zs.length - k ∧ iv = .int .i64 k ∧ wr.ownsRow w.heap.size 33 8 fv k ((chosenG l (zs.take k)).flatMap cellsG) ∧ Below w.heap.size w wr)
  case atStart => exact ⟨0, Nat.zero_le _, rfl, rfl, by simpa [chosenG] using World.ownsRow_nil _ _ _ _, Below.refl _ _⟩
  case round =>
    obtain ⟨k, hk, hgk, rfl, ho, hb0⟩ := hrel
    have HGK := hid hgk; clear hgk
    have hzr := hb0.size
    obtain ⟨ua, uc, rfl, hul⟩ := owns_shape ho
    by_cases hlt : k < zs.length
    · have hki : (k : Int) < (zs.length : Int) := by omega
      obtain ⟨a', ha, r0⟩ := (hi.below hb0).elem hlt
      subst ha
      obtain ⟨m, hm⟩ : ∃ m : Nat, zs[k] = (m : Int) := ⟨zs[k].toNat, by have := hz zs[k] (List.getElem_mem hlt); omega⟩
      have hmb : m < l.length := by have := hz zs[k] (List.getElem_mem hlt); omega
      rw [hm] at r0
      obtain ⟨s, hs⟩ : ∃ s, l[m]? = some s := ⟨_, List.getElem?_eq_getElem hmb⟩
      obtain ⟨b', hb', p0, hcc, hii⟩ := sg_row (hl.below hb0) hs
      subst hb'
      have HE := hid (chosenG_snoc hlt hm hs)
      clear hm hs
      obtain ⟨sid, swl, swh, sbl, sbh, shl, shh, sti⟩ := s
      dsimp only at p0
      have p1 := hcc 1 _ (by decide) rfl
      have p2 := hcc 2 _ (by decide) rfl
      have p3 := hcc 3 _ (by decide) rfl
      have p4 := hcc 4 _ (by decide) rfl
      have p5 := hcc 5 _ (by decide) rfl
      have p6 := hcc 6 _ (by decide) rfl
      have p7 := hcc 7 _ (by decide) rfl
      dsimp only at p1 p2 p3 p4 p5 p6 p7
      clear hcc hii
      have hmi : (m : Int) < (l.length : Int) := by omega
      have HCG := hid (new_cellsG wr (⟨sid, swl, swh, sbl, sbh, shl, shh, sti⟩ : Sg) 33 _ rfl)
      go_wp2_with (at_builtin; go_must (refine wpList_append_own _ rfl _ _ 24 rfl w.heap.size 33 i0 (.agg #[.int .i64 0, .int .i64 0, .int .i64 0, .int .i64 0, .int .i64 0, .int .i64 0, .int .i64 0, .int .i64 0]) 8 64 Try.underlying24 hi0 hz0 hz1 hz2 rfl (by decide) _ _ _ rfl (ho.alloc _) ⟨wr.heap.size, 0, none⟩ 1 1 (cellsG (⟨sid, swl, swh, sbl, sbh, shl, shh, sti⟩ : Sg)) rfl rfl HCG.out (one_cellsG _) (by unfold maxLen; omega) (by omega) (by simp; omega) ?_; intro v' w4 ho4 hg4 hnil; replace hb0 := Pb.below_grown (hb0.alloc (by omega) _) hg4 (ho.alloc _) (by simp; omega) (by omega); clear hg4 hnil ho))
      go_roundg (zs.length - (k + 1))
      case measure => have h := HGK.out; omega
      case rel => exact ⟨k + 1, by omega, rfl, by go_num, by rw [← HE.out, List.flatMap_append]; simpa using ho4, hb0⟩
    · obtain rfl : k = zs.length := by omega
      rw [List.take_length] at ho
      go_wp2_with fail
      go_ret
      exact ⟨_, rfl, hb0, by rw [show (chosenG l zs).length = zs.length from List.length_map ..]; exact ho⟩

end Go.Proofs.Ytnchhleokdkejaa

/- Slices read as the cells that they hold, whatever an element is. -/
namespace Go.Pb
open Go Go.RowKit
set_option linter.unusedVariables false
/-- The slice v has m elements of n cells each, which hold cs. -/
structure LAt (n : Nat) (w : World) (v : Value) (m : Nat) (cs : List Value) : Prop where
  len : cs.length = m * n
  one : ∀ u ∈ cs, u.oneCell' = true
  at' : (v = .slice none 0 0 ∧ m = 0) ∨ ∃ (a : Addr) (cap : Nat), v = .slice (some a) m cap ∧ m ≤ cap ∧ cap ≤ 9223372036854775807 ∧ ∀ j u, cs[j]? = some u → w.cell? (a.add j) = some u
theorem LAt.below {n m : Nat} {w w' : World} {v : Value} {cs : List Value} (h : LAt n w v m cs) (hb : Below w.heap.size w w') : LAt n w' v m cs :=
  ⟨h.len, h.one, by
    rcases h.at' with h1 | ⟨a, cap, h1, h2, h3, h4⟩
    · exact .inl h1
    · exact .inr ⟨a, cap, h1, h2, h3, fun j u hu => bkeep hb (h4 j u hu)⟩⟩
theorem LAt.shape {n m : Nat} {w : World} {v : Value} {cs : List Value} (h : LAt n w v m cs) : ∃ (a : Option Addr) (cap : Nat), v = .slice a m cap ∧ m ≤ cap ∧ cap ≤ 9223372036854775807 ∧ (a = none → m = 0 ∧ cap = 0) := by
  rcases h.at' with ⟨h1, h2⟩ | ⟨a, cap, h1, h2, h3, h4⟩
  · subst h2; exact ⟨none, 0, h1, Nat.le_refl _, by omega, fun _ => ⟨rfl, rfl⟩⟩
  · exact ⟨some a, cap, h1, h2, h3, fun e => by cases e⟩
theorem LAt.cells {n m cap : Nat} {w : World} {a : Addr} {cs : List Value} (h : LAt n w (.slice (some a) m cap) m cs) : ∀ j u, cs[j]? = some u → w.cell? (a.add j) = some u := by
  rcases h.at' with ⟨h1, _⟩ | ⟨a', cap', h1, _, _, h4⟩
  · cases h1
  · injection h1 with h1 _ _; injection h1 with h1; subst h1; exact h4
theorem LAt.nil {n cap : Nat} {w : World} {cs : List Value} {m : Nat} (h : LAt n w (.slice none m cap) m cs) : m = 0 ∧ cap = 0 ∧ cs = [] := by
  rcases h.at' with ⟨h1, h2⟩ | ⟨a', cap', h1, _, _, h4⟩
  · injection h1 with _ _ h3; subst h2; exact ⟨rfl, h3, List.length_eq_zero_iff.1 (by rw [h.len]; simp)⟩
  · injection h1 with h1 _ _; cases h1
theorem LAt.head {n m cap k : Nat} {w : World} {a : Addr} {cs : List Value} (h : LAt n w (.slice (some a) m cap) m cs) (hk : k ≤ m) : LAt n w (.slice (some a) k cap) k (cs.take (k * n)) := by
  obtain ⟨_, cap', e, h2, h3, _⟩ := h.shape
  injection e with _ _ e; subst e
  refine ⟨by rw [List.length_take, h.len]; exact Nat.min_eq_left (Nat.mul_le_mul_right n hk), fun u hu => h.one u (List.mem_of_mem_take hu), .inr ⟨a, cap, rfl, by omega, h3, fun j u hu => ?_⟩⟩
  rw [List.getElem?_take] at hu
  split at hu
  · exact h.cells j u hu
  · cases hu
theorem LAt.tail {n m cap k : Nat} {w : World} {a q : Addr} {cs : List Value} (h : LAt n w (.slice (some a) m cap) m cs) (hk : k ≤ m) (hq : k < m → q = a.add (k * n)) : LAt n w (.slice (some q) (m - k) (cap - k)) (m - k) (cs.drop (k * n)) := by
  obtain ⟨_, cap', e, h2, h3, _⟩ := h.shape
  injection e with _ _ e; subst e
  refine ⟨by rw [List.length_drop, h.len, Nat.sub_mul], fun u hu => h.one u (List.mem_of_mem_drop hu), .inr ⟨q, cap - k, rfl, by omega, by omega, fun j u hu => ?_⟩⟩
  have hkm : k < m := by
    rcases Nat.lt_or_ge k m with h5 | h5
    · exact h5
    · have h6 := (List.getElem?_eq_some_iff.1 hu).1
      rw [List.length_drop, h.len] at h6
      have := Nat.mul_le_mul_right n h5
      omega
  rw [hq hkm, Go.Deep.add_add]
  rw [List.getElem?_drop] at hu
  exact h.cells _ u hu
end Go.Pb
namespace Go.Pb.Sag
open Go Go.Pb Go.Pb.Ware Go.RowKit
set_option linter.unusedVariables false
end Go.Pb.Sag

/- The first packings, as the reference lists them; appends of whatever elements. -/
namespace Go.Pb
set_option linter.unusedVariables false
open Go Go.RowKit
/-- An append of a slice, nil or not, to an empty one of the call's own. -/
theorem fresh_append_lat {P : Program} {o : Oper} {a : Act} {w : World} (s x : Operand) (t : TypeId) (ho : o.op = .call { callee := .builtin .append, args := #[s, x], argTypes := #[t, t] })
    (base : Nat) (e : TypeId) (i : TypeInfo) (z : Value) (size bytes : Nat) (ht : P.underlying t = some (.slice e)) (hi : P.info? e = some i) (hz : i.zero = some z)
    (hsize : i.size = size) (hby : i.bytes = bytes) (hzs : z.cells.size = size) (hsz : 0 < size) (v : Value) (hs : a.eval s = v) (hv : NewEmpty base e v w)
    (xv : Value) (m : Nat) (cs : List Value) (hx : a.eval x = xv) (hn : LAt size w xv m cs) (h63 : m ≤ maxLen) (hbytes : m * bytes ≤ 140737488355328) (hbase : base ≤ w.heap.size) :
    freshAt P o a (fun v w => w.ownsRow base e size v m cs) w := by
  rcases hn.at' with ⟨rfl, rfl⟩ | ⟨ad, c, rfl, h2, h3, h4⟩
  · have hcs : cs = [] := List.length_eq_zero_iff.1 (by rw [hn.len]; simp)
    subst hcs
    obtain ⟨B, hB, rfl, hg⟩ := hv
    have hown : w.ownsRow base e size (.slice (some ⟨B, 0, none⟩) 0 0) 0 [] := ⟨by simp, .inr ⟨B, 0, #[], rfl, hB, hg, Nat.le_refl _, by simp [maxLen], by simp, by simp⟩⟩
    have hr := run_append_owned_none (P := P) (w := w) base t o.type e i size ht hi _ 0 [] hown
    unfold freshAt execOp
    simp only [ho, resolve, invoke, builtin, Sem.run_bind, Sem.run_pure, Result.andThen_ok, List.map_toArray, List.map_cons, List.map_nil, hs, hx, hr]
    exact ⟨Below.refl _ _, hown⟩
  · exact fresh_append s x t ho base e i z size bytes ht hi hz hsize hby hzs hsz v hs hv ad m c cs hx hn.len h4 hn.one h63 hbytes hbase
/-- An append to a slice of the call's own, whether the source is nil or not. -/
theorem wp_append_lat {P : Program} {o : Oper} {a : Act} {K : Act → World → Prop} {Q : Exit → Act → World → Prop} (w : World) (s x : Operand) (t : TypeId) (ho : o.op = .call { callee := .builtin .append, args := #[s, x], argTypes := #[t, t] })
    (base : Nat) (e : TypeId) (i : TypeInfo) (z : Value) (size bytes : Nat) (ht : P.underlying t = some (.slice e)) (hi : P.info? e = some i) (hz : i.zero = some z)
    (hsize : i.size = size) (hby : i.bytes = bytes) (hzs : z.cells.size = size) (hsz : 0 < size) (v : Value) (n : Nat) (xs : List Value) (hs : a.eval s = v) (hown : w.ownsRow base e size v n xs)
    (xv : Value) (m : Nat) (cs : List Value) (hx : a.eval x = xv) (hn : LAt size w xv m cs) (h63 : n + m ≤ maxLen) (hbytes : (n + m) * bytes ≤ 140737488355328) (hbase : base ≤ w.heap.size)
    (h : ∀ v' w', w'.ownsRow base e size v' (n + m) (xs ++ cs) → w.grownBy w' v.ownBlock → K (a.put o.dst v') w') : o.wp P a w K Q := by
  rcases hn.at' with ⟨rfl, rfl⟩ | ⟨ad, c, rfl, h2, h3, h4⟩
  · have hcs : cs = [] := List.length_eq_zero_iff.1 (by rw [hn.len]; simp)
    subst hcs
    have hr := run_append_owned_none (P := P) (w := w) base t o.type e i size ht hi v n xs hown
    have h5 := h v w (by simpa using hown) ⟨rfl, rfl, rfl, Nat.le_refl _, fun k _ _ => rfl⟩
    unfold Oper.wp execOp
    simp only [ho, resolve, invoke, builtin, Sem.run_bind, Sem.run_pure, Result.andThen_ok, List.map_toArray, List.map_cons, List.map_nil, hs, hx, hr]
    exact h5
  · exact wp_append_own w s x t ho base e i z size bytes ht hi hz hsize hby hzs hsz v n xs hs hown ad m c cs hx hn.len h4 hn.one h63 hbytes hbase fun v' w' h5 h6 _ => h v' w' h5 h6
end Go.Pb
namespace Go.Pb.Sag
open Go Go.Pb Go.Pb.Ware Go.RowKit
set_option linter.unusedVariables false
/-- Rows of stands in memory of the call's own. -/
def RowsQ (lo TQ TS : Nat) (v : Value) (rows : List (List St)) (W : World) : Prop := ∃ us : List Value, W.ownsRow lo TQ 1 v rows.length us ∧ ∀ (k : Nat) (u : Value) (q : List St), us[k]? = some u → rows[k]? = some q → W.ownsRow lo TS 3 u q.length (q.flatMap cellsP)
theorem RowsQ.below {lo TQ TS : Nat} {v : Value} {rows : List (List St)} {W W' : World} (h : RowsQ lo TQ TS v rows W) (hb : Below W.heap.size W W') : RowsQ lo TQ TS v rows W' := by
  obtain ⟨us, h1, h2⟩ := h
  exact ⟨us, owns_below h1 hb, fun k u q h3 h4 => owns_below (h2 k u q h3 h4) hb⟩
theorem RowsQ.nil {lo TQ TS : Nat} {W : World} : RowsQ lo TQ TS (.slice none 0 0) [] W := ⟨[], World.ownsRow_nil _ _ _ _, fun k u q h => by simp at h⟩
theorem RowsQ.shape {lo TQ TS : Nat} {v : Value} {rows : List (List St)} {W : World} (h : RowsQ lo TQ TS v rows W) : ∃ (a : Option Addr) (cap : Nat), v = .slice a rows.length cap ∧ rows.length ≤ 9223372036854775807 := by
  obtain ⟨us, h1, _⟩ := h
  exact owns_shape h1
/-- Rows behind rows: the slice has grown by an append. -/
theorem RowsQ.append {lo TQ TS : Nat} (hT : TQ ≠ TS) {v v' : Value} {rows more : List (List St)} {us ms : List Value} {W w3 : World}
    (ho : W.ownsRow lo TQ 1 v rows.length us) (hr : ∀ (k : Nat) (u : Value) (q : List St), us[k]? = some u → rows[k]? = some q → W.ownsRow lo TS 3 u q.length (q.flatMap cellsP))
    (hm : ∀ (k : Nat) (u : Value) (q : List St), ms[k]? = some u → more[k]? = some q → W.ownsRow lo TS 3 u q.length (q.flatMap cellsP)) (hml : ms.length = more.length)
    (hg : W.grownBy w3 v.ownBlock) (ho3 : w3.ownsRow lo TQ 1 v' (rows.length + more.length) (us ++ ms)) : RowsQ lo TQ TS v' (rows ++ more) w3 := by
  have hul : us.length = rows.length := by have := ho.1; omega
  have kept : ∀ {u : Value} {q : List St}, W.ownsRow lo TS 3 u q.length (q.flatMap cellsP) → w3.ownsRow lo TS 3 u q.length (q.flatMap cellsP) := fun h => h.kept hg (apart_types h ho (Ne.symm hT))
  refine ⟨us ++ ms, by rw [List.length_append]; exact ho3, fun k u q hu hq => ?_⟩
  rcases Nat.lt_or_ge k rows.length with h | h
  · rw [List.getElem?_append_left (by omega)] at hu
    rw [List.getElem?_append_left h] at hq
    exact kept (hr k u q hu hq)
  · rw [List.getElem?_append_right (by omega), hul] at hu
    rw [List.getElem?_append_right h] at hq
    exact kept (hm (k - rows.length) u q hu hq)
/-- One row. -/
theorem RowsQ.one {lo TQ TS B : Nat} {u : Value} {q : List St} {W : World} (hB : W.heap.size = B) (hlo : lo ≤ B) (h : W.ownsRow lo TS 3 u q.length (q.flatMap cellsP)) : RowsQ lo TQ TS (.slice (some ⟨B, 0, none⟩) 1 1) [q] (W.alloc (.cells #[u] TQ)) := by
  subst hB
  refine ⟨[u], ⟨rfl, .inr ⟨W.heap.size, 1, #[u], rfl, hlo, World.alloc_heap_new W _, Nat.le_refl _, by unfold maxLen; omega, rfl, rfl⟩⟩, fun k x y hx hy => ?_⟩
  match k with
  | 0 =>
    injection hx with hx; injection hy with hy
    subst hx; subst hy
    exact h.alloc _
  | k + 1 => simp at hx
end Go.Pb.Sag

/- The reference's rule. -/
namespace Go.Proofs.Ytnchhleokdkejaa
open Go.RowKit Go.Pb Go.Pb.Ware Go.Pb.Sag
set_option linter.unusedVariables false
set_option linter.unusedSimpArgs false

open Go.Proofs Go.Pb.Bung
theorem insR_at {l : List Sg} {i : Nat} : ∀ {t : List Nat} {p : Nat}, p ≤ t.length → (∀ q j, q < p → t[q]? = some j → Go.Pb.Bung.lowB (atG l j) (atG l i) = true) → (∀ j, t[p]? = some j → Go.Pb.Bung.lowB (atG l j) (atG l i) = false) → insR l i t = t.take p ++ i :: t.drop p
  | [], p, hp, _, _ => by
    obtain rfl : p = 0 := by simpa using hp
    rfl
  | j :: t, 0, _, _, h2 => by
    have h3 := h2 j rfl
    unfold insR
    rw [if_neg (by rw [h3]; simp)]
    rfl
  | j :: t, p + 1, hp, h1, h2 => by
    have h3 := h1 0 j (by omega) rfl
    have ih := insR_at (l := l) (i := i) (t := t) (p := p) (by simpa using hp) (fun q j hq hj => h1 (q + 1) j (by omega) (by simpa using hj)) (fun j hj => h2 j (by simpa using hj))
    unfold insR
    rw [if_pos h3, ih]
    rfl
def castN (t : List Nat) : List Int := t.map fun n : Nat => (n : Int)
theorem castN_len (t : List Nat) : (castN t).length = t.length := by unfold castN; rw [List.length_map]
theorem castN_cut (t : List Nat) (p i : Nat) : castN (t.take p ++ i :: t.drop p) = (castN t).take p ++ [(i : Int)] ++ (castN t).drop p := by
  unfold castN
  rw [List.map_append, List.map_cons, List.map_take, List.map_drop, List.append_assoc]
  rfl
theorem ruleUp_len (l : List Sg) (k : Nat) : (ruleUp l k).length = k := by rw [(ruleUp_perm l k).length_eq, List.length_range]
theorem ruleUp_in {l : List Sg} {k j q : Nat} (h : (ruleUp l k)[q]? = some j) : j < k := List.mem_range.1 ((ruleUp_perm l k).mem_iff.1 (List.mem_of_getElem? h))
theorem atG_of {l : List Sg} {k : Nat} {s : Sg} (h : l[k]? = some s) : atG l k = s := by unfold atG; rw [List.getD_eq_getElem?_getD, h]; rfl
theorem rLow_at {w : World} {xid xwl xwh xbl xbh xhl xhh xti yid ywl ywh ybl ybh yhl yhh yti : Int} {r : Bool} (hx : (0 ≤ xwh ∧ xwh ≤ 10000000) ∧ 0 ≤ xbl ∧ xbl ≤ 10000000) (hy : (0 ≤ ywh ∧ ywh ≤ 10000000) ∧ 0 ≤ ybl ∧ ybl ≤ 10000000) (hr : Go.Pb.Bung.lowB ⟨xid, xwl, xwh, xbl, xbh, xhl, xhh, xti⟩ ⟨yid, ywl, ywh, ybl, ybh, yhl, yhh, yti⟩ = r) : Calls Try.prog 133 #[.agg #[.int .i64 xid, .int .i64 xwl, .int .i64 xwh, .int .i64 xbl, .int .i64 xbh, .int .i64 xhl, .int .i64 xhh, .int .i64 xti], .agg #[.int .i64 yid, .int .i64 ywl, .int .i64 ywh, .int .i64 ybl, .int .i64 ybh, .int .i64 yhl, .int .i64 yhh, .int .i64 yti]] w (Ret w (.bool r)) := rLow_any hx hy hr

set_option maxRecDepth 100000 in
set_option maxHeartbeats 2000000 in
theorem rRule_any {w : World} {v : Value} {l : List Sg} (h : RowsAt 8 w v (l.map rowG)) (hk : listOk l = true) :
    Calls Try.prog 100 #[v] w (fun e w' => ∃ u, e = .returned u ∧ Below w.heap.size w w' ∧ NumsAt w' u (ruleL l)) := by
  obtain ⟨i1, hj, hy0, hy1, hy2⟩ := info_parts Try.infoIn
  obtain ⟨a, cap, rfl, hll⟩ := h.shape
  rw [List.length_map] at h hll ⊢
  have hl := (listOk_iff.1 hk).1
  have hsm : ∀ s ∈ l, (0 ≤ s.wh ∧ s.wh ≤ 10000000) ∧ 0 ≤ s.bl ∧ s.bl ≤ 10000000 := fun s hs => ⟨(sg_small ((listOk_iff.1 hk).2.1 s hs)).2.1, (sg_small ((listOk_iff.1 hk).2.1 s hs)).2.2.1⟩
  obtain ⟨n, hn⟩ : ∃ n, l.length = n := ⟨_, rfl⟩
  have HN : Hid (l.length = n) := hn
  have HSM : Hid (∀ s ∈ l, (0 ≤ s.wh ∧ s.wh ≤ 10000000) ∧ 0 ≤ s.bl ∧ s.bl ≤ 10000000) := hsm
  rw [hn] at h hll hl ⊢
  clear hn hsm hk
  go_enter Try.func100, Try.ntmps100
  go_wp2_with fail
  go_loopg [3, 4, 5] n (fun gk ov iv _ wr => ∃ k : Nat, k ≤ n ∧ gk = n - k ∧ iv = .int .i64 k ∧ wr.ownsRow w.heap.size 3 1 ov k ((castN (ruleUp l k)).map (Value.int .i64)) ∧ Below w.heap.size w wr)
  case atStart => exact ⟨0, Nat.zero_le _, rfl, rfl, World.ownsRow_nil _ _ _ _, Below.refl _ _⟩
  case round =>
    obtain ⟨k, hk, hgk, rfl, ho, hB⟩ := hrel
    have HGK : Hid (gk = n - k) := hgk; clear hgk
    obtain ⟨ua, uc, rfl, hul⟩ := owns_shape ho
    by_cases hlt : k < n
    · have hki : (k : Int) < (n : Int) := by omega
      obtain ⟨y, hy⟩ : ∃ s, l[k]? = some s := ⟨_, List.getElem?_eq_getElem (by rw [HN.out]; exact hlt)⟩
      have hyb := HSM.out y (List.mem_of_getElem? hy)
      have hyat := atG_of hy
      obtain ⟨a', ha, v0, hvc, -⟩ := sg_row (by rw [HN.out]; exact h.below hB) hy
      subst ha
      obtain ⟨yid, ywl, ywh, ybl, ybh, yhl, yhh, yti⟩ := y
      dsimp only at v0 hyb
      have v1 := hvc 1 _ (by decide) rfl
      have v2 := hvc 2 _ (by decide) rfl
      have v3 := hvc 3 _ (by decide) rfl
      have v4 := hvc 4 _ (by decide) rfl
      have v5 := hvc 5 _ (by decide) rfl
      have v6 := hvc 6 _ (by decide) rfl
      have v7 := hvc 7 _ (by decide) rfl
      dsimp only at v1 v2 v3 v4 v5 v6 v7
      have HYAT := hid hyat; clear hvc hy hyat
      have hNk := numsAt_of_owns (zs := castN (ruleUp l k)) (fun z hz => by unfold castN at hz; obtain ⟨j, hj, rfl⟩ := List.mem_map.1 hz; obtain ⟨q, hq⟩ := List.getElem?_of_mem hj; have := ruleUp_in hq; exact I64.mk (by omega) (by omega)) (by rw [castN_len, ruleUp_len]; exact ho)
      skip
      obtain ⟨GK, rfl⟩ : ∃ GK, GK = gk := ⟨_, rfl⟩
      obtain ⟨w1, hw1⟩ : ∃ v, v = wr := ⟨_, rfl⟩
      subst hw1
      go_wp2_with fail
      go_loopg [5] k (fun gk pv wr => ∃ p : Nat, p ≤ k ∧ gk = k - p ∧ pv = .int .i64 p ∧ Hid (∀ q j, q < p → (ruleUp l k)[q]? = some j → Go.Pb.Bung.lowB (atG l j) (atG l k) = true) ∧ Below w1.heap.size w1 wr)
      case atStart => exact ⟨0, Nat.zero_le _, rfl, rfl, hid (fun q j h => by omega), Below.refl _ _⟩
      case round =>
        obtain ⟨p, hp, hgp, rfl, HP, hB2⟩ := hrel
        have HGP : Hid (gk = k - p) := hgp; clear hgp
        replace v0 := bkeep hB2 v0
        replace v1 := bkeep hB2 v1
        replace v2 := bkeep hB2 v2
        replace v3 := bkeep hB2 v3
        replace v4 := bkeep hB2 v4
        replace v5 := bkeep hB2 v5
        replace v6 := bkeep hB2 v6
        replace v7 := bkeep hB2 v7
        go_upto_region 6 with fail
        by_cases hpk : p < k
        · have hpi : (p : Int) < (k : Int) := by omega
          obtain ⟨j, hj0⟩ : ∃ j, (ruleUp l k)[p]? = some j := ⟨_, List.getElem?_eq_getElem (by rw [ruleUp_len]; exact hpk)⟩
          have hjk := ruleUp_in hj0
          obtain ⟨x, hx⟩ : ∃ s, l[j]? = some s := ⟨_, List.getElem?_eq_getElem (by rw [HN.out]; omega)⟩
          have hxb := HSM.out x (List.mem_of_getElem? hx)
          have hxat := atG_of hx
          obtain ⟨b', hb', u0, huc, -⟩ := sg_row (by rw [HN.out]; exact (h.below hB).below hB2) hx
          obtain rfl : a' = b' := by injection hb'
          obtain ⟨xid, xwl, xwh, xbl, xbh, xhl, xhh, xti⟩ := x
          dsimp only at u0 hxb
          have u1 := huc 1 _ (by decide) rfl
          have u2 := huc 2 _ (by decide) rfl
          have u3 := huc 3 _ (by decide) rfl
          have u4 := huc 4 _ (by decide) rfl
          have u5 := huc 5 _ (by decide) rfl
          have u6 := huc 6 _ (by decide) rfl
          have u7 := huc 7 _ (by decide) rfl
          dsimp only at u1 u2 u3 u4 u5 u6 u7
          obtain ⟨bb, hbb⟩ : ∃ bb, Go.Pb.Bung.lowB ⟨xid, xwl, xwh, xbl, xbh, xhl, xhh, xti⟩ ⟨yid, ywl, ywh, ybl, ybh, yhl, yhh, yti⟩ = bb := ⟨_, rfl⟩
          have HBB := hid hbb; have HXAT := hid hxat; have HJ := hid hj0; clear huc hx hxat hbb
          have hplen : p < (castN (ruleUp l k)).length := by rw [castN_len, ruleUp_len]; exact hpk
          obtain ⟨o', ho', o0⟩ := (show NumsAt wr (.slice ua (castN (ruleUp l k)).length uc) (castN (ruleUp l k)) by rw [castN_len, ruleUp_len]; exact hNk.below hB2).elem hplen
          subst ho'
          have hje : (castN (ruleUp l k))[p] = (j : Int) := Option.some.inj ((List.getElem?_eq_getElem hplen).symm.trans (by unfold castN; rw [List.getElem?_map, HJ.out]; rfl))
          rw [hje] at o0
          have hjn : (j : Int) < (n : Int) := by omega
          have hj00 : (0 : Int) ≤ (j : Int) := by omega
          have t0 := fun z : BW wr => bkeep z.below v0
          have t1 := fun z : BW wr => bkeep z.below v1
          have t2 := fun z : BW wr => bkeep z.below v2
          have t3 := fun z : BW wr => bkeep z.below v3
          have t4 := fun z : BW wr => bkeep z.below v4
          have t5 := fun z : BW wr => bkeep z.below v5
          have t6 := fun z : BW wr => bkeep z.below v6
          have t7 := fun z : BW wr => bkeep z.below v7
          have s0 := fun z : BW wr => bkeep z.below u0
          have s1 := fun z : BW wr => bkeep z.below u1
          have s2 := fun z : BW wr => bkeep z.below u2
          have s3 := fun z : BW wr => bkeep z.below u3
          have s4 := fun z : BW wr => bkeep z.below u4
          have s5 := fun z : BW wr => bkeep z.below u5
          have s6 := fun z : BW wr => bkeep z.below u6
          have s7 := fun z : BW wr => bkeep z.below u7
          have r0 := fun z : BW wr => bkeep z.below o0
          refine wp_region_qb (by kernel_rfl) (by kernel_rfl) fun hc => ?_
          repeat (go_big_quiet_step ((go_at_call 133; exact BW.call _ (rLow_at hxb hyb HBB.out))))
          refine wpQuiet_nil ?_
          intro w3 hb
          replace hB2 := bnext (w := w1) hB2 hb
          clear t0 s0 u0 t1 s1 u1 t2 s2 u2 t3 s3 u3 t4 s4 u4 t5 s5 u5 t6 s6 u6 t7 s7 u7 r0 o0
          cases bb
          · have HNL : Hid (∀ j, (ruleUp l k)[p]? = some j → Go.Pb.Bung.lowB (atG l j) (atG l k) = false) := fun j hj => by rw [HJ.out] at hj; injection hj with hj; subst hj; rw [HXAT.out, HYAT.out]; exact HBB.out
            have hB3 := bnext (w := w) hB hB2
            have ho3 := owns_below ho hB2
            go_upto_region 8 with fail
            have hclen : ((castN (ruleUp l k)).map (Value.int .i64)).length = k := by rw [List.length_map, castN_len, ruleUp_len]
            have hlt0 : LAt 1 w3 (.slice (some o') k uc) k ((castN (ruleUp l k)).map (Value.int .i64)) := ⟨by rw [hclen, Nat.mul_one], fun u hu => by obtain ⟨z, _, rfl⟩ := List.mem_map.1 hu; rfl, by rcases ho3.2 with ⟨e1, e2⟩ | ⟨g, cap', cur, e1, e2, e3, e4, e5, e6, e7⟩; exact .inl ⟨e1, e2⟩; exact .inr ⟨⟨g, 0, none⟩, cap', e1, e4, (by have := e5; unfold maxLen at this; omega), fun j u hu => World.ownsRow.cells ho3 (g := g) (by rw [e1]; rfl) j u hu⟩⟩
            have huc : k ≤ uc := by obtain ⟨_, _, e, x, y, _⟩ := hlt0.shape; injection e with _ _ e3; subst e3; exact x
            obtain ⟨g, hg0⟩ : ∃ g, o' = ⟨g, 0, none⟩ := by rcases ho3.2 with ⟨e1, _⟩ | ⟨g, _, _, e1, _⟩; cases e1; injection e1 with e1 _ _; injection e1 with e1; exact ⟨g, e1⟩
            subst hg0
            obtain ⟨ad, had⟩ : ∃ ad, (if uc = p then some (⟨g, 0, none⟩ : Addr) else some ⟨g, p, none⟩) = some ad := by split <;> exact ⟨_, rfl⟩
            have hc3 : (p : Int) ≤ (uc : Int) := by omega
            have hc4 : (p : Int) ≤ (k : Int) := by omega
            have hp0 : (0 : Int) ≤ (p : Int) := by omega
            have HS1 := hid (hlt0.head (k := p) (by omega))
            have HS2 := hid (hlt0.tail (k := p) (q := ad) (by omega) (fun hlt => by first | exact absurd hlt (Nat.lt_irrefl _) | (rw [if_neg (by omega)] at had; injection had with had; rw [← had]; simp [Addr.add])))
            refine wp_region_F [8, 9, 10] (by kernel_rfl) [(0, NewEmpty w3.heap.size 3), (4, fun v W9 => W9.ownsRow w3.heap.size 3 1 v p (((castN (ruleUp l k)).map (Value.int .i64)).take (p * 1))), (6, NewList w3.heap.size 1 [.int .i64 (k : Int)])] [0, 1, 2, 3, 4, 5, 6] 3 (by kernel_rfl) rfl (by simp only [List.forall_mem_cons]; exact ⟨keeps_empty, keeps_owns, keeps_list, fun _ h => by cases h⟩) (by kernel_rfl) ?_
            refine ⟨_, _, rfl, .inl ⟨rfl, fun w => rfl⟩, ?_⟩
            refine ⟨_, _, rfl, .inl ⟨rfl, fun w => rfl⟩, ?_⟩
            refine ⟨_, .slice (some ad) (k - p) (uc - p), rfl, .inl ⟨rfl, fun w => by go_simp⟩, ?_⟩
            show wpS _ _ _ _ _ _ _ (numbered _ _) _ _
            (try simp only [Act.put, List.getElem_toArray, List.getElem_cons_succ, List.getElem_cons_zero, List.setIfInBounds_toArray, List.set_cons_succ, List.set_cons_zero])
            simp only [numbered, List.filterMap_cons, List.filterMap_nil, List.getElem?_toArray, List.getElem?_cons_succ, List.getElem?_cons_zero, Option.map_some]
            show wpS _ _ _ _ _ _ _ [(_, _), (_, _), (_, _), (_, _), (_, _), (_, _), (_, _)] _ _
            refine wpS_fresh rfl rfl (fun w' hb hF => ?_) ?_
            · change freshAt _ _ _ (NewEmpty w3.heap.size 3) _; unfold freshAt; go_simp; exact empty_of hb
            intro v W hv; simp only [pOf, List.lookup_cons, Nat.reduceBEq, beq_self_eq_true] at hv; have hv0 := hv; obtain ⟨B0, hB0, rfl, -⟩ := hv
            simp only [Act.put, List.setIfInBounds_toArray, List.set_cons_succ, List.set_cons_zero]
            (refine wpS_quiet rfl rfl ?_; intro K hK inst hx; go_big_quiet_op; (first | go_big_quiet_on | (refine ⟨_, fun _ => rfl, ?_⟩; go_big_quiet_on)); clear hx inst)
            (refine wpS_quiet rfl rfl ?_; intro K hK inst hx; go_big_quiet_op; (first | go_big_quiet_on | (refine ⟨_, fun _ => rfl, ?_⟩; go_big_quiet_on)); clear hx inst)
            (refine wpS_quiet rfl rfl ?_; intro K hK inst hx; go_big_quiet_op; (first | go_big_quiet_on | (refine ⟨_, fun _ => rfl, ?_⟩; go_big_quiet_on)); clear hx inst)
            refine wpS_fresh rfl rfl (fun w' hb hF => ?_) ?_
            · change freshAt _ _ _ (fun v W9 => W9.ownsRow w3.heap.size 3 1 v p (((castN (ruleUp l k)).map (Value.int .i64)).take (p * 1))) _; have h0 : NewEmpty w3.heap.size 3 _ w' := hF 0 _ rfl (by kernel_rfl); exact fresh_append_lat (.tmp 32) (.tmp 35) 41 rfl w3.heap.size 3 i1 (.int .i64 0) 1 8 Try.underlying41 hj hy0 hy1 hy2 rfl (by decide) (.slice (some ⟨B0, 0, none⟩) 0 0) rfl h0 (.slice (some ⟨g, 0, none⟩) p uc) p _ rfl (HS1.out.below hb) (by unfold maxLen; omega) (by omega) hb.size
            intro v W hv; simp only [pOf, List.lookup_cons, Nat.reduceBEq, beq_self_eq_true] at hv; obtain ⟨ga, gc, rfl, -⟩ := owns_shape hv
            simp only [Act.put, List.setIfInBounds_toArray, List.set_cons_succ, List.set_cons_zero]
            (refine wpS_quiet rfl rfl ?_; intro K hK inst hx; go_big_quiet_op; (first | go_big_quiet_on | (refine ⟨_, fun _ => rfl, ?_⟩; go_big_quiet_on)); clear hx inst)
            refine wpS_fresh rfl rfl (fun w' hb hF => ?_) ?_
            · change freshAt _ _ _ (NewList w3.heap.size 1 [.int .i64 (k : Int)]) _; unfold freshAt; go_simp; exact list_of hb
            intro v W hv; simp only [pOf, List.lookup_cons, Nat.reduceBEq, beq_self_eq_true] at hv; obtain ⟨B6, hB6, rfl, -⟩ := hv
            simp only [Act.put, List.setIfInBounds_toArray, List.set_cons_succ, List.set_cons_zero]
            refine wpS_nil ?_
            intro w4 hall
            have hb := hall.1
            have h4 : w4.ownsRow w3.heap.size 3 1 _ p (((castN (ruleUp l k)).map (Value.int .i64)).take (p * 1)) := hall.2 4 _ rfl
            have h6 : NewList w3.heap.size 1 [.int .i64 (k : Int)] _ w4 := hall.2 6 _ rfl
            obtain ⟨B', hB', hv', hn'⟩ := h6
            obtain rfl : B6 = B' := by simpa using hv'
            clear hall
            refine wpAny_ready (rs := [7]) (by kernel_rfl) (by simp) ?_
            refine AllReady.cons rfl (fun K hK => ?_) AllReady.nil
            refine (if_pos (show Region.wanted _ _ = true from rfl)).mpr ?_
            refine wp_append_own w4 (.tmp 36) (.tmp 38) 41 rfl w3.heap.size 3 i1 (.int .i64 0) 1 8 Try.underlying41 hj hy0 hy1 hy2 rfl (by decide) (.slice ga p gc) p _ rfl h4 ⟨B6, 0, none⟩ 1 1 [.int .i64 (k : Int)] rfl rfl (fun j u h => by rw [Go.WideShapes.add_plain, Nat.zero_add]; exact (hn' j u h).1) (fun u h => by simp only [List.mem_cons, List.not_mem_nil, or_false] at h; rcases h with rfl; rfl) (by unfold maxLen; omega) (by omega) hb.size ?_
            intro v39 w5 ho5 hg5 hnil5
            refine hK _ _ ?_
            clear hK K hnil5
            obtain ⟨xa, xc, rfl, -⟩ := owns_shape ho5
            have hb5 : Below w3.heap.size w3 w5 := Pb.below_grown hb hg5 h4 hb.size (Nat.le_refl _)
            refine wpAny_ready (rs := [11]) (by kernel_rfl) (by simp) ?_
            refine AllReady.cons rfl (fun K hK => ?_) AllReady.nil
            refine (if_pos (show Region.wanted _ _ = true from rfl)).mpr ?_
            refine wp_append_lat w5 (.tmp 39) (.tmp 42) 41 rfl w3.heap.size 3 i1 (.int .i64 0) 1 8 Try.underlying41 hj hy0 hy1 hy2 rfl (by decide) (.slice xa (p + 1) xc) (p + 1) _ rfl ho5 (.slice (some ad) (k - p) (uc - p)) (k - p) _ rfl (HS2.out.below hb5) (by unfold maxLen; omega) (by omega) hb5.size ?_
            intro v43 w6 ho6 hg6
            refine hK _ _ ?_
            clear hK K
            obtain ⟨za, zc, rfl, -⟩ := owns_shape ho6
            have hb6 : Below w3.heap.size w3 w6 := Pb.below_grown hb5 hg6 ho5 hb5.size (Nat.le_refl _)
            refine wpAny_ready (rs := [12]) (by kernel_rfl) (by simp) ?_
            refine AllReady.cons rfl (fun K hK => ?_) AllReady.nil
            go_simp
            refine hK _ _ ?_; clear hK K
            refine wpAny_done (by kernel_rfl) ?_ _
            refine ⟨rfl, ?_⟩
            have hlen6 : p + 1 + (k - p) = k + 1 := by omega
            rw [hlen6] at ho6
            (try rw [hlen6])
            have hB6 := bnext (w := w) hB3 hb6
            clear hb hb5 hb6 hg5 hg6 h4 ho5 HS1 HS2 hn'
            go_wp2_with fail
            go_roundg (n - (k + 1))
            case measure => have h := HGK.out; omega
            case rel => exact ⟨k + 1, by omega, rfl, by go_num, by have e := insR_at (l := l) (i := k) (t := ruleUp l k) (p := p) (by rw [ruleUp_len]; omega) HP.out HNL.out; rw [ruleUp, e, castN_cut, List.map_append, List.map_append, List.map_take, List.map_drop]; have h := owns_base (hB3.size) ho6; rw [Nat.mul_one] at h; exact h, hB6⟩
          · go_wp2_with fail
            go_roundg (k - (p + 1))
            case measure => have h := HGP.out; omega
            case rel => exact ⟨p + 1, by omega, rfl, by go_num, hid (fun q j2 hq hj2 => by (rcases Nat.lt_or_ge q p with h3 | h3); exact HP.out q j2 h3 hj2; (have e : q = p := by omega); subst e; rw [HJ.out] at hj2; injection hj2 with hj2; subst hj2; rw [HXAT.out, HYAT.out]; exact HBB.out), hB2⟩
        · have hpi : ¬ (p : Int) < (k : Int) := by omega
          obtain rfl : k = p := by omega
          refine wp_region_qb (by kernel_rfl) (by kernel_rfl) fun hc => ?_
          repeat (go_big_quiet_step (fail))
          refine wpQuiet_nil ?_
          intro w3 hb
          replace hB2 := bnext (w := w1) hB2 hb
          have HNL : Hid (∀ j, (ruleUp l k)[k]? = some j → Go.Pb.Bung.lowB (atG l j) (atG l k) = false) := fun j hj => by rw [List.getElem?_eq_none (by rw [ruleUp_len]; omega)] at hj; cases hj
          have hB3 := bnext (w := w) hB hB2
          have ho3 := owns_below ho hB2
          go_upto_region 8 with fail
          have hclen : ((castN (ruleUp l k)).map (Value.int .i64)).length = k := by rw [List.length_map, castN_len, ruleUp_len]
          have hlt0 : LAt 1 w3 (.slice ua k uc) k ((castN (ruleUp l k)).map (Value.int .i64)) := ⟨by rw [hclen, Nat.mul_one], fun u hu => by obtain ⟨z, _, rfl⟩ := List.mem_map.1 hu; rfl, by rcases ho3.2 with ⟨e1, e2⟩ | ⟨g, cap', cur, e1, e2, e3, e4, e5, e6, e7⟩; exact .inl ⟨e1, e2⟩; exact .inr ⟨⟨g, 0, none⟩, cap', e1, e4, (by have := e5; unfold maxLen at this; omega), fun j u hu => World.ownsRow.cells ho3 (g := g) (by rw [e1]; rfl) j u hu⟩⟩
          have huc : k ≤ uc := by obtain ⟨_, _, e, x, y, _⟩ := hlt0.shape; injection e with _ _ e3; subst e3; exact x
          cases ua with
          | none =>
            obtain ⟨hk0, huc0, -⟩ := hlt0.nil
            subst hk0
            subst huc0
            have HS1 : Hid (LAt 1 w3 (.slice none 0 0) 0 (((castN (ruleUp l 0)).map (Value.int .i64)).take (0 * 1))) := hid hlt0
            have HS2 : Hid (LAt 1 w3 (.slice none 0 0) (0 - 0) (((castN (ruleUp l 0)).map (Value.int .i64)).drop (0 * 1))) := hid (by have h := hlt0; simpa using h)
            refine wp_region_F [8, 9, 10] (by kernel_rfl) [(0, NewEmpty w3.heap.size 3), (4, fun v W9 => W9.ownsRow w3.heap.size 3 1 v 0 (((castN (ruleUp l 0)).map (Value.int .i64)).take (0 * 1))), (6, NewList w3.heap.size 1 [.int .i64 ((0 : Nat) : Int)])] [0, 1, 2, 3, 4, 5, 6] 3 (by kernel_rfl) rfl (by simp only [List.forall_mem_cons]; exact ⟨keeps_empty, keeps_owns, keeps_list, fun _ h => by cases h⟩) (by kernel_rfl) ?_
            refine ⟨_, _, rfl, .inl ⟨rfl, fun w => rfl⟩, ?_⟩
            refine ⟨_, _, rfl, .inl ⟨rfl, fun w => rfl⟩, ?_⟩
            refine ⟨_, .slice none 0 0, rfl, .inl ⟨rfl, fun w => by go_simp⟩, ?_⟩
            show wpS _ _ _ _ _ _ _ (numbered _ _) _ _
            (try simp only [Act.put, List.getElem_toArray, List.getElem_cons_succ, List.getElem_cons_zero, List.setIfInBounds_toArray, List.set_cons_succ, List.set_cons_zero])
            simp only [numbered, List.filterMap_cons, List.filterMap_nil, List.getElem?_toArray, List.getElem?_cons_succ, List.getElem?_cons_zero, Option.map_some]
            show wpS _ _ _ _ _ _ _ [(_, _), (_, _), (_, _), (_, _), (_, _), (_, _), (_, _)] _ _
            refine wpS_fresh rfl rfl (fun w' hb hF => ?_) ?_
            · change freshAt _ _ _ (NewEmpty w3.heap.size 3) _; unfold freshAt; go_simp; exact empty_of hb
            intro v W hv; simp only [pOf, List.lookup_cons, Nat.reduceBEq, beq_self_eq_true] at hv; have hv0 := hv; obtain ⟨B0, hB0, rfl, -⟩ := hv
            simp only [Act.put, List.setIfInBounds_toArray, List.set_cons_succ, List.set_cons_zero]
            (refine wpS_quiet rfl rfl ?_; intro K hK inst hx; go_big_quiet_op; (first | go_big_quiet_on | (refine ⟨_, fun _ => rfl, ?_⟩; go_big_quiet_on)); clear hx inst)
            (refine wpS_quiet rfl rfl ?_; intro K hK inst hx; go_big_quiet_op; (first | go_big_quiet_on | (refine ⟨_, fun _ => rfl, ?_⟩; go_big_quiet_on)); clear hx inst)
            (refine wpS_quiet rfl rfl ?_; intro K hK inst hx; go_big_quiet_op; (first | go_big_quiet_on | (refine ⟨_, fun _ => rfl, ?_⟩; go_big_quiet_on)); clear hx inst)
            refine wpS_fresh rfl rfl (fun w' hb hF => ?_) ?_
            · change freshAt _ _ _ (fun v W9 => W9.ownsRow w3.heap.size 3 1 v 0 (((castN (ruleUp l 0)).map (Value.int .i64)).take (0 * 1))) _; have h0 : NewEmpty w3.heap.size 3 _ w' := hF 0 _ rfl (by kernel_rfl); exact fresh_append_lat (.tmp 32) (.tmp 35) 41 rfl w3.heap.size 3 i1 (.int .i64 0) 1 8 Try.underlying41 hj hy0 hy1 hy2 rfl (by decide) (.slice (some ⟨B0, 0, none⟩) 0 0) rfl h0 (.slice none 0 0) 0 _ rfl (HS1.out.below hb) (by unfold maxLen; omega) (by omega) hb.size
            intro v W hv; simp only [pOf, List.lookup_cons, Nat.reduceBEq, beq_self_eq_true] at hv; obtain ⟨ga, gc, rfl, -⟩ := owns_shape hv
            simp only [Act.put, List.setIfInBounds_toArray, List.set_cons_succ, List.set_cons_zero]
            (refine wpS_quiet rfl rfl ?_; intro K hK inst hx; go_big_quiet_op; (first | go_big_quiet_on | (refine ⟨_, fun _ => rfl, ?_⟩; go_big_quiet_on)); clear hx inst)
            refine wpS_fresh rfl rfl (fun w' hb hF => ?_) ?_
            · change freshAt _ _ _ (NewList w3.heap.size 1 [.int .i64 ((0 : Nat) : Int)]) _; unfold freshAt; go_simp; exact list_of hb
            intro v W hv; simp only [pOf, List.lookup_cons, Nat.reduceBEq, beq_self_eq_true] at hv; obtain ⟨B6, hB6, rfl, -⟩ := hv
            simp only [Act.put, List.setIfInBounds_toArray, List.set_cons_succ, List.set_cons_zero]
            refine wpS_nil ?_
            intro w4 hall
            have hb := hall.1
            have h4 : w4.ownsRow w3.heap.size 3 1 _ 0 (((castN (ruleUp l 0)).map (Value.int .i64)).take (0 * 1)) := hall.2 4 _ rfl
            have h6 : NewList w3.heap.size 1 [.int .i64 ((0 : Nat) : Int)] _ w4 := hall.2 6 _ rfl
            obtain ⟨B', hB', hv', hn'⟩ := h6
            obtain rfl : B6 = B' := by simpa using hv'
            clear hall
            refine wpAny_ready (rs := [7]) (by kernel_rfl) (by simp) ?_
            refine AllReady.cons rfl (fun K hK => ?_) AllReady.nil
            refine (if_pos (show Region.wanted _ _ = true from rfl)).mpr ?_
            refine wp_append_own w4 (.tmp 36) (.tmp 38) 41 rfl w3.heap.size 3 i1 (.int .i64 0) 1 8 Try.underlying41 hj hy0 hy1 hy2 rfl (by decide) (.slice ga 0 gc) 0 _ rfl h4 ⟨B6, 0, none⟩ 1 1 [.int .i64 ((0 : Nat) : Int)] rfl rfl (fun j u h => by rw [Go.WideShapes.add_plain, Nat.zero_add]; exact (hn' j u h).1) (fun u h => by simp only [List.mem_cons, List.not_mem_nil, or_false] at h; rcases h with rfl; rfl) (by unfold maxLen; omega) (by omega) hb.size ?_
            intro v39 w5 ho5 hg5 hnil5
            refine hK _ _ ?_
            clear hK K hnil5
            obtain ⟨xa, xc, rfl, -⟩ := owns_shape ho5
            have hb5 : Below w3.heap.size w3 w5 := Pb.below_grown hb hg5 h4 hb.size (Nat.le_refl _)
            refine wpAny_ready (rs := [11]) (by kernel_rfl) (by simp) ?_
            refine AllReady.cons rfl (fun K hK => ?_) AllReady.nil
            refine (if_pos (show Region.wanted _ _ = true from rfl)).mpr ?_
            refine wp_append_lat w5 (.tmp 39) (.tmp 42) 41 rfl w3.heap.size 3 i1 (.int .i64 0) 1 8 Try.underlying41 hj hy0 hy1 hy2 rfl (by decide) (.slice xa (0 + 1) xc) (0 + 1) _ rfl ho5 (.slice none 0 0) (0 - 0) _ rfl (HS2.out.below hb5) (by unfold maxLen; omega) (by omega) hb5.size ?_
            intro v43 w6 ho6 hg6
            refine hK _ _ ?_
            clear hK K
            obtain ⟨za, zc, rfl, -⟩ := owns_shape ho6
            have hb6 : Below w3.heap.size w3 w6 := Pb.below_grown hb5 hg6 ho5 hb5.size (Nat.le_refl _)
            refine wpAny_ready (rs := [12]) (by kernel_rfl) (by simp) ?_
            refine AllReady.cons rfl (fun K hK => ?_) AllReady.nil
            go_simp
            refine hK _ _ ?_; clear hK K
            refine wpAny_done (by kernel_rfl) ?_ _
            refine ⟨rfl, ?_⟩
            have hlen6 : 0 + 1 + (0 - 0) = 0 + 1 := by omega
            rw [hlen6] at ho6
            (try rw [hlen6])
            have hB6 := bnext (w := w) hB3 hb6
            clear hb hb5 hb6 hg5 hg6 h4 ho5 HS1 HS2 hn'
            go_wp2_with fail
            go_roundg (n - (0 + 1))
            case measure => have h := HGK.out; omega
            case rel => exact ⟨0 + 1, by omega, rfl, by go_num, by have e := insR_at (l := l) (i := 0) (t := ruleUp l 0) (p := 0) (by rw [ruleUp_len]; omega) HP.out HNL.out; rw [ruleUp, e, castN_cut, List.map_append, List.map_append, List.map_take, List.map_drop]; have h := owns_base (hB3.size) ho6; rw [Nat.mul_one] at h; exact h, hB6⟩
          | some o' =>
            obtain ⟨g, hg0⟩ : ∃ g, o' = ⟨g, 0, none⟩ := by rcases ho3.2 with ⟨e1, _⟩ | ⟨g, _, _, e1, _⟩; cases e1; injection e1 with e1 _ _; injection e1 with e1; exact ⟨g, e1⟩
            subst hg0
            obtain ⟨ad, had⟩ : ∃ ad, (if uc = k then some (⟨g, 0, none⟩ : Addr) else some ⟨g, k, none⟩) = some ad := by split <;> exact ⟨_, rfl⟩
            have hc3 : (k : Int) ≤ (uc : Int) := by omega
            have hc4 : (k : Int) ≤ (k : Int) := by omega
            have hp0 : (0 : Int) ≤ (k : Int) := by omega
            have HS1 := hid (hlt0.head (k := k) (by omega))
            have HS2 := hid (hlt0.tail (k := k) (q := ad) (by omega) (fun hlt => by first | exact absurd hlt (Nat.lt_irrefl _) | (rw [if_neg (by omega)] at had; injection had with had; rw [← had]; simp [Addr.add])))
            refine wp_region_F [8, 9, 10] (by kernel_rfl) [(0, NewEmpty w3.heap.size 3), (4, fun v W9 => W9.ownsRow w3.heap.size 3 1 v k (((castN (ruleUp l k)).map (Value.int .i64)).take (k * 1))), (6, NewList w3.heap.size 1 [.int .i64 (k : Int)])] [0, 1, 2, 3, 4, 5, 6] 3 (by kernel_rfl) rfl (by simp only [List.forall_mem_cons]; exact ⟨keeps_empty, keeps_owns, keeps_list, fun _ h => by cases h⟩) (by kernel_rfl) ?_
            refine ⟨_, _, rfl, .inl ⟨rfl, fun w => rfl⟩, ?_⟩
            refine ⟨_, _, rfl, .inl ⟨rfl, fun w => rfl⟩, ?_⟩
            refine ⟨_, .slice (some ad) (k - k) (uc - k), rfl, .inl ⟨rfl, fun w => by go_simp⟩, ?_⟩
            show wpS _ _ _ _ _ _ _ (numbered _ _) _ _
            (try simp only [Act.put, List.getElem_toArray, List.getElem_cons_succ, List.getElem_cons_zero, List.setIfInBounds_toArray, List.set_cons_succ, List.set_cons_zero])
            simp only [numbered, List.filterMap_cons, List.filterMap_nil, List.getElem?_toArray, List.getElem?_cons_succ, List.getElem?_cons_zero, Option.map_some]
            show wpS _ _ _ _ _ _ _ [(_, _), (_, _), (_, _), (_, _), (_, _), (_, _), (_, _)] _ _
            refine wpS_fresh rfl rfl (fun w' hb hF => ?_) ?_
            · change freshAt _ _ _ (NewEmpty w3.heap.size 3) _; unfold freshAt; go_simp; exact empty_of hb
            intro v W hv; simp only [pOf, List.lookup_cons, Nat.reduceBEq, beq_self_eq_true] at hv; have hv0 := hv; obtain ⟨B0, hB0, rfl, -⟩ := hv
            simp only [Act.put, List.setIfInBounds_toArray, List.set_cons_succ, List.set_cons_zero]
            (refine wpS_quiet rfl rfl ?_; intro K hK inst hx; go_big_quiet_op; (first | go_big_quiet_on | (refine ⟨_, fun _ => rfl, ?_⟩; go_big_quiet_on)); clear hx inst)
            (refine wpS_quiet rfl rfl ?_; intro K hK inst hx; go_big_quiet_op; (first | go_big_quiet_on | (refine ⟨_, fun _ => rfl, ?_⟩; go_big_quiet_on)); clear hx inst)
            (refine wpS_quiet rfl rfl ?_; intro K hK inst hx; go_big_quiet_op; (first | go_big_quiet_on | (refine ⟨_, fun _ => rfl, ?_⟩; go_big_quiet_on)); clear hx inst)
            refine wpS_fresh rfl rfl (fun w' hb hF => ?_) ?_
            · change freshAt _ _ _ (fun v W9 => W9.ownsRow w3.heap.size 3 1 v k (((castN (ruleUp l k)).map (Value.int .i64)).take (k * 1))) _; have h0 : NewEmpty w3.heap.size 3 _ w' := hF 0 _ rfl (by kernel_rfl); exact fresh_append_lat (.tmp 32) (.tmp 35) 41 rfl w3.heap.size 3 i1 (.int .i64 0) 1 8 Try.underlying41 hj hy0 hy1 hy2 rfl (by decide) (.slice (some ⟨B0, 0, none⟩) 0 0) rfl h0 (.slice (some ⟨g, 0, none⟩) k uc) k _ rfl (HS1.out.below hb) (by unfold maxLen; omega) (by omega) hb.size
            intro v W hv; simp only [pOf, List.lookup_cons, Nat.reduceBEq, beq_self_eq_true] at hv; obtain ⟨ga, gc, rfl, -⟩ := owns_shape hv
            simp only [Act.put, List.setIfInBounds_toArray, List.set_cons_succ, List.set_cons_zero]
            (refine wpS_quiet rfl rfl ?_; intro K hK inst hx; go_big_quiet_op; (first | go_big_quiet_on | (refine ⟨_, fun _ => rfl, ?_⟩; go_big_quiet_on)); clear hx inst)
            refine wpS_fresh rfl rfl (fun w' hb hF => ?_) ?_
            · change freshAt _ _ _ (NewList w3.heap.size 1 [.int .i64 (k : Int)]) _; unfold freshAt; go_simp; exact list_of hb
            intro v W hv; simp only [pOf, List.lookup_cons, Nat.reduceBEq, beq_self_eq_true] at hv; obtain ⟨B6, hB6, rfl, -⟩ := hv
            simp only [Act.put, List.setIfInBounds_toArray, List.set_cons_succ, List.set_cons_zero]
            refine wpS_nil ?_
            intro w4 hall
            have hb := hall.1
            have h4 : w4.ownsRow w3.heap.size 3 1 _ k (((castN (ruleUp l k)).map (Value.int .i64)).take (k * 1)) := hall.2 4 _ rfl
            have h6 : NewList w3.heap.size 1 [.int .i64 (k : Int)] _ w4 := hall.2 6 _ rfl
            obtain ⟨B', hB', hv', hn'⟩ := h6
            obtain rfl : B6 = B' := by simpa using hv'
            clear hall
            refine wpAny_ready (rs := [7]) (by kernel_rfl) (by simp) ?_
            refine AllReady.cons rfl (fun K hK => ?_) AllReady.nil
            refine (if_pos (show Region.wanted _ _ = true from rfl)).mpr ?_
            refine wp_append_own w4 (.tmp 36) (.tmp 38) 41 rfl w3.heap.size 3 i1 (.int .i64 0) 1 8 Try.underlying41 hj hy0 hy1 hy2 rfl (by decide) (.slice ga k gc) k _ rfl h4 ⟨B6, 0, none⟩ 1 1 [.int .i64 (k : Int)] rfl rfl (fun j u h => by rw [Go.WideShapes.add_plain, Nat.zero_add]; exact (hn' j u h).1) (fun u h => by simp only [List.mem_cons, List.not_mem_nil, or_false] at h; rcases h with rfl; rfl) (by unfold maxLen; omega) (by omega) hb.size ?_
            intro v39 w5 ho5 hg5 hnil5
            refine hK _ _ ?_
            clear hK K hnil5
            obtain ⟨xa, xc, rfl, -⟩ := owns_shape ho5
            have hb5 : Below w3.heap.size w3 w5 := Pb.below_grown hb hg5 h4 hb.size (Nat.le_refl _)
            refine wpAny_ready (rs := [11]) (by kernel_rfl) (by simp) ?_
            refine AllReady.cons rfl (fun K hK => ?_) AllReady.nil
            refine (if_pos (show Region.wanted _ _ = true from rfl)).mpr ?_
            refine wp_append_lat w5 (.tmp 39) (.tmp 42) 41 rfl w3.heap.size 3 i1 (.int .i64 0) 1 8 Try.underlying41 hj hy0 hy1 hy2 rfl (by decide) (.slice xa (k + 1) xc) (k + 1) _ rfl ho5 (.slice (some ad) (k - k) (uc - k)) (k - k) _ rfl (HS2.out.below hb5) (by unfold maxLen; omega) (by omega) hb5.size ?_
            intro v43 w6 ho6 hg6
            refine hK _ _ ?_
            clear hK K
            obtain ⟨za, zc, rfl, -⟩ := owns_shape ho6
            have hb6 : Below w3.heap.size w3 w6 := Pb.below_grown hb5 hg6 ho5 hb5.size (Nat.le_refl _)
            refine wpAny_ready (rs := [12]) (by kernel_rfl) (by simp) ?_
            refine AllReady.cons rfl (fun K hK => ?_) AllReady.nil
            go_simp
            refine hK _ _ ?_; clear hK K
            refine wpAny_done (by kernel_rfl) ?_ _
            refine ⟨rfl, ?_⟩
            have hlen6 : k + 1 + (k - k) = k + 1 := by omega
            rw [hlen6] at ho6
            (try rw [hlen6])
            have hB6 := bnext (w := w) hB3 hb6
            clear hb hb5 hb6 hg5 hg6 h4 ho5 HS1 HS2 hn'
            go_wp2_with fail
            go_roundg (n - (k + 1))
            case measure => have h := HGK.out; omega
            case rel => exact ⟨k + 1, by omega, rfl, by go_num, by have e := insR_at (l := l) (i := k) (t := ruleUp l k) (p := k) (by rw [ruleUp_len]; omega) HP.out HNL.out; rw [ruleUp, e, castN_cut, List.map_append, List.map_append, List.map_take, List.map_drop]; have h := owns_base (hB3.size) ho6; rw [Nat.mul_one] at h; exact h, hB6⟩
    · obtain rfl : k = n := by omega
      go_wp2_with fail
      go_ret
      exact ⟨_, rfl, hB, numsAt_of_owns (zs := ruleL l) (fun z hz => by have := ruleL_in l z hz; exact I64.mk (by omega) (by rw [HN.out] at this; omega)) (by rw [ruleL_length, HN.out]; show _ ; unfold ruleL ruleN; rw [HN.out]; exact ho)⟩

end Go.Proofs.Ytnchhleokdkejaa

/- The first course that may break. -/
namespace Go.Proofs.Ytnchhleokdkejaa
open Go.RowKit Go.Pb Go.Pb.Ware Go.Pb.Sag
set_option linter.unusedVariables false
set_option linter.unusedSimpArgs false

open Go.Pb.Bung
/-- Where the first number stands that is not 1. -/
def firstN (zs : List Int) : Int := match zs.findIdx? (fun z => !decide (z = 1)) with | some i => (i : Int) | none => -1
theorem first_hit {zs : List Int} {k : Nat} {z : Int} (hk : zs[k]? = some z) (h : ∀ x ∈ zs.take k, x = 1) (hz : z ≠ 1) : firstN zs = k := by
  unfold firstN
  have hlt : k < zs.length := (List.getElem?_eq_some_iff.1 hk).1
  have e : zs.findIdx? (fun z => !decide (z = 1)) = some k := by
    rw [List.findIdx?_eq_some_iff_getElem]
    refine ⟨hlt, ?_, fun j hj => ?_⟩
    · rw [(List.getElem?_eq_some_iff.1 hk).2]; simp [hz]
    · have h1 := h zs[j] (by rw [List.mem_take_iff_getElem]; exact ⟨j, by omega, rfl⟩)
      simp [h1]
  rw [e]
theorem first_none {zs : List Int} (h : ∀ x ∈ zs, x = 1) : firstN zs = -1 := by
  unfold firstN
  have e : zs.findIdx? (fun z => !decide (z = 1)) = none := by
    rw [List.findIdx?_eq_none_iff]; intro x hx; simp [h x hx]
  rw [e]

theorem may_any {w : World} {z : Int} : Calls Try.prog 97 #[.int .i64 z] w (Ret w (.bool (!decide (z = 1)))) := by
  unfold Ret
  go_enter Try.func97, Try.ntmps97
  go_wp2
  go_ret
  exact ⟨ret_bool (by simp [bne, BEq.beq]), Below.refl _ _⟩

set_option maxRecDepth 100000 in
set_option maxHeartbeats 800000 in
theorem first_any {w : World} {v : Value} {zs : List Int} {r : Int} (hi : NumsAt w v zs) (hr : firstN zs = r) :
    Calls Try.prog 96 #[v, .func (.func 97) #[] #[]] w (Ret w (.int .i64 r)) := by
  unfold Ret
  obtain ⟨a, cap, rfl, hl1, hl2⟩ := hi.shape
  have HR := hid hr; clear hr
  go_enter Try.func96, Try.ntmps96
  go_wp2_with fail
  go_loopg [8] zs.length (fun gk iv wr => ∃ k : Nat, k ≤ zs.length ∧ gk = zs.length - k ∧ iv = .int .i64 k ∧ Hid (∀ x ∈ zs.take k, x = 1) ∧ Below w.heap.size w wr)
  case atStart => exact ⟨0, Nat.zero_le _, rfl, rfl, hid (fun x hx => by simp at hx), Below.refl _ _⟩
  case round =>
    obtain ⟨k, hk, hgk, rfl, HA, hB⟩ := hrel
    have HGK := hid hgk; clear hgk
    by_cases hlt : k < zs.length
    · have hki : (k : Int) < (zs.length : Int) := by omega
      obtain ⟨a', ha, r0⟩ := (hi.below hB).elem hlt
      subst ha
      obtain ⟨z, hz0⟩ : ∃ z, zs[k] = z := ⟨_, rfl⟩
      rw [hz0] at r0
      have HK := hid (show zs[k]? = some z by rw [List.getElem?_eq_getElem hlt, hz0])
      clear hz0
      go_wp2_with fail
      refine may_any.mono ?_
      rintro e w1 ⟨rfl, hb⟩
      replace hB := hB.trans (hb.mono hB.size)
      clear hb
      by_cases h1 : z = 1
      · subst h1
        have HA2 := hid (show ∀ x ∈ zs.take (k + 1), x = 1 from fun x hx => by rw [List.take_add_one, HK.out] at hx; rcases List.mem_append.1 hx with h | h; exact HA.out x h; simpa using h)
        go_wp2_with fail
        go_roundg (zs.length - (k + 1))
        case measure => have h := HGK.out; omega
        case rel => exact ⟨k + 1, by omega, rfl, by go_num, HA2, hB⟩
      · obtain rfl : r = (k : Int) := by rw [← HR.out]; exact first_hit HK.out HA.out h1
        have h1b : decide (z = 1) = false := decide_eq_false h1
        have hz9 : (!decide (z = 1)) = true := by rw [h1b]; rfl
        go_wp2_with fail
        go_ret
        exact ⟨rfl, hB⟩
    · obtain rfl : k = zs.length := by omega
      obtain rfl : r = -1 := by rw [← HR.out]; exact first_none (by have h := HA.out; rwa [List.take_length] at h)
      go_wp2_with fail
      go_ret
      exact ⟨rfl, hB⟩

end Go.Proofs.Ytnchhleokdkejaa

/- How a bung may break. -/
namespace Go.Proofs.Ytnchhleokdkejaa
open Go.RowKit Go.Pb Go.Pb.Ware Go.Pb.Sag
set_option linter.unusedVariables false
set_option linter.unusedSimpArgs false

open Go.Pb.Bung
theorem one_int (w : World) (x : Value) (t : TypeId) (n : Nat) (hn : w.heap.size = n) : ∀ j u, [x][j]? = some u → (w.alloc (.cells #[x] t)).cell? ((⟨n, 0, none⟩ : Addr).add j) = some u := by
  intro j u h
  cases j with
  | zero =>
    injection h with h
    subst h
    subst hn
    rw [Go.WideShapes.add_plain, Nat.zero_add]
    exact (CellsAt.new w [x] t 0 x rfl).1
  | succ j => simp at h
theorem nums_of_own {W : World} {B T n : Nat} {v : Value} {l : List Sg} (hl : l.length = n) (hn : n ≤ 1000) (h : W.ownsRow B T 1 v n (l.map fun s => .int .i64 s.wh)) (hi : ∀ s ∈ l, I64 s.wh) : NumsAt W v (l.map (·.wh)) := by
  subst hl
  obtain ⟨a, cap, rfl, -⟩ := owns_shape h
  by_cases h0 : l.length = 0
  · have : l = [] := List.eq_nil_of_length_eq_zero h0
    subst this
    rcases h.2 with ⟨e, _⟩ | ⟨g, c, cur, e, h2, h3, h4, h5, h6, h7⟩
    · exact .inl ⟨e, rfl⟩
    · exact .inr ⟨⟨g, 0, none⟩, c, e, by simp, by unfold maxLen at h5; omega, fun k z hk => by simp at hk⟩
  · rcases h.2 with ⟨e, e0⟩ | ⟨g, c, cur, e, h2, h3, h4, h5, h6, h7⟩
    · exact absurd e0 h0
    · refine .inr ⟨⟨g, 0, none⟩, c, by rw [List.length_map]; exact e, by rw [List.length_map]; exact h4, by unfold maxLen at h5; omega, fun k z hk => ?_⟩
      rw [List.getElem?_map] at hk
      obtain ⟨s, hs, rfl⟩ := Option.map_eq_some_iff.1 hk
      refine ⟨?_, hi s (List.mem_of_getElem? hs)⟩
      exact World.ownsRow.cells (e ▸ h) (g := g) rfl k _ (by rw [List.getElem?_map, hs]; rfl)

set_option maxRecDepth 100000 in
set_option maxHeartbeats 1000000 in
theorem Breaks_good {w : World} {v : Value} {l : List Sg} {lo hi : Int} {m : Nat} {bl : Int} (h : RowsAt 8 w v (l.map rowG)) (hb : bungOk lo hi l = true) (hm : firstN ((List.range l.length).map (ansL l)) = (m : Int)) (hml : m + 1 < l.length) (hbl : (l.getD m default).bl = bl) :
    Calls Try.prog 42 #[.agg #[.int .i64 lo, .int .i64 hi, v]] w (fun e w' => ∃ u, e = .returned (.tuple #[.agg #[.int .i64 (m : Int), .int .i64 bl, u], .int .i64 0]) ∧ Below w.heap.size w w' ∧ NumsAt w' u ((l.drop (m + 1)).map (·.wh))) := by
  obtain ⟨a, cap, rfl, hll⟩ := h.shape
  have hcap := RowsAt.caps h
  rw [List.length_map] at h hll hcap ⊢
  obtain ⟨i0, hi0, hz0, hz1, hz2⟩ := info_parts Try.infoInt
  have hcb : ckBg lo hi l = 0 := by unfold ckBg; rw [if_pos hb]
  have hlen := bungOk_len hb
  have HCB := hid hcb; have HBD := hid (sg_bounds (bungOk_list hb)); have HM := hid hm; have HBL := hid hbl; clear hcb hb hm hbl
  have hi64 := i64_rows h
  have H64 := hid hi64; clear hi64
  obtain ⟨n, hn⟩ : ∃ n, l.length = n := ⟨_, rfl⟩
  have HN := hid hn
  rw [hn] at h hll hcap hml hlen ⊢
  obtain ⟨hcap1, hcap2⟩ := hcap
  clear hn
  go_enter Try.func42, Try.ntmps42
  go_upto_region 1 with fail
  generalize hW0 : World.alloc (World.alloc w _) _ = v1
  have y0 : CellsAt v1 w.heap.size [.int .i64 lo, .int .i64 hi, .slice a n cap] := by rw [← hW0]; exact (CellsAt.new w _ 26).alloc _
  have y1 : CellsAt v1 (w.heap.size + 1) [.int .i64 0, .int .i64 0, .slice none 0 0] := by rw [← hW0]; have h := CellsAt.new (w.alloc (.cells #[.int .i64 lo, .int .i64 hi, .slice a n cap] 26)) [.int .i64 0, .int .i64 0, .slice none 0 0] 54; rwa [World.size_alloc] at h
  have hB : Below w.heap.size w v1 := by rw [← hW0]; exact ((Below.refl _ w).alloc (Nat.le_refl _) _).alloc (by simp) _
  have hz : w.heap.size + 2 ≤ v1.heap.size := by rw [← hW0]; simp
  clear hW0
  have q0 := (y0 0 _ rfl).1; have q1 := (y0 1 _ rfl).1; have q2 := (y0 2 _ rfl).1
  go_wp2_with fail
  refine (ckBg_any (h.below hB) HCB.out).mono ?_
  rintro e v2 ⟨rfl, hb⟩
  replace hB := hB.trans (hb.mono hB.size)
  replace hz := Nat.le_trans hz hb.size
  replace y0 := y0.below hb; replace y1 := y1.below hb
  clear q0 q1 q2 hb
  have q0 := (y0 0 _ rfl).1; have q1 := (y0 1 _ rfl).1; have q2 := (y0 2 _ rfl).1
  go_wp2_with fail
  refine (courses_any (h.below hB) (by rw [HN.out]; exact hlen) HBD.out).mono ?_
  rintro e v3 ⟨u, rfl, hb, hnu⟩
  replace hB := hB.trans (hb.mono hB.size)
  replace hz := Nat.le_trans hz hb.size
  replace y0 := y0.below hb; replace y1 := y1.below hb
  clear q0 q1 q2 hb
  have q0 := (y0 0 _ rfl).1; have q1 := (y0 1 _ rfl).1; have q2 := (y0 2 _ rfl).1
  go_wp2_with fail
  refine (first_any hnu HM.out).mono ?_
  rintro e v4 ⟨rfl, hb⟩
  replace hB := hB.trans (hb.mono hB.size)
  replace hz := Nat.le_trans hz hb.size
  replace y0 := y0.below hb; replace y1 := y1.below hb
  clear q0 q1 q2 hb hnu
  have hml2 : m < l.length := by rw [HN.out]; omega
  obtain ⟨s, hs⟩ : ∃ s, l[m]? = some s := ⟨_, List.getElem?_eq_getElem hml2⟩
  have hgd : l.getD m default = s := by rw [List.getD, hs]; rfl
  have hbl2 := HBL.out
  rw [hgd] at hbl2
  obtain ⟨a', ha, r0, hc, -⟩ := sg_row (by rw [HN.out]; exact h.below hB) hs
  subst ha
  clear hgd hs hml2
  obtain ⟨sid, swl, swh, sbl, sbh, shl, shh, sti⟩ := s
  dsimp only at hbl2
  subst hbl2
  have r3 := hc 3 _ (by decide) rfl
  dsimp only at r3
  clear hc r0
  have hmi : (m : Int) < (n : Int) := by omega
  have hm0 : ¬ (m : Int) < 0 := by omega
  have q0 := (y0 0 _ rfl).1; have q1 := (y0 1 _ rfl).1; have q2 := (y0 2 _ rfl).1
  go_upto_region 8 with fail
  generalize hW : World.alloc v4 _ = v5
  have yx : CellsAt v5 v4.heap.size [.int .i64 (m : Int), .int .i64 sbl, .slice none 0 0] := by rw [← hW]; exact CellsAt.new v4 [.int .i64 (m : Int), .int .i64 sbl, .slice none 0 0] 54
  have hb : Below v4.heap.size v4 v5 := by rw [← hW]; exact (Below.refl _ _).alloc (Nat.le_refl _) _
  have hz5 : v4.heap.size < v5.heap.size := by rw [← hW]; simp
  clear hW q0 q1 q2 r3
  replace hB := hB.trans (hb.mono hB.size)
  replace y0 := y0.below hb; replace y1 := y1.below hb
  clear hb
  have hm1 : (m : Int) + 1 ≤ (n : Int) := by omega
  have hm2 : (m : Int) + 1 ≤ (cap : Int) := by omega
  have hm3 : (0 : Int) ≤ (m : Int) + 1 := by omega
  have hm4 : ¬ cap = m + 1 := by omega
  have hm5 : ¬ (cap : Int) = (m : Int) + 1 := by omega
  have hm6 : ¬ m + 1 = cap := by omega
  have hm7 : ¬ (m : Int) + 1 = (cap : Int) := by omega
  have q2 := (y0 2 _ rfl).1
  have T0 : ∀ W', Below w.heap.size w W' → m + 1 < n → RowsAt 8 W' (.slice (some (a'.add ((m + 1) * 8))) (n - (m + 1)) (cap - (m + 1))) ((l.drop (m + 1)).map rowG) := fun W' hW' hlt => rows_tail (h.below hW') HN.out hlt
  have HT0 := hid T0; clear T0
  go_wp2_with fail
  clear q2
  obtain ⟨N, hN⟩ : ∃ N, n - (m + 1) = N := ⟨_, rfl⟩
  obtain ⟨C, hC⟩ : ∃ C, cap - (m + 1) = C := ⟨_, rfl⟩
  rw [hN, hC]
  have hld : (l.drop (m + 1)).length = N := by rw [List.length_drop, HN.out, hN]
  have hN30 : N ≤ 30 := by omega
  have HNN := hid hN; have HCC := hid hC; have HLD := hid hld; clear hN hC hld hm1 hm2 hm3 hm4 hm5 hm6 hm7
  go_loopg [37] N (fun gk iv wr => ∃ (k : Nat) (u : Value), k ≤ N ∧ gk = N - k ∧ iv = .int .i64 k ∧ CellsAt wr v4.heap.size [.int .i64 (m : Int), .int .i64 sbl, u] ∧ wr.ownsRow v5.heap.size 3 1 u k (((l.drop (m + 1)).take k).map fun s => .int .i64 s.wh) ∧ CellsAt wr w.heap.size [.int .i64 lo, .int .i64 hi, .slice (some a') n cap] ∧ CellsAt wr (w.heap.size + 1) [.int .i64 0, .int .i64 0, .slice none 0 0] ∧ Below w.heap.size w wr ∧ v5.heap.size ≤ wr.heap.size)
  case atStart => exact ⟨0, _, Nat.zero_le _, rfl, rfl, yx, World.ownsRow_nil _ _ _ _, y0, y1, hB, Nat.le_refl _⟩
  case round =>
    clear yx y0 y1 hB
    obtain ⟨k, u0, hk, hgk, rfl, yx, ho, y0, y1, hB, hzr⟩ := hrel
    have HGK := hid hgk; clear hgk
    obtain ⟨ua, uc, rfl, hul⟩ := owns_shape ho
    by_cases hlt : k < N
    · have hki : (k : Int) < (N : Int) := by omega
      have hkl : k < (l.drop (m + 1)).length := by rw [HLD.out]; exact hlt
      obtain ⟨s, hs⟩ : ∃ s, (l.drop (m + 1))[k]? = some s := ⟨_, List.getElem?_eq_getElem hkl⟩
      have T := HT0.out _ hB (by have := HNN.out; omega)
      rw [HNN.out, HCC.out] at T
      obtain ⟨a2, ha2, r0, hc, -⟩ := sg_row (by rw [HLD.out]; exact T) hs
      injection ha2 with ha2
      rw [← ha2] at r0 hc
      have HS1 := hid hs; clear hs T ha2 hkl
      obtain ⟨tid, twl, swh, tbl, tbh, thl, thh, tti⟩ := s
      dsimp only at r0
      have r1 := hc 1 _ (by decide) rfl
      have r2 := hc 2 _ (by decide) rfl
      have r3 := hc 3 _ (by decide) rfl
      have r4 := hc 4 _ (by decide) rfl
      have r5 := hc 5 _ (by decide) rfl
      have r6 := hc 6 _ (by decide) rfl
      have r7 := hc 7 _ (by decide) rfl
      dsimp only at r1 r2 r3 r4 r5 r6 r7
      clear hc
      obtain ⟨v3, hv3⟩ : ∃ v, v = wr := ⟨_, rfl⟩
      subst hv3
      go_upto_region 11 with fail
      generalize hW : World.alloc v3 _ = v7
      have t2 : v7.cell? ⟨v3.heap.size, 2, none⟩ = some (.int .i64 swh) := by rw [← hW]; simp [go_sem]
      have hb : Below v3.heap.size v3 v7 := by rw [← hW]; exact (Below.refl _ _).alloc (Nat.le_refl _) _
      have hz7 := hb.size
      replace hB := hB.trans (hb.mono hB.size)
      replace y0 := y0.below hb; replace y1 := y1.below hb; replace yx := yx.below hb
      replace ho := owns_below ho hb
      clear hW hb r0 r1 r2 r3 r4 r5 r6 r7
      have e2 := (yx 2 _ rfl).1
      go_wp2_with (at_builtin; go_must (refine wpList_append_own _ rfl _ _ 41 rfl v5.heap.size 3 i0 (.int .i64 0) 1 8 Try.underlying41 hi0 hz0 hz1 hz2 rfl (by decide) _ _ _ rfl (ho.alloc _) ⟨v7.heap.size, 0, none⟩ 1 1 [.int .i64 swh] rfl rfl (one_int _ _ _ _ rfl) (by simp [Value.oneCell']) (by unfold maxLen; omega) (by omega) (by simp; omega) ?_; intro v' w8 ho8 hg8 hnil; obtain ⟨xa, xc, rfl, -⟩ := owns_shape ho8; have hb8 : Below v5.heap.size v7 w8 := Pb.below_grown ((Below.refl _ v7).alloc (by omega) _) hg8 (ho.alloc _) (by simp; omega) (Nat.le_refl _); have hz8 := hb8.size; replace yx := cells_low yx hb8 (by omega); replace y0 := cells_low y0 hb8 (by omega); replace y1 := cells_low y1 hb8 (by omega); replace hB := hB.trans (hb8.mono (by omega)); replace e2 := (yx 2 _ rfl).1; have f2 := (yx 2 _ rfl).2; clear hg8 hnil hb8 ho))
      go_roundg (N - (k + 1))
      case measure => have h := HGK.out; omega
      case rel => exact ⟨k + 1, .slice xa (k + 1) xc, by omega, rfl, by go_num, cells_store (o := 2) yx, by rw [List.take_add_one, HS1.out]; simpa using own_set (o := 2) (u := .slice xa (k + 1) xc) ho8 (by omega), y0.other (by omega) _, y1.other (by omega) _, hB.setCell (p := ⟨v4.heap.size, 2, none⟩) (by show w.heap.size ≤ v4.heap.size; omega) _, by simp; omega⟩
    · obtain rfl : k = N := by omega
      have p0 := (yx 0 _ rfl).1; have p1 := (yx 1 _ rfl).1; have p2 := (yx 2 _ rfl).1
      have f0 := (y1 0 _ rfl).2; have f1 := (y1 1 _ rfl).2; have f2 := (y1 2 _ rfl).2; have g0 := (y1 0 _ rfl).1; have g1 := (y1 1 _ rfl).1; have g2 := (y1 2 _ rfl).1
      rw [List.take_of_length_le (by rw [HLD.out]; exact Nat.le_refl _)] at ho
      go_wp2_with fail
      have z1 := cells_store (o := 2) (u := .slice ua k uc) (cells_store (o := 1) (u := .int .i64 sbl) (cells_store (o := 0) (u := .int .i64 (m : Int)) y1))
      have hB9 : Below w.heap.size w _ := ((hB.setCell (p := ⟨w.heap.size + 1, 0, none⟩) (Nat.le_succ _) (.int .i64 (m : Int))).setCell (p := ⟨w.heap.size + 1, 1, none⟩) (Nat.le_succ _) (.int .i64 sbl)).setCell (p := ⟨w.heap.size + 1, 2, none⟩) (Nat.le_succ _) (.slice ua k uc)
      have o9 := own_set (o := 2) (b := w.heap.size + 1) (u := .slice ua k uc) (own_set (o := 1) (b := w.heap.size + 1) (u := .int .i64 sbl) (own_set (o := 0) (u := .int .i64 (m : Int)) ho (b := w.heap.size + 1) (by omega)) (by omega)) (by omega)
      have hn9 : NumsAt _ (.slice ua k uc) ((l.drop (m + 1)).map (·.wh)) := nums_of_own HLD.out (by omega) o9 (fun s hs => H64.out s (List.mem_of_mem_drop hs) s.wh (by simp [rowG]))
      have d0 := (z1 0 _ rfl).1; have d1 := (z1 1 _ rfl).1; have d2 := (z1 2 _ rfl).1
      exact bodyPost_ret (v := .tuple #[.agg #[.int .i64 (m : Int), .int .i64 sbl, .slice ua k uc], .int .i64 0]) (by simp [results, Try.results42, go_sem, *]) rfl ⟨_, rfl, hB9, hn9⟩

end Go.Proofs.Ytnchhleokdkejaa

/- The chapter's example. -/
namespace Go.Proofs.Ytnchhleokdkejaa
open Go.RowKit Go.Pb Go.Pb.Ware Go.Pb.Sag
set_option linter.unusedVariables false
set_option linter.unusedSimpArgs false

open Go.Proofs Go.Pb.Bung
def exG : List Sg := [⟨1, 100, 120, 300, 350, 200, 210, 5⟩, ⟨2, 80, 90, 150, 200, 200, 210, 10⟩, ⟨3, 60, 60, 50, 60, 100, 100, 0⟩]
def exB : List Sg := chosenG exG [0, 1, 2]
def exC : List Sg := chosenG exG [1, 0, 2]
theorem ex_list : listOk exG = true := by kernel_rfl
theorem ex_b : bungOk 5 10 exB = true := by kernel_rfl
theorem ex_c : bungOk 5 10 exC = true := by kernel_rfl
theorem ex_loads : ((List.range exB.length).map fun i => [loadL exB i, loadH exB i]) = [[140, 150], [60, 60], [0, 0]] := by kernel_rfl
theorem ex_st1 : (if bungOk 5 10 exB = true then (stA exB, (0 : Int)) else (0, 31)) = (1, 0) := by kernel_rfl
theorem ex_st2 : (if bungOk 5 10 exC = true then (stA exC, (0 : Int)) else (0, 31)) = (2, 0) := by kernel_rfl
theorem ex_lean : (if bungOk 5 10 exB = true then (lnA exB 10, (0 : Int)) else (0, 31)) = (4, 0) := by kernel_rfl
theorem ex_first : firstN ((List.range exC.length).map (ansL exC)) = ((0 : Nat) : Int) := by kernel_rfl
theorem ex_bl : (exC.getD 0 default).bl = 150 := by kernel_rfl
theorem ex_wh : (exC.drop (0 + 1)).map (·.wh) = [120, 60] := by kernel_rfl
theorem ex_few : fewA 5 10 exG 400 9 = ([[0, 2], [1]], 0) := by kernel_rfl
/-- The example's saggars. -/
def ExP (v : Value) (W : World) : Prop := RowsAt 8 W v (exG.map rowG)
theorem keeps_ex : Keeps ExP := fun _ _ _ h hb => RowsAt.below h hb
/-- A bung of the example, as Set returns it. -/
def SetP (B : Nat) (l : List Sg) (v : Value) (W : World) : Prop := ∃ u, v = .tuple #[.agg #[.int .i64 5, .int .i64 10, u], .int .i64 0] ∧ W.ownsRow B 33 8 u l.length (l.flatMap cellsG) ∧ RowsAt 8 W u (l.map rowG)
theorem keeps_set {B : Nat} {l : List Sg} : Keeps (SetP B l) := fun _ _ _ ⟨u, h1, h2, h3⟩ hb => ⟨u, h1, owns_below h2 hb, h3.below hb⟩
/-- Lists as a call returns them. -/
def LstP (gs : List (List Int)) (v : Value) (W : World) : Prop := ∃ u, v = .tuple #[u, .int .i64 0] ∧ ListsAt u gs W
theorem keeps_lst {gs : List (List Int)} : Keeps (LstP gs) := fun _ _ _ ⟨u, h1, h2⟩ hb => ⟨u, h1, h2.below hb⟩
def NumP (zs : List Int) (v : Value) (W : World) : Prop := NumsAt W v zs
theorem keeps_num {zs : List Int} : Keeps (NumP zs) := fun _ _ _ h hb => NumsAt.below h hb
/-- New memory of a type. -/
def NewT (B0 T : Nat) (cs : List Value) (v : Value) (W : World) : Prop := ∃ B, B0 ≤ B ∧ v = .pointer (some ⟨B, 0, none⟩) ∧ W.heap[B]? = some (.cells cs.toArray T)
theorem keeps_newT {B0 T : Nat} {cs : List Value} : Keeps (NewT B0 T cs) := fun _ _ _ ⟨B, h1, h2, h3⟩ hb => ⟨B, h1, h2, (hb.block B (Array.getElem?_eq_some_iff.1 h3).1).trans h3⟩
theorem newT_of {w w' : World} {cs : List Value} {t : TypeId} (hb : Below w.heap.size w w') : Below w'.heap.size w' (w'.alloc (.cells cs.toArray t)) ∧ NewT w.heap.size t cs (.pointer (some ⟨w'.heap.size, 0, none⟩)) (w'.alloc (.cells cs.toArray t)) :=
  ⟨(Below.refl _ _).alloc (Nat.le_refl _) _, w'.heap.size, hb.size, rfl, by rw [World.alloc_heap_new]⟩
theorem newT_cells {T B : Nat} {cs : List Value} {W : World} (h : W.heap[B]? = some (.cells cs.toArray T)) : CellsAt W B cs := fun o u hu => by
  refine ⟨?_, ?_⟩
  · simp only [World.cell?, h]; simpa using hu
  · simp [World.frozen?, h]
theorem newT_apart {T T2 B lo s n : Nat} {cs xs : List Value} {v : Value} {W : World} (h : W.heap[B]? = some (.cells cs.toArray T)) (ho : W.ownsRow lo T2 s v n xs) (hne : T ≠ T2) : v.ownBlock ≠ some B := by
  intro e
  rcases ho.2 with ⟨rfl, _⟩ | ⟨g, cap, cur, rfl, _, hgb, _⟩
  · simp [Value.ownBlock] at e
  · obtain rfl : g = B := by simpa [Value.ownBlock] using e
    rw [h] at hgb
    injection hgb with hgb
    injection hgb with _ e2
    exact hne e2
theorem own_store {W : World} {lo T s n B o : Nat} {v u : Value} {xs : List Value} (h : W.ownsRow lo T s v n xs) (hne : v.ownBlock ≠ some B) : (W.setCell ⟨B, o, none⟩ u).ownsRow lo T s v n xs :=
  h.kept (row := some B) ⟨rfl, rfl, rfl, (KeepsWalks.setCell W _ u).size, fun k _ hk => Below.heap_setCell _ _ _ k (fun e => hk (by rw [e]))⟩ (.inr hne)
theorem exB_small {l : List Sg} (h : listOk l = true) : ∀ s ∈ l, ∀ z ∈ rowG s, I64 z := by
  intro s hs z hz
  have h1 := listOk_all h s hs
  unfold sgOk rgOk at h1
  simp only [Bool.and_eq_true, btw_iff, decide_eq_true_eq] at h1
  unfold rowG at hz
  simp only [List.mem_cons, List.not_mem_nil, or_false] at hz
  rcases hz with rfl | rfl | rfl | rfl | rfl | rfl | rfl | rfl <;> exact I64.mk (by omega) (by omega)

/-- A new slice, by its cells. -/
theorem owns_new {w : World} {lo T n size : Nat} {xs : List Value} (hs : xs.length = n * size) (hn : n ≤ maxLen) (hlo : lo ≤ w.heap.size) : (w.alloc (.cells xs.toArray T)).ownsRow lo T size (.slice (some ⟨w.heap.size, 0, none⟩) n n) n xs := by
  refine ⟨by omega, .inr ⟨w.heap.size, n, xs.toArray, rfl, hlo, heap_alloc_new w _, Nat.le_refl _, hn, by rw [List.size_toArray]; omega, ?_⟩⟩
  show xs.take (n * size) = xs
  rw [← hs, List.take_length]
theorem groupsAt_lists {lo : Nat} {v : Value} {gs : List (List Int)} {W : World} (h : GroupsAt lo v gs W) (hi : ∀ g ∈ gs, ∀ z ∈ g, I64 z) : ListsAt v gs W := by
  obtain ⟨us, h1, h2⟩ := h
  obtain ⟨a, c, rfl, hc⟩ := owns_shape h1
  refine ⟨a, c, rfl, fun k g hg => ?_⟩
  have hk := (List.getElem?_eq_some_iff.1 hg).1
  have hl : us.length = gs.length := by have := h1.1; omega
  have hu : us[k]? = some (us[k]'(by omega)) := List.getElem?_eq_getElem _
  rcases h1.2 with ⟨_, hn⟩ | ⟨B, cap, cur, e, hr⟩
  · omega
  · injection e with e1 e2 e3
    subst e1
    exact ⟨_, rfl, us[k]'(by omega), h1.cells (g := B) rfl k _ hu, numsAt_of_owns (hi g (List.mem_of_getElem? hg)) (h2 k _ g hu hg)⟩
theorem i64_small {z : Int} (h1 : -100000 ≤ z) (h2 : z ≤ 100000) : I64 z := I64.mk (by omega) (by omega)

/-- Numbers that are new. -/
theorem nums_new {w : World} {B T : Nat} {zs : List Int} (hB : w.heap.size = B) (hn : zs.length ≤ 1000) (hi : ∀ z ∈ zs, -100000 ≤ z ∧ z ≤ 100000) :
    NumsAt (w.alloc (.cells (zs.map (Value.int .i64)).toArray T)) (.slice (some ⟨B, 0, none⟩) zs.length zs.length) zs := by
  subst hB
  have h := owns_new (w := w) (lo := 0) (T := T) (n := zs.length) (size := 1) (xs := zs.map (Value.int .i64)) (by simp) (by unfold maxLen; omega) (Nat.zero_le _)
  exact numsAt_of_owns (fun z hz => i64_small (hi z hz).1 (hi z hz).2) h


end Go.Proofs.Ytnchhleokdkejaa

/- The chapter's example is so. -/
namespace Go.Proofs.Ytnchhleokdkejaa
open Go.RowKit Go.Pb Go.Pb.Ware Go.Pb.Sag
set_option linter.unusedVariables false
set_option linter.unusedSimpArgs false

open Go.Proofs Go.Pb.Bung
theorem ex_new {w : World} : ExP (.slice (some ⟨w.heap.size, 0, none⟩) 3 3) (w.alloc (.cells #[.int .i64 1, .int .i64 100, .int .i64 120, .int .i64 300, .int .i64 350, .int .i64 200, .int .i64 210, .int .i64 5, .int .i64 2, .int .i64 80, .int .i64 90, .int .i64 150, .int .i64 200, .int .i64 200, .int .i64 210, .int .i64 10, .int .i64 3, .int .i64 60, .int .i64 60, .int .i64 50, .int .i64 60, .int .i64 100, .int .i64 100, .int .i64 0] 33)) := by
  have h := owns_new (w := w) (lo := 0) (T := 33) (n := 3) (size := 8) (xs := exG.flatMap cellsG) (by rfl) (by unfold maxLen; omega) (Nat.zero_le _)
  exact rows_of_owns (l := exG) h (exB_small ex_list)

set_option maxRecDepth 100000 in
set_option maxHeartbeats 400000 in
theorem example_any {w : World}  :
    Calls Try.prog 75 #[] w (fun e w' => ∃ u, e = .returned u ∧ Below w.heap.size w w' ∧ ExP u w') := by
  go_enter Try.func75, Try.ntmps75
  go_wp2_with fail
  go_ret
  exact ⟨_, rfl, (Below.refl _ _).alloc (Nat.le_refl _) _, ex_new⟩

set_option maxRecDepth 100000 in
set_option maxHeartbeats 400000 in
theorem set_b {w : World} {v u : Value} (h : ExP v w) (hz : NumP [0, 1, 2] u w) :
    Calls Try.prog 50 #[.agg #[.int .i64 5, .int .i64 10], v, u] w (fun e w' => ∃ u, e = .returned u ∧ Below w.heap.size w w' ∧ SetP w.heap.size exB u w') := by
  refine (Set_good (l := exG) (zs := [0, 1, 2]) h hz (by kernel_rfl) ex_list (by decide) (by kernel_rfl) (by decide)).mono ?_
  unfold SetRes
  rintro e w' ⟨v, rfl, hb, ho, hr⟩
  exact ⟨_, rfl, hb, v, rfl, ho, hr⟩

set_option maxRecDepth 100000 in
set_option maxHeartbeats 400000 in
theorem set_c {w : World} {v u : Value} (h : ExP v w) (hz : NumP [1, 0, 2] u w) :
    Calls Try.prog 50 #[.agg #[.int .i64 5, .int .i64 10], v, u] w (fun e w' => ∃ u, e = .returned u ∧ Below w.heap.size w w' ∧ SetP w.heap.size exC u w') := by
  refine (Set_good (l := exG) (zs := [1, 0, 2]) h hz (by kernel_rfl) ex_list (by decide) (by kernel_rfl) (by decide)).mono ?_
  unfold SetRes
  rintro e w' ⟨v, rfl, hb, ho, hr⟩
  exact ⟨_, rfl, hb, v, rfl, ho, hr⟩

theorem few_i64 : ∀ g ∈ ([[0, 2], [1]] : List (List Int)), ∀ z ∈ g, I64 z := by
  have h : ∀ g ∈ ([[0, 2], [1]] : List (List Int)), ∀ z ∈ g, -100000 ≤ z ∧ z ≤ 100000 := by decide
  exact fun g hg z hz => i64_small (h g hg z hz).1 (h g hg z hz).2
theorem exB_list : listOk exB = true := by kernel_rfl
theorem exC_list : listOk exC = true := by kernel_rfl
theorem setP_base {B B2 : Nat} {l : List Sg} {v : Value} {W : World} (hb : B2 ≤ B) (h : SetP B l v W) : SetP B2 l v W := by
  obtain ⟨u, h1, h2, h3⟩ := h
  exact ⟨u, h1, owns_base hb h2, h3⟩

set_option maxRecDepth 100000 in
set_option maxHeartbeats 400000 in
theorem few_c {w : World} {v : Value} (h : ExP v w) :
    Calls Try.prog 59 #[.agg #[.int .i64 5, .int .i64 10], v, .agg #[.int .i64 400, .int .i64 9]] w (fun e w' => ∃ u, e = .returned u ∧ Below w.heap.size w w' ∧ LstP [[0, 2], [1]] u w') := by
  refine (Fewest_any h ex_few).mono ?_
  unfold FewRes
  rintro e w' ⟨v, rfl, hb, hg⟩
  exact ⟨_, rfl, hb, v, rfl, groupsAt_lists hg few_i64⟩

theorem ranges_new {w : World} : RowsAt 2 (w.alloc (.cells #[.int .i64 140, .int .i64 150, .int .i64 60, .int .i64 60, .int .i64 0, .int .i64 0] 23)) (.slice (some ⟨w.heap.size, 0, none⟩) 3 3) [[140, 150], [60, 60], [0, 0]] := by
  have h := owns_new (w := w) (lo := 0) (T := 23) (n := 3) (size := 2) (xs := ([[140, 150], [60, 60], [0, 0]] : List (List Int)).flatten.map (Value.int .i64)) (by rfl) (by unfold maxLen; omega) (Nat.zero_le _)
  have hs : ∀ r ∈ ([[140, 150], [60, 60], [0, 0]] : List (List Int)), r.length = 2 ∧ ∀ z ∈ r, -100000 ≤ z ∧ z ≤ 100000 := by decide
  exact rowsAt_of_owns (e := 23) (base := 0) (fun r hr => (hs r hr).1) h (fun r hr z hz => i64_small ((hs r hr).2 z hz).1 ((hs r hr).2 z hz).2)

theorem lists_new2 {w1 : World} {T1 T2 T3 : TypeId} : ListsAt (.slice (some ⟨w1.heap.size + 1 + 1, 0, none⟩) 2 2) [[0, 2], [1]] (((w1.alloc (.cells #[.int .i64 0, .int .i64 2] T1)).alloc (.cells #[.int .i64 1] T2)).alloc (.cells #[.slice (some ⟨w1.heap.size, 0, none⟩) 2 2, .slice (some ⟨w1.heap.size + 1, 0, none⟩) 1 1] T3)) := by
  have e1 := nums_new (w := w1) (T := T1) (zs := [0, 2]) rfl (by decide) (by decide)
  have e2 := nums_new (w := w1.alloc (.cells #[.int .i64 0, .int .i64 2] T1)) (B := w1.heap.size + 1) (T := T2) (zs := [1]) (by simp) (by decide) (by decide)
  refine ⟨some ⟨w1.heap.size + 1 + 1, 0, none⟩, 2, rfl, fun k g hg => ?_⟩
  match k, hg with
  | 0, hg =>
    simp at hg
    subst hg
    exact ⟨_, rfl, .slice (some ⟨w1.heap.size, 0, none⟩) 2 2, by simp [go_sem], e1.below (((Below.refl _ _).alloc (Nat.le_refl _) _).alloc (by simp) _)⟩
  | 1, hg =>
    simp at hg
    subst hg
    exact ⟨_, rfl, .slice (some ⟨w1.heap.size + 1, 0, none⟩) 1 1, by simp [go_sem], e2.below ((Below.refl _ _).alloc (Nat.le_refl _) _)⟩
  | k + 2, hg => simp at hg

set_option maxRecDepth 100000 in
set_option maxHeartbeats 2000000 in
theorem sane_any {w : World}  :
    Calls Try.prog 19 #[] w (Ret w (.bool true)) := by
  unfold Ret
  go_enter Try.func19, Try.ntmps19
  go_upto_region 2 with fail
  generalize hW : World.alloc w _ = v1
  have y0 : CellsAt v1 w.heap.size [.int .i64 5, .int .i64 10] := by rw [← hW]; exact CellsAt.new w [.int .i64 5, .int .i64 10] 23
  have hb0 : Below w.heap.size w v1 := by rw [← hW]; exact (Below.refl _ _).alloc (Nat.le_refl _) _
  have hlt0 : w.heap.size < v1.heap.size := by rw [← hW]; simp
  clear hW
  have q0 := (y0 0 _ rfl).1; have q1 := (y0 1 _ rfl).1
  refine wp_region_Rl (l' := _) 8 6 rfl rfl rfl rfl rfl (by kernel_rfl) [(1, ExP), (2, NumP [0, 1, 2]), (3, SetP v1.heap.size exB), (7, NewT v1.heap.size 26 [.int .i64 0, .int .i64 0, .slice none 0 0])] [0, 1, 2, 3, 4, 5, 6, 7] 2 (by kernel_rfl) rfl (by simp only [List.forall_mem_cons]; exact ⟨keeps_ex, keeps_num, keeps_set, keeps_newT, fun _ h => by cases h⟩) (by kernel_rfl) ?_
  simp only [numbered, bound, List.set_cons_succ, List.set_cons_zero, List.filterMap_cons, List.filterMap_nil, List.getElem?_toArray, List.getElem?_cons_succ, List.getElem?_cons_zero, Option.map_some]
  show wpS _ _ _ _ _ _ _ [(_, _), (_, _), (_, _), (_, _), (_, _), (_, _), (_, _), (_, _)] _ _
  (refine wpS_quiet rfl rfl ?_; intro K hK inst hx; have s0 := fun x => (fun _ => bkeep (BQ.below x) q0) (hx x); have s1 := fun x => (fun _ => bkeep (BQ.below x) q1) (hx x); go_big_quiet_op; (first | go_big_quiet_on | (refine ⟨_, fun _ => rfl, ?_⟩; go_big_quiet_on)); clear hx inst)
  refine wpS_fresh rfl rfl (fun w' hb hF => ?_) ?_
  · change freshAt _ _ _ (ExP) _; unfold freshAt; go_simp; exact example_any
  intro v W hv; simp only [pOf, List.lookup_cons, Nat.reduceBEq, beq_self_eq_true] at hv; obtain ⟨ea, ec, rfl, -⟩ := RowsAt.shape hv
  simp only [Act.put, List.setIfInBounds_toArray, List.set_cons_succ, List.set_cons_zero]
  refine wpS_fresh rfl rfl (fun w' hb hF => ?_) ?_
  · change freshAt _ _ _ (NumP [0, 1, 2]) _; unfold freshAt; go_simp; exact ⟨(Below.refl _ _).alloc (Nat.le_refl _) _, nums_new (zs := [0, 1, 2]) rfl (by decide) (by decide)⟩
  intro v W hv; simp only [pOf, List.lookup_cons, Nat.reduceBEq, beq_self_eq_true] at hv; obtain ⟨ia, ic, rfl, -⟩ := NumsAt.shape hv
  simp only [Act.put, List.setIfInBounds_toArray, List.set_cons_succ, List.set_cons_zero]
  refine wpS_fresh rfl rfl (fun w' hb hF => ?_) ?_
  · change freshAt _ _ _ (SetP v1.heap.size exB) _; have h1 := hF 1 _ rfl (by kernel_rfl); have h2 := hF 2 _ rfl (by kernel_rfl); unfold freshAt; go_simp; exact (set_b h1 h2).mono fun e W2 ⟨u, he, hb2, hs⟩ => ⟨u, he, hb2, setP_base hb.size hs⟩
  intro v W hv; simp only [pOf, List.lookup_cons, Nat.reduceBEq, beq_self_eq_true] at hv; obtain ⟨u, rfl, hu1, -⟩ := hv; obtain ⟨ub, cb, rfl, -⟩ := owns_shape hu1; clear hu1
  simp only [Act.put, List.setIfInBounds_toArray, List.set_cons_succ, List.set_cons_zero]
  (refine wpS_quiet rfl rfl ?_; intro K hK inst hx; go_big_quiet_op; (first | go_big_quiet_on | (refine ⟨_, fun _ => rfl, ?_⟩; go_big_quiet_on)); clear hx inst)
  (refine wpS_quiet rfl rfl ?_; intro K hK inst hx; go_big_quiet_op; (first | go_big_quiet_on | (refine ⟨_, fun _ => rfl, ?_⟩; go_big_quiet_on)); clear hx inst)
  (refine wpS_quiet rfl rfl ?_; intro K hK inst hx; go_big_quiet_op; (first | go_big_quiet_on | (refine ⟨_, fun _ => rfl, ?_⟩; go_big_quiet_on)); clear hx inst)
  refine wpS_fresh rfl rfl (fun w' hb hF => ?_) ?_
  · change freshAt _ _ _ (NewT v1.heap.size 26 [.int .i64 0, .int .i64 0, .slice none 0 0]) _; unfold freshAt; go_simp; exact newT_of hb
  intro v W hv; simp only [pOf, List.lookup_cons, Nat.reduceBEq, beq_self_eq_true] at hv; obtain ⟨Bb, hBb, rfl, _⟩ := hv
  simp only [Act.put, List.setIfInBounds_toArray, List.set_cons_succ, List.set_cons_zero]
  refine wpS_nil ?_
  intro w2 hall
  have hb := hall.1
  obtain ⟨u', eu, ho, hrb⟩ : SetP v1.heap.size exB _ w2 := hall.2 3 _ rfl
  obtain rfl : _ = u' := by simpa using eu
  obtain ⟨B', hB', hv', hn⟩ : NewT v1.heap.size 26 [.int .i64 0, .int .i64 0, .slice none 0 0] (.pointer (some ⟨Bb, 0, none⟩)) w2 := hall.2 7 _ rfl
  obtain rfl : Bb = B' := by simpa using hv'
  have hap := newT_apart hn ho (by decide)
  have yt := newT_cells hn
  clear hall hn hv' eu hrb
  have n0 := (yt 0 _ rfl).1; have n1 := (yt 1 _ rfl).1; have n2 := (yt 2 _ rfl).1; have m0 := (yt 0 _ rfl).2; have m1 := (yt 1 _ rfl).2; have m2 := (yt 2 _ rfl).2
  refine wpAny_ready (rs := [8]) (by kernel_rfl) (by simp) ?_
  refine AllReady.cons rfl (fun K hK => ?_) AllReady.nil
  go_simp
  refine hK _ _ ?_; clear hK K
  refine wpAny_ready (rs := [9]) (by kernel_rfl) (by simp) ?_
  refine AllReady.cons rfl (fun K hK => ?_) AllReady.nil
  go_simp
  refine hK _ _ ?_; clear hK K
  refine wpAny_done (by kernel_rfl) ?_ _
  refine ⟨rfl, ?_⟩
  clear n0 n1 n2 m0 m1 m2
  have hN : Below v1.heap.size v1 (((w2.setCell ⟨Bb, 0, none⟩ (.int .i64 5)).setCell ⟨Bb, 1, none⟩ (.int .i64 10)).setCell ⟨Bb, 2, none⟩ (.slice ub exB.length cb)) := ((hb.setCell (p := ⟨Bb, 0, none⟩) hB' _).setCell (p := ⟨Bb, 1, none⟩) hB' _).setCell (p := ⟨Bb, 2, none⟩) hB' _
  have yb : CellsAt (((w2.setCell ⟨Bb, 0, none⟩ (.int .i64 5)).setCell ⟨Bb, 1, none⟩ (.int .i64 10)).setCell ⟨Bb, 2, none⟩ (.slice ub exB.length cb)) Bb [.int .i64 5, .int .i64 10, .slice ub exB.length cb] := cells_store (o := 2) (cells_store (o := 1) (cells_store (o := 0) yt))
  have ho2 := own_store (o := 2) (u := .slice ub exB.length cb) (own_store (o := 1) (u := .int .i64 10) (own_store (o := 0) (u := .int .i64 5) ho hap) hap) hap
  have hrb := rows_of_owns ho2 (exB_small exB_list)
  clear ho ho2 hap yt hb q0 q1
  generalize World.setCell _ _ _ = v2 at *
  replace y0 := y0.below hN
  replace hb0 := bnext (w := w) hb0 hN
  clear hN
  have q0 := (y0 0 _ rfl).1; have q1 := (y0 1 _ rfl).1
  go_upto_region 3 with fail
  refine wp_region_Rl (l' := _) 8 6 rfl rfl rfl rfl rfl (by kernel_rfl) [(1, ExP), (2, NumP [1, 0, 2]), (3, SetP v2.heap.size exC), (7, NewT v2.heap.size 26 [.int .i64 0, .int .i64 0, .slice none 0 0])] [0, 1, 2, 3, 4, 5, 6, 7] 2 (by kernel_rfl) rfl (by simp only [List.forall_mem_cons]; exact ⟨keeps_ex, keeps_num, keeps_set, keeps_newT, fun _ h => by cases h⟩) (by kernel_rfl) ?_
  simp only [numbered, bound, List.set_cons_succ, List.set_cons_zero, List.filterMap_cons, List.filterMap_nil, List.getElem?_toArray, List.getElem?_cons_succ, List.getElem?_cons_zero, Option.map_some]
  show wpS _ _ _ _ _ _ _ [(_, _), (_, _), (_, _), (_, _), (_, _), (_, _), (_, _), (_, _)] _ _
  (refine wpS_quiet rfl rfl ?_; intro K hK inst hx; have s0 := fun x => (fun _ => bkeep (BQ.below x) q0) (hx x); have s1 := fun x => (fun _ => bkeep (BQ.below x) q1) (hx x); go_big_quiet_op; (first | go_big_quiet_on | (refine ⟨_, fun _ => rfl, ?_⟩; go_big_quiet_on)); clear hx inst)
  refine wpS_fresh rfl rfl (fun w' hb hF => ?_) ?_
  · change freshAt _ _ _ (ExP) _; unfold freshAt; go_simp; exact example_any
  intro v W hv; simp only [pOf, List.lookup_cons, Nat.reduceBEq, beq_self_eq_true] at hv; obtain ⟨ea, ec, rfl, -⟩ := RowsAt.shape hv
  simp only [Act.put, List.setIfInBounds_toArray, List.set_cons_succ, List.set_cons_zero]
  refine wpS_fresh rfl rfl (fun w' hb hF => ?_) ?_
  · change freshAt _ _ _ (NumP [1, 0, 2]) _; unfold freshAt; go_simp; exact ⟨(Below.refl _ _).alloc (Nat.le_refl _) _, nums_new (zs := [1, 0, 2]) rfl (by decide) (by decide)⟩
  intro v W hv; simp only [pOf, List.lookup_cons, Nat.reduceBEq, beq_self_eq_true] at hv; obtain ⟨ia, ic, rfl, -⟩ := NumsAt.shape hv
  simp only [Act.put, List.setIfInBounds_toArray, List.set_cons_succ, List.set_cons_zero]
  refine wpS_fresh rfl rfl (fun w' hb hF => ?_) ?_
  · change freshAt _ _ _ (SetP v2.heap.size exC) _; have h1 := hF 1 _ rfl (by kernel_rfl); have h2 := hF 2 _ rfl (by kernel_rfl); unfold freshAt; go_simp; exact (set_c h1 h2).mono fun e W2 ⟨u, he, hb2, hs⟩ => ⟨u, he, hb2, setP_base hb.size hs⟩
  intro v W hv; simp only [pOf, List.lookup_cons, Nat.reduceBEq, beq_self_eq_true] at hv; obtain ⟨u, rfl, hu1, -⟩ := hv; obtain ⟨uc, cc, rfl, -⟩ := owns_shape hu1; clear hu1
  simp only [Act.put, List.setIfInBounds_toArray, List.set_cons_succ, List.set_cons_zero]
  (refine wpS_quiet rfl rfl ?_; intro K hK inst hx; go_big_quiet_op; (first | go_big_quiet_on | (refine ⟨_, fun _ => rfl, ?_⟩; go_big_quiet_on)); clear hx inst)
  (refine wpS_quiet rfl rfl ?_; intro K hK inst hx; go_big_quiet_op; (first | go_big_quiet_on | (refine ⟨_, fun _ => rfl, ?_⟩; go_big_quiet_on)); clear hx inst)
  (refine wpS_quiet rfl rfl ?_; intro K hK inst hx; go_big_quiet_op; (first | go_big_quiet_on | (refine ⟨_, fun _ => rfl, ?_⟩; go_big_quiet_on)); clear hx inst)
  refine wpS_fresh rfl rfl (fun w' hb hF => ?_) ?_
  · change freshAt _ _ _ (NewT v2.heap.size 26 [.int .i64 0, .int .i64 0, .slice none 0 0]) _; unfold freshAt; go_simp; exact newT_of hb
  intro v W hv; simp only [pOf, List.lookup_cons, Nat.reduceBEq, beq_self_eq_true] at hv; obtain ⟨Bc, hBc, rfl, _⟩ := hv
  simp only [Act.put, List.setIfInBounds_toArray, List.set_cons_succ, List.set_cons_zero]
  refine wpS_nil ?_
  intro w2 hall
  have hb := hall.1
  obtain ⟨u', eu, ho, hrc⟩ : SetP v2.heap.size exC _ w2 := hall.2 3 _ rfl
  obtain rfl : _ = u' := by simpa using eu
  obtain ⟨B', hB', hv', hn⟩ : NewT v2.heap.size 26 [.int .i64 0, .int .i64 0, .slice none 0 0] (.pointer (some ⟨Bc, 0, none⟩)) w2 := hall.2 7 _ rfl
  obtain rfl : Bc = B' := by simpa using hv'
  have hap := newT_apart hn ho (by decide)
  have yt := newT_cells hn
  clear hall hn hv' eu hrc
  have n0 := (yt 0 _ rfl).1; have n1 := (yt 1 _ rfl).1; have n2 := (yt 2 _ rfl).1; have m0 := (yt 0 _ rfl).2; have m1 := (yt 1 _ rfl).2; have m2 := (yt 2 _ rfl).2
  refine wpAny_ready (rs := [8]) (by kernel_rfl) (by simp) ?_
  refine AllReady.cons rfl (fun K hK => ?_) AllReady.nil
  go_simp
  refine hK _ _ ?_; clear hK K
  refine wpAny_ready (rs := [9]) (by kernel_rfl) (by simp) ?_
  refine AllReady.cons rfl (fun K hK => ?_) AllReady.nil
  go_simp
  refine hK _ _ ?_; clear hK K
  refine wpAny_done (by kernel_rfl) ?_ _
  refine ⟨rfl, ?_⟩
  clear n0 n1 n2 m0 m1 m2
  have hN : Below v2.heap.size v2 (((w2.setCell ⟨Bc, 0, none⟩ (.int .i64 5)).setCell ⟨Bc, 1, none⟩ (.int .i64 10)).setCell ⟨Bc, 2, none⟩ (.slice uc exC.length cc)) := ((hb.setCell (p := ⟨Bc, 0, none⟩) hB' _).setCell (p := ⟨Bc, 1, none⟩) hB' _).setCell (p := ⟨Bc, 2, none⟩) hB' _
  have yc : CellsAt (((w2.setCell ⟨Bc, 0, none⟩ (.int .i64 5)).setCell ⟨Bc, 1, none⟩ (.int .i64 10)).setCell ⟨Bc, 2, none⟩ (.slice uc exC.length cc)) Bc [.int .i64 5, .int .i64 10, .slice uc exC.length cc] := cells_store (o := 2) (cells_store (o := 1) (cells_store (o := 0) yt))
  have ho2 := own_store (o := 2) (u := .slice uc exC.length cc) (own_store (o := 1) (u := .int .i64 10) (own_store (o := 0) (u := .int .i64 5) ho hap) hap) hap
  have hrc := rows_of_owns ho2 (exB_small exC_list)
  clear ho ho2 hap yt hb q0 q1
  generalize World.setCell _ _ _ = v3 at *
  replace y0 := y0.below hN
  replace yb := yb.below hN
  replace hrb := hrb.below hN
  replace hb0 := bnext (w := w) hb0 hN
  clear hN
  have q0 := (yb 0 _ rfl).1; have q1 := (yb 1 _ rfl).1; have q2 := (yb 2 _ rfl).1
  go_wp2_with fail
  refine (Loads_good hrb ex_b).mono ?_
  rintro e w1 ⟨lv, rfl, hb, hlo⟩
  replace y0 := y0.below hb
  replace yb := yb.below hb
  replace hrb := hrb.below hb
  replace yc := yc.below hb
  replace hrc := hrc.below hb
  replace hb0 := bnext (w := w) hb0 hb
  clear hb q0 q1 q2
  rw [ex_loads] at hlo
  have q0 := (yb 0 _ rfl).1; have q1 := (yb 1 _ rfl).1; have q2 := (yb 2 _ rfl).1
  go_wp2_with fail
  refine (Stands_any (r := (1, 0)) hrb ex_st1).mono ?_
  rintro e w1 ⟨rfl, hb⟩
  replace y0 := y0.below hb
  replace yb := yb.below hb
  replace hrb := hrb.below hb
  replace yc := yc.below hb
  replace hrc := hrc.below hb
  replace hlo := hlo.below hb
  replace hb0 := bnext (w := w) hb0 hb
  clear hb q0 q1 q2
  have q0 := (yc 0 _ rfl).1; have q1 := (yc 1 _ rfl).1; have q2 := (yc 2 _ rfl).1
  go_wp2_with fail
  refine (Stands_any (r := (2, 0)) hrc ex_st2).mono ?_
  rintro e w1 ⟨rfl, hb⟩
  replace y0 := y0.below hb
  replace yb := yb.below hb
  replace hrb := hrb.below hb
  replace yc := yc.below hb
  replace hrc := hrc.below hb
  replace hlo := hlo.below hb
  replace hb0 := bnext (w := w) hb0 hb
  clear hb q0 q1 q2
  have q0 := (yb 0 _ rfl).1; have q1 := (yb 1 _ rfl).1; have q2 := (yb 2 _ rfl).1
  go_wp2_with fail
  refine (Lean_any (r := (4, 0)) hrb ex_lean).mono ?_
  rintro e w1 ⟨rfl, hb⟩
  replace y0 := y0.below hb
  replace yb := yb.below hb
  replace hrb := hrb.below hb
  replace yc := yc.below hb
  replace hrc := hrc.below hb
  replace hlo := hlo.below hb
  replace hb0 := bnext (w := w) hb0 hb
  clear hb q0 q1 q2
  have q0 := (yc 0 _ rfl).1; have q1 := (yc 1 _ rfl).1; have q2 := (yc 2 _ rfl).1
  go_wp2_with fail
  refine (Breaks_good hrc ex_c ex_first (by decide) ex_bl).mono ?_
  rintro e w1 ⟨xv, rfl, hb, hxw⟩
  replace y0 := y0.below hb
  replace yb := yb.below hb
  replace hrb := hrb.below hb
  replace yc := yc.below hb
  replace hrc := hrc.below hb
  replace hlo := hlo.below hb
  replace hb0 := bnext (w := w) hb0 hb
  clear hb q0 q1 q2
  rw [ex_wh] at hxw
  obtain ⟨xa, xc, rfl, -⟩ := hxw.shape
  obtain ⟨v4, hv4⟩ : ∃ v, v = w1 := ⟨_, rfl⟩
  subst hv4
  go_upto_region 9 with fail
  generalize hW : World.alloc _ _ = v5
  have hN : Below v4.heap.size v4 v5 := by rw [← hW]; exact (Below.refl _ _).alloc (Nat.le_refl _) _
  have yx : CellsAt v5 v4.heap.size [.int .i64 0, .int .i64 150, .slice xa 2 xc] := by rw [← hW]; exact CellsAt.new v4 [.int .i64 0, .int .i64 150, .slice xa 2 xc] 54
  clear hW
  replace y0 := y0.below hN
  replace yb := yb.below hN
  replace hrb := hrb.below hN
  replace yc := yc.below hN
  replace hrc := hrc.below hN
  replace hlo := hlo.below hN
  replace hxw := hxw.below hN
  replace hb0 := bnext (w := w) hb0 hN
  clear hN
  have q0 := (y0 0 _ rfl).1; have q1 := (y0 1 _ rfl).1
  refine wp_region_Rs [(1, ExP), (3, LstP [[0, 2], [1]])] [0, 1, 2, 3, 4, 5, 6, 7, 8] 0 (by kernel_rfl) rfl (by simp only [List.forall_mem_cons]; exact ⟨keeps_ex, keeps_lst, fun _ h => by cases h⟩) (by kernel_rfl) ?_
  simp only [numbered, List.filterMap_cons, List.filterMap_nil, List.getElem?_toArray, List.getElem?_cons_succ, List.getElem?_cons_zero, Option.map_some]
  show wpS _ _ _ _ _ _ _ [(_, _), (_, _), (_, _), (_, _), (_, _), (_, _), (_, _), (_, _), (_, _)] _ _
  (refine wpS_quiet rfl rfl ?_; intro K hK inst hx; have s0 := fun x => (fun _ => bkeep (BQ.below x) q0) (hx x); have s1 := fun x => (fun _ => bkeep (BQ.below x) q1) (hx x); go_big_quiet_op; (first | go_big_quiet_on | (refine ⟨_, fun _ => rfl, ?_⟩; go_big_quiet_on)); clear hx inst)
  refine wpS_fresh rfl rfl (fun w' hb hF => ?_) ?_
  · change freshAt _ _ _ (ExP) _; unfold freshAt; go_simp; exact example_any
  intro v W hv; simp only [pOf, List.lookup_cons, Nat.reduceBEq, beq_self_eq_true] at hv; obtain ⟨ea, ec, rfl, -⟩ := RowsAt.shape hv
  simp only [Act.put, List.setIfInBounds_toArray, List.set_cons_succ, List.set_cons_zero]
  (refine wpS_quiet rfl rfl ?_; intro K hK inst hx; go_big_quiet_op; (first | go_big_quiet_on | (refine ⟨_, fun _ => rfl, ?_⟩; go_big_quiet_on)); clear hx inst)
  refine wpS_fresh rfl rfl (fun w' hb hF => ?_) ?_
  · change freshAt _ _ _ (LstP [[0, 2], [1]]) _; have h1 := hF 1 _ rfl (by kernel_rfl); unfold freshAt; go_simp; exact few_c h1
  intro v W hv; simp only [pOf, List.lookup_cons, Nat.reduceBEq, beq_self_eq_true] at hv; obtain ⟨pv, rfl, hp1⟩ := hv; clear hp1
  simp only [Act.put, List.setIfInBounds_toArray, List.set_cons_succ, List.set_cons_zero]
  (refine wpS_quiet rfl rfl ?_; intro K hK inst hx; go_big_quiet_op; (first | go_big_quiet_on | (refine ⟨_, fun _ => rfl, ?_⟩; go_big_quiet_on)); clear hx inst)
  (refine wpS_quiet rfl rfl ?_; intro K hK inst hx; go_big_quiet_op; (first | go_big_quiet_on | (refine ⟨_, fun _ => rfl, ?_⟩; go_big_quiet_on)); clear hx inst)
  (refine wpS_quiet rfl rfl ?_; intro K hK inst hx; go_big_quiet_op; (first | go_big_quiet_on | (refine ⟨_, fun _ => rfl, ?_⟩; go_big_quiet_on)); clear hx inst)
  (refine wpS_quiet rfl rfl ?_; intro K hK inst hx; go_big_quiet_op; (first | go_big_quiet_on | (refine ⟨_, fun _ => rfl, ?_⟩; go_big_quiet_on)); clear hx inst)
  (refine wpS_quiet rfl rfl ?_; intro K hK inst hx; go_big_quiet_op; (first | go_big_quiet_on | (refine ⟨_, fun _ => rfl, ?_⟩; go_big_quiet_on)); clear hx inst)
  refine wpS_nil ?_
  intro v6 hall
  have hb := hall.1
  obtain ⟨u', eu, hgp⟩ : LstP [[0, 2], [1]] _ v6 := hall.2 3 _ rfl
  obtain rfl : pv = u' := by simpa using eu
  clear hall eu q0 q1
  replace y0 := y0.below hb
  replace yb := yb.below hb
  replace hrb := hrb.below hb
  replace yc := yc.below hb
  replace hrc := hrc.below hb
  replace hlo := hlo.below hb
  replace hxw := hxw.below hb
  replace yx := yx.below hb
  replace hb0 := bnext (w := w) hb0 hb
  clear hb
  refine wpAny_done (by kernel_rfl) ?_ _
  have hzz := hb0.size
  go_wp2_with fail
  refine (sameRanges_any (b := true) (hlo.below (by go_grown)) ranges_new (by decide) (by decide)).mono ?_
  rintro e w1 ⟨rfl, hb⟩
  replace hb0 := bnext (w := w) (by go_grown) hb
  replace yx := (yx.below (by go_grown)).below hb
  replace hxw := (hxw.below (by go_grown)).below hb
  replace hgp := (hgp.below (by go_grown)).below hb
  clear hb hzz
  have hzz := hb0.size
  go_wp2_with fail
  refine (sameParts_any (b := true) (hgp.below (by go_grown)) lists_new2 (by decide) (by decide) (by decide)).mono ?_
  rintro e w1 ⟨rfl, hb⟩
  replace hb0 := bnext (w := w) (by go_grown) hb
  replace yx := (yx.below (by go_grown)).below hb
  replace hxw := (hxw.below (by go_grown)).below hb
  replace hgp := (hgp.below (by go_grown)).below hb
  clear hb hzz
  have q2 := (yx 2 _ rfl).1
  have hzz := hb0.size
  go_wp2_with fail
  refine (same01_any (b := true) (hxw.below (by go_grown)) (nums_new (zs := [120, 60]) (by simp) (by decide) (by decide)) (by decide) (by decide)).mono ?_
  rintro e w1 ⟨rfl, hb⟩
  replace hb0 := bnext (w := w) (by go_grown) hb
  replace yx := (yx.below (by go_grown)).below hb
  replace hxw := (hxw.below (by go_grown)).below hb
  replace hgp := (hgp.below (by go_grown)).below hb
  clear hb hzz
  have q0 := (yx 0 _ rfl).1; have q1 := (yx 1 _ rfl).1
  go_wp2_with fail
  go_ret
  exact ⟨rfl, hb0⟩

end Go.Proofs.Ytnchhleokdkejaa

/- The reference's heights and leans. -/
namespace Go.Proofs.Ytnchhleokdkejaa
open Go.RowKit Go.Pb Go.Pb.Ware Go.Pb.Sag
set_option linter.unusedVariables false
set_option linter.unusedSimpArgs false

open Go.Pb.Bung
/-- The heights of the first k saggars, with all wads. -/
def sumL (l : List Sg) (lo : Int) (k : Nat) : Int := ((l.length - 1 : Nat) : Int) * lo + ((l.take k).map (·.hl)).sum
def sumH (l : List Sg) (hi : Int) (k : Nat) : Int := ((l.length - 1 : Nat) : Int) * hi + ((l.take k).map (·.hh)).sum
theorem sum_zero {l : List Sg} {lo hi : Int} : sumL l lo 0 = ((l.length - 1 : Nat) : Int) * lo ∧ sumH l hi 0 = ((l.length - 1 : Nat) : Int) * hi := by unfold sumL sumH; simp
theorem sum_next {l : List Sg} {lo hi : Int} {k : Nat} {s : Sg} (h : l[k]? = some s) : sumL l lo (k + 1) = sumL l lo k + s.hl ∧ sumH l hi (k + 1) = sumH l hi k + s.hh := by
  unfold sumL sumH
  rw [List.take_add_one, h]
  simp
  omega
theorem sum_end {l : List Sg} {lo hi : Int} : sumL l lo l.length = hgtL l lo l.length ∧ sumH l hi l.length = hgtH l hi l.length := by
  unfold sumL sumH hgtL hgtH
  omega
theorem sum_small {l : List Sg} {lo hi : Int} (hl : l.length ≤ 30) (hs : ∀ s ∈ l, 0 ≤ s.hl ∧ s.hl ≤ 10000 ∧ 0 ≤ s.hh ∧ s.hh ≤ 10000) (h1 : 0 ≤ lo ∧ lo ≤ 200) (h2 : 0 ≤ hi ∧ hi ≤ 200) (k : Nat) : (0 ≤ sumL l lo k ∧ sumL l lo k ≤ 400000) ∧ 0 ≤ sumH l hi k ∧ sumH l hi k ≤ 400000 := by
  have key : ∀ (f : Sg → Int) (m : List Sg), (∀ s ∈ m, 0 ≤ f s ∧ f s ≤ 10000) → 0 ≤ (m.map f).sum ∧ (m.map f).sum ≤ 10000 * m.length := by
    intro f m hm
    induction m with
    | nil => simp
    | cons s m ih =>
      have h1 := hm s (List.mem_cons_self ..)
      have h2 := ih fun x hx => hm x (List.mem_cons_of_mem _ hx)
      rw [List.map_cons, List.sum_cons, List.length_cons]
      omega
  have hd : ∀ s ∈ l.take k, s ∈ l := fun s hs => List.mem_of_mem_take hs
  have hlk : (l.take k).length ≤ 30 := by rw [List.length_take]; omega
  have a1 := key (·.hl) _ fun s h => ⟨(hs s (hd s h)).1, (hs s (hd s h)).2.1⟩
  have a2 := key (·.hh) _ fun s h => ⟨(hs s (hd s h)).2.2.1, (hs s (hd s h)).2.2.2⟩
  have mb : ∀ c : Int, 0 ≤ c ∧ c ≤ 200 → 0 ≤ ((l.length - 1 : Nat) : Int) * c ∧ ((l.length - 1 : Nat) : Int) * c ≤ 29 * 200 := fun c hc =>
    ⟨Int.mul_nonneg (by omega) hc.1, Int.mul_le_mul (by omega) hc.2 hc.1 (by omega)⟩
  have m1 := mb lo h1
  have m2 := mb hi h2
  unfold sumL sumH
  omega

set_option maxRecDepth 100000 in
set_option maxHeartbeats 1000000 in
theorem rHeight_any {w : World} {v : Value} {l : List Sg} {lo hi x y : Int} (h : RowsAt 8 w v (l.map rowG)) (hl : l.length ≤ 30) (hne : l ≠ []) (hs : ∀ s ∈ l, 0 ≤ s.hl ∧ s.hl ≤ 10000 ∧ 0 ≤ s.hh ∧ s.hh ≤ 10000) (h1 : 0 ≤ lo ∧ lo ≤ 200) (h2 : 0 ≤ hi ∧ hi ≤ 200) (hx : hgtL l lo l.length = x) (hy : hgtH l hi l.length = y) :
    Calls Try.prog 91 #[.agg #[.int .i64 lo, .int .i64 hi, v]] w (Ret w (.agg #[.int .i64 x, .int .i64 y])) := by
  unfold Ret
  obtain ⟨a, cap, rfl, hll⟩ := h.shape
  rw [List.length_map] at h hll ⊢
  have hpos : 0 < l.length := by cases l with | nil => exact absurd rfl hne | cons x y => simp
  have hsm := sum_small hl hs h1 h2
  obtain ⟨n, hn⟩ : ∃ n, l.length = n := ⟨_, rfl⟩
  have HN : Hid (l.length = n) := hn
  rw [hn] at h hll hl hpos ⊢
  have HS : Hid (∀ s ∈ l, 0 ≤ s.hl ∧ s.hl ≤ 10000 ∧ 0 ≤ s.hh ∧ s.hh ≤ 10000) := hs
  obtain ⟨m, hm⟩ : ∃ m : Nat, n = m + 1 := ⟨n - 1, by omega⟩
  obtain ⟨p1, hp1⟩ : ∃ p, (m : Int) * lo = p := ⟨_, rfl⟩
  obtain ⟨p2, hp2⟩ : ∃ p, (m : Int) * hi = p := ⟨_, rfl⟩
  have z0 := sum_zero (l := l) (lo := lo) (hi := hi)
  rw [hn, show n - 1 = m by omega, hp1, hp2] at z0
  have b0 := hsm 0
  rw [z0.1, z0.2] at b0
  have hm1 : IntKind.i64.wrap ((n : Int) - 1) = (m : Int) := by rw [IntWalk.i64_in _ (by omega)]; omega
  have hm2 : IntKind.i64.wrap p1 = p1 := IntWalk.i64_in _ (by omega)
  have hm3 : IntKind.i64.wrap p2 = p2 := IntWalk.i64_in _ (by omega)
  have HM : Hid (n = m + 1) := hm; have HX : Hid _ := hx; have HY : Hid _ := hy; clear hn hm hx hy hs
  go_enter Try.func91, Try.ntmps91
  go_upto_region 1 with fail
  generalize hW : World.alloc (World.alloc w _) _ = v1
  have y0 : CellsAt v1 w.heap.size [.int .i64 lo, .int .i64 hi, .slice a n cap] := by rw [← hW]; exact (CellsAt.new w [.int .i64 lo, .int .i64 hi, .slice a n cap] 26).alloc _
  have y1 : CellsAt v1 (w.heap.size + 1) [.int .i64 0, .int .i64 0] := by rw [← hW]; have h := CellsAt.new (w.alloc (.cells #[.int .i64 lo, .int .i64 hi, .slice a n cap] 26)) [.int .i64 0, .int .i64 0] 23; rwa [World.size_alloc] at h
  have hB1 : Below w.heap.size w v1 := by rw [← hW]; exact ((Below.refl _ w).alloc (Nat.le_refl _) _).alloc (by simp) _
  have hz1 : v1.heap.size = w.heap.size + 2 := by rw [← hW]; simp
  have HZ1 := hid hz1; clear hW hz1
  have q0 := (y0 0 _ rfl).1; have q1 := (y0 1 _ rfl).1; have q2 := (y0 2 _ rfl).1
  go_upto_region 3 with fail
  generalize hW : World.alloc v1 _ = v2
  have y2 : CellsAt v2 v1.heap.size [.int .i64 p1, .int .i64 p2] := by rw [← hW]; exact CellsAt.new v1 [.int .i64 p1, .int .i64 p2] 23
  have hb2 : Below v1.heap.size v1 v2 := by rw [← hW]; exact (Below.refl _ _).alloc (Nat.le_refl _) _
  replace y0 := y0.below hb2; replace y1 := y1.below hb2
  replace hB1 := hB1.trans (hb2.mono hB1.size)
  clear hW hb2 q0 q1 q2
  rw [← z0.1, ← z0.2] at y2
  go_wp2_with fail
  go_loopg [5] n (fun gk iv wr => ∃ k : Nat, k ≤ n ∧ gk = n - k ∧ iv = .int .i64 k ∧ CellsAt wr w.heap.size [.int .i64 lo, .int .i64 hi, .slice a n cap] ∧ CellsAt wr (w.heap.size + 1) [.int .i64 0, .int .i64 0] ∧ CellsAt wr v1.heap.size [.int .i64 (sumL l lo k), .int .i64 (sumH l hi k)] ∧ Below w.heap.size w wr)
  case atStart => exact ⟨0, Nat.zero_le _, rfl, rfl, y0, y1, y2, hB1⟩
  case round =>
    clear y0 y1 y2 hB1 z0 b0 hm1 hm2 hm3
    obtain ⟨k, hk, hgk, rfl, y0, y1, y2, hB⟩ := hrel
    have HGK := hid hgk; clear hgk
    have q2 := (y0 2 _ rfl).1
    by_cases hlt : k < n
    · have hki : (k : Int) < (n : Int) := by omega
      obtain ⟨s, hs⟩ : ∃ s, l[k]? = some s := ⟨_, List.getElem?_eq_getElem (by rw [HN.out]; exact hlt)⟩
      have hsb := HS.out s (List.mem_of_getElem? hs)
      obtain ⟨a', ha, r0, hcc, -⟩ := sg_row (by rw [HN.out]; exact h.below hB) hs
      subst ha
      have hn1 := sum_next (lo := lo) (hi := hi) hs
      have hb1 := hsm k
      obtain ⟨xk, hxk⟩ : ∃ x, sumL l lo k = x := ⟨_, rfl⟩
      obtain ⟨yk, hyk⟩ : ∃ x, sumH l hi k = x := ⟨_, rfl⟩
      rw [hxk, hyk] at y2 hb1 hn1
      obtain ⟨sid, swl, swh, sbl, sbh, shl, shh, sti⟩ := s
      dsimp only at hsb hn1
      have r5 := hcc 5 _ (by decide) rfl; have r6 := hcc 6 _ (by decide) rfl
      dsimp only at r5 r6
      have HN1 : Hid _ := hn1; clear hn1 hcc r0 hxk hyk hs
      have hlt8 : (a'.add (k * 8)).block < wr.heap.size := World.block_lt_of_cell? wr ⟨(a'.add (k * 8)).block, (a'.add (k * 8)).off + 5, none⟩ r5
      have hav : (a'.add (k * 8)).block ≠ v1.heap.size := by obtain ⟨s2, hs2⟩ : ∃ s, l[k]? = some s := ⟨_, List.getElem?_eq_getElem (by rw [HN.out]; exact hlt)⟩; obtain ⟨a2, e2, r9, -, -⟩ := sg_row (by rw [HN.out]; exact h) hs2; injection e2 with e2; subst e2; have h9 := World.block_lt_of_cell? w _ r9; have := HZ1.out; omega
      have hw1 : IntKind.i64.wrap (xk + shl) = xk + shl := IntWalk.i64_in _ (by omega)
      have hw2 : IntKind.i64.wrap (yk + shh) = yk + shh := IntWalk.i64_in _ (by omega)
      have g0 := (y2 0 _ rfl).1; have g1 := (y2 1 _ rfl).1; have f0 := (y2 0 _ rfl).2; have f1 := (y2 1 _ rfl).2
      go_upto_region 6 with fail
      refine wp_region_Rs [(9, fun v _ => v = .int .i64 (xk + shl))] [0, 1, 2, 3, 4, 5, 6, 7, 8, 9, 10] 1 (by kernel_rfl) rfl (by simp only [List.forall_mem_cons]; exact ⟨keeps_eq, fun _ h => by cases h⟩) (by kernel_rfl) ?_
      simp only [numbered, List.filterMap_cons, List.filterMap_nil, List.getElem?_toArray, List.getElem?_cons_succ, List.getElem?_cons_zero, Option.map_some]
      show wpS _ _ _ _ _ _ _ [(_, _), (_, _), (_, _), (_, _), (_, _), (_, _), (_, _), (_, _), (_, _), (_, _), (_, _)] _ _
      (refine wpS_quiet rfl rfl ?_; intro K hK inst hx; have s0 := fun x => (fun _ => bkeep (BQ.below x) g0) (hx x); have s1 := fun x => (fun _ => bkeep (BQ.below x) q2) (hx x); have s2 := fun x => (fun _ => bkeep (BQ.below x) r5) (hx x); go_big_quiet_op; (first | go_big_quiet_on | (refine ⟨_, fun _ => rfl, ?_⟩; go_big_quiet_on)); clear hx inst)
      (refine wpS_quiet rfl rfl ?_; intro K hK inst hx; have s0 := fun x => (fun _ => bkeep (BQ.below x) g0) (hx x); have s1 := fun x => (fun _ => bkeep (BQ.below x) q2) (hx x); have s2 := fun x => (fun _ => bkeep (BQ.below x) r5) (hx x); go_big_quiet_op; (first | go_big_quiet_on | (refine ⟨_, fun _ => rfl, ?_⟩; go_big_quiet_on)); clear hx inst)
      (refine wpS_quiet rfl rfl ?_; intro K hK inst hx; have s0 := fun x => (fun _ => bkeep (BQ.below x) g0) (hx x); have s1 := fun x => (fun _ => bkeep (BQ.below x) q2) (hx x); have s2 := fun x => (fun _ => bkeep (BQ.below x) r5) (hx x); go_big_quiet_op; (first | go_big_quiet_on | (refine ⟨_, fun _ => rfl, ?_⟩; go_big_quiet_on)); clear hx inst)
      (refine wpS_quiet rfl rfl ?_; intro K hK inst hx; have s0 := fun x => (fun _ => bkeep (BQ.below x) g0) (hx x); have s1 := fun x => (fun _ => bkeep (BQ.below x) q2) (hx x); have s2 := fun x => (fun _ => bkeep (BQ.below x) r5) (hx x); go_big_quiet_op; (first | go_big_quiet_on | (refine ⟨_, fun _ => rfl, ?_⟩; go_big_quiet_on)); clear hx inst)
      (refine wpS_quiet rfl rfl ?_; intro K hK inst hx; have s0 := fun x => (fun _ => bkeep (BQ.below x) g0) (hx x); have s1 := fun x => (fun _ => bkeep (BQ.below x) q2) (hx x); have s2 := fun x => (fun _ => bkeep (BQ.below x) r5) (hx x); go_big_quiet_op; (first | go_big_quiet_on | (refine ⟨_, fun _ => rfl, ?_⟩; go_big_quiet_on)); clear hx inst)
      (refine wpS_quiet rfl rfl ?_; intro K hK inst hx; have s0 := fun x => (fun _ => bkeep (BQ.below x) g0) (hx x); have s1 := fun x => (fun _ => bkeep (BQ.below x) q2) (hx x); have s2 := fun x => (fun _ => bkeep (BQ.below x) r5) (hx x); go_big_quiet_op; (first | go_big_quiet_on | (refine ⟨_, fun _ => rfl, ?_⟩; go_big_quiet_on)); clear hx inst)
      (refine wpS_quiet rfl rfl ?_; intro K hK inst hx; have s0 := fun x => (fun _ => bkeep (BQ.below x) g0) (hx x); have s1 := fun x => (fun _ => bkeep (BQ.below x) q2) (hx x); have s2 := fun x => (fun _ => bkeep (BQ.below x) r5) (hx x); go_big_quiet_op; (first | go_big_quiet_on | (refine ⟨_, fun _ => rfl, ?_⟩; go_big_quiet_on)); clear hx inst)
      (refine wpS_quiet rfl rfl ?_; intro K hK inst hx; have s0 := fun x => (fun _ => bkeep (BQ.below x) g0) (hx x); have s1 := fun x => (fun _ => bkeep (BQ.below x) q2) (hx x); have s2 := fun x => (fun _ => bkeep (BQ.below x) r5) (hx x); go_big_quiet_op; (first | go_big_quiet_on | (refine ⟨_, fun _ => rfl, ?_⟩; go_big_quiet_on)); clear hx inst)
      (refine wpS_quiet rfl rfl ?_; intro K hK inst hx; have s0 := fun x => (fun _ => bkeep (BQ.below x) g0) (hx x); have s1 := fun x => (fun _ => bkeep (BQ.below x) q2) (hx x); have s2 := fun x => (fun _ => bkeep (BQ.below x) r5) (hx x); go_big_quiet_op; (first | go_big_quiet_on | (refine ⟨_, fun _ => rfl, ?_⟩; go_big_quiet_on)); clear hx inst)
      refine wpS_fresh rfl rfl (fun w' hb hF => ?_) ?_
      · change freshAt _ _ _ (fun v _ => v = .int .i64 (xk + shl)) _; unfold freshAt; go_simp; (first | exact Below.refl _ _ | exact ⟨Below.refl _ _, rfl⟩ | simp [*, Below.refl])
      intro v W hv; simp only [pOf, List.lookup_cons, Nat.reduceBEq, beq_self_eq_true] at hv; subst hv
      simp only [Act.put, List.setIfInBounds_toArray, List.set_cons_succ, List.set_cons_zero]
      (refine wpS_quiet rfl rfl ?_; intro K hK inst hx; have s0 := fun x => (fun _ => bkeep (BQ.below x) g0) (hx x); have s1 := fun x => (fun _ => bkeep (BQ.below x) q2) (hx x); have s2 := fun x => (fun _ => bkeep (BQ.below x) r5) (hx x); go_big_quiet_op; (first | go_big_quiet_on | (refine ⟨_, fun _ => rfl, ?_⟩; go_big_quiet_on)); clear hx inst)
      refine wpS_nil ?_
      intro v3 hall
      have hb := hall.1
      clear hall
      replace y0 := y0.below hb; replace y1 := y1.below hb; replace y2 := y2.below hb
      replace hB := bnext (w := w) hB hb
      replace r6 := bkeep hb r6
      clear hb
      replace g0 := (y2 0 _ rfl).1; replace f0 := (y2 0 _ rfl).2
      refine wpAny_ready (rs := [11]) (by kernel_rfl) (by simp) ?_
      refine AllReady.cons rfl (fun K hK => ?_) AllReady.nil
      go_simp
      refine hK _ _ ?_; clear hK K
      refine wpAny_done (by kernel_rfl) ?_ _
      have z2 := cells_store (o := 0) (u := .int .i64 (xk + shl)) y2
      replace y0 := y0.other (B' := v1.heap.size) (o' := 0) (by have := HZ1.out; omega) (.int .i64 (xk + shl))
      replace y1 := y1.other (B' := v1.heap.size) (o' := 0) (by have := HZ1.out; omega) (.int .i64 (xk + shl))
      replace hB := hB.setCell (p := ⟨v1.heap.size, 0, none⟩) (by show w.heap.size ≤ v1.heap.size; have := HZ1.out; omega) (.int .i64 (xk + shl))
      replace r6 := (World.cell?_setCell_other v3 ⟨v1.heap.size, 0, none⟩ ⟨(a'.add (k * 8)).block, (a'.add (k * 8)).off + 6, none⟩ (.int .i64 (xk + shl)) (by intro e; injection e with e _; exact hav e.symm)).trans r6
      clear y2 q2 g0 g1 f0 f1 r5
      generalize World.setCell _ _ _ = v4 at *
      have y2 : CellsAt v4 v1.heap.size [.int .i64 (xk + shl), .int .i64 yk] := z2
      clear z2
      have q2 := (y0 2 _ rfl).1; have g0 := (y2 0 _ rfl).1; have g1 := (y2 1 _ rfl).1; have f0 := (y2 0 _ rfl).2; have f1 := (y2 1 _ rfl).2
      go_upto_region 7 with fail
      refine wp_region_Rs [(9, fun v _ => v = .int .i64 (yk + shh))] [0, 1, 2, 3, 4, 5, 6, 7, 8, 9, 10] 1 (by kernel_rfl) rfl (by simp only [List.forall_mem_cons]; exact ⟨keeps_eq, fun _ h => by cases h⟩) (by kernel_rfl) ?_
      simp only [numbered, List.filterMap_cons, List.filterMap_nil, List.getElem?_toArray, List.getElem?_cons_succ, List.getElem?_cons_zero, Option.map_some]
      show wpS _ _ _ _ _ _ _ [(_, _), (_, _), (_, _), (_, _), (_, _), (_, _), (_, _), (_, _), (_, _), (_, _), (_, _)] _ _
      (refine wpS_quiet rfl rfl ?_; intro K hK inst hx; have s0 := fun x => (fun _ => bkeep (BQ.below x) g1) (hx x); have s1 := fun x => (fun _ => bkeep (BQ.below x) q2) (hx x); have s2 := fun x => (fun _ => bkeep (BQ.below x) r6) (hx x); go_big_quiet_op; (first | go_big_quiet_on | (refine ⟨_, fun _ => rfl, ?_⟩; go_big_quiet_on)); clear hx inst)
      (refine wpS_quiet rfl rfl ?_; intro K hK inst hx; have s0 := fun x => (fun _ => bkeep (BQ.below x) g1) (hx x); have s1 := fun x => (fun _ => bkeep (BQ.below x) q2) (hx x); have s2 := fun x => (fun _ => bkeep (BQ.below x) r6) (hx x); go_big_quiet_op; (first | go_big_quiet_on | (refine ⟨_, fun _ => rfl, ?_⟩; go_big_quiet_on)); clear hx inst)
      (refine wpS_quiet rfl rfl ?_; intro K hK inst hx; have s0 := fun x => (fun _ => bkeep (BQ.below x) g1) (hx x); have s1 := fun x => (fun _ => bkeep (BQ.below x) q2) (hx x); have s2 := fun x => (fun _ => bkeep (BQ.below x) r6) (hx x); go_big_quiet_op; (first | go_big_quiet_on | (refine ⟨_, fun _ => rfl, ?_⟩; go_big_quiet_on)); clear hx inst)
      (refine wpS_quiet rfl rfl ?_; intro K hK inst hx; have s0 := fun x => (fun _ => bkeep (BQ.below x) g1) (hx x); have s1 := fun x => (fun _ => bkeep (BQ.below x) q2) (hx x); have s2 := fun x => (fun _ => bkeep (BQ.below x) r6) (hx x); go_big_quiet_op; (first | go_big_quiet_on | (refine ⟨_, fun _ => rfl, ?_⟩; go_big_quiet_on)); clear hx inst)
      (refine wpS_quiet rfl rfl ?_; intro K hK inst hx; have s0 := fun x => (fun _ => bkeep (BQ.below x) g1) (hx x); have s1 := fun x => (fun _ => bkeep (BQ.below x) q2) (hx x); have s2 := fun x => (fun _ => bkeep (BQ.below x) r6) (hx x); go_big_quiet_op; (first | go_big_quiet_on | (refine ⟨_, fun _ => rfl, ?_⟩; go_big_quiet_on)); clear hx inst)
      (refine wpS_quiet rfl rfl ?_; intro K hK inst hx; have s0 := fun x => (fun _ => bkeep (BQ.below x) g1) (hx x); have s1 := fun x => (fun _ => bkeep (BQ.below x) q2) (hx x); have s2 := fun x => (fun _ => bkeep (BQ.below x) r6) (hx x); go_big_quiet_op; (first | go_big_quiet_on | (refine ⟨_, fun _ => rfl, ?_⟩; go_big_quiet_on)); clear hx inst)
      (refine wpS_quiet rfl rfl ?_; intro K hK inst hx; have s0 := fun x => (fun _ => bkeep (BQ.below x) g1) (hx x); have s1 := fun x => (fun _ => bkeep (BQ.below x) q2) (hx x); have s2 := fun x => (fun _ => bkeep (BQ.below x) r6) (hx x); go_big_quiet_op; (first | go_big_quiet_on | (refine ⟨_, fun _ => rfl, ?_⟩; go_big_quiet_on)); clear hx inst)
      (refine wpS_quiet rfl rfl ?_; intro K hK inst hx; have s0 := fun x => (fun _ => bkeep (BQ.below x) g1) (hx x); have s1 := fun x => (fun _ => bkeep (BQ.below x) q2) (hx x); have s2 := fun x => (fun _ => bkeep (BQ.below x) r6) (hx x); go_big_quiet_op; (first | go_big_quiet_on | (refine ⟨_, fun _ => rfl, ?_⟩; go_big_quiet_on)); clear hx inst)
      (refine wpS_quiet rfl rfl ?_; intro K hK inst hx; have s0 := fun x => (fun _ => bkeep (BQ.below x) g1) (hx x); have s1 := fun x => (fun _ => bkeep (BQ.below x) q2) (hx x); have s2 := fun x => (fun _ => bkeep (BQ.below x) r6) (hx x); go_big_quiet_op; (first | go_big_quiet_on | (refine ⟨_, fun _ => rfl, ?_⟩; go_big_quiet_on)); clear hx inst)
      refine wpS_fresh rfl rfl (fun w' hb hF => ?_) ?_
      · change freshAt _ _ _ (fun v _ => v = .int .i64 (yk + shh)) _; unfold freshAt; go_simp; (first | exact Below.refl _ _ | exact ⟨Below.refl _ _, rfl⟩ | simp [*, Below.refl])
      intro v W hv; simp only [pOf, List.lookup_cons, Nat.reduceBEq, beq_self_eq_true] at hv; subst hv
      simp only [Act.put, List.setIfInBounds_toArray, List.set_cons_succ, List.set_cons_zero]
      (refine wpS_quiet rfl rfl ?_; intro K hK inst hx; have s0 := fun x => (fun _ => bkeep (BQ.below x) g1) (hx x); have s1 := fun x => (fun _ => bkeep (BQ.below x) q2) (hx x); have s2 := fun x => (fun _ => bkeep (BQ.below x) r6) (hx x); go_big_quiet_op; (first | go_big_quiet_on | (refine ⟨_, fun _ => rfl, ?_⟩; go_big_quiet_on)); clear hx inst)
      refine wpS_nil ?_
      intro v5 hall
      have hb := hall.1
      clear hall
      replace y0 := y0.below hb; replace y1 := y1.below hb; replace y2 := y2.below hb
      replace hB := bnext (w := w) hB hb
      clear hb
      replace g1 := (y2 1 _ rfl).1; replace f1 := (y2 1 _ rfl).2
      refine wpAny_ready (rs := [11]) (by kernel_rfl) (by simp) ?_
      refine AllReady.cons rfl (fun K hK => ?_) AllReady.nil
      go_simp
      refine hK _ _ ?_; clear hK K
      refine wpAny_done (by kernel_rfl) ?_ _
      go_wp2_with fail
      go_roundg (n - (k + 1))
      case measure => have h := HGK.out; omega
      case rel => exact ⟨k + 1, by omega, rfl, by go_num, y0.other (by have := HZ1.out; omega) _, y1.other (by have := HZ1.out; omega) _, by rw [HN1.out.1, HN1.out.2]; exact cells_store (o := 1) y2, hB.setCell (p := ⟨v1.heap.size, 1, none⟩) (by show w.heap.size ≤ v1.heap.size; have := HZ1.out; omega) _⟩
    · obtain rfl : k = n := by omega
      have he := sum_end (l := l) (lo := lo) (hi := hi)
      rw [HX.out, HY.out, HN.out] at he
      rw [he.1, he.2] at y2
      have g0 := (y2 0 _ rfl).1; have g1 := (y2 1 _ rfl).1; have f0 := (y1 0 _ rfl).2; have f1 := (y1 1 _ rfl).2; have e0 := (y1 0 _ rfl).1; have e1 := (y1 1 _ rfl).1
      clear he
      go_wp2_with fail
      have z1 := cells_store (o := 1) (u := .int .i64 y) (cells_store (o := 0) (u := .int .i64 x) y1)
      have d0 := (z1 0 _ rfl).1; have d1 := (z1 1 _ rfl).1
      exact bodyPost_ret (v := .agg #[.int .i64 x, .int .i64 y]) (by simp [results, Try.results91, go_sem, *]) rfl ⟨rfl, (hB.setCell (p := ⟨w.heap.size + 1, 0, none⟩) (Nat.le_succ _) _).setCell (p := ⟨w.heap.size + 1, 1, none⟩) (Nat.le_succ _) _⟩

end Go.Proofs.Ytnchhleokdkejaa

/- The reference's leans, and answers for spots. -/
namespace Go.Proofs.Ytnchhleokdkejaa
open Go.RowKit Go.Pb Go.Pb.Ware Go.Pb.Sag
set_option linter.unusedVariables false
set_option linter.unusedSimpArgs false

open Go.Pb.Bung
set_option maxRecDepth 100000 in
set_option maxHeartbeats 1000000 in
theorem rLean_any {w : World} {v : Value} {l : List Sg} {lo hi : Int} (h : RowsAt 8 w v (l.map rowG)) (hl : l.length ≤ 30) (hne : l ≠ []) (hs : ∀ s ∈ l, 0 ≤ s.hl ∧ s.hl ≤ 10000 ∧ 0 ≤ s.hh ∧ s.hh ≤ 10000) (ht : ∀ s ∈ l, 0 ≤ s.ti ∧ s.ti ≤ 200) (h1 : 0 ≤ lo ∧ lo ≤ 200) (h2 : 0 ≤ hi ∧ hi ≤ 200) :
    Calls Try.prog 93 #[.agg #[.int .i64 lo, .int .i64 hi, v]] w (Ret w (.int .i64 (lnA l hi))) := by
  unfold Ret
  obtain ⟨a, cap, rfl, hll⟩ := h.shape
  rw [List.length_map] at h hll ⊢
  have hpos : 0 < l.length := by cases l with | nil => exact absurd rfl hne | cons x y => simp
  obtain ⟨n, hn⟩ : ∃ n, l.length = n := ⟨_, rfl⟩
  have hcap := RowsAt.caps h
  rw [List.length_map] at hcap
  have HN : Hid (l.length = n) := hn
  rw [hn] at h hll hl hcap hpos ⊢
  obtain ⟨hcap1, hcap2⟩ := hcap
  have HS : Hid (∀ s ∈ l, 0 ≤ s.hl ∧ s.hl ≤ 10000 ∧ 0 ≤ s.hh ∧ s.hh ≤ 10000) := hs; have HT : Hid (∀ s ∈ l, 0 ≤ s.ti ∧ s.ti ≤ 200) := ht; have HL1 := hid h1; have HL2 := hid h2; clear hn hs ht h1 h2
  obtain ⟨z, hz⟩ : ∃ z, lnA l hi = z := ⟨_, rfl⟩
  rw [hz]
  have HZ := hid hz; clear hz
  go_enter Try.func93, Try.ntmps93
  go_upto_region 2 with fail
  generalize hW : World.alloc w _ = v1
  have y0 : CellsAt v1 w.heap.size [.int .i64 lo, .int .i64 hi, .slice a n cap] := by rw [← hW]; exact CellsAt.new w _ 26
  have hB1 : Below w.heap.size w v1 := by rw [← hW]; exact (Below.refl _ w).alloc (Nat.le_refl _) _
  clear hW
  go_wp2_with fail
  go_loopg [3, 4] (n - 1) (fun gk ov iv wr => ∃ k : Nat, 1 ≤ k ∧ k ≤ n ∧ gk = n - k ∧ ov = .int .i64 (offL l hi k) ∧ iv = .int .i64 k ∧ (0 ≤ offL l hi k ∧ offL l hi k ≤ 80000000 * k) ∧ CellsAt wr w.heap.size [.int .i64 lo, .int .i64 hi, .slice a n cap] ∧ Below w.heap.size w wr)
  case atStart => exact ⟨1, Nat.le_refl _, hpos, rfl, by simp [offL], rfl, by simp [offL], y0, hB1⟩
  case round =>
    clear y0 hB1
    obtain ⟨k, hk1, hk, hgk, rfl, rfl, hof, y0, hB⟩ := hrel
    have HGK := hid hgk; clear hgk
    have q0 := (y0 0 _ rfl).1; have q1 := (y0 1 _ rfl).1; have q2 := (y0 2 _ rfl).1
    by_cases hlt : k < n
    · have hki : (k : Int) < (n : Int) := by omega
      have hk0 : k ≠ 0 := by omega
      have hkl : k < l.length := by rw [HN.out]; exact hlt
      obtain ⟨s, hs⟩ : ∃ s, l[k]? = some s := ⟨_, List.getElem?_eq_getElem hkl⟩
      have hti := HT.out s (List.mem_of_getElem? hs)
      obtain ⟨a', ha, r0, hc, hi8⟩ := sg_row (by rw [HN.out]; exact h.below hB) hs
      subst ha
      obtain ⟨x, hx⟩ : ∃ x, offL l hi k = x := ⟨_, rfl⟩
      rw [hx] at hof ⊢
      have HS1 := hid hs; have HX := hid hx; clear hs hx hkl
      obtain ⟨sid, swl, swh, sbl, sbh, shl, shh, sti⟩ := s
      dsimp only at hti
      have r7 := hc 7 _ (by decide) rfl
      dsimp only at r7
      clear hc hi8 r0
      have hkp : (0 : Int) < (k : Int) := by omega
      have hkc : (k : Int) ≤ (cap : Int) := by omega
      have hkn : (k : Int) ≤ (n : Int) := by omega
      have T := rows_tail (k := k) (h.below hB) HN.out hlt
      have hld : (l.drop k).length = n - k := by rw [List.length_drop, HN.out]
      have hdne : l.drop k ≠ [] := by intro e; rw [e] at hld; simp at hld; omega
      have hsd : ∀ s ∈ l.drop k, 0 ≤ s.hl ∧ s.hl ≤ 10000 ∧ 0 ≤ s.hh ∧ s.hh ≤ 10000 := fun s hm => HS.out s (List.mem_of_mem_drop hm)
      have hsm := (hgt_small hsd HL1.out HL2.out (l.drop k).length).2.2
      obtain ⟨H, hH⟩ : ∃ H, hgtH (l.drop k) hi (l.drop k).length = H := ⟨_, rfl⟩
      obtain ⟨H2, hH2⟩ : ∃ H2, hgtL (l.drop k) lo (l.drop k).length = H2 := ⟨_, rfl⟩
      rw [hH] at hsm
      have hHb : 0 ≤ H ∧ H ≤ 400000 := by rw [hld] at hsm; omega
      have hmul := mul_small hti hHb
      have hnx := off_next (hi := hi) HS1.out hk0
      dsimp only at hnx
      rw [hH, HX.out] at hnx
      obtain ⟨pr, hpr⟩ : ∃ pr, sti * H = pr := ⟨_, rfl⟩
      rw [hpr] at hmul hnx
      have HNX := hid hnx; have HSD : Hid (∀ s ∈ l.drop k, 0 ≤ s.hl ∧ s.hl ≤ 10000 ∧ 0 ≤ s.hh ∧ s.hh ≤ 10000) := hsd; have HHH := hid hH; have HH2 := hid hH2; have HLD := hid hld; have T1 := hid T; have HPR := hid hpr; have HDN : Hid (l.drop k ≠ []) := hdne
      have hw1 : IntKind.i64.wrap pr = pr := IntWalk.i64_in _ (by omega)
      have hw2 : IntKind.i64.wrap (x + pr) = x + pr := IntWalk.i64_in _ (by omega)
      clear hnx hsd hH hH2 hld T hsm hdne
      go_upto_region 5 with fail
      refine wp_region_Rs [(7, NewCells wr.heap.size [.int .i64 0, .int .i64 0, .slice none 0 0])] [0, 1, 2, 3, 4, 5, 6, 7] 1 (by kernel_rfl) rfl (by simp only [List.forall_mem_cons]; exact ⟨keeps_new, fun _ h => by cases h⟩) (by kernel_rfl) ?_
      simp only [numbered, List.filterMap_cons, List.filterMap_nil, List.getElem?_toArray, List.getElem?_cons_succ, List.getElem?_cons_zero, Option.map_some]
      show wpS _ _ _ _ _ _ _ [(_, _), (_, _), (_, _), (_, _), (_, _), (_, _), (_, _), (_, _)] _ _
      (refine wpS_quiet rfl rfl ?_; intro K hK inst hx; have s0 := fun x => (fun _ => bkeep (BQ.below x) q0) (hx x); have s1 := fun x => (fun _ => bkeep (BQ.below x) q1) (hx x); have s2 := fun x => (fun _ => bkeep (BQ.below x) q2) (hx x); go_big_quiet_op; (first | go_big_quiet_on | (refine ⟨_, fun _ => rfl, ?_⟩; go_big_quiet_on)); clear hx inst)
      (refine wpS_quiet rfl rfl ?_; intro K hK inst hx; have s0 := fun x => (fun _ => bkeep (BQ.below x) q0) (hx x); have s1 := fun x => (fun _ => bkeep (BQ.below x) q1) (hx x); have s2 := fun x => (fun _ => bkeep (BQ.below x) q2) (hx x); go_big_quiet_op; (first | go_big_quiet_on | (refine ⟨_, fun _ => rfl, ?_⟩; go_big_quiet_on)); clear hx inst)
      (refine wpS_quiet rfl rfl ?_; intro K hK inst hx; have s0 := fun x => (fun _ => bkeep (BQ.below x) q0) (hx x); have s1 := fun x => (fun _ => bkeep (BQ.below x) q1) (hx x); have s2 := fun x => (fun _ => bkeep (BQ.below x) q2) (hx x); go_big_quiet_op; (first | go_big_quiet_on | (refine ⟨_, fun _ => rfl, ?_⟩; go_big_quiet_on)); clear hx inst)
      (refine wpS_quiet rfl rfl ?_; intro K hK inst hx; have s0 := fun x => (fun _ => bkeep (BQ.below x) q0) (hx x); have s1 := fun x => (fun _ => bkeep (BQ.below x) q1) (hx x); have s2 := fun x => (fun _ => bkeep (BQ.below x) q2) (hx x); go_big_quiet_op; (first | go_big_quiet_on | (refine ⟨_, fun _ => rfl, ?_⟩; go_big_quiet_on)); clear hx inst)
      (refine wpS_quiet rfl rfl ?_; intro K hK inst hx; have s0 := fun x => (fun _ => bkeep (BQ.below x) q0) (hx x); have s1 := fun x => (fun _ => bkeep (BQ.below x) q1) (hx x); have s2 := fun x => (fun _ => bkeep (BQ.below x) q2) (hx x); go_big_quiet_op; (first | go_big_quiet_on | (refine ⟨_, fun _ => rfl, ?_⟩; go_big_quiet_on)); clear hx inst)
      (refine wpS_quiet rfl rfl ?_; intro K hK inst hx; have s0 := fun x => (fun _ => bkeep (BQ.below x) q0) (hx x); have s1 := fun x => (fun _ => bkeep (BQ.below x) q1) (hx x); have s2 := fun x => (fun _ => bkeep (BQ.below x) q2) (hx x); go_big_quiet_op; (first | go_big_quiet_on | (refine ⟨_, fun _ => rfl, ?_⟩; go_big_quiet_on)); clear hx inst)
      (refine wpS_quiet rfl rfl ?_; intro K hK inst hx; have s0 := fun x => (fun _ => bkeep (BQ.below x) q0) (hx x); have s1 := fun x => (fun _ => bkeep (BQ.below x) q1) (hx x); have s2 := fun x => (fun _ => bkeep (BQ.below x) q2) (hx x); go_big_quiet_op; (first | go_big_quiet_on | (refine ⟨_, fun _ => rfl, ?_⟩; go_big_quiet_on)); clear hx inst)
      refine wpS_fresh rfl rfl (fun w' hb hF => ?_) ?_
      · change freshAt _ _ _ (NewCells wr.heap.size [.int .i64 0, .int .i64 0, .slice none 0 0]) _; unfold freshAt; go_simp; exact new_of hb
      intro v W hv; simp only [pOf, List.lookup_cons, Nat.reduceBEq, beq_self_eq_true] at hv; obtain ⟨B7, hB7, rfl, _⟩ := hv
      simp only [Act.put, List.setIfInBounds_toArray, List.set_cons_succ, List.set_cons_zero]
      refine wpS_nil ?_
      intro v3 hall
      have hb := hall.1
      have hN : NewCells wr.heap.size [.int .i64 0, .int .i64 0, .slice none 0 0] (.pointer (some ⟨B7, 0, none⟩)) v3 := hall.2 7 _ rfl
      obtain ⟨B', hB', hv', hn⟩ := hN
      obtain rfl : B7 = B' := by simpa using hv'
      have nB70 := (hn 0 _ rfl).1
      have mB70 := (hn 0 _ rfl).2
      have nB71 := (hn 1 _ rfl).1
      have mB71 := (hn 1 _ rfl).2
      have nB72 := (hn 2 _ rfl).1
      have mB72 := (hn 2 _ rfl).2
      clear hn hv'
      clear hall
      refine wpAny_ready (rs := [8]) (by kernel_rfl) (by simp) ?_
      refine AllReady.cons rfl (fun K hK => ?_) AllReady.nil
      go_simp
      refine hK _ _ ?_; clear hK K
      refine wpAny_done (by kernel_rfl) ?_ _
      skip
      have yt : CellsAt v3 B7 [.int .i64 0, .int .i64 0, .slice none 0 0] := (fun o u hu => by match o, hu with | 0, hu => (injection hu with hu; subst hu; exact ⟨nB70, mB70⟩) | 1, hu => (injection hu with hu; subst hu; exact ⟨nB71, mB71⟩) | 2, hu => (injection hu with hu; subst hu; exact ⟨nB72, mB72⟩) | o + 3, hu => simp at hu)
      have yb := cells_store (o := 2) (u := Value.slice (some (a'.add (k * 8))) (n - k) (cap - k)) (cells_store (o := 1) (u := .int .i64 hi) (cells_store (o := 0) (u := .int .i64 lo) yt))
      have hN : Below wr.heap.size wr _ := ((hb.setCell (p := ⟨B7, 0, none⟩) hB' (.int .i64 lo)).setCell (p := ⟨B7, 1, none⟩) hB' (.int .i64 hi)).setCell (p := ⟨B7, 2, none⟩) hB' (Value.slice (some (a'.add (k * 8))) (n - k) (cap - k))
      clear yt nB70 mB70 nB71 mB71 nB72 mB72 q0 q1 q2 hb
      generalize World.setCell _ _ _ = v4 at *
      replace y0 := y0.below hN
      replace hB := bnext (w := w) hB hN
      replace r7 := bkeep hN r7
      have T2 := T1.out.below hN
      clear hN
      have q2 := (y0 2 _ rfl).1
      have b0 := (yb 0 _ rfl).1; have b1 := (yb 1 _ rfl).1; have b2 := (yb 2 _ rfl).1
      skip
      go_upto_region 6 with fail
      refine wp_region_Rs [(8, fun v _ => v = .agg #[.int .i64 H2, .int .i64 H]), (9, fun v _ => v = .int .i64 H), (10, fun v _ => v = .int .i64 pr), (11, fun v _ => v = .int .i64 (x + pr))] [0, 1, 2, 3, 4, 5, 6, 7, 8, 9, 10, 11, 12] 0 (by kernel_rfl) rfl (by simp only [List.forall_mem_cons]; exact ⟨keeps_eq, keeps_eq, keeps_eq, keeps_eq, fun _ h => by cases h⟩) (by kernel_rfl) ?_
      simp only [numbered, List.filterMap_cons, List.filterMap_nil, List.getElem?_toArray, List.getElem?_cons_succ, List.getElem?_cons_zero, Option.map_some]
      show wpS _ _ _ _ _ _ _ [(_, _), (_, _), (_, _), (_, _), (_, _), (_, _), (_, _), (_, _), (_, _), (_, _), (_, _), (_, _), (_, _)] _ _
      (refine wpS_quiet rfl rfl ?_; intro K hK inst hx; have s0 := fun x => (fun _ => bkeep (BQ.below x) q2) (hx x); have s1 := fun x => (fun _ => bkeep (BQ.below x) r7) (hx x); have s2 := fun x => (fun _ => bkeep (BQ.below x) b0) (hx x); have s3 := fun x => (fun _ => bkeep (BQ.below x) b1) (hx x); have s4 := fun x => (fun _ => bkeep (BQ.below x) b2) (hx x); go_big_quiet_op; (first | go_big_quiet_on | (refine ⟨_, fun _ => rfl, ?_⟩; go_big_quiet_on)); clear hx inst)
      (refine wpS_quiet rfl rfl ?_; intro K hK inst hx; have s0 := fun x => (fun _ => bkeep (BQ.below x) q2) (hx x); have s1 := fun x => (fun _ => bkeep (BQ.below x) r7) (hx x); have s2 := fun x => (fun _ => bkeep (BQ.below x) b0) (hx x); have s3 := fun x => (fun _ => bkeep (BQ.below x) b1) (hx x); have s4 := fun x => (fun _ => bkeep (BQ.below x) b2) (hx x); go_big_quiet_op; (first | go_big_quiet_on | (refine ⟨_, fun _ => rfl, ?_⟩; go_big_quiet_on)); clear hx inst)
      (refine wpS_quiet rfl rfl ?_; intro K hK inst hx; have s0 := fun x => (fun _ => bkeep (BQ.below x) q2) (hx x); have s1 := fun x => (fun _ => bkeep (BQ.below x) r7) (hx x); have s2 := fun x => (fun _ => bkeep (BQ.below x) b0) (hx x); have s3 := fun x => (fun _ => bkeep (BQ.below x) b1) (hx x); have s4 := fun x => (fun _ => bkeep (BQ.below x) b2) (hx x); go_big_quiet_op; (first | go_big_quiet_on | (refine ⟨_, fun _ => rfl, ?_⟩; go_big_quiet_on)); clear hx inst)
      (refine wpS_quiet rfl rfl ?_; intro K hK inst hx; have s0 := fun x => (fun _ => bkeep (BQ.below x) q2) (hx x); have s1 := fun x => (fun _ => bkeep (BQ.below x) r7) (hx x); have s2 := fun x => (fun _ => bkeep (BQ.below x) b0) (hx x); have s3 := fun x => (fun _ => bkeep (BQ.below x) b1) (hx x); have s4 := fun x => (fun _ => bkeep (BQ.below x) b2) (hx x); go_big_quiet_op; (first | go_big_quiet_on | (refine ⟨_, fun _ => rfl, ?_⟩; go_big_quiet_on)); clear hx inst)
      (refine wpS_quiet rfl rfl ?_; intro K hK inst hx; have s0 := fun x => (fun _ => bkeep (BQ.below x) q2) (hx x); have s1 := fun x => (fun _ => bkeep (BQ.below x) r7) (hx x); have s2 := fun x => (fun _ => bkeep (BQ.below x) b0) (hx x); have s3 := fun x => (fun _ => bkeep (BQ.below x) b1) (hx x); have s4 := fun x => (fun _ => bkeep (BQ.below x) b2) (hx x); go_big_quiet_op; (first | go_big_quiet_on | (refine ⟨_, fun _ => rfl, ?_⟩; go_big_quiet_on)); clear hx inst)
      (refine wpS_quiet rfl rfl ?_; intro K hK inst hx; have s0 := fun x => (fun _ => bkeep (BQ.below x) q2) (hx x); have s1 := fun x => (fun _ => bkeep (BQ.below x) r7) (hx x); have s2 := fun x => (fun _ => bkeep (BQ.below x) b0) (hx x); have s3 := fun x => (fun _ => bkeep (BQ.below x) b1) (hx x); have s4 := fun x => (fun _ => bkeep (BQ.below x) b2) (hx x); go_big_quiet_op; (first | go_big_quiet_on | (refine ⟨_, fun _ => rfl, ?_⟩; go_big_quiet_on)); clear hx inst)
      (refine wpS_quiet rfl rfl ?_; intro K hK inst hx; have s0 := fun x => (fun _ => bkeep (BQ.below x) q2) (hx x); have s1 := fun x => (fun _ => bkeep (BQ.below x) r7) (hx x); have s2 := fun x => (fun _ => bkeep (BQ.below x) b0) (hx x); have s3 := fun x => (fun _ => bkeep (BQ.below x) b1) (hx x); have s4 := fun x => (fun _ => bkeep (BQ.below x) b2) (hx x); go_big_quiet_op; (first | go_big_quiet_on | (refine ⟨_, fun _ => rfl, ?_⟩; go_big_quiet_on)); clear hx inst)
      (refine wpS_quiet rfl rfl ?_; intro K hK inst hx; have s0 := fun x => (fun _ => bkeep (BQ.below x) q2) (hx x); have s1 := fun x => (fun _ => bkeep (BQ.below x) r7) (hx x); have s2 := fun x => (fun _ => bkeep (BQ.below x) b0) (hx x); have s3 := fun x => (fun _ => bkeep (BQ.below x) b1) (hx x); have s4 := fun x => (fun _ => bkeep (BQ.below x) b2) (hx x); go_big_quiet_op; (first | go_big_quiet_on | (refine ⟨_, fun _ => rfl, ?_⟩; go_big_quiet_on)); clear hx inst)
      refine wpS_fresh rfl rfl (fun w' hb hF => ?_) ?_
      · change freshAt _ _ _ (fun v _ => v = .agg #[.int .i64 H2, .int .i64 H]) _; unfold freshAt; go_simp; exact rHeight_any (T2.below hb) (by rw [HLD.out]; omega) HDN.out HSD.out HL1.out HL2.out HH2.out HHH.out
      intro v W hv; simp only [pOf, List.lookup_cons, Nat.reduceBEq, beq_self_eq_true] at hv; subst hv
      simp only [Act.put, List.setIfInBounds_toArray, List.set_cons_succ, List.set_cons_zero]
      refine wpS_fresh rfl rfl (fun w' hb hF => ?_) ?_
      · change freshAt _ _ _ (fun v _ => v = .int .i64 H) _; unfold freshAt; go_simp; (first | exact Below.refl _ _ | exact ⟨Below.refl _ _, rfl⟩ | simp [*, Below.refl, HPR.out])
      intro v W hv; simp only [pOf, List.lookup_cons, Nat.reduceBEq, beq_self_eq_true] at hv; subst hv
      simp only [Act.put, List.setIfInBounds_toArray, List.set_cons_succ, List.set_cons_zero]
      refine wpS_fresh rfl rfl (fun w' hb hF => ?_) ?_
      · change freshAt _ _ _ (fun v _ => v = .int .i64 pr) _; unfold freshAt; go_simp; (first | exact Below.refl _ _ | exact ⟨Below.refl _ _, rfl⟩ | simp [*, Below.refl, HPR.out])
      intro v W hv; simp only [pOf, List.lookup_cons, Nat.reduceBEq, beq_self_eq_true] at hv; subst hv
      simp only [Act.put, List.setIfInBounds_toArray, List.set_cons_succ, List.set_cons_zero]
      refine wpS_fresh rfl rfl (fun w' hb hF => ?_) ?_
      · change freshAt _ _ _ (fun v _ => v = .int .i64 (x + pr)) _; unfold freshAt; go_simp; (first | exact Below.refl _ _ | exact ⟨Below.refl _ _, rfl⟩ | simp [*, Below.refl, HPR.out])
      intro v W hv; simp only [pOf, List.lookup_cons, Nat.reduceBEq, beq_self_eq_true] at hv; subst hv
      simp only [Act.put, List.setIfInBounds_toArray, List.set_cons_succ, List.set_cons_zero]
      (refine wpS_quiet rfl rfl ?_; intro K hK inst hx; have s0 := fun x => (fun _ => bkeep (BQ.below x) q2) (hx x); have s1 := fun x => (fun _ => bkeep (BQ.below x) r7) (hx x); have s2 := fun x => (fun _ => bkeep (BQ.below x) b0) (hx x); have s3 := fun x => (fun _ => bkeep (BQ.below x) b1) (hx x); have s4 := fun x => (fun _ => bkeep (BQ.below x) b2) (hx x); go_big_quiet_op; (first | go_big_quiet_on | (refine ⟨_, fun _ => rfl, ?_⟩; go_big_quiet_on)); clear hx inst)
      refine wpS_nil ?_
      intro v5 hall
      have hb := hall.1
      clear hall
      refine wpAny_done (by kernel_rfl) ?_ _
      replace y0 := y0.below hb
      replace hB := bnext (w := w) hB hb
      clear q2 r7 b0 b1 b2 yb hb T2
      go_wp2_with fail
      go_roundg (n - (k + 1))
      case measure => have h := HGK.out; omega
      case rel => exact ⟨k + 1, by omega, by omega, rfl, by rw [HNX.out], by go_num, by rw [HNX.out]; omega, y0, hB⟩
    · obtain rfl : k = n := by omega
      obtain ⟨x, hx⟩ : ∃ x, offL l hi k = x := ⟨_, rfl⟩
      have hzz : (x + 999) / 1000 = z := by rw [← HZ.out]; unfold lnA; rw [HN.out, hx]
      rw [hx] at hof ⊢
      have HZZ := hid hzz; clear hx hzz
      go_wp2_with fail
      refine (rUpB hof.1 (by omega)).mono ?_
      rw [HZZ.out]
      rintro e w1 ⟨rfl, hb⟩
      replace hB := bnext (w := w) hB hb
      go_wp2_with fail
      go_ret
      exact ⟨rfl, hB⟩

theorem rHeight_at {w : World} {v : Value} {l : List Sg} {lo hi : Int} (h : RowsAt 8 w v (l.map rowG)) (hne : l ≠ []) (hk : listOk l = true) (h1 : 0 ≤ lo ∧ lo ≤ 200) (h2 : 0 ≤ hi ∧ hi ≤ 200) {x y : Int} (hx : hgtL l lo l.length = x) (hy : hgtH l hi l.length = y) : Calls Try.prog 91 #[.agg #[.int .i64 lo, .int .i64 hi, v]] w (Ret w (.agg #[.int .i64 x, .int .i64 y])) := rHeight_any h (listOk_len hk) hne (sg_highs hk) h1 h2 hx hy
theorem rStands_at {w : World} {v : Value} {l : List Sg} {lo hi : Int} (h : RowsAt 8 w v (l.map rowG)) (hne : l ≠ []) (hk : listOk l = true) (h1 : 0 ≤ lo ∧ lo ≤ 200) (h2 : 0 ≤ hi ∧ hi ≤ 200) {x : Int} (hx : stA l = x) : Calls Try.prog 89 #[v] w (Ret w (.int .i64 x)) := rStands_any h (listOk_len hk) (sg_bounds hk) hx
theorem rLean_at {w : World} {v : Value} {l : List Sg} {lo hi : Int} (h : RowsAt 8 w v (l.map rowG)) (hne : l ≠ []) (hk : listOk l = true) (h1 : 0 ≤ lo ∧ lo ≤ 200) (h2 : 0 ≤ hi ∧ hi ≤ 200) {x : Int} (hx : lnA l hi = x) : Calls Try.prog 93 #[.agg #[.int .i64 lo, .int .i64 hi, v]] w (Ret w (.int .i64 x)) := by
  subst hx; exact rLean_any h (listOk_len hk) hne (sg_highs hk) (sg_tilts hk) h1 h2
set_option maxRecDepth 100000 in
set_option maxHeartbeats 1000000 in
theorem rFits_any {w : World} {v : Value} {l : List Sg} {lo hi : Int} (h : RowsAt 8 w v (l.map rowG)) (hne : l ≠ []) (hk : listOk l = true) (h1 : 0 ≤ lo ∧ lo ≤ 200) (h2 : 0 ≤ hi ∧ hi ≤ 200) {cr le r : Int} (hr : fitA lo hi l cr le = r) :
    Calls Try.prog 95 #[.agg #[.int .i64 lo, .int .i64 hi, v], .agg #[.int .i64 cr, .int .i64 le]] w (Ret w (.int .i64 r)) := by
  unfold Ret
  obtain ⟨a, cap, rfl, hll⟩ := h.shape
  rw [List.length_map] at h hll ⊢
  obtain ⟨n, hn⟩ : ∃ n, l.length = n := ⟨_, rfl⟩
  obtain ⟨x, hx⟩ : ∃ x, hgtL l lo l.length = x := ⟨_, rfl⟩
  obtain ⟨y, hy⟩ : ∃ y, hgtH l hi l.length = y := ⟨_, rfl⟩
  obtain ⟨st, hst⟩ : ∃ y, stA l = y := ⟨_, rfl⟩
  obtain ⟨ln, hln⟩ : ∃ y, lnA l hi = y := ⟨_, rfl⟩
  have h3 := stA_three l
  rw [hst] at h3
  have hr2 : (if x > cr ∨ st = 0 then 0 else if y ≤ cr ∧ ln ≤ le ∧ st = 1 then 1 else 2) = r := by rw [← hr]; unfold fitA; rw [hx, hy, hst, hln]
  have HX : Hid _ := hx; have HY : Hid _ := hy; have HST : Hid _ := hst; have HLN : Hid _ := hln; have HK : Hid _ := hk; have HL1 := hid h1; have HL2 := hid h2; have HR : Hid _ := hr2; have HNE : Hid (l ≠ []) := hne; clear hx hy hst hln hk h1 h2 hr hr2 hne
  rw [hn] at h hll ⊢
  clear hn
  go_enter Try.func95, Try.ntmps95
  go_wp2_with fail
  refine (rHeight_at (h.below (by go_grown)) HNE.out HK.out HL1.out HL2.out HX.out HY.out).mono ?_
  rintro e w1 ⟨rfl, hb⟩
  replace hb0 := bnext (w := w) (by go_grown) hb; have hz := hb.size; (try simp only [World.size_alloc, World.size_setCell] at hz); replace q0 : w1.cell? ⟨w.heap.size, 0, none⟩ = some (.int .i64 lo) := bkeep hb (by first | (with_reducible exact q0) | (with_reducible exact akeep q0) | simp [*, go_sem]); replace q1 : w1.cell? ⟨w.heap.size, 1, none⟩ = some (.int .i64 hi) := bkeep hb (by first | (with_reducible exact q1) | (with_reducible exact akeep q1) | simp [*, go_sem]); replace q2 : w1.cell? ⟨w.heap.size, 2, none⟩ = some (.slice a n cap) := bkeep hb (by first | (with_reducible exact q2) | (with_reducible exact akeep q2) | simp [*, go_sem]); replace q3 : w1.cell? ⟨w.heap.size + 1, 0, none⟩ = some (.int .i64 cr) := bkeep hb (by first | (with_reducible exact q3) | (with_reducible exact akeep q3) | simp [*, go_sem]); replace q4 : w1.cell? ⟨w.heap.size + 1, 1, none⟩ = some (.int .i64 le) := bkeep hb (by first | (with_reducible exact q4) | (with_reducible exact akeep q4) | simp [*, go_sem]); skip
  clear hb
  go_upto_region 2 with fail
  generalize hW : World.alloc w1 _ = v2
  have y1 : CellsAt v2 w1.heap.size [.int .i64 x, .int .i64 y] := by rw [← hW]; exact CellsAt.new w1 [.int .i64 x, .int .i64 y] 23
  have hN : Below w1.heap.size w1 v2 := by rw [← hW]; exact (Below.refl _ _).alloc (Nat.le_refl _) _
  replace q0 := bkeep hN q0
  replace q1 := bkeep hN q1
  replace q2 := bkeep hN q2
  replace q3 := bkeep hN q3
  replace q4 := bkeep hN q4
  replace hb0 := bnext (w := w) hb0 hN
  clear hW hN
  go_wp2_with fail
  refine (rStands_at (h.below hb0) HNE.out HK.out HL1.out HL2.out HST.out).mono ?_
  rintro e w3 ⟨rfl, hb⟩
  replace q0 := bkeep hb q0
  replace q1 := bkeep hb q1
  replace q2 := bkeep hb q2
  replace q3 := bkeep hb q3
  replace q4 := bkeep hb q4
  replace y1 := y1.below hb
  replace hb0 := bnext (w := w) hb0 hb
  clear hb
  have t0 := (y1 0 _ rfl).1; have t1 := (y1 1 _ rfl).1
  by_cases hxc : x > cr
  · have HV := hid (show r = 0 by rw [← HR.out]; rw [if_pos (.inl hxc)])
    have hxl : cr < x := hxc
    go_wp2_with fail
    have hv := HV.out
    subst hv
    go_ret
    exact ⟨rfl, hb0⟩
  · have hxl : ¬ cr < x := hxc
    rcases h3 with hs0 | hs12
    · subst hs0
      have HV := hid (show r = 0 by rw [← HR.out]; rw [if_pos (.inr rfl)])
      go_wp2_with fail
      have hv := HV.out
      subst hv
      go_ret
      exact ⟨rfl, hb0⟩
    · have hsn : ¬ st = 0 := by omega
      have hsb : (st == 0) = false := beq_eq_false_iff_ne.mpr hsn
      have HIF := hid (HR.out.symm.trans (if_neg (show ¬ (x > cr ∨ st = 0) from fun e => e.elim hxc hsn)))
      have h0 := h.below hb0
      by_cases hyc : y ≤ cr
      · have hyd : decide (y ≤ cr) = true := decide_eq_true hyc
        by_cases hle : ln ≤ le
        · have hld : decide (ln ≤ le) = true := decide_eq_true hle
          by_cases hs1 : st = 1
          · subst hs1
            have HV := hid (show r = 1 by rw [HIF.out]; rw [if_pos ⟨hyc, hle, rfl⟩])
            go_upto_region 5 with fail
            have x0 := fun z : BW w3 => bkeep z.below q0
            have x1 := fun z : BW w3 => bkeep z.below q1
            have x2 := fun z : BW w3 => bkeep z.below q2
            have x3 := fun z : BW w3 => bkeep z.below q3
            have x4 := fun z : BW w3 => bkeep z.below q4
            have x5 := fun z : BW w3 => bkeep z.below t0
            have x6 := fun z : BW w3 => bkeep z.below t1
            refine wp_region_qb (by kernel_rfl) (by kernel_rfl) fun hc => ?_
            repeat (go_big_quiet_step ((go_at_call 93; exact BW.call _ (rLean_at (h0.below (BW.below _)) HNE.out HK.out HL1.out HL2.out HLN.out))))
            refine wpQuiet_nil ?_
            intro w4 hb
            replace hb0 := bnext (w := w) hb0 hb
            go_wp2_with fail
            have hv := HV.out
            subst hv
            go_ret
            exact ⟨rfl, hb0⟩
          · have hs1b : (st == 1) = false := beq_eq_false_iff_ne.mpr hs1
            have HV := hid (show r = 2 by rw [HIF.out]; rw [if_neg (fun e => hs1 e.2.2)])
            go_upto_region 5 with fail
            have x0 := fun z : BW w3 => bkeep z.below q0
            have x1 := fun z : BW w3 => bkeep z.below q1
            have x2 := fun z : BW w3 => bkeep z.below q2
            have x3 := fun z : BW w3 => bkeep z.below q3
            have x4 := fun z : BW w3 => bkeep z.below q4
            have x5 := fun z : BW w3 => bkeep z.below t0
            have x6 := fun z : BW w3 => bkeep z.below t1
            refine wp_region_qb (by kernel_rfl) (by kernel_rfl) fun hc => ?_
            repeat (go_big_quiet_step ((go_at_call 93; exact BW.call _ (rLean_at (h0.below (BW.below _)) HNE.out HK.out HL1.out HL2.out HLN.out))))
            refine wpQuiet_nil ?_
            intro w4 hb
            replace hb0 := bnext (w := w) hb0 hb
            go_wp2_with fail
            have hv := HV.out
            subst hv
            go_ret
            exact ⟨rfl, hb0⟩
        · have hld : decide (ln ≤ le) = false := decide_eq_false hle
          have HV := hid (show r = 2 by rw [HIF.out]; rw [if_neg (fun e => hle e.2.1)])
          go_upto_region 5 with fail
          have x0 := fun z : BW w3 => bkeep z.below q0
          have x1 := fun z : BW w3 => bkeep z.below q1
          have x2 := fun z : BW w3 => bkeep z.below q2
          have x3 := fun z : BW w3 => bkeep z.below q3
          have x4 := fun z : BW w3 => bkeep z.below q4
          have x5 := fun z : BW w3 => bkeep z.below t0
          have x6 := fun z : BW w3 => bkeep z.below t1
          refine wp_region_qb (by kernel_rfl) (by kernel_rfl) fun hc => ?_
          repeat (go_big_quiet_step ((go_at_call 93; exact BW.call _ (rLean_at (h0.below (BW.below _)) HNE.out HK.out HL1.out HL2.out HLN.out))))
          refine wpQuiet_nil ?_
          intro w4 hb
          replace hb0 := bnext (w := w) hb0 hb
          go_wp2_with fail
          have hv := HV.out
          subst hv
          go_ret
          exact ⟨rfl, hb0⟩
      · have hyd : decide (y ≤ cr) = false := decide_eq_false hyc
        have HV := hid (show r = 2 by rw [HIF.out]; rw [if_neg (fun e => hyc e.1)])
        go_upto_region 5 with fail
        have x0 := fun z : BW w3 => bkeep z.below q0
        have x1 := fun z : BW w3 => bkeep z.below q1
        have x2 := fun z : BW w3 => bkeep z.below q2
        have x3 := fun z : BW w3 => bkeep z.below q3
        have x4 := fun z : BW w3 => bkeep z.below q4
        have x5 := fun z : BW w3 => bkeep z.below t0
        have x6 := fun z : BW w3 => bkeep z.below t1
        refine wp_region_qb (by kernel_rfl) (by kernel_rfl) fun hc => ?_
        repeat (go_big_quiet_step ((go_at_call 93; exact BW.call _ (rLean_at (h0.below (BW.below _)) HNE.out HK.out HL1.out HL2.out HLN.out))))
        refine wpQuiet_nil ?_
        intro w4 hb
        replace hb0 := bnext (w := w) hb0 hb
        go_wp2_with fail
        have hv := HV.out
        subst hv
        go_ret
        exact ⟨rfl, hb0⟩

end Go.Proofs.Ytnchhleokdkejaa

/- Whether saggars do at a spot, by the reference. -/
namespace Go.Proofs.Ytnchhleokdkejaa
open Go.RowKit Go.Pb Go.Pb.Ware Go.Pb.Sag
set_option linter.unusedVariables false
set_option linter.unusedSimpArgs false

open Go.Proofs Go.Pb.Bung
theorem keeps_nums {zs : List Int} : Keeps (fun v w => NumsAt w v zs) := fun _ _ _ h hb => h.below hb
theorem nums_shape {w : World} {v : Value} {zs : List Int} {m : Nat} (h : NumsAt w v zs) (hm : zs.length = m) : ∃ a c, v = .slice a m c := by
  obtain ⟨a, c, e, -⟩ := h.shape
  exact ⟨a, c, by rw [e, hm]⟩
theorem chosenG_length (l : List Sg) (zs : List Int) : (chosenG l zs).length = zs.length := List.length_map ..

set_option maxRecDepth 100000 in
set_option maxHeartbeats 800000 in
theorem rDoes_any {w : World} {v u : Value} {l : List Sg} {g : List Int} {lo hi cr le : Int} {b : Bool} (h : RowsAt 8 w v (l.map rowG)) (hk : listOk l = true) (h1 : 0 ≤ lo ∧ lo ≤ 200) (h2 : 0 ≤ hi ∧ hi ≤ 200) (hu : NumsAt w u g) (hz : ∀ z ∈ g, 0 ≤ z ∧ z < (l.length : Int)) (hd : g.Pairwise (· ≠ ·)) (hgn : g.length ≤ 30) (hgne : g ≠ []) (hb9 : doesB lo hi l cr le g = b) :
    Calls Try.prog 139 #[.agg #[.int .i64 lo, .int .i64 hi, u], v, .agg #[.int .i64 cr, .int .i64 le]] w (Ret w (.bool b)) := by
  unfold Ret
  obtain ⟨ua, uc, rfl, hul, huc⟩ := hu.shape
  obtain ⟨a, cap, rfl, hll⟩ := h.shape
  rw [List.length_map] at h hll ⊢
  have hl := (listOk_iff.1 hk).1
  have hkc := listOk_chosen hk hz hd hgn
  have hkr := listOk_ruled hkc
  have hi1 := i64_chosen (zs := g) (i64_rows h)
  have hi2 := fun (w' : World) (x : Value) (hr1 : RowsAt 8 w' x ((chosenG l g).map rowG)) => i64_chosen (zs := ruleL (chosenG l g)) (i64_rows hr1)
  obtain ⟨r, hr⟩ : ∃ r, fitA lo hi (ruledL (chosenG l g)) cr le = r := ⟨_, rfl⟩
  have hbr : b = decide (r = 1) := by rw [← hb9, ← hr]; rfl
  clear hb9
  subst hbr
  have hrn : ruledL (chosenG l g) ≠ [] := by intro e; have h3 := ruledL_length (chosenG l g); rw [e, chosenG_length] at h3; exact hgne (List.eq_nil_of_length_eq_zero h3.symm)
  obtain ⟨cg, hcg⟩ : ∃ cg, chosenG l g = cg := ⟨_, rfl⟩
  have hcl : cg.length = g.length := by rw [← hcg, chosenG_length]
  rw [hcg] at hkc hkr hr hrn hi1 hi2
  have hrl := ruleL_length cg
  have hri := ruleL_in cg
  obtain ⟨n, hn⟩ : ∃ n, l.length = n := ⟨_, rfl⟩
  obtain ⟨m, hm⟩ : ∃ m, g.length = m := ⟨_, rfl⟩
  have HN : Hid (l.length = n) := hn
  have HM : Hid (g.length = m) := hm
  have HCG : Hid (chosenG l g = cg) := hcg
  have HCL : Hid (cg.length = m) := hcl.trans hm
  have HR : Hid (fitA lo hi (ruledL cg) cr le = r) := hr
  have HKC : Hid (listOk cg = true) := hkc; have HKR : Hid (listOk (ruledL cg) = true) := hkr
  have HRN : Hid (ruledL cg ≠ []) := hrn
  have HI1 : Hid (∀ s ∈ cg, ∀ z ∈ rowG s, I64 z) := hi1; have HI2 := hid hi2
  have HRL : Hid ((ruleL cg).length = m) := hrl.trans (hcl.trans hm)
  have HRI : Hid (∀ z ∈ ruleL cg, 0 ≤ z ∧ z < (cg.length : Int)) := hri
  have HZ : Hid (∀ z ∈ g, 0 ≤ z ∧ z < (n : Int)) := by rw [← hn]; exact hz
  have HL1 := hid h1; have HL2 := hid h2
  rw [hn] at h hll hl ⊢
  rw [hm] at hu hgn ⊢
  (try rw [hm] at hul)
  (try rw [hm] at huc)
  clear hn hm hr hcg hcl hkc hkr hrn hi1 hi2 hrl hri hz hd hk hgne h1 h2
  go_enter Try.func139, Try.ntmps139
  go_upto_region 1 with fail
  generalize hW : World.alloc (World.alloc w _) _ = v1
  have y0 : CellsAt v1 w.heap.size [.int .i64 lo, .int .i64 hi, .slice ua m uc] := by rw [← hW]; exact (CellsAt.new w [.int .i64 lo, .int .i64 hi, .slice ua m uc] 64).alloc _
  have y1 : CellsAt v1 (w.heap.size + 1) [.int .i64 cr, .int .i64 le] := by rw [← hW]; have h := CellsAt.new (w.alloc (.cells #[.int .i64 lo, .int .i64 hi, .slice ua m uc] 64)) [.int .i64 cr, .int .i64 le] 28; rwa [World.size_alloc] at h
  have hB : Below w.heap.size w v1 := by rw [← hW]; exact ((Below.refl _ w).alloc (Nat.le_refl _) _).alloc (by simp) _
  clear hW
  have q0 := (y0 0 _ rfl).1; have q1 := (y0 1 _ rfl).1; have q2 := (y0 2 _ rfl).1; have p0 := (y1 0 _ rfl).1; have p1 := (y1 1 _ rfl).1
  go_wp2_with fail
  refine (rSome_any (l := l) (zs := g) (h.below hB) (by rw [HN.out]; omega) (hu.below hB) (by rw [HM.out]; omega) (by rw [HN.out]; exact HZ.out)).mono ?_
  unfold NewSgs
  rw [HCG.out, HCL.out]
  rintro e v2 ⟨x, rfl, hb, ho⟩
  have hr1 := rows_of_owns (l := cg) (by rw [HCL.out]; exact ho) HI1.out
  obtain ⟨xa, xc, rfl, -⟩ := owns_shape ho
  replace y0 := y0.below hb; replace y1 := y1.below hb
  replace hB := bnext (w := w) hB hb
  clear hb ho q0 q1 q2 p0 p1
  have q0 := (y0 0 _ rfl).1; have q1 := (y0 1 _ rfl).1; have q2 := (y0 2 _ rfl).1; have p0 := (y1 0 _ rfl).1; have p1 := (y1 1 _ rfl).1
  go_upto_region 2 with fail
  refine wp_region_Rs [(4, fun v W => NumsAt W v (ruleL cg)), (5, fun v W => W.ownsRow v2.heap.size 33 8 v m ((chosenG cg (ruleL cg)).flatMap cellsG)), (8, fun v _ => v = .int .i64 r), (9, fun v _ => v = .bool (decide (r = 1)))] [0, 1, 2, 3, 4, 5, 6, 7, 8, 9] 1 (by kernel_rfl) rfl (by simp only [List.forall_mem_cons]; exact ⟨keeps_nums, keeps_owns, keeps_eq, keeps_eq, fun _ h => by cases h⟩) (by kernel_rfl) ?_
  simp only [numbered, List.filterMap_cons, List.filterMap_nil, List.getElem?_toArray, List.getElem?_cons_succ, List.getElem?_cons_zero, Option.map_some]
  show wpS _ _ _ _ _ _ _ [(_, _), (_, _), (_, _), (_, _), (_, _), (_, _), (_, _), (_, _), (_, _), (_, _)] _ _
  (refine wpS_quiet rfl rfl ?_; intro K hK inst hx; have s0 := fun x => (fun _ => bkeep (BQ.below x) q0) (hx x); have s1 := fun x => (fun _ => bkeep (BQ.below x) q1) (hx x); have s2 := fun x => (fun _ => bkeep (BQ.below x) q2) (hx x); have s3 := fun x => (fun _ => bkeep (BQ.below x) p0) (hx x); have s4 := fun x => (fun _ => bkeep (BQ.below x) p1) (hx x); go_big_quiet_op; (first | go_big_quiet_on | (refine ⟨_, fun _ => rfl, ?_⟩; go_big_quiet_on)); clear hx inst)
  (refine wpS_quiet rfl rfl ?_; intro K hK inst hx; have s0 := fun x => (fun _ => bkeep (BQ.below x) q0) (hx x); have s1 := fun x => (fun _ => bkeep (BQ.below x) q1) (hx x); have s2 := fun x => (fun _ => bkeep (BQ.below x) q2) (hx x); have s3 := fun x => (fun _ => bkeep (BQ.below x) p0) (hx x); have s4 := fun x => (fun _ => bkeep (BQ.below x) p1) (hx x); go_big_quiet_op; (first | go_big_quiet_on | (refine ⟨_, fun _ => rfl, ?_⟩; go_big_quiet_on)); clear hx inst)
  (refine wpS_quiet rfl rfl ?_; intro K hK inst hx; have s0 := fun x => (fun _ => bkeep (BQ.below x) q0) (hx x); have s1 := fun x => (fun _ => bkeep (BQ.below x) q1) (hx x); have s2 := fun x => (fun _ => bkeep (BQ.below x) q2) (hx x); have s3 := fun x => (fun _ => bkeep (BQ.below x) p0) (hx x); have s4 := fun x => (fun _ => bkeep (BQ.below x) p1) (hx x); go_big_quiet_op; (first | go_big_quiet_on | (refine ⟨_, fun _ => rfl, ?_⟩; go_big_quiet_on)); clear hx inst)
  (refine wpS_quiet rfl rfl ?_; intro K hK inst hx; have s0 := fun x => (fun _ => bkeep (BQ.below x) q0) (hx x); have s1 := fun x => (fun _ => bkeep (BQ.below x) q1) (hx x); have s2 := fun x => (fun _ => bkeep (BQ.below x) q2) (hx x); have s3 := fun x => (fun _ => bkeep (BQ.below x) p0) (hx x); have s4 := fun x => (fun _ => bkeep (BQ.below x) p1) (hx x); go_big_quiet_op; (first | go_big_quiet_on | (refine ⟨_, fun _ => rfl, ?_⟩; go_big_quiet_on)); clear hx inst)
  refine wpS_fresh rfl rfl (fun w' hb hF => ?_) ?_
  · change freshAt _ _ _ (fun v W => NumsAt W v (ruleL cg)) _; unfold freshAt; go_simp; exact (rRule_any (hr1.below hb) HKC.out).mono (fun e W' ⟨u, he, hb', hu⟩ => ⟨u, he, hb', hu⟩)
  intro v W hv; simp only [pOf, List.lookup_cons, Nat.reduceBEq, beq_self_eq_true] at hv; obtain ⟨za, zc, rfl⟩ := nums_shape hv HRL.out
  simp only [Act.put, List.setIfInBounds_toArray, List.set_cons_succ, List.set_cons_zero]
  refine wpS_fresh rfl rfl (fun w' hb hF => ?_) ?_
  · change freshAt _ _ _ (fun v W => W.ownsRow v2.heap.size 33 8 v m ((chosenG cg (ruleL cg)).flatMap cellsG)) _; have h4 : NumsAt w' _ (ruleL cg) := hF 4 _ rfl (by kernel_rfl); unfold freshAt; go_simp; exact (rSome_any (l := cg) (zs := ruleL cg) (hr1.below hb) (by rw [HCL.out]; omega) h4 (by rw [HRL.out]; omega) HRI.out).mono (fun e W' ⟨v, he, hb', ho⟩ => ⟨v, he, hb', owns_base hb.size (by rw [chosenG_length, HRL.out] at ho; exact ho)⟩)
  intro v W hv; simp only [pOf, List.lookup_cons, Nat.reduceBEq, beq_self_eq_true] at hv; obtain ⟨ga, gc, rfl, -⟩ := owns_shape hv
  simp only [Act.put, List.setIfInBounds_toArray, List.set_cons_succ, List.set_cons_zero]
  (refine wpS_quiet rfl rfl ?_; intro K hK inst hx; have s0 := fun x => (fun _ => bkeep (BQ.below x) q0) (hx x); have s1 := fun x => (fun _ => bkeep (BQ.below x) q1) (hx x); have s2 := fun x => (fun _ => bkeep (BQ.below x) q2) (hx x); have s3 := fun x => (fun _ => bkeep (BQ.below x) p0) (hx x); have s4 := fun x => (fun _ => bkeep (BQ.below x) p1) (hx x); go_big_quiet_op; (first | go_big_quiet_on | (refine ⟨_, fun _ => rfl, ?_⟩; go_big_quiet_on)); clear hx inst)
  (refine wpS_quiet rfl rfl ?_; intro K hK inst hx; have s0 := fun x => (fun _ => bkeep (BQ.below x) q0) (hx x); have s1 := fun x => (fun _ => bkeep (BQ.below x) q1) (hx x); have s2 := fun x => (fun _ => bkeep (BQ.below x) q2) (hx x); have s3 := fun x => (fun _ => bkeep (BQ.below x) p0) (hx x); have s4 := fun x => (fun _ => bkeep (BQ.below x) p1) (hx x); go_big_quiet_op; (first | go_big_quiet_on | (refine ⟨_, fun _ => rfl, ?_⟩; go_big_quiet_on)); clear hx inst)
  refine wpS_fresh rfl rfl (fun w' hb hF => ?_) ?_
  · change freshAt _ _ _ (fun v _ => v = .int .i64 r) _; have h5 : w'.ownsRow v2.heap.size 33 8 _ m ((chosenG cg (ruleL cg)).flatMap cellsG) := hF 5 _ rfl (by kernel_rfl); unfold freshAt; go_simp; exact rFits_any (l := ruledL cg) (rows_of_owns (l := chosenG cg (ruleL cg)) (by rw [chosenG_length, HRL.out]; exact h5) (HI2.out _ _ hr1)) HRN.out HKR.out HL1.out HL2.out HR.out
  intro v W hv; simp only [pOf, List.lookup_cons, Nat.reduceBEq, beq_self_eq_true] at hv; subst hv
  simp only [Act.put, List.setIfInBounds_toArray, List.set_cons_succ, List.set_cons_zero]
  refine wpS_fresh rfl rfl (fun w' hb hF => ?_) ?_
  · change freshAt _ _ _ (fun v _ => v = .bool (decide (r = 1))) _; unfold freshAt; go_simp; exact ⟨Below.refl _ _, by simp [BEq.beq]⟩
  intro v W hv; simp only [pOf, List.lookup_cons, Nat.reduceBEq, beq_self_eq_true] at hv; subst hv
  simp only [Act.put, List.setIfInBounds_toArray, List.set_cons_succ, List.set_cons_zero]
  refine wpS_nil ?_
  intro v3 hall
  have hb := hall.1
  clear hall
  refine wpAny_ready (rs := [10]) (by kernel_rfl) (by simp) ?_
  refine AllReady.cons rfl (fun K hK => ?_) AllReady.nil
  go_simp
  refine hK _ _ ?_; clear hK K
  refine wpAny_done (by kernel_rfl) ?_ _
  replace hB := bnext (w := w) hB hb
  clear hb y0 y1 q0 q1 q2 p0 p1
  go_wp2_with fail
  go_ret
  exact ⟨rfl, hB⟩

end Go.Proofs.Ytnchhleokdkejaa

/- A job is checked, and whether all its bungs do, by the reference. -/
namespace Go.Proofs.Ytnchhleokdkejaa
open Go.RowKit Go.Pb Go.Pb.Ware Go.Pb.Sag
set_option linter.unusedVariables false
set_option linter.unusedSimpArgs false

open Go.Proofs Go.Pb.Bung
set_option maxRecDepth 100000 in
set_option maxHeartbeats 1000000 in
theorem rChk_any {w : World} {v : Value} {l : List Sg} {lo hi cr le r : Int} (h : RowsAt 8 w v (l.map rowG)) (hr : ckYd lo hi l cr le = r) :
    Calls Try.prog 115 #[.agg #[.int .i64 lo, .int .i64 hi, v, .int .i64 cr, .int .i64 le]] w (Ret w (.int .i64 r)) := by
  unfold Ret
  obtain ⟨a, cap, rfl, hll⟩ := h.shape
  rw [List.length_map] at h hll ⊢
  obtain ⟨n, hn⟩ : ∃ n, l.length = n := ⟨_, rfl⟩
  rw [hn] at h hll ⊢
  clear hn
  obtain ⟨b, hb⟩ : ∃ b, wadOk lo hi = b := ⟨_, rfl⟩
  obtain ⟨q, hq⟩ : ∃ q, listOk l = q := ⟨_, rfl⟩
  obtain ⟨c3, hc3⟩ : ∃ c, ckSp cr le = c := ⟨_, rfl⟩
  have hcl := ckLs_of hq
  have hr2 : r = if b = true then (if q = true then c3 else 30) else 32 := by rw [← hr]; unfold ckYd; rw [wad_of hb, hcl, hc3]; cases b <;> cases q <;> rfl
  have HB := hid hb; have HCL := hid hcl; have HC3 := hid hc3; clear hr hb hq hcl hc3
  cases b
  · obtain rfl : r = 32 := hr2
    go_enter Try.func115, Try.ntmps115
    go_wp2_with fail
    refine (rWad_any HB.out).mono ?_
    rintro e w1 ⟨rfl, hb⟩
    replace hb0 := bnext (w := w) (by go_grown) hb; have hz := hb.size; (try simp only [World.size_alloc, World.size_setCell] at hz); replace q0 : w1.cell? ⟨w.heap.size, 0, none⟩ = some (.int .i64 lo) := bkeep hb (by first | (with_reducible exact q0) | (with_reducible exact akeep q0) | simp [*, go_sem]); replace q1 : w1.cell? ⟨w.heap.size, 1, none⟩ = some (.int .i64 hi) := bkeep hb (by first | (with_reducible exact q1) | (with_reducible exact akeep q1) | simp [*, go_sem]); replace q2 : w1.cell? ⟨w.heap.size, 2, none⟩ = some (.slice a n cap) := bkeep hb (by first | (with_reducible exact q2) | (with_reducible exact akeep q2) | simp [*, go_sem]); replace q3 : w1.cell? ⟨w.heap.size, 3, none⟩ = some (.int .i64 cr) := bkeep hb (by first | (with_reducible exact q3) | (with_reducible exact akeep q3) | simp [*, go_sem]); replace q4 : w1.cell? ⟨w.heap.size, 4, none⟩ = some (.int .i64 le) := bkeep hb (by first | (with_reducible exact q4) | (with_reducible exact akeep q4) | simp [*, go_sem]); skip
    clear hb
    go_wp2_with fail
    go_ret
    exact ⟨rfl, by first | exact hb0 | go_grown⟩
  · rw [if_pos rfl] at hr2
    cases q
    · obtain rfl : r = 30 := hr2
      have HC : Hid (ckLs l = 30) := hid (HCL.out.trans (if_neg (by simp)))
      clear HCL
      go_enter Try.func115, Try.ntmps115
      go_wp2_with fail
      refine (rWad_any HB.out).mono ?_
      rintro e w1 ⟨rfl, hb⟩
      replace hb0 := bnext (w := w) (by go_grown) hb; have hz := hb.size; (try simp only [World.size_alloc, World.size_setCell] at hz); replace q0 : w1.cell? ⟨w.heap.size, 0, none⟩ = some (.int .i64 lo) := bkeep hb (by first | (with_reducible exact q0) | (with_reducible exact akeep q0) | simp [*, go_sem]); replace q1 : w1.cell? ⟨w.heap.size, 1, none⟩ = some (.int .i64 hi) := bkeep hb (by first | (with_reducible exact q1) | (with_reducible exact akeep q1) | simp [*, go_sem]); replace q2 : w1.cell? ⟨w.heap.size, 2, none⟩ = some (.slice a n cap) := bkeep hb (by first | (with_reducible exact q2) | (with_reducible exact akeep q2) | simp [*, go_sem]); replace q3 : w1.cell? ⟨w.heap.size, 3, none⟩ = some (.int .i64 cr) := bkeep hb (by first | (with_reducible exact q3) | (with_reducible exact akeep q3) | simp [*, go_sem]); replace q4 : w1.cell? ⟨w.heap.size, 4, none⟩ = some (.int .i64 le) := bkeep hb (by first | (with_reducible exact q4) | (with_reducible exact akeep q4) | simp [*, go_sem]); skip
      clear hb
      go_wp2_with fail
      refine (rCkLs (h.below (by go_grown)) HC.out).mono ?_
      rintro e w1 ⟨rfl, hb⟩
      replace hb0 := bnext (w := w) (by go_grown) hb; have hz := hb.size; (try simp only [World.size_alloc, World.size_setCell] at hz); replace q0 : w1.cell? ⟨w.heap.size, 0, none⟩ = some (.int .i64 lo) := bkeep hb (by first | (with_reducible exact q0) | (with_reducible exact akeep q0) | simp [*, go_sem]); replace q1 : w1.cell? ⟨w.heap.size, 1, none⟩ = some (.int .i64 hi) := bkeep hb (by first | (with_reducible exact q1) | (with_reducible exact akeep q1) | simp [*, go_sem]); replace q2 : w1.cell? ⟨w.heap.size, 2, none⟩ = some (.slice a n cap) := bkeep hb (by first | (with_reducible exact q2) | (with_reducible exact akeep q2) | simp [*, go_sem]); replace q3 : w1.cell? ⟨w.heap.size, 3, none⟩ = some (.int .i64 cr) := bkeep hb (by first | (with_reducible exact q3) | (with_reducible exact akeep q3) | simp [*, go_sem]); replace q4 : w1.cell? ⟨w.heap.size, 4, none⟩ = some (.int .i64 le) := bkeep hb (by first | (with_reducible exact q4) | (with_reducible exact akeep q4) | simp [*, go_sem]); skip
      clear hb
      go_wp2_with fail
      go_ret
      exact ⟨rfl, by first | exact hb0 | go_grown⟩
    · obtain rfl : r = c3 := hr2
      have HC : Hid (ckLs l = 0) := hid (HCL.out.trans (if_pos rfl))
      clear HCL
      go_enter Try.func115, Try.ntmps115
      go_wp2_with fail
      refine (rWad_any HB.out).mono ?_
      rintro e w1 ⟨rfl, hb⟩
      replace hb0 := bnext (w := w) (by go_grown) hb; have hz := hb.size; (try simp only [World.size_alloc, World.size_setCell] at hz); replace q0 : w1.cell? ⟨w.heap.size, 0, none⟩ = some (.int .i64 lo) := bkeep hb (by first | (with_reducible exact q0) | (with_reducible exact akeep q0) | simp [*, go_sem]); replace q1 : w1.cell? ⟨w.heap.size, 1, none⟩ = some (.int .i64 hi) := bkeep hb (by first | (with_reducible exact q1) | (with_reducible exact akeep q1) | simp [*, go_sem]); replace q2 : w1.cell? ⟨w.heap.size, 2, none⟩ = some (.slice a n cap) := bkeep hb (by first | (with_reducible exact q2) | (with_reducible exact akeep q2) | simp [*, go_sem]); replace q3 : w1.cell? ⟨w.heap.size, 3, none⟩ = some (.int .i64 cr) := bkeep hb (by first | (with_reducible exact q3) | (with_reducible exact akeep q3) | simp [*, go_sem]); replace q4 : w1.cell? ⟨w.heap.size, 4, none⟩ = some (.int .i64 le) := bkeep hb (by first | (with_reducible exact q4) | (with_reducible exact akeep q4) | simp [*, go_sem]); skip
      clear hb
      go_wp2_with fail
      refine (rCkLs (h.below (by go_grown)) HC.out).mono ?_
      rintro e w1 ⟨rfl, hb⟩
      replace hb0 := bnext (w := w) (by go_grown) hb; have hz := hb.size; (try simp only [World.size_alloc, World.size_setCell] at hz); replace q0 : w1.cell? ⟨w.heap.size, 0, none⟩ = some (.int .i64 lo) := bkeep hb (by first | (with_reducible exact q0) | (with_reducible exact akeep q0) | simp [*, go_sem]); replace q1 : w1.cell? ⟨w.heap.size, 1, none⟩ = some (.int .i64 hi) := bkeep hb (by first | (with_reducible exact q1) | (with_reducible exact akeep q1) | simp [*, go_sem]); replace q2 : w1.cell? ⟨w.heap.size, 2, none⟩ = some (.slice a n cap) := bkeep hb (by first | (with_reducible exact q2) | (with_reducible exact akeep q2) | simp [*, go_sem]); replace q3 : w1.cell? ⟨w.heap.size, 3, none⟩ = some (.int .i64 cr) := bkeep hb (by first | (with_reducible exact q3) | (with_reducible exact akeep q3) | simp [*, go_sem]); replace q4 : w1.cell? ⟨w.heap.size, 4, none⟩ = some (.int .i64 le) := bkeep hb (by first | (with_reducible exact q4) | (with_reducible exact akeep q4) | simp [*, go_sem]); skip
      clear hb
      go_wp2_with fail
      refine (rCkSp HC3.out).mono ?_
      rintro e w1 ⟨rfl, hb⟩
      replace hb0 := bnext (w := w) (by go_grown) hb; have hz := hb.size; (try simp only [World.size_alloc, World.size_setCell] at hz); replace q0 : w1.cell? ⟨w.heap.size, 0, none⟩ = some (.int .i64 lo) := bkeep hb (by first | (with_reducible exact q0) | (with_reducible exact akeep q0) | simp [*, go_sem]); replace q1 : w1.cell? ⟨w.heap.size, 1, none⟩ = some (.int .i64 hi) := bkeep hb (by first | (with_reducible exact q1) | (with_reducible exact akeep q1) | simp [*, go_sem]); replace q2 : w1.cell? ⟨w.heap.size, 2, none⟩ = some (.slice a n cap) := bkeep hb (by first | (with_reducible exact q2) | (with_reducible exact akeep q2) | simp [*, go_sem]); replace q3 : w1.cell? ⟨w.heap.size, 3, none⟩ = some (.int .i64 cr) := bkeep hb (by first | (with_reducible exact q3) | (with_reducible exact akeep q3) | simp [*, go_sem]); replace q4 : w1.cell? ⟨w.heap.size, 4, none⟩ = some (.int .i64 le) := bkeep hb (by first | (with_reducible exact q4) | (with_reducible exact akeep q4) | simp [*, go_sem]); skip
      clear hb
      go_wp2_with fail
      go_ret
      exact ⟨rfl, by first | exact hb0 | go_grown⟩

/-- Lists of indices that make bungs. -/
def Bungs (n : Nat) (gs : List (List Int)) : Prop := ∀ g ∈ gs, (∀ z ∈ g, 0 ≤ z ∧ z < (n : Int)) ∧ g.Pairwise (· ≠ ·) ∧ g.length ≤ 30 ∧ g ≠ []
def allB (lo hi : Int) (l : List Sg) (cr le : Int) (gs : List (List Int)) : Bool := gs.all (doesB lo hi l cr le)
theorem allB_no {lo hi cr le : Int} {l : List Sg} {gs : List (List Int)} {g : List Int} (h : g ∈ gs) (hg : doesB lo hi l cr le g = false) : allB lo hi l cr le gs = false := List.all_eq_false.2 ⟨g, h, by rw [hg]; simp⟩
theorem allB_yes {lo hi cr le : Int} {l : List Sg} {gs : List (List Int)} (h : ∀ (j : Nat) (g : List Int), gs[j]? = some g → doesB lo hi l cr le g = true) : allB lo hi l cr le gs = true := List.all_eq_true.2 fun g hg => by
  obtain ⟨j, hj⟩ := List.getElem?_of_mem hg
  exact h j g hj

set_option maxRecDepth 100000 in
set_option maxHeartbeats 1000000 in
theorem rAllDo_any {w : World} {v gv : Value} {l : List Sg} {gs : List (List Int)} {lo hi cr le : Int} {d : Bool} (h : RowsAt 8 w v (l.map rowG)) (hk : listOk l = true) (h1 : 0 ≤ lo ∧ lo ≤ 200) (h2 : 0 ≤ hi ∧ hi ≤ 200) (hg : ListsAt gv gs w) (hgl : gs.length ≤ 9223372036854775807) (hgb : Bungs l.length gs) (hd : allB lo hi l cr le gs = d) :
    Calls Try.prog 120 #[.agg #[.int .i64 lo, .int .i64 hi, v, .int .i64 cr, .int .i64 le], gv] w (Ret w (.bool d)) := by
  unfold Ret
  obtain ⟨a, cap, rfl, hll⟩ := h.shape
  rw [List.length_map] at h hll ⊢
  obtain ⟨n, hn⟩ : ∃ n, l.length = n := ⟨_, rfl⟩
  have HN : Hid (l.length = n) := hn
  rw [hn] at h hll hgb ⊢
  clear hn
  obtain ⟨ga, gcap, rfl, hgs⟩ := hg
  obtain ⟨q, hq⟩ : ∃ q, gs.length = q := ⟨_, rfl⟩
  rw [hq] at hgl ⊢
  have HQ : Hid (gs.length = q) := hq; have HGS := hid hgs; have HGB : Hid (Bungs n gs) := hgb; have HK : Hid (listOk l = true) := hk; have HL1 := hid h1; have HL2 := hid h2; have HD : Hid (allB lo hi l cr le gs = d) := hd
  clear hq hgs hgb hk h1 h2 hd
  go_enter Try.func120, Try.ntmps120
  go_upto_region 1 with fail
  generalize hW : World.alloc w _ = v1
  have y0 : CellsAt v1 w.heap.size [.int .i64 lo, .int .i64 hi, .slice a n cap, .int .i64 cr, .int .i64 le] := by rw [← hW]; exact CellsAt.new w _ 75
  have hB : Below w.heap.size w v1 := by rw [← hW]; exact (Below.refl _ w).alloc (Nat.le_refl _) _
  clear hW
  go_wp2_with fail
  go_loopg [5] q (fun gk iv wr => ∃ k : Nat, k ≤ q ∧ gk = q - k ∧ iv = .int .i64 k ∧ Hid (∀ (j : Nat) (g : List Int), j < k → gs[j]? = some g → doesB lo hi l cr le g = true) ∧ CellsAt wr w.heap.size [.int .i64 lo, .int .i64 hi, .slice a n cap, .int .i64 cr, .int .i64 le] ∧ Below w.heap.size w wr)
  case atStart => exact ⟨0, Nat.zero_le _, rfl, rfl, hid (fun j g h => by omega), y0, hB⟩
  case round =>
    clear y0 hB
    obtain ⟨k, hk, hgk, rfl, HA, y0, hB⟩ := hrel
    have HGK := hid hgk; clear hgk
    have q0 := (y0 0 _ rfl).1; have q1 := (y0 1 _ rfl).1; have q2 := (y0 2 _ rfl).1; have q3 := (y0 3 _ rfl).1; have q4 := (y0 4 _ rfl).1
    by_cases hlt : k < q
    · have hki : (k : Int) < (q : Int) := by omega
      obtain ⟨g, hg⟩ : ∃ g, gs[k]? = some g := ⟨_, List.getElem?_eq_getElem (by rw [HQ.out]; exact hlt)⟩
      obtain ⟨a', e1, u, r0, hu⟩ := HGS.out k g hg
      subst e1
      obtain ⟨g1, g2, g3, g4⟩ := HGB.out g (List.mem_of_getElem? hg)
      obtain ⟨b, hb9⟩ : ∃ b, doesB lo hi l cr le g = b := ⟨_, rfl⟩
      replace r0 := bkeep hB r0
      replace hu := hu.below hB
      obtain ⟨m, hm⟩ : ∃ m, g.length = m := ⟨_, rfl⟩
      obtain ⟨ua, uc, rfl⟩ := nums_shape hu hm
      have HG : Hid (gs[k]? = some g) := hg; have HG1 : Hid (∀ z ∈ g, 0 ≤ z ∧ z < (n : Int)) := g1; have HG2 : Hid (g.Pairwise (· ≠ ·)) := g2; have HG3 : Hid (g.length ≤ 30) := g3; have HG4 : Hid (g ≠ []) := g4; have HB9 : Hid (doesB lo hi l cr le g = b) := hb9
      clear hg g1 g2 g3 g4 hb9 hm
      obtain ⟨v5, hv5⟩ : ∃ v, v = wr := ⟨_, rfl⟩
      subst hv5
      have hrw := h.below hB
      go_upto_region 4 with fail
      have s0 := fun z : BW v5 => bkeep z.below q0
      have s1 := fun z : BW v5 => bkeep z.below q1
      have s2 := fun z : BW v5 => bkeep z.below q2
      have s3 := fun z : BW v5 => bkeep z.below q3
      have s4 := fun z : BW v5 => bkeep z.below q4
      have s5 := fun z : BW v5 => bkeep z.below r0
      refine wp_region_qb (by kernel_rfl) (by kernel_rfl) fun hcq => ?_
      repeat (go_big_quiet_step ((go_at_call 139; exact BW.call _ (rDoes_any (l := l) (g := g) (hrw.below (BW.below _)) HK.out HL1.out HL2.out (hu.below (BW.below _)) (by rw [HN.out]; exact HG1.out) HG2.out HG3.out HG4.out HB9.out))))
      refine wpQuiet_nil ?_
      intro v6 hb
      replace y0 := y0.below hb
      replace hB := bnext (w := w) hB hb
      clear hb hrw s0 s1 s2 s3 s4 s5 r0 hu q0 q1 q2 q3 q4
      cases b
      · obtain rfl : d = false := HD.out.symm.trans (allB_no (List.mem_of_getElem? HG.out) HB9.out)
        go_wp2_with fail
        go_ret
        exact ⟨rfl, hB⟩
      · go_wp2_with fail
        go_roundg (q - (k + 1))
        case measure => have h := HGK.out; omega
        case rel => exact ⟨k + 1, by omega, rfl, by go_num, hid (fun j g2 hj hg2 => by rcases Nat.lt_or_ge j k with h3 | h3; exact HA.out j g2 h3 hg2; (have e : j = k := by omega); subst e; rw [HG.out] at hg2; injection hg2 with hg2; subst hg2; exact HB9.out), y0, hB⟩
    · obtain rfl : k = q := by omega
      have hkk : ¬ (k : Int) < (k : Int) := by omega
      obtain rfl : d = true := HD.out.symm.trans (allB_yes fun j g hj => HA.out j g (by have := (List.getElem?_eq_some_iff.1 hj).1; rw [HQ.out] at this; exact this) hj)
      go_wp2_with fail
      go_ret
      exact ⟨rfl, hB⟩

end Go.Proofs.Ytnchhleokdkejaa
