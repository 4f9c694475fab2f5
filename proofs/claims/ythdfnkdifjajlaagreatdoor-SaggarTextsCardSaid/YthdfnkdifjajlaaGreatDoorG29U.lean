/- Part of a claim. -/
import Derived.Test.YthdfnkdifjajlaaGreatDoorG28U
import Derived.Test.YthdfnkdifjajlaaGreatDoorKXaU
import Derived.Deep.LoopGhost
set_option linter.unusedVariables false
set_option linter.unusedSimpArgs false
namespace Go.Proofs.YthdfnkdifjajlaaGreatDoor
open Go.RowKit Go.Pb Go.Pb.Ware Go.Pb.Sag


def GroupsAt (lo : Nat) (v : Value) (gs : List (List Int)) (W : World) : Prop := ∃ us : List Value,W.ownsRow lo 73 1 v gs.length us ∧ Go.Pb.Sag.RowsIn lo 3 W us gs
theorem rows_snoc {lo T k : Nat} {W W' : World} {us : List Value} {gs : List (List Int)} {g : List Int} {u : Value} (h : Go.Pb.Sag.RowsIn lo T W us (gs.take k)) (hk : us.length = k) (hg : gs[k]? = some g) (hold : ∀ (v : Value) (n : Nat) (xs : List Value),W.ownsRow lo T 1 v n xs → W'.ownsRow lo T 1 v n xs) (hu : W'.ownsRow lo T 1 u g.length (g.map (Value.int .i64))) : Go.Pb.Sag.RowsIn lo T W' (us ++ [u]) (gs.take (k + 1)) := by
 have hkl := (List.getElem?_eq_some_iff.1 hg).1
 intro j v g' hv hg'
 rcases Nat.lt_or_ge j k with h1 | h1
 ·rw [List.getElem?_append_left (by omega)] at hv
  rw [List.getElem?_take,if_pos (by omega)] at hg'
  exact hold v _ _ (h j v g' hv (by rw [List.getElem?_take,if_pos h1];exact hg'))
 ·rw [List.getElem?_append_right (by omega),hk] at hv
  have h2 := (List.getElem?_eq_some_iff.1 hv).1
  simp at h2
  have e : j = k := by omega
  subst e
  rw [List.getElem?_take,if_pos (by omega),hg] at hg'
  simp at hv hg'
  subst hv;subst hg'
  exact hu
set_option maxRecDepth 100000 in
set_option maxHeartbeats 1000000 in
theorem copied_any {w : World} {lo i : Nat} {gs : List (List Int)} {gv : Value} {vs : List Value} (hG : Go.Pb.Sag.Good i gs) (hi5 : i ≤ 1000) (hn5 : gs.length ≤ 1000) (ho : w.ownsRow lo 73 1 gv gs.length vs) (hr : Go.Pb.Sag.RowsIn lo 3 w vs gs) :
  Calls Tryz.prog 104 #[gv] w (fun e w' => ∃ v,e = .returned v ∧ Below w.heap.size w w' ∧ GroupsAt w.heap.size v gs w') := by
 obtain ⟨n,hnn⟩ : ∃ n,gs.length = n := ⟨_,rfl⟩
 have HN := hid hnn
 rw [hnn] at ho hn5
 clear hnn
 obtain ⟨ga,gcap,rfl, -⟩ := owns_shape ho
 obtain ⟨i2,hq,ha0,ha1,ha2⟩ := info_parts Tryz.infoG
 obtain ⟨i1,hj,hy0,hy1,hy2⟩ := info_parts Tryz.infoI
 go_enter Tryz.func104,Tryz.ntmps104
 go_wp2_with (at_make;refine wpList_make_own _ rfl _ _ 78 rfl w.heap.size 73 i2 (.slice none 0 0) 1 Tryz.underlying78 hq ha0 ha1 .i64 .i64 _ n rfl rfl rfl (by rw [ha2];omega) (by unfold maxLen;omega) (Nat.le_refl _) ?_;intro w2 ho2 hg;have hb0 : Below w.heap.size w w2 := (Below.refl _ w).grown hg (Nat.le_refl _) (fun k h => by cases h);clear hg;skip)
 go_loopg [3,12] n (fun gk av kv wr => ∃ (k : Nat) (us : List Value),k ≤ n ∧ gk = n - k ∧ kv = .int .i64 k ∧ wr.ownsRow w.heap.size 73 1 av k us ∧ Go.Pb.Sag.RowsIn w.heap.size 3 wr us (gs.take k) ∧ us.length = k ∧ Below w.heap.size w wr)
 case atStart => exact ⟨0, [],Nat.zero_le _,rfl,rfl,ho2,fun k v g h => by simp at h,rfl,hb0⟩
 case round =>
  clear ho2 hb0
  obtain ⟨k,us,hk,hgk,rfl,ho3,hr3,hul,hB⟩ := hrel
  have HGK := hid hgk;clear hgk
  obtain ⟨aa,ac,rfl, -⟩ := owns_shape ho3
  have hsz := hB.size
  by_cases hlt : k < n
  ·have hki : (k : Int) < (n : Int) := by omega
   obtain ⟨gb,gc2,e1,hc1,hc2⟩ := own_some ho (by omega)
   injection e1 with e1 _ e2
   subst e1;subst e2
   obtain ⟨g,hg⟩ : ∃ g,gs[k]? = some g := ⟨_,List.getElem?_eq_getElem (by rw [HN.out];exact hlt)⟩
   obtain ⟨v,hv⟩ : ∃ v,vs[k]? = some v := ⟨_,List.getElem?_eq_getElem (by have := ho.1;omega)⟩
   have hrow := owns_below (hr k v g hv hg) hB
   obtain ⟨x0,hx0⟩ := hG.one k g hg
   have hgl : 0 < g.length := (List.getElem?_eq_some_iff.1 hx0).1
   have hgl2 := hG.len g (List.mem_of_getElem? hg)
   obtain ⟨vb,vc,rfl,hv1,hv2⟩ := own_some hrow hgl
   have q1 : wr.cell? ⟨gb,k,none⟩ = some (.slice (some ⟨vb,0,none⟩) g.length vc) := by have h := ho.cells (g := gb) rfl k _ hv;rw [Go.WideShapes.add_plain,Nat.zero_add] at h;exact bkeep hB h
   have HR3 := hid hr3;have HUL := hid hul;clear hr3 hul hx0
   go_upto_region 6 with (at_make;refine wpList_make_full _ rfl _ _ 73 rfl w.heap.size 3 i1 (.int .i64 0) 1 Tryz.underlying73 hj hy0 hy1 .i64 .i64 _ _ g.length rfl rfl rfl rfl (by rw [hy2];omega) (by unfold maxLen;omega) hsz ?_;intro w5 ho5 hg5)
   have hb5 : Below wr.heap.size wr w5 := (Below.refl _ wr).grown hg5 (Nat.le_refl _) (fun k h => by cases h)
   obtain ⟨cur,hcur,hcs⟩ : ∃ cur,w5.heap[wr.heap.size]? = some (.cells cur 3 (0,0)) ∧ cur.size = g.length := by
    rcases ho5.2 with ⟨h1,_⟩ | ⟨g',cap,cur,h1,_,h3,_,_,h6,_⟩
    ·cases h1
    ·injection h1 with h1 _ h2;injection h1 with h1;injection h1 with h1;subst h1;subst h2;exact ⟨cur,h3,by omega⟩
   clear ho5 hg5
   have hsrc : ∀ j u,(g.map (Value.int .i64))[j]? = some u → w5.cell? ((⟨vb,0,none⟩ : Addr).add j) = some u := fun j u h => bkeep hb5 (hrow.cells (g := vb) rfl j u h)
   have HSRC := hid hsrc;clear hsrc
   have hmin : (g.map (Value.int .i64)).length = Nat.min g.length g.length := by rw [List.length_map];exact (Nat.min_self _).symm
   have HMIN := hid hmin;clear hmin
   go_upto_region 7 with (with_reducible refine wpList_copy_own rfl (.tmp 19) (.tmp 20) 73 73 rfl 3 Tryz.underlying73 (by kernel_rfl) wr.heap.size 0 g.length g.length ⟨vb,0,none⟩ g.length vc rfl rfl cur 3 hcur (g.map (Value.int .i64)) HMIN.out HSRC.out (by simp;omega) nums_one ?_)
   have hco := copy_owns (lo := w.heap.size) (cs := g.map (Value.int .i64)) hcur hsz hcs (by unfold maxLen;omega) (by simp)
   have hb6 := below_setRow hb5 (Nat.le_refl _) (cur.toList.take 0 ++ (g.map (Value.int .i64) ++ cur.toList.drop (0 + (g.map (Value.int .i64)).length))).toArray
   generalize hW6 : w5.setRow wr.heap.size (cur.toList.take 0 ++ (g.map (Value.int .i64) ++ cur.toList.drop (0 + (g.map (Value.int .i64)).length))).toArray = w6 at *
   clear hW6 hb5 hcur hcs HSRC HMIN q1
   have ho6 := owns_below ho3 hb6
   have hr6 : Go.Pb.Sag.RowsIn w.heap.size 3 w6 us (gs.take k) := fun j u h h1 h2 => owns_below (HR3.out j u h h1 h2) hb6
   have HR6 := hid hr6;clear hr6
   have hB6 : Below w.heap.size w w6 := bnext (w := w) hB hb6
   have hs6 : w.heap.size ≤ w6.heap.size := hB6.size
   have hcg : ∀ j u,([.slice (some ⟨wr.heap.size,0,none⟩) g.length g.length] : List Value)[j]? = some u → (w6.alloc (.cells #[.slice (some ⟨wr.heap.size,0,none⟩) g.length g.length] 73)).cell? ((⟨w6.heap.size,0,none⟩ : Addr).add j) = some u := fun j u h => by
    rw [Go.WideShapes.add_plain,Nat.zero_add]
    exact (CellsAt.new w6 [.slice (some ⟨wr.heap.size,0,none⟩) g.length g.length] 73 j u h).1
   have HCG := hid hcg;have HCO := hid hco;clear hcg hco
   go_wp2_with (at_builtin;go_must (refine wpList_append_own _ rfl _ _ 78 rfl w.heap.size 73 i2 (.slice none 0 0) 1 24 Tryz.underlying78 hq ha0 ha1 ha2 rfl (by decide) _ _ _ rfl (ho6.alloc _) ⟨w6.heap.size,0,none⟩ 1 1 [.slice (some ⟨wr.heap.size,0,none⟩) g.length g.length] rfl rfl HCG.out (fun u h => by simp only [List.mem_cons,List.not_mem_nil,or_false] at h;rcases h with rfl;rfl) (by unfold maxLen;omega) (by omega) (by simp;omega) ?_;intro v' w7 ho7 hg7 hnil))
   have hold : ∀ (v : Value) (n : Nat) (xs : List Value),w6.ownsRow w.heap.size 3 1 v n xs → w7.ownsRow w.heap.size 3 1 v n xs := fun v n xs h => (h.alloc (.cells #[.slice (some ⟨wr.heap.size,0,none⟩) g.length g.length] 73)).kept hg7 (apart_types (h.alloc (.cells #[.slice (some ⟨wr.heap.size,0,none⟩) g.length g.length] 73)) (ho6.alloc (.cells #[.slice (some ⟨wr.heap.size,0,none⟩) g.length g.length] 73)) (show (3 : Nat) ≠ 73 by decide))
   have hB7 : Below w.heap.size w w7 := Pb.below_grown (hB6.alloc hs6 (.cells #[.slice (some ⟨wr.heap.size,0,none⟩) g.length g.length] 73)) hg7 (ho6.alloc (.cells #[.slice (some ⟨wr.heap.size,0,none⟩) g.length g.length] 73)) (by simp;omega) (Nat.le_refl _)
   have HOLD := hid hold;clear hg7 hold
   go_roundg (n - (k + 1))
   case measure => have h := HGK.out;omega
   case rel => exact ⟨k + 1,us ++ [.slice (some ⟨wr.heap.size,0,none⟩) g.length g.length],by omega,rfl,by go_num,ho7,rows_snoc HR6.out HUL.out hg HOLD.out (HOLD.out _ _ _ HCO.out),by rw [List.length_append,HUL.out];rfl,hB7⟩
  ·obtain rfl : k = n := by omega
   rw [List.take_of_length_le (by rw [HN.out];exact Nat.le_refl _)] at hr3
   have HR3 := hid hr3;clear hr3
   go_wp2_with fail
   go_ret
   exact ⟨_,rfl,hB,us,by rw [HN.out];exact ho3,HR3.out⟩
end Go.Proofs.YthdfnkdifjajlaaGreatDoor