/- Part of a claim. -/
import Derived.Test.YtodmidchpbcnpaaGreatG35X
import Derived.Test.YtodmidchpbcnpaaGreatKG32X
import Derived.Test.YtodmidchpbcnpaaGreatKSpX
import Derived.Test.YtodmidchpbcnpaaGreatG2X
import Derived.Test.YtodmidchpbcnpaaGreatKSdX
import Derived.Deep.LoopGhost
import Derived.Deep.CutBlock
set_option linter.unusedVariables false
set_option linter.unusedSimpArgs false
namespace Go.Proofs.YtodmidchpbcnpaaGreat
open Go.RowKit Go.Pb Go.Pb.Ware Go.Pb.Sag


theorem Tryz.infoSh : (Tryz.prog.info? 109).map (fun i => (i.zero,i.size,i.bytes)) = some (some (.agg #[.int .i64 0, .int .i64 0, .int .i64 0, .int .i64 0, .int .i64 0, .int .i64 0, .int .i64 0, .int .i64 0, .int .i64 0, .int .i64 0, .int .i64 0]),11,88) := by kernel_rfl
theorem Tryz.infoIt : (Tryz.prog.info? 32).map (fun i => (i.zero,i.size,i.bytes)) = some (some (.agg #[.int .i64 0, .int .i64 0, .int .i64 0]),3,24) := by kernel_rfl
theorem len5 {r : List Int} (h : r.length = 5) : ∃ a b c d e,r = [a,b,c,d,e] := by
 match r,h with
 | [a,b,c,d,e],_ => exact ⟨_,_,_,_,_,rfl⟩
theorem ints_one {l : List Int} : ∀ u ∈ l.map (Value.int .i64),u.oneCell' = true := by
 intro u hu
 obtain ⟨z,_,rfl⟩ := List.mem_map.1 hu;rfl
def ModRes (m : Int) (W : World) (e : Ending) (w' : World) : Prop := ∃ z,e = .returned (.int .i64 z) ∧ W = w' ∧ 0 ≤ z ∧ z < m
theorem modR {n m : Int} {w : World} (h1 : 1 ≤ m) (h2 : m ≤ 140737488355328) : Calls Tryz.prog 55 #[.int .i64 n, .int .i64 m] w (ModRes m w) :=
 (modS_any h1 h2).mono fun e w' ⟨h3,h4⟩ => ⟨n % m,h3,h4,Int.emod_nonneg _ (by omega),Int.emod_lt_of_pos _ (by omega)⟩
def IsMod (m : Int) (v : Value) (W : World) : Prop := ∃ z,v = .int .i64 z ∧ 0 ≤ z ∧ z < m
theorem keeps_mod {m : Int} : Keeps (IsMod m) := fun _ _ _ h _ => h
theorem modF {n m : Int} {w : World} (h1 : 1 ≤ m) (h2 : m ≤ 140737488355328) : Calls Tryz.prog 55 #[.int .i64 n, .int .i64 m] w (fun e w' => ∃ v,e = .returned v ∧ Below w.heap.size w w' ∧ IsMod m v w') :=
 (modR h1 h2).mono fun e w' ⟨z,h3,h4,h5,h6⟩ => ⟨_,h3,h4 ▸ Below.refl _ _,z,rfl,h5,h6⟩
def NewShape (B0 k : Nat) (p0 p1 p2 : Int) (v : Value) (W : World) : Prop := ∃ e3 e4 e5 e6 e7 : Int,((0 ≤ e3 ∧ e3 < 9) ∧ (0 ≤ e4 ∧ e4 < 9) ∧ (0 ≤ e5 ∧ e5 < 4) ∧ (0 ≤ e6 ∧ e6 < 9) ∧ 0 ≤ e7 ∧ e7 < 50) ∧ NewList B0 1 [.int .i64 ((k : Int) + 1), .int .i64 (20 + p0), .int .i64 (20 + p0 + e3), .int .i64 (20 + p1), .int .i64 (20 + p1 + e4), .int .i64 (10 + p2), .int .i64 (10 + p2 + e5), .int .i64 e6, .int .i64 100, .int .i64 (100 + e7), .int .i64 2000] v W
theorem keeps_shape {B0 k : Nat} {p0 p1 p2 : Int} : Keeps (NewShape B0 k p0 p1 p2) := fun _ _ _ ⟨e3,e4,e5,e6,e7,h1,h2⟩ hb => ⟨e3,e4,e5,e6,e7,h1,keeps_list _ _ _ h2 hb⟩
theorem no_bodies7 {w : World} : RowsAt 7 w (.slice none 0 0) [] := .inl ⟨rfl,rfl⟩
theorem made_end {TS TI : Nat} {w W : World} {args : List Value} {b2 b3 b4 b5 b6 : Int} {sa xa : Option Addr} {sc xc : Nat} {ss : List (List Int)} {xs : List It} {u0 u1 u2 u3 u4 u5 u6 u7 u8 : Value} (hA : MadeAt TS TI w.heap.size w args [1,b2,b3,b4,b5,b6] (.slice sa ss.length sc) (.slice xa xs.length xc) ss xs W) (hg : GoodS ss)
  (hbx : boxOk ⟨1,b2,b3,b4,b5,b6⟩ = true) (hx : xs.length ≤ 5) (ha : xs.all (itemB ss) = true) {e : Ending} (he : e = .returned (.agg #[.slice sa ss.length sc, .slice none 0 0, .int .i64 1, .int .i64 b2, .int .i64 b3, .int .i64 b4, .int .i64 b5, .int .i64 b6, .slice xa xs.length xc]) := by rfl) :
  MadeRes w e (((((((((W.setCell ⟨w.heap.size + 1,0,none⟩ u0).setCell ⟨w.heap.size + 1,1,none⟩ u1).setCell ⟨w.heap.size + 1,2,none⟩ u2).setCell ⟨w.heap.size + 1,3,none⟩ u3).setCell ⟨w.heap.size + 1,4,none⟩ u4).setCell ⟨w.heap.size + 1,5,none⟩ u5).setCell ⟨w.heap.size + 1,6,none⟩ u6).setCell ⟨w.heap.size + 1,7,none⟩ u7).setCell ⟨w.heap.size + 1,8,none⟩ u8) := by
 have hs := own_ne' hA.shapes (b := w.heap.size + 1) (by omega)
 have hi := own_ne' hA.items (b := w.heap.size + 1) (by omega)
 have key : ∀ {V : World} (o : Nat) (u : Value),(Below w.heap.size w V ∧ V.ownsRow (w.heap.size + 1 + 1 + 1) TS 11 (.slice sa ss.length sc) ss.length (ss.flatten.map (Value.int .i64)) ∧ V.ownsRow (w.heap.size + 1 + 1 + 1) TI 3 (.slice xa xs.length xc) xs.length ((xs.map rowX).flatten.map (Value.int .i64))) →
   (Below w.heap.size w (V.setCell ⟨w.heap.size + 1,o,none⟩ u) ∧ (V.setCell ⟨w.heap.size + 1,o,none⟩ u).ownsRow (w.heap.size + 1 + 1 + 1) TS 11 (.slice sa ss.length sc) ss.length (ss.flatten.map (Value.int .i64)) ∧ (V.setCell ⟨w.heap.size + 1,o,none⟩ u).ownsRow (w.heap.size + 1 + 1 + 1) TI 3 (.slice xa xs.length xc) xs.length ((xs.map rowX).flatten.map (Value.int .i64))) :=
  fun o u h => ⟨h.1.setCell (p := ⟨w.heap.size + 1,o,none⟩) (by show w.heap.size ≤ w.heap.size + 1;omega) u,set_own h.2.1 hs,set_own h.2.2 hi⟩
 obtain ⟨k1,k2,k3⟩ := key 8 u8 (key 7 u7 (key 6 u6 (key 5 u5 (key 4 u4 (key 3 u3 (key 2 u2 (key 1 u1 (key 0 u0 ⟨hA.below,hA.shapes,hA.items⟩))))))))
 refine ⟨_,_,ss,xs,b2,b3,b4,b5,b6,he,k1, ?_, ?_,hg,hbx,hx,ha⟩
 ·exact rowsAt_of_owns (rows := ss) (fun r hr => (goodS_i64 hg r hr).1) k2 (fun r hr => (goodS_i64 hg r hr).2)
 ·refine rowsAt_of_owns (rows := xs.map rowX) (e := TI) (base := w.heap.size + 1 + 1 + 1) (fun r hr => ?_) (by rw [List.length_map];exact k3) (fun r hr => ?_)
  ·obtain ⟨x,_,rfl⟩ := List.mem_map.1 hr;rfl
  ·obtain ⟨x,hx,rfl⟩ := List.mem_map.1 hr
   exact item_i64 hg (List.all_eq_true.1 ha x hx)
theorem flat_at : ∀ {xs : List It} {i : Nat} {x : It},xs[i]? = some x → ((xs.map rowX).flatten.map (Value.int .i64))[i * 3]? = some (.int .i64 x.shape) ∧ ((xs.map rowX).flatten.map (Value.int .i64))[i * 3 + 1]? = some (.int .i64 x.many) ∧ ((xs.map rowX).flatten.map (Value.int .i64))[i * 3 + 2]? = some (.int .i64 x.clear)
 | [],i,x,h => by simp at h
 | y :: ys,0,x,h => by simp at h;subst h;exact ⟨rfl,rfl,rfl⟩
 | y :: ys,i + 1,x,h => by
  have ih := flat_at (xs := ys) (i := i) (x := x) (by simpa using h)
  rw [show (i + 1) * 3 = i * 3 + 3 by omega,show i * 3 + 3 + 1 = i * 3 + 1 + 3 by omega,show i * 3 + 3 + 2 = i * 3 + 2 + 3 by omega]
  exact ih
theorem len3 {r : List Int} (h : r.length = 3) : ∃ a b c,r = [a,b,c] := by
 match r,h with
 | [a,b,c],_ => exact ⟨_,_,_,rfl⟩
def NewItem (B0 : Nat) (s : Int) (v : Value) (W : World) : Prop := ∃ e0 e1 : Int,((0 ≤ e0 ∧ e0 < s) ∧ 0 ≤ e1 ∧ e1 < 10) ∧ NewList B0 1 [.int .i64 (1 + e0), .int .i64 1, .int .i64 e1] v W
theorem keeps_item {B0 : Nat} {s : Int} : Keeps (NewItem B0 s) := fun _ _ _ ⟨e0,e1,h1,h2⟩ hb => ⟨e0,e1,h1,keeps_list _ _ _ h2 hb⟩
theorem all_push {ss : List (List Int)} {xs : List It} {x : It} (h : xs.all (itemB ss) = true) (hx : itemB ss x = true) : (xs ++ [x]).all (itemB ss) = true := by rw [List.all_append,h];simp [hx]
theorem all_over {ss : List (List Int)} {xs : List It} {x : It} {i : Nat} (h : xs.all (itemB ss) = true) (hx : itemB ss x = true) : (xs.set i x).all (itemB ss) = true := by
 rw [List.all_eq_true] at h ⊢
 intro y hy
 rcases List.mem_or_eq_of_mem_set hy with h1 | h1
 ·exact h y h1
 ·rw [h1];exact hx
set_option maxRecDepth 100000 in
set_option maxHeartbeats 1000000 in
theorem made_any {w : World} {rv iv : Value} {z0 z1 z2 z3 : Int} {rows its : List (List Int)} (hrv : RowsAt 5 w rv rows) (hiv : RowsAt 3 w iv its) :
  Calls Tryz.prog 54 #[.agg #[rv, .int .i64 z0, .int .i64 z1, .int .i64 z2, .int .i64 z3,iv]] w (MadeRes w) := by
 unfold MadeRes
 obtain ⟨ra,rc,rfl,hrl⟩ := hrv.shape
 obtain ⟨ia,ic,rfl,hil⟩ := hiv.shape
 obtain ⟨n,hn⟩ : ∃ n,rows.length = n := ⟨_,rfl⟩
 obtain ⟨m,hm⟩ : ∃ m,its.length = m := ⟨_,rfl⟩
 rw [hn] at hrv hrl ⊢;rw [hm] at hiv hil ⊢
 have HN := hid hn;have HM := hid hm;clear hn hm
 obtain ⟨i1,hs0,hs1,hs2,hs3⟩ := info_parts Tryz.infoSh
 obtain ⟨i2,ht0,ht1,ht2,ht3⟩ := info_parts Tryz.infoIt
 go_enter Tryz.func54,Tryz.ntmps54
 go_upto_block 0 with fail
 go_cut [] from 4 (fun wc => ∃ (sv : Value) (ss : List (List Int)),(GoodS ss ∧ ss.length ≤ 4) ∧ MadeAt 109 32 w.heap.size w [.slice ra n rc, .int .i64 z0, .int .i64 z1, .int .i64 z2, .int .i64 z3, .slice ia m ic] [0,0,0,0,0,0] sv (.slice none 0 0) ss [] wc)
 case first =>
  go_wp2_with fail
  have hst : MadeAt 109 32 w.heap.size w [.slice ra n rc, .int .i64 z0, .int .i64 z1, .int .i64 z2, .int .i64 z3, .slice ia m ic] [0,0,0,0,0,0] (.slice none 0 0) (.slice none 0 0) [] [] (((w.alloc (.cells #[.slice ra n rc, .int .i64 z0, .int .i64 z1, .int .i64 z2, .int .i64 z3, .slice ia m ic] 87)).alloc (.cells #[.slice none 0 0, .slice none 0 0, .int .i64 0, .int .i64 0, .int .i64 0, .int .i64 0, .int .i64 0, .int .i64 0, .slice none 0 0] 30)).alloc (.cells #[.slice none 0 0, .slice none 0 0, .int .i64 0, .int .i64 0, .int .i64 0, .int .i64 0, .int .i64 0, .int .i64 0, .slice none 0 0] 30)) := by
   have e1 := CellsAt.new w [.slice ra n rc, .int .i64 z0, .int .i64 z1, .int .i64 z2, .int .i64 z3, .slice ia m ic] 87
   have e2 := CellsAt.new (w.alloc (.cells #[.slice ra n rc, .int .i64 z0, .int .i64 z1, .int .i64 z2, .int .i64 z3, .slice ia m ic] 87)) Z9 30
   have e3 := CellsAt.new ((w.alloc (.cells #[.slice ra n rc, .int .i64 z0, .int .i64 z1, .int .i64 z2, .int .i64 z3, .slice ia m ic] 87)).alloc (.cells #[.slice none 0 0, .slice none 0 0, .int .i64 0, .int .i64 0, .int .i64 0, .int .i64 0, .int .i64 0, .int .i64 0, .slice none 0 0] 30)) Z9 30
   simp only [World.size_alloc] at e2 e3
   exact ⟨by go_grown,by simp,(e1.alloc _).alloc _,e2.alloc _,e3,rfl,World.ownsRow_nil _ _ _ _,World.ownsRow_nil _ _ _ _⟩
  go_loopg [15] n (fun gk kv wr => ∃ (k : Nat) (sv : Value) (ss : List (List Int)),k ≤ n ∧ gk = n - k ∧ kv = .int .i64 k ∧ (ss.length = k ∧ k ≤ 4) ∧ GoodS ss ∧ MadeAt 109 32 w.heap.size w [.slice ra n rc, .int .i64 z0, .int .i64 z1, .int .i64 z2, .int .i64 z3, .slice ia m ic] [0,0,0,0,0,0] sv (.slice none 0 0) ss [] wr)
  case atStart => exact ⟨0,_, [],Nat.zero_le _,rfl,rfl,⟨rfl,by omega⟩,goodS_nil,hst⟩
  case round =>
   clear hst
   obtain ⟨k,sv,ss,hk,hgk,rfl,⟨hsl,hk4⟩,hg,hA⟩ := hrel
   have HGK := hid hgk;clear hgk
   by_cases hlt : k < n
   ·have hki : (k : Int) < (n : Int) := by omega
    obtain ⟨a',ha,hrl2,hc0,hcc⟩ := (show RowsAt 5 wr (.slice ra rows.length rc) rows by rw [HN.out];exact hrv.below (by have := hA.below;exact this)).row (k := k) (by rw [HN.out];exact hlt)
    subst ha
    obtain ⟨y0,y1,y2,y3,y4,hrow⟩ := len5 hrl2
    rw [hrow] at hc0 hcc
    have r0 := hc0 _ rfl
    have r1 := hcc 1 _ (by decide) rfl
    have r2 := hcc 2 _ (by decide) rfl
    have r3 := hcc 3 _ (by decide) rfl
    have r4 := hcc 4 _ (by decide) rfl
    clear hc0 hcc hrl2
    have hrow2 : ∀ z ∈ [y0,y1,y2,y3,y4],I64 z := by rw [← hrow];exact ((show RowsAt 5 w (.slice (some a') rows.length rc) rows by rw [HN.out];exact hrv).i64 _ (List.getElem_mem _)).2
    clear hrow
    go_upto_region 5 with fail
    by_cases hk44 : k = 4
    ·have hk44i : (k : Int) = 4 := by omega
     go_wp2_with fail
     go_meet
     exact ⟨sv,ss,⟨hg,by omega⟩,hA.next ((Below.refl _ _).alloc (Nat.le_refl _) _)⟩
    ·have hk44i : ¬ (k : Int) = 4 := by omega
     go_wp2_with fail
     refine (modR (by decide) (by decide)).mono ?_
     rintro e wm ⟨p0,rfl,rfl,l0,u0p⟩
     go_wp2_with fail
     refine (modR (by decide) (by decide)).mono ?_
     rintro e wm ⟨p1,rfl,rfl,l1,u1p⟩
     go_wp2_with fail
     refine (modR (by decide) (by decide)).mono ?_
     rintro e wm ⟨p2,rfl,rfl,l2,u2p⟩
     go_upto_region 9 with fail
     have hA9 := hA.next (W' := wr.alloc (.cells #[.int .i64 y0, .int .i64 y1, .int .i64 y2, .int .i64 y3, .int .i64 y4] 147)) ((Below.refl _ _).alloc (Nat.le_refl _) _)
     have c3 : (wr.alloc (.cells #[.int .i64 y0, .int .i64 y1, .int .i64 y2, .int .i64 y3, .int .i64 y4] 147)).cell? ⟨wr.heap.size,3,none⟩ = some (.int .i64 y3) := by simp [go_sem]
     have c4 : (wr.alloc (.cells #[.int .i64 y0, .int .i64 y1, .int .i64 y2, .int .i64 y3, .int .i64 y4] 147)).cell? ⟨wr.heap.size,4,none⟩ = some (.int .i64 y4) := by simp [go_sem]
     generalize World.alloc wr _ = W9 at hA9 c3 c4 ⊢
     clear hA r0 r1 r2 r3 r4
     obtain ⟨sa,sc,rfl,hsl2⟩ := owns_shape hA9.shapes
     rw [hsl] at hA9 hsl2
     have f0 := (hA9.floor 0 _ rfl).1
     refine wp_region_Rs [(9,IsMod 9),(17,IsMod 9),(24,IsMod 4),(29,IsMod 9),(33,IsMod 50),(37,NewShape W9.heap.size k p0 p1 p2)] [0,1,2,3,4,5,6,7,8,9,10,11,12,13,14,15,16,17,18,19,20,21,22,23,24,25,26,27,28,29,30,31,32,33,34,35,36,37] 4 (by kernel_rfl) rfl (by simp only [List.forall_mem_cons];exact ⟨keeps_mod,keeps_mod,keeps_mod,keeps_mod,keeps_mod,keeps_shape,fun _ h => by cases h⟩) (by kernel_rfl) ?_
     simp only [numbered,List.filterMap_cons,List.filterMap_nil,List.getElem?_toArray,List.getElem?_cons_succ,List.getElem?_cons_zero,Option.map_some]
     show wpS _ _ _ _ _ _ _ [(_,_),(_,_),(_,_),(_,_),(_,_),(_,_),(_,_),(_,_),(_,_),(_,_),(_,_),(_,_),(_,_),(_,_),(_,_),(_,_),(_,_),(_,_),(_,_),(_,_),(_,_),(_,_),(_,_),(_,_),(_,_),(_,_),(_,_),(_,_),(_,_),(_,_),(_,_),(_,_),(_,_),(_,_),(_,_),(_,_),(_,_),(_,_)] _ _
     (refine wpS_quiet rfl rfl ?_;intro K hK inst hx;go_big_quiet_op;(first | go_big_quiet_on | (refine ⟨_,fun _ => rfl, ?_⟩;go_big_quiet_on));clear hx inst)
     (refine wpS_quiet rfl rfl ?_;intro K hK inst hx;go_big_quiet_op;(first | go_big_quiet_on | (refine ⟨_,fun _ => rfl, ?_⟩;go_big_quiet_on));clear hx inst)
     (refine wpS_quiet rfl rfl ?_;intro K hK inst hx;have sf0 := fun x => (fun _ => bkeep (BQ.below x) f0) (hx x);go_big_quiet_op;(first | go_big_quiet_on | (refine ⟨_,fun _ => rfl, ?_⟩;go_big_quiet_on));clear hx inst)
     (refine wpS_quiet rfl rfl ?_;intro K hK inst hx;go_big_quiet_op;(first | go_big_quiet_on | (refine ⟨_,fun _ => rfl, ?_⟩;go_big_quiet_on));clear hx inst)
     (refine wpS_quiet rfl rfl ?_;intro K hK inst hx;go_big_quiet_op;(first | go_big_quiet_on | (refine ⟨_,fun _ => rfl, ?_⟩;go_big_quiet_on));clear hx inst)
     (refine wpS_quiet rfl rfl ?_;intro K hK inst hx;go_big_quiet_op;(first | go_big_quiet_on | (refine ⟨_,fun _ => rfl, ?_⟩;go_big_quiet_on));clear hx inst)
     (refine wpS_quiet rfl rfl ?_;intro K hK inst hx;go_big_quiet_op;(first | go_big_quiet_on | (refine ⟨_,fun _ => rfl, ?_⟩;go_big_quiet_on));clear hx inst)
     (refine wpS_quiet rfl rfl ?_;intro K hK inst hx;go_big_quiet_op;(first | go_big_quiet_on | (refine ⟨_,fun _ => rfl, ?_⟩;go_big_quiet_on));clear hx inst)
     (refine wpS_quiet rfl rfl ?_;intro K hK inst hx;have sc3 := fun x => (fun _ => bkeep (BQ.below x) c3) (hx x);go_big_quiet_op;(first | go_big_quiet_on | (refine ⟨_,fun _ => rfl, ?_⟩;go_big_quiet_on));clear hx inst)
     refine wpS_fresh rfl rfl (fun w' hb hF => ?_) ?_
     ·change freshAt _ _ _ (IsMod 9) _;unfold freshAt;go_simp;exact modF (by decide) (by decide)
     intro v W hv;simp only [pOf,List.lookup_cons,Nat.reduceBEq,beq_self_eq_true] at hv;obtain ⟨p3,rfl,l3,u3p⟩ := hv
     simp only [Act.put,List.setIfInBounds_toArray,List.set_cons_succ,List.set_cons_zero]
     (refine wpS_quiet rfl rfl ?_;intro K hK inst hx;go_big_quiet_op;(first | go_big_quiet_on | (refine ⟨_,fun _ => rfl, ?_⟩;go_big_quiet_on));clear hx inst)
     (refine wpS_quiet rfl rfl ?_;intro K hK inst hx;go_big_quiet_op;(first | go_big_quiet_on | (refine ⟨_,fun _ => rfl, ?_⟩;go_big_quiet_on));clear hx inst)
     (refine wpS_quiet rfl rfl ?_;intro K hK inst hx;go_big_quiet_op;(first | go_big_quiet_on | (refine ⟨_,fun _ => rfl, ?_⟩;go_big_quiet_on));clear hx inst)
     (refine wpS_quiet rfl rfl ?_;intro K hK inst hx;go_big_quiet_op;(first | go_big_quiet_on | (refine ⟨_,fun _ => rfl, ?_⟩;go_big_quiet_on));clear hx inst)
     (refine wpS_quiet rfl rfl ?_;intro K hK inst hx;go_big_quiet_op;(first | go_big_quiet_on | (refine ⟨_,fun _ => rfl, ?_⟩;go_big_quiet_on));clear hx inst)
     (refine wpS_quiet rfl rfl ?_;intro K hK inst hx;have sc3 := fun x => (fun _ => bkeep (BQ.below x) c3) (hx x);go_big_quiet_op;(first | go_big_quiet_on | (refine ⟨_,fun _ => rfl, ?_⟩;go_big_quiet_on));clear hx inst)
     (refine wpS_quiet rfl rfl ?_;intro K hK inst hx;go_big_quiet_op;(first | go_big_quiet_on | (refine ⟨_,fun _ => rfl, ?_⟩;go_big_quiet_on));clear hx inst)
     refine wpS_fresh rfl rfl (fun w' hb hF => ?_) ?_
     ·change freshAt _ _ _ (IsMod 9) _;unfold freshAt;go_simp;exact modF (by decide) (by decide)
     intro v W hv;simp only [pOf,List.lookup_cons,Nat.reduceBEq,beq_self_eq_true] at hv;obtain ⟨p4,rfl,l4,u4p⟩ := hv
     simp only [Act.put,List.setIfInBounds_toArray,List.set_cons_succ,List.set_cons_zero]
     (refine wpS_quiet rfl rfl ?_;intro K hK inst hx;go_big_quiet_op;(first | go_big_quiet_on | (refine ⟨_,fun _ => rfl, ?_⟩;go_big_quiet_on));clear hx inst)
     (refine wpS_quiet rfl rfl ?_;intro K hK inst hx;go_big_quiet_op;(first | go_big_quiet_on | (refine ⟨_,fun _ => rfl, ?_⟩;go_big_quiet_on));clear hx inst)
     (refine wpS_quiet rfl rfl ?_;intro K hK inst hx;go_big_quiet_op;(first | go_big_quiet_on | (refine ⟨_,fun _ => rfl, ?_⟩;go_big_quiet_on));clear hx inst)
     (refine wpS_quiet rfl rfl ?_;intro K hK inst hx;go_big_quiet_op;(first | go_big_quiet_on | (refine ⟨_,fun _ => rfl, ?_⟩;go_big_quiet_on));clear hx inst)
     (refine wpS_quiet rfl rfl ?_;intro K hK inst hx;go_big_quiet_op;(first | go_big_quiet_on | (refine ⟨_,fun _ => rfl, ?_⟩;go_big_quiet_on));clear hx inst)
     (refine wpS_quiet rfl rfl ?_;intro K hK inst hx;have sc4 := fun x => (fun _ => bkeep (BQ.below x) c4) (hx x);go_big_quiet_op;(first | go_big_quiet_on | (refine ⟨_,fun _ => rfl, ?_⟩;go_big_quiet_on));clear hx inst)
     refine wpS_fresh rfl rfl (fun w' hb hF => ?_) ?_
     ·change freshAt _ _ _ (IsMod 4) _;unfold freshAt;go_simp;exact modF (by decide) (by decide)
     intro v W hv;simp only [pOf,List.lookup_cons,Nat.reduceBEq,beq_self_eq_true] at hv;obtain ⟨p5,rfl,l5,u5p⟩ := hv
     simp only [Act.put,List.setIfInBounds_toArray,List.set_cons_succ,List.set_cons_zero]
     (refine wpS_quiet rfl rfl ?_;intro K hK inst hx;go_big_quiet_op;(first | go_big_quiet_on | (refine ⟨_,fun _ => rfl, ?_⟩;go_big_quiet_on));clear hx inst)
     (refine wpS_quiet rfl rfl ?_;intro K hK inst hx;go_big_quiet_op;(first | go_big_quiet_on | (refine ⟨_,fun _ => rfl, ?_⟩;go_big_quiet_on));clear hx inst)
     (refine wpS_quiet rfl rfl ?_;intro K hK inst hx;go_big_quiet_op;(first | go_big_quiet_on | (refine ⟨_,fun _ => rfl, ?_⟩;go_big_quiet_on));clear hx inst)
     (refine wpS_quiet rfl rfl ?_;intro K hK inst hx;have sc4 := fun x => (fun _ => bkeep (BQ.below x) c4) (hx x);go_big_quiet_op;(first | go_big_quiet_on | (refine ⟨_,fun _ => rfl, ?_⟩;go_big_quiet_on));clear hx inst)
     refine wpS_fresh rfl rfl (fun w' hb hF => ?_) ?_
     ·change freshAt _ _ _ (IsMod 9) _;unfold freshAt;go_simp;exact modF (by decide) (by decide)
     intro v W hv;simp only [pOf,List.lookup_cons,Nat.reduceBEq,beq_self_eq_true] at hv;obtain ⟨p6,rfl,l6,u6p⟩ := hv
     simp only [Act.put,List.setIfInBounds_toArray,List.set_cons_succ,List.set_cons_zero]
     (refine wpS_quiet rfl rfl ?_;intro K hK inst hx;go_big_quiet_op;(first | go_big_quiet_on | (refine ⟨_,fun _ => rfl, ?_⟩;go_big_quiet_on));clear hx inst)
     (refine wpS_quiet rfl rfl ?_;intro K hK inst hx;have sc4 := fun x => (fun _ => bkeep (BQ.below x) c4) (hx x);go_big_quiet_op;(first | go_big_quiet_on | (refine ⟨_,fun _ => rfl, ?_⟩;go_big_quiet_on));clear hx inst)
     (refine wpS_quiet rfl rfl ?_;intro K hK inst hx;go_big_quiet_op;(first | go_big_quiet_on | (refine ⟨_,fun _ => rfl, ?_⟩;go_big_quiet_on));clear hx inst)
     refine wpS_fresh rfl rfl (fun w' hb hF => ?_) ?_
     ·change freshAt _ _ _ (IsMod 50) _;unfold freshAt;go_simp;exact modF (by decide) (by decide)
     intro v W hv;simp only [pOf,List.lookup_cons,Nat.reduceBEq,beq_self_eq_true] at hv;obtain ⟨p7,rfl,l7,u7p⟩ := hv
     simp only [Act.put,List.setIfInBounds_toArray,List.set_cons_succ,List.set_cons_zero]
     (refine wpS_quiet rfl rfl ?_;intro K hK inst hx;go_big_quiet_op;(first | go_big_quiet_on | (refine ⟨_,fun _ => rfl, ?_⟩;go_big_quiet_on));clear hx inst)
     (refine wpS_quiet rfl rfl ?_;intro K hK inst hx;go_big_quiet_op;(first | go_big_quiet_on | (refine ⟨_,fun _ => rfl, ?_⟩;go_big_quiet_on));clear hx inst)
     (refine wpS_quiet rfl rfl ?_;intro K hK inst hx;go_big_quiet_op;(first | go_big_quiet_on | (refine ⟨_,fun _ => rfl, ?_⟩;go_big_quiet_on));clear hx inst)
     refine wpS_fresh rfl rfl (fun w' hb hF => ?_) ?_
     ·change freshAt _ _ _ (NewShape W9.heap.size k p0 p1 p2) _;unfold freshAt;go_simp;exact ⟨(list_of (n := 1) hb).1,p3,p4,p5,p6,p7,⟨⟨l3,u3p⟩,⟨l4,u4p⟩,⟨l5,u5p⟩,⟨l6,u6p⟩,l7,u7p⟩,(list_of hb).2⟩
     intro v W hv;simp only [pOf,List.lookup_cons,Nat.reduceBEq,beq_self_eq_true] at hv;obtain ⟨_,_,_,_,_,_,B37,hB37,rfl, -⟩ := hv
     simp only [Act.put,List.setIfInBounds_toArray,List.set_cons_succ,List.set_cons_zero]
     refine wpS_nil ?_
     intro w2 hall
     have hb := hall.1
     have h51 : NewShape W9.heap.size k p0 p1 p2 _ w2 := hall.2 37 _ rfl
     obtain ⟨e3,e4,e5,e6,e7,⟨⟨l3,u3p⟩,⟨l4,u4p⟩,⟨l5,u5p⟩,⟨l6,u6p⟩,l7,u7p⟩,B',hB',hv',hn'⟩ := h51
     obtain rfl : B37 = B' := by simpa using hv'
     clear hall
     have hA2 := hA9.next hb
     have hz2 := hA2.size
     have hown2 : w2.ownsRow (w.heap.size + 1 + 1 + 1) 109 11 (.slice sa k sc) k (ss.flatten.map (Value.int .i64)) := by have h := hA2.shapes;rw [hsl] at h;exact h
     refine wpAny_ready (rs := [38]) (by kernel_rfl) (by simp) ?_
     refine AllReady.cons rfl (fun K hK => ?_) AllReady.nil
     refine (if_pos (show Region.wanted _ _ = true from rfl)).mpr ?_
     refine wp_append_own w2 (.tmp 36) (.tmp 71) 22 rfl (w.heap.size + 1 + 1 + 1) 109 i1 (.agg #[.int .i64 0, .int .i64 0, .int .i64 0, .int .i64 0, .int .i64 0, .int .i64 0, .int .i64 0, .int .i64 0, .int .i64 0, .int .i64 0, .int .i64 0]) 11 88 Tryz.underlying22 hs0 hs1 hs2 hs3 rfl (by decide) (.slice sa k sc) k _ rfl hown2 ⟨B37,0,none⟩ 1 1 ([(k : Int) + 1,20 + p0,20 + p0 + e3,20 + p1,20 + p1 + e4,10 + p2,10 + p2 + e5,e6,100,100 + e7,2000].map (Value.int .i64)) rfl rfl (fun j u h => by rw [Go.WideShapes.add_plain,Nat.zero_add];exact (hn' j u h).1) ints_one (by unfold maxLen;omega) (by omega) (by omega) ?_
     intro v72 w3 ho3 hg3 hnil3
     refine hK _ _ ?_
     clear hK K hnil3
     obtain ⟨xa,xc,rfl, -⟩ := owns_shape ho3
     have hfl := cells_grown hA2.floor hg3 (own_ne hA2.shapes (by omega))
     have f0 := (hfl 0 _ rfl).1;have f1 := (hfl 0 _ rfl).2
     clear hfl
     refine wpAny_ready (rs := [39]) (by kernel_rfl) (by simp) ?_
     refine AllReady.cons rfl (fun K hK => ?_) AllReady.nil
     go_simp
     refine hK _ _ ?_;clear hK K
     refine wpAny_ready (rs := [40]) (by kernel_rfl) (by simp) ?_
     refine AllReady.cons rfl (fun K hK => ?_) AllReady.nil
     go_simp
     refine hK _ _ ?_;clear hK K
     refine wpAny_ready (rs := [41]) (by kernel_rfl) (by simp) ?_
     refine AllReady.cons rfl (fun K hK => ?_) AllReady.nil
     go_simp
     refine hK _ _ ?_;clear hK K
     refine wpAny_done (by kernel_rfl) ?_ _
     have hA3 := hA2.push (r := [(k : Int) + 1,20 + p0,20 + p0 + e3,20 + p1,20 + p1 + e4,10 + p2,10 + p2 + e5,e6,100,100 + e7,2000]) (by decide) hg3 (by rw [hsl];exact ho3)
     have hg2 : GoodS (ss ++ [[(k : Int) + 1,20 + p0,20 + p0 + e3,20 + p1,20 + p1 + e4,10 + p2,10 + p2 + e5,e6,100,100 + e7,2000]]) := goodS_snoc hg (by omega) rfl (by rw [hsl];rfl) (shOk_iff.2 (by simp only [shR,List.getD_cons_zero,List.getD_cons_succ];omega))
     go_wp2_with fail
     go_roundg (n - (k + 1))
     case measure => have h := HGK.out;omega
     case rel => exact ⟨k + 1,_,_,by omega,rfl,by go_num,⟨by simp [hsl],by omega⟩,hg2,hA3⟩
   ·go_wp2_with fail
    go_meet
    exact ⟨sv,ss,⟨hg,by omega⟩,hA⟩
 case rest =>
  obtain ⟨sv,ss,⟨hg,hs4⟩,hA⟩ := hcut
  obtain ⟨sa,sc,rfl,hsl2⟩ := owns_shape hA.shapes
  have f0 := (hA.floor 0 _ rfl).1
  go_upto_if 80 with fail
  go_cut [] from 4 (fun wx => ∃ (sv : Value) (ss : List (List Int)),(GoodS ss ∧ 1 ≤ ss.length ∧ ss.length ≤ 40) ∧ MadeAt 109 32 w.heap.size w [.slice ra n rc, .int .i64 z0, .int .i64 z1, .int .i64 z2, .int .i64 z3, .slice ia m ic] [0,0,0,0,0,0] sv (.slice none 0 0) ss [] wx)
  case first =>
   by_cases hs0z : ss.length = 0
   ·have hsb : ((ss.length : Int) == 0) = true := by simp [hs0z]
    rw [hsb]
    clear f0 hsb
    have HZ := hid hs0z;clear hs0z
    go_wp2_with fail
    refine wares_own.mono ?_
    rintro e w1 ⟨nv,rfl,hb,ho⟩
    have hA1 := hA.next hb
    have hz := hA.size
    obtain ⟨na,nc,rfl, -⟩ := owns_shape ho
    have g0 := hA1.floor 0 _ rfl
    have g1 := hA1.floor 1 _ rfl
    obtain ⟨g00,g01⟩ := g0
    obtain ⟨g10,g11⟩ := g1
    go_wp2_with fail
    go_meet
    exact ⟨_,exRows,⟨goodS_ex,by decide,by decide⟩,hA1.wares (ss' := exRows) (owns_base (by omega) ho)⟩
   ·have hsb : ((ss.length : Int) == 0) = false := beq_eq_false_iff_ne.mpr (by omega)
    rw [hsb]
    go_wp2_with fail
    go_meet
    exact ⟨_,ss,⟨hg,by omega,by omega⟩,hA⟩
  case rest =>
   obtain ⟨sv,ss,⟨hg,hs1,hs4⟩,hA⟩ := hcut
   obtain ⟨sa,sc,rfl,hsl2⟩ := owns_shape hA.shapes
   go_upto_region 13 with fail
   have a1 := (hA.arg 1 _ rfl).1
   have a2 := (hA.arg 2 _ rfl).1
   have a3 := (hA.arg 3 _ rfl).1
   have a4 := (hA.arg 4 _ rfl).1
   refine wp_region_Rs [(3,IsMod 6),(8,IsMod 6),(13,IsMod 100),(18,IsMod 300),(24,IsMod 3000)] [0,1,2,3,4,5,6,7,8,9,10,11,12,13,14,15,16,17,18,19,20,21,22,23,24,25,26] 2 (by kernel_rfl) rfl (by simp only [List.forall_mem_cons];exact ⟨keeps_mod,keeps_mod,keeps_mod,keeps_mod,keeps_mod,fun _ h => by cases h⟩) (by kernel_rfl) ?_
   simp only [numbered,List.filterMap_cons,List.filterMap_nil,List.getElem?_toArray,List.getElem?_cons_succ,List.getElem?_cons_zero,Option.map_some]
   show wpS _ _ _ _ _ _ _ [(_,_),(_,_),(_,_),(_,_),(_,_),(_,_),(_,_),(_,_),(_,_),(_,_),(_,_),(_,_),(_,_),(_,_),(_,_),(_,_),(_,_),(_,_),(_,_),(_,_),(_,_),(_,_),(_,_),(_,_),(_,_),(_,_),(_,_)] _ _
   (refine wpS_quiet rfl rfl ?_;intro K hK inst hx;go_big_quiet_op;(first | go_big_quiet_on | (refine ⟨_,fun _ => rfl, ?_⟩;go_big_quiet_on));clear hx inst)
   (refine wpS_quiet rfl rfl ?_;intro K hK inst hx;go_big_quiet_op;(first | go_big_quiet_on | (refine ⟨_,fun _ => rfl, ?_⟩;go_big_quiet_on));clear hx inst)
   (refine wpS_quiet rfl rfl ?_;intro K hK inst hx;have sa1 := fun x => (fun _ => bkeep (BQ.below x) a1) (hx x);go_big_quiet_op;(first | go_big_quiet_on | (refine ⟨_,fun _ => rfl, ?_⟩;go_big_quiet_on));clear hx inst)
   refine wpS_fresh rfl rfl (fun w' hb hF => ?_) ?_
   ·change freshAt _ _ _ (IsMod 6) _;unfold freshAt;go_simp;exact modF (by decide) (by decide)
   intro v W hv;simp only [pOf,List.lookup_cons,Nat.reduceBEq,beq_self_eq_true] at hv;obtain ⟨p0,rfl,l0,u0p⟩ := hv
   simp only [Act.put,List.setIfInBounds_toArray,List.set_cons_succ,List.set_cons_zero]
   (refine wpS_quiet rfl rfl ?_;intro K hK inst hx;go_big_quiet_op;(first | go_big_quiet_on | (refine ⟨_,fun _ => rfl, ?_⟩;go_big_quiet_on));clear hx inst)
   (refine wpS_quiet rfl rfl ?_;intro K hK inst hx;go_big_quiet_op;(first | go_big_quiet_on | (refine ⟨_,fun _ => rfl, ?_⟩;go_big_quiet_on));clear hx inst)
   (refine wpS_quiet rfl rfl ?_;intro K hK inst hx;go_big_quiet_op;(first | go_big_quiet_on | (refine ⟨_,fun _ => rfl, ?_⟩;go_big_quiet_on));clear hx inst)
   (refine wpS_quiet rfl rfl ?_;intro K hK inst hx;have sa2 := fun x => (fun _ => bkeep (BQ.below x) a2) (hx x);go_big_quiet_op;(first | go_big_quiet_on | (refine ⟨_,fun _ => rfl, ?_⟩;go_big_quiet_on));clear hx inst)
   refine wpS_fresh rfl rfl (fun w' hb hF => ?_) ?_
   ·change freshAt _ _ _ (IsMod 6) _;unfold freshAt;go_simp;exact modF (by decide) (by decide)
   intro v W hv;simp only [pOf,List.lookup_cons,Nat.reduceBEq,beq_self_eq_true] at hv;obtain ⟨p1,rfl,l1,u1p⟩ := hv
   simp only [Act.put,List.setIfInBounds_toArray,List.set_cons_succ,List.set_cons_zero]
   (refine wpS_quiet rfl rfl ?_;intro K hK inst hx;go_big_quiet_op;(first | go_big_quiet_on | (refine ⟨_,fun _ => rfl, ?_⟩;go_big_quiet_on));clear hx inst)
   (refine wpS_quiet rfl rfl ?_;intro K hK inst hx;go_big_quiet_op;(first | go_big_quiet_on | (refine ⟨_,fun _ => rfl, ?_⟩;go_big_quiet_on));clear hx inst)
   (refine wpS_quiet rfl rfl ?_;intro K hK inst hx;go_big_quiet_op;(first | go_big_quiet_on | (refine ⟨_,fun _ => rfl, ?_⟩;go_big_quiet_on));clear hx inst)
   (refine wpS_quiet rfl rfl ?_;intro K hK inst hx;have sa3 := fun x => (fun _ => bkeep (BQ.below x) a3) (hx x);go_big_quiet_op;(first | go_big_quiet_on | (refine ⟨_,fun _ => rfl, ?_⟩;go_big_quiet_on));clear hx inst)
   refine wpS_fresh rfl rfl (fun w' hb hF => ?_) ?_
   ·change freshAt _ _ _ (IsMod 100) _;unfold freshAt;go_simp;exact modF (by decide) (by decide)
   intro v W hv;simp only [pOf,List.lookup_cons,Nat.reduceBEq,beq_self_eq_true] at hv;obtain ⟨p2,rfl,l2,u2p⟩ := hv
   simp only [Act.put,List.setIfInBounds_toArray,List.set_cons_succ,List.set_cons_zero]
   (refine wpS_quiet rfl rfl ?_;intro K hK inst hx;go_big_quiet_op;(first | go_big_quiet_on | (refine ⟨_,fun _ => rfl, ?_⟩;go_big_quiet_on));clear hx inst)
   (refine wpS_quiet rfl rfl ?_;intro K hK inst hx;go_big_quiet_op;(first | go_big_quiet_on | (refine ⟨_,fun _ => rfl, ?_⟩;go_big_quiet_on));clear hx inst)
   (refine wpS_quiet rfl rfl ?_;intro K hK inst hx;go_big_quiet_op;(first | go_big_quiet_on | (refine ⟨_,fun _ => rfl, ?_⟩;go_big_quiet_on));clear hx inst)
   (refine wpS_quiet rfl rfl ?_;intro K hK inst hx;have sa4 := fun x => (fun _ => bkeep (BQ.below x) a4) (hx x);go_big_quiet_op;(first | go_big_quiet_on | (refine ⟨_,fun _ => rfl, ?_⟩;go_big_quiet_on));clear hx inst)
   refine wpS_fresh rfl rfl (fun w' hb hF => ?_) ?_
   ·change freshAt _ _ _ (IsMod 300) _;unfold freshAt;go_simp;exact modF (by decide) (by decide)
   intro v W hv;simp only [pOf,List.lookup_cons,Nat.reduceBEq,beq_self_eq_true] at hv;obtain ⟨p3,rfl,l3,u3p⟩ := hv
   simp only [Act.put,List.setIfInBounds_toArray,List.set_cons_succ,List.set_cons_zero]
   (refine wpS_quiet rfl rfl ?_;intro K hK inst hx;go_big_quiet_op;(first | go_big_quiet_on | (refine ⟨_,fun _ => rfl, ?_⟩;go_big_quiet_on));clear hx inst)
   (refine wpS_quiet rfl rfl ?_;intro K hK inst hx;go_big_quiet_op;(first | go_big_quiet_on | (refine ⟨_,fun _ => rfl, ?_⟩;go_big_quiet_on));clear hx inst)
   (refine wpS_quiet rfl rfl ?_;intro K hK inst hx;go_big_quiet_op;(first | go_big_quiet_on | (refine ⟨_,fun _ => rfl, ?_⟩;go_big_quiet_on));clear hx inst)
   (refine wpS_quiet rfl rfl ?_;intro K hK inst hx;have sa4 := fun x => (fun _ => bkeep (BQ.below x) a4) (hx x);go_big_quiet_op;(first | go_big_quiet_on | (refine ⟨_,fun _ => rfl, ?_⟩;go_big_quiet_on));clear hx inst)
   (refine wpS_quiet rfl rfl ?_;intro K hK inst hx;go_big_quiet_op;(first | go_big_quiet_on | (refine ⟨_,fun _ => rfl, ?_⟩;go_big_quiet_on));clear hx inst)
   refine wpS_fresh rfl rfl (fun w' hb hF => ?_) ?_
   ·change freshAt _ _ _ (IsMod 3000) _;unfold freshAt;go_simp;exact modF (by decide) (by decide)
   intro v W hv;simp only [pOf,List.lookup_cons,Nat.reduceBEq,beq_self_eq_true] at hv;obtain ⟨p4,rfl,l4,u4p⟩ := hv
   simp only [Act.put,List.setIfInBounds_toArray,List.set_cons_succ,List.set_cons_zero]
   (refine wpS_quiet rfl rfl ?_;intro K hK inst hx;go_big_quiet_op;(first | go_big_quiet_on | (refine ⟨_,fun _ => rfl, ?_⟩;go_big_quiet_on));clear hx inst)
   (refine wpS_quiet rfl rfl ?_;intro K hK inst hx;go_big_quiet_op;(first | go_big_quiet_on | (refine ⟨_,fun _ => rfl, ?_⟩;go_big_quiet_on));clear hx inst)
   refine wpS_nil ?_
   intro w2 hall
   have hb := hall.1
   clear hall a1 a2 a3 a4
   have hA2 := hA.next hb
   obtain ⟨f2,g2⟩ := hA2.floor 2 _ rfl
   obtain ⟨f3,g3⟩ := hA2.floor 3 _ rfl
   obtain ⟨f4,g4⟩ := hA2.floor 4 _ rfl
   obtain ⟨f5,g5⟩ := hA2.floor 5 _ rfl
   obtain ⟨f6,g6⟩ := hA2.floor 6 _ rfl
   obtain ⟨f7,g7⟩ := hA2.floor 7 _ rfl
   refine wpAny_ready (rs := [27]) (by kernel_rfl) (by simp) ?_
   refine AllReady.cons rfl (fun K hK => ?_) AllReady.nil
   go_simp
   refine hK _ _ ?_;clear hK K
   refine wpAny_ready (rs := [28]) (by kernel_rfl) (by simp) ?_
   refine AllReady.cons rfl (fun K hK => ?_) AllReady.nil
   go_simp
   refine hK _ _ ?_;clear hK K
   refine wpAny_done (by kernel_rfl) ?_ _
   have hA3 := hA2.box (c1 := 1) (c2 := 1 + p0) (c3 := 1 + p1) (c4 := 40 + p2) (c5 := 60 + p3) (c6 := 300 + p4)
   have hbx : boxOk ⟨1,1 + p0,1 + p1,40 + p2,60 + p3,300 + p4⟩ = true := boxOk_iff.2 (by dsimp only;omega)
   clear hA hA2 hb f2 g2 f3 g3 f4 g4 f5 g5 f6 g6 f7 g7
   generalize 1 + p0 = b2 at hA3 hbx ⊢
   generalize 1 + p1 = b3 at hA3 hbx ⊢
   generalize 40 + p2 = b4 at hA3 hbx ⊢
   generalize 60 + p3 = b5 at hA3 hbx ⊢
   generalize 300 + p4 = b6 at hA3 hbx ⊢
   have HBX := hid hbx
   clear hbx l0 u0p l1 u1p l2 u2p l3 u3p l4 u4p
   go_upto_region 14 with fail
   generalize hW : World.setCell _ _ _ = W3 at hA3 ⊢
   clear hW
   have a5 := (hA3.arg 5 _ rfl).1
   go_upto_block 2 with fail
   go_cut [] from 4 (fun wx => ∃ (iv : Value) (xs : List It),(xs.length ≤ 5 ∧ xs.all (itemB ss) = true) ∧ MadeAt 109 32 w.heap.size w [.slice ra n rc, .int .i64 z0, .int .i64 z1, .int .i64 z2, .int .i64 z3, .slice ia m ic] [1,b2,b3,b4,b5,b6] (.slice sa ss.length sc) iv ss xs wx)
   case first =>
    go_wp2_with fail
    go_loopg [114] m (fun gk kv wr => ∃ (k : Nat) (iv : Value) (xs : List It),k ≤ m ∧ gk = m - k ∧ kv = .int .i64 k ∧ (xs.length = k ∧ k ≤ 5) ∧ xs.all (itemB ss) = true ∧ MadeAt 109 32 w.heap.size w [.slice ra n rc, .int .i64 z0, .int .i64 z1, .int .i64 z2, .int .i64 z3, .slice ia m ic] [1,b2,b3,b4,b5,b6] (.slice sa ss.length sc) iv ss xs wr)
    case atStart => exact ⟨0,_, [],Nat.zero_le _,rfl,rfl,⟨rfl,by omega⟩,rfl,hA3⟩
    case round =>
     clear hA3 a5
     obtain ⟨k,iv,xs,hk,hgk,rfl,⟨hxl,hk5⟩,hall,hA⟩ := hrel
     have HGK := hid hgk;have HALL := hid hall;clear hgk hall
     by_cases hlt : k < m
     ·have hki : (k : Int) < (m : Int) := by omega
      obtain ⟨a',ha,hrl2,hc0,hcc⟩ := (show RowsAt 3 wr (.slice ia its.length ic) its by rw [HM.out];exact hiv.below (by have := hA.below;exact this)).row (k := k) (by rw [HM.out];exact hlt)
      subst ha
      obtain ⟨y0,y1,y2,hrow⟩ := len3 hrl2
      rw [hrow] at hc0 hcc
      have r0 := hc0 _ rfl
      have r1 := hcc 1 _ (by decide) rfl
      have r2 := hcc 2 _ (by decide) rfl
      clear hc0 hcc hrl2
      have hrow2 : ∀ z ∈ [y0,y1,y2],I64 z := by rw [← hrow];exact ((show RowsAt 3 w (.slice (some a') its.length ic) its by rw [HM.out];exact hiv).i64 _ (List.getElem_mem _)).2
      clear hrow
      go_upto_region 17 with fail
      by_cases hk55 : k = 5
      ·have hk55i : (k : Int) = 5 := by omega
       go_wp2_with fail
       go_meet
       exact ⟨iv,xs,⟨by omega,HALL.out⟩,hA.next ((Below.refl _ _).alloc (Nat.le_refl _) _)⟩
      ·have hk55i : ¬ (k : Int) = 5 := by omega
       go_upto_region 18 with fail
       have hA9 := hA.next (W' := wr.alloc (.cells #[.int .i64 y0, .int .i64 y1, .int .i64 y2] 148)) ((Below.refl _ _).alloc (Nat.le_refl _) _)
       have c0 : (wr.alloc (.cells #[.int .i64 y0, .int .i64 y1, .int .i64 y2] 148)).cell? ⟨wr.heap.size,0,none⟩ = some (.int .i64 y0) := by simp [go_sem]
       have c1 : (wr.alloc (.cells #[.int .i64 y0, .int .i64 y1, .int .i64 y2] 148)).cell? ⟨wr.heap.size,1,none⟩ = some (.int .i64 y1) := by simp [go_sem]
       have c2 : (wr.alloc (.cells #[.int .i64 y0, .int .i64 y1, .int .i64 y2] 148)).cell? ⟨wr.heap.size,2,none⟩ = some (.int .i64 y2) := by simp [go_sem]
       generalize hW9 : World.alloc wr _ = W9 at hA9 c0 c1 c2 ⊢
       have hNB : wr.heap.size < W9.heap.size := by rw [← hW9];simp
       have hNi := hA.lt.2
       obtain ⟨N,hN⟩ : ∃ N,wr.heap.size = N := ⟨_,rfl⟩
       rw [hN] at c0 c1 c2 hNB hNi ⊢
       have hNB2 : w.heap.size + 1 + 1 + 1 ≤ N := by rw [← hN];exact hA.size
       clear hA r0 r1 r2 hW9 hN
       obtain ⟨xa,xc,rfl,hxl2⟩ := owns_shape hA9.items
       rw [hxl] at hA9 hxl2 hNi
       have HNI := hid hNi;clear hNi
       have f8 := (hA9.floor 8 _ rfl).1
       have f0 := (hA9.floor 0 _ rfl).1
       refine wp_region_Rs [(8,IsMod (ss.length : Int)),(12,IsMod 10),(14,NewItem W9.heap.size (ss.length : Int))] [0,1,2,3,4,5,6,7,8,9,10,11,12,13,14] 3 (by kernel_rfl) rfl (by simp only [List.forall_mem_cons];exact ⟨keeps_mod,keeps_mod,keeps_item,fun _ h => by cases h⟩) (by kernel_rfl) ?_
       simp only [numbered,List.filterMap_cons,List.filterMap_nil,List.getElem?_toArray,List.getElem?_cons_succ,List.getElem?_cons_zero,Option.map_some]
       show wpS _ _ _ _ _ _ _ [(_,_),(_,_),(_,_),(_,_),(_,_),(_,_),(_,_),(_,_),(_,_),(_,_),(_,_),(_,_),(_,_),(_,_),(_,_)] _ _
       (refine wpS_quiet rfl rfl ?_;intro K hK inst hx;go_big_quiet_op;(first | go_big_quiet_on | (refine ⟨_,fun _ => rfl, ?_⟩;go_big_quiet_on));clear hx inst)
       (refine wpS_quiet rfl rfl ?_;intro K hK inst hx;have sf8 := fun x => (fun _ => bkeep (BQ.below x) f8) (hx x);go_big_quiet_op;(first | go_big_quiet_on | (refine ⟨_,fun _ => rfl, ?_⟩;go_big_quiet_on));clear hx inst)
       (refine wpS_quiet rfl rfl ?_;intro K hK inst hx;go_big_quiet_op;(first | go_big_quiet_on | (refine ⟨_,fun _ => rfl, ?_⟩;go_big_quiet_on));clear hx inst)
       (refine wpS_quiet rfl rfl ?_;intro K hK inst hx;have sc0 := fun x => (fun _ => bkeep (BQ.below x) c0) (hx x);go_big_quiet_op;(first | go_big_quiet_on | (refine ⟨_,fun _ => rfl, ?_⟩;go_big_quiet_on));clear hx inst)
       (refine wpS_quiet rfl rfl ?_;intro K hK inst hx;go_big_quiet_op;(first | go_big_quiet_on | (refine ⟨_,fun _ => rfl, ?_⟩;go_big_quiet_on));clear hx inst)
       (refine wpS_quiet rfl rfl ?_;intro K hK inst hx;go_big_quiet_op;(first | go_big_quiet_on | (refine ⟨_,fun _ => rfl, ?_⟩;go_big_quiet_on));clear hx inst)
       (refine wpS_quiet rfl rfl ?_;intro K hK inst hx;have sf0 := fun x => (fun _ => bkeep (BQ.below x) f0) (hx x);go_big_quiet_op;(first | go_big_quiet_on | (refine ⟨_,fun _ => rfl, ?_⟩;go_big_quiet_on));clear hx inst)
       (refine wpS_quiet rfl rfl ?_;intro K hK inst hx;go_big_quiet_op;(first | go_big_quiet_on | (refine ⟨_,fun _ => rfl, ?_⟩;go_big_quiet_on));clear hx inst)
       refine wpS_fresh rfl rfl (fun w' hb hF => ?_) ?_
       ·change freshAt _ _ _ (IsMod (ss.length : Int)) _;unfold freshAt;go_simp;exact modF (by omega) (by omega)
       intro v W hv;simp only [pOf,List.lookup_cons,Nat.reduceBEq,beq_self_eq_true] at hv;obtain ⟨p5,rfl,l5,u5p⟩ := hv
       simp only [Act.put,List.setIfInBounds_toArray,List.set_cons_succ,List.set_cons_zero]
       (refine wpS_quiet rfl rfl ?_;intro K hK inst hx;go_big_quiet_op;(first | go_big_quiet_on | (refine ⟨_,fun _ => rfl, ?_⟩;go_big_quiet_on));clear hx inst)
       (refine wpS_quiet rfl rfl ?_;intro K hK inst hx;go_big_quiet_op;(first | go_big_quiet_on | (refine ⟨_,fun _ => rfl, ?_⟩;go_big_quiet_on));clear hx inst)
       (refine wpS_quiet rfl rfl ?_;intro K hK inst hx;have sc2 := fun x => (fun _ => bkeep (BQ.below x) c2) (hx x);go_big_quiet_op;(first | go_big_quiet_on | (refine ⟨_,fun _ => rfl, ?_⟩;go_big_quiet_on));clear hx inst)
       refine wpS_fresh rfl rfl (fun w' hb hF => ?_) ?_
       ·change freshAt _ _ _ (IsMod 10) _;unfold freshAt;go_simp;exact modF (by decide) (by decide)
       intro v W hv;simp only [pOf,List.lookup_cons,Nat.reduceBEq,beq_self_eq_true] at hv;obtain ⟨p6,rfl,l6,u6p⟩ := hv
       simp only [Act.put,List.setIfInBounds_toArray,List.set_cons_succ,List.set_cons_zero]
       (refine wpS_quiet rfl rfl ?_;intro K hK inst hx;go_big_quiet_op;(first | go_big_quiet_on | (refine ⟨_,fun _ => rfl, ?_⟩;go_big_quiet_on));clear hx inst)
       refine wpS_fresh rfl rfl (fun w' hb hF => ?_) ?_
       ·change freshAt _ _ _ (NewItem W9.heap.size (ss.length : Int)) _;unfold freshAt;go_simp;exact ⟨(list_of (n := 1) hb).1,p5,p6,⟨⟨l5,u5p⟩,l6,u6p⟩,(list_of hb).2⟩
       intro v W hv;simp only [pOf,List.lookup_cons,Nat.reduceBEq,beq_self_eq_true] at hv;obtain ⟨_,_,_,B14,hB14,rfl, -⟩ := hv
       simp only [Act.put,List.setIfInBounds_toArray,List.set_cons_succ,List.set_cons_zero]
       refine wpS_nil ?_
       intro w2 hall
       have hb := hall.1
       have h51 : NewItem W9.heap.size (ss.length : Int) _ w2 := hall.2 14 _ rfl
       obtain ⟨e0,e1,⟨⟨l5,u5p⟩,l6,u6p⟩,B',hB',hv',hn'⟩ := h51
       obtain rfl : B14 = B' := by simpa using hv'
       clear hall
       have hA2 := hA9.next hb
       have hz2 := hA2.size
       replace c1 := bkeep hb c1
       have hown2 : w2.ownsRow (w.heap.size + 1 + 1 + 1) 32 3 (.slice xa k xc) k ((xs.map rowX).flatten.map (Value.int .i64)) := by have h := hA2.items;rw [hxl] at h;exact h
       refine wpAny_ready (rs := [15]) (by kernel_rfl) (by simp) ?_
       refine AllReady.cons rfl (fun K hK => ?_) AllReady.nil
       refine (if_pos (show Region.wanted _ _ = true from rfl)).mpr ?_
       refine wp_append_own w2 (.tmp 122) (.tmp 135) 28 rfl (w.heap.size + 1 + 1 + 1) 32 i2 (.agg #[.int .i64 0, .int .i64 0, .int .i64 0]) 3 24 Tryz.underlying28 ht0 ht1 ht2 ht3 rfl (by decide) (.slice xa k xc) k _ rfl hown2 ⟨B14,0,none⟩ 1 1 ([1 + e0,1,e1].map (Value.int .i64)) rfl rfl (fun j u h => by rw [Go.WideShapes.add_plain,Nat.zero_add];exact (hn' j u h).1) ints_one (by unfold maxLen;omega) (by omega) (by omega) ?_
       intro v72 w3 ho3 hg3 hnil3
       refine hK _ _ ?_
       clear hK K hnil3
       obtain ⟨xb,xd,rfl,hxc1,hxc2⟩ := own_some ho3 (by omega)
       have hfl := cells_grown hA2.floor hg3 (own_ne hA2.items (by omega))
       have f8 := (hfl 8 _ rfl).1;have f9 := (hfl 8 _ rfl).2
       clear hfl
       refine wpAny_ready (rs := [16]) (by kernel_rfl) (by simp) ?_
       refine AllReady.cons rfl (fun K hK => ?_) AllReady.nil
       go_simp
       refine hK _ _ ?_;clear hK K
       refine wpAny_ready (rs := [17]) (by kernel_rfl) (by simp) ?_
       refine AllReady.cons rfl (fun K hK => ?_) AllReady.nil
       go_simp
       refine hK _ _ ?_;clear hK K
       refine wpAny_done (by kernel_rfl) ?_ _
       have hA3 := hA2.add (x := ⟨1 + e0,1,e1⟩) (by decide) hg3 (by rw [hxl];exact ho3)
       have hit : itemB ss ⟨1 + e0,1,e1⟩ = true := goodS_item hg (by omega) (by omega) l6 (by omega)
       have hall2 := all_push HALL.out hit
       have HALL2 := hid hall2;clear hall2 hit
       have hcN : w3.cell? ⟨N,1,none⟩ = some (.int .i64 y1) := grown_kept hg3 c1 (fun e => by have := HNI.out N e.symm;omega)
       have c1 : (w3.setCell ⟨w.heap.size + 1 + 1,8,none⟩ (.slice (some ⟨xb,0,none⟩) (k + 1) xd)).cell? ⟨N,1,none⟩ = some (.int .i64 y1) := setc_block hcN (by omega)
       clear hcN f8 f9 f0 hn' hown2 hb hA9 c0 c2
       generalize hW4 : World.setCell w3 _ _ = W4 at hA3 c1 ⊢
       clear hW4 ho3 hg3 hA2
       have hkx : (xs ++ [(⟨1 + e0,1,e1⟩ : It)])[k]? = some ⟨1 + e0,1,e1⟩ := by rw [← hxl];simp
       obtain ⟨j0,j1,j2⟩ := flat_at hkx
       have i0 := hA3.items.cells (g := xb) rfl _ _ j0;rw [Go.WideShapes.add_plain,Nat.zero_add] at i0
       have i1 := hA3.items.cells (g := xb) rfl _ _ j1;rw [Go.WideShapes.add_plain,Nat.zero_add] at i1
       have i2 := hA3.items.cells (g := xb) rfl _ _ j2;rw [Go.WideShapes.add_plain,Nat.zero_add] at i2
       have f8 := (hA3.floor 8 _ rfl).1
       have hlen : (xs ++ [(⟨1 + e0,1,e1⟩ : It)]).length = k + 1 := by simp [hxl]
       have HLEN := hid hlen;clear hlen hkx j0 j1 j2
       dsimp only at i0 i1 i2
       have HX2 := hid hxl;clear hxl
       go_upto_region 20 with fail
       have hA5 := hA3.next (W' := W4.alloc (.cells #[.int .i64 (1 + e0), .int .i64 1, .int .i64 e1] 32)) ((Below.refl _ _).alloc (Nat.le_refl _) _)
       have hlt5 := hA3.lt
       have HLT := hid hlt5;clear hlt5
       have hz5 := hA3.size
       replace i0 := akeep (o := .cells #[.int .i64 (1 + e0), .int .i64 1, .int .i64 e1] 32) i0
       replace i1 := akeep (o := .cells #[.int .i64 (1 + e0), .int .i64 1, .int .i64 e1] 32) i1
       replace i2 := akeep (o := .cells #[.int .i64 (1 + e0), .int .i64 1, .int .i64 e1] 32) i2
       replace c1 := akeep (o := .cells #[.int .i64 (1 + e0), .int .i64 1, .int .i64 e1] 32) c1
       obtain ⟨d0,g0⟩ := CellsAt.new W4 [.int .i64 (1 + e0), .int .i64 1, .int .i64 e1] 32 0 _ rfl
       obtain ⟨d1,g1⟩ := CellsAt.new W4 [.int .i64 (1 + e0), .int .i64 1, .int .i64 e1] 32 1 _ rfl
       obtain ⟨d2,g2⟩ := CellsAt.new W4 [.int .i64 (1 + e0), .int .i64 1, .int .i64 e1] 32 2 _ rfl
       generalize hW5 : World.alloc W4 _ = W5 at hA5 i0 i1 i2 c1 d0 d1 d2 g0 g1 g2 ⊢
       obtain ⟨Y,hY⟩ : ∃ Y,W4.heap.size = Y := ⟨_,rfl⟩
       rw [hY] at d0 d1 d2 g0 g1 g2 hz5 HLT ⊢
       have hz6 : W5.heap.size = Y + 1 := by rw [← hW5, ← hY];simp
       have HZ6 := hid hz6;clear hW5 hY hz6 hA3 f8
       go_upto_if 146 with fail
       generalize hcond : ((_ : Int) == (0 : Int)) = cb
       clear hcond
       cases cb
       ·go_wp2_with fail
        go_roundg (m - (k + 1))
        case measure => have h := HGK.out;omega
        case rel => exact ⟨k + 1,_,xs ++ [(⟨1 + e0,1,e1⟩ : It)],by omega,rfl,by go_num,⟨HLEN.out,by omega⟩,HALL2.out,hA5⟩
       ·go_wp2_with fail
        refine (modR (by decide) (by decide)).mono ?_
        rintro e wm ⟨p7,rfl,rfl,l7,u7p⟩
        go_upto_region 22 with fail
        have hA6 := hA5.side (b := Y) (o := 1) (u := .int .i64 (1 + p7)) hz5 (HLT.out.1) (HLT.out.2)
        have hYne : Y ≠ xb := fun e => by have := HLT.out.2 xb rfl;omega
        have hYne2 : xb ≠ Y := fun e => hYne e.symm
        have i0' : (W5.setCell ⟨Y,1,none⟩ (.int .i64 (1 + p7))).cell? _ = _ := setc_block i0 hYne2
        have i1' : (W5.setCell ⟨Y,1,none⟩ (.int .i64 (1 + p7))).cell? _ = _ := setc_block i1 hYne2
        have i2' : (W5.setCell ⟨Y,1,none⟩ (.int .i64 (1 + p7))).cell? _ = _ := setc_block i2 hYne2
        have d0' : (W5.setCell ⟨Y,1,none⟩ (.int .i64 (1 + p7))).cell? ⟨Y,0,none⟩ = some (.int .i64 (1 + e0)) := setc_other d0 (by decide)
        have d1' : (W5.setCell ⟨Y,1,none⟩ (.int .i64 (1 + p7))).cell? ⟨Y,1,none⟩ = some (.int .i64 (1 + p7)) := setc_same d1
        have d2' : (W5.setCell ⟨Y,1,none⟩ (.int .i64 (1 + p7))).cell? ⟨Y,2,none⟩ = some (.int .i64 e1) := setc_other d2 (by decide)
        generalize World.setCell W5 _ _ = W6 at hA6 i0' i1' i2' d0' d1' d2' ⊢
        clear hA5 d0 d1 d2 g0 g1 g2 i0 i1 i2 c1
        have f0 := (hA6.floor 0 _ rfl).1
        have f1 := (hA6.floor 1 _ rfl).1
        have hrs := hA6.rows hg
        obtain ⟨c,hc⟩ : ∃ c,ckI ss [] (⟨1 + e0,1 + p7,e1⟩ : It) = c := ⟨_,rfl⟩
        have HC := hid hc;clear hc
        go_wp2_with fail
        refine (checkItem hrs no_bodies7 HC.out).mono ?_
        rintro e w7 ⟨rfl,hb⟩
        have hA7 := hA6.next hb
        replace i0' := bkeep hb i0';replace d0' := bkeep hb d0'
        replace i1' := bkeep hb i1';replace d1' := bkeep hb d1'
        replace i2' := bkeep hb i2';replace d2' := bkeep hb d2'
        by_cases hc0 : c = 0
        ·have hcb : (c == 0) = true := by simp [hc0]
         have hib : itemB ss (⟨1 + e0,1 + p7,e1⟩ : It) = true := by have h := HC.out;rw [hc0] at h;unfold ckI at h;rw [if_pos (goodS_ck hg)] at h;by_cases h2 : itemB ss (⟨1 + e0,1 + p7,e1⟩ : It) = true;exact h2;rw [if_neg h2] at h;cases h
         have hall3 := all_over (i := k) HALL2.out hib
         have HALL3 := hid hall3;clear hall3 hib
         subst hc0
         have f8 := (hA7.floor 8 _ rfl).1
         have j0 := owns_frozen hA7.items rfl (k * 3 + 0)
         have j1 := owns_frozen hA7.items rfl (k * 3 + 1)
         have j2 := owns_frozen hA7.items rfl (k * 3 + 2)
         rw [Nat.add_zero] at j0
         go_upto_region 24 with fail
         have hA7b := hA7
         rw [← HLEN.out] at hA7b
         have hA8 := MadeAt.over (i := k) (x := (⟨1 + e0,1 + p7,e1⟩ : It)) hA7b (by decide) (by rw [HLEN.out];omega)
         go_wp2_with fail
         go_roundg (m - (k + 1))
         case measure => have h := HGK.out;omega
         case rel => exact ⟨k + 1,_,(xs ++ [(⟨1 + e0,1,e1⟩ : It)]).set k (⟨1 + e0,1 + p7,e1⟩ : It),by omega,rfl,by go_num,⟨by rw [List.length_set];exact HLEN.out,by omega⟩,HALL3.out,hA8⟩
        ·have hcb : (c == 0) = false := beq_eq_false_iff_ne.mpr hc0
         go_wp2_with fail
         go_roundg (m - (k + 1))
         case measure => have h := HGK.out;omega
         case rel => exact ⟨k + 1,_,xs ++ [(⟨1 + e0,1,e1⟩ : It)],by omega,rfl,by go_num,⟨HLEN.out,by omega⟩,HALL2.out,hA7⟩
     ·go_wp2_with fail
      go_meet
      exact ⟨iv,xs,⟨by omega,HALL.out⟩,hA⟩
   case rest =>
    obtain ⟨iv,xs,⟨hx5,hall⟩,hA⟩ := hcut
    obtain ⟨xa,xc,rfl,hxl2⟩ := owns_shape hA.items
    have HALL := hid hall;clear hall
    obtain ⟨f0,g0⟩ := hA.floor 0 _ rfl
    obtain ⟨f1,g1⟩ := hA.floor 1 _ rfl
    obtain ⟨f2,g2⟩ := hA.floor 2 _ rfl
    obtain ⟨f3,g3⟩ := hA.floor 3 _ rfl
    obtain ⟨f4,g4⟩ := hA.floor 4 _ rfl
    obtain ⟨f5,g5⟩ := hA.floor 5 _ rfl
    obtain ⟨f6,g6⟩ := hA.floor 6 _ rfl
    obtain ⟨f7,g7⟩ := hA.floor 7 _ rfl
    obtain ⟨f8,g8⟩ := hA.floor 8 _ rfl
    obtain ⟨s0,t0⟩ := hA.res 0 _ rfl
    obtain ⟨s1,t1⟩ := hA.res 1 _ rfl
    obtain ⟨s2,t2⟩ := hA.res 2 _ rfl
    obtain ⟨s3,t3⟩ := hA.res 3 _ rfl
    obtain ⟨s4,t4⟩ := hA.res 4 _ rfl
    obtain ⟨s5,t5⟩ := hA.res 5 _ rfl
    obtain ⟨s6,t6⟩ := hA.res 6 _ rfl
    obtain ⟨s7,t7⟩ := hA.res 7 _ rfl
    obtain ⟨s8,t8⟩ := hA.res 8 _ rfl
    have hz := hA.size
    go_wp2_with fail
    refine bodyPost_ret (v := .agg #[.slice sa ss.length sc, .slice none 0 0, .int .i64 1, .int .i64 b2, .int .i64 b3, .int .i64 b4, .int .i64 b5, .int .i64 b6, .slice xa xs.length xc]) (by simp [results,Tryz.results54,go_sem, *]) rfl ?_
    exact made_end hA hg HBX.out hx5 HALL.out
end Go.Proofs.YtodmidchpbcnpaaGreat