/- Part of a claim. -/
import Derived.Test.YthdfnkdifjajlaaGreatDoorKG32U
set_option linter.unusedVariables false
set_option linter.unusedSimpArgs false
namespace Go.Proofs.YthdfnkdifjajlaaGreatDoor
open Go.RowKit Go.Pb Go.Pb.Ware Go.Pb.Sag


theorem items_new {w : World} {B T : Nat} {xs : List It} (hB : w.heap.size = B) (hn : xs.length ≤ 1000) (hi : ∀ r ∈ xs.map rowX, ∀ z ∈ r, -100000 ≤ z ∧ z ≤ 100000) (cs : List Value) (hc : cs = (xs.map rowX).flatten.map (Value.int .i64)) :
  RowsAt 3 (w.alloc (.cells cs.toArray T)) (.slice (some ⟨B,0,none⟩) xs.length xs.length) (xs.map rowX) := by
 subst hB;subst hc
 have hlen : ((xs.map rowX).flatten.map (Value.int .i64)).length = xs.length * 3 := by
  rw [List.length_map]
  clear hn hi
  induction xs with
  | nil => rfl
  | cons x xs ih => rw [List.map_cons,List.flatten_cons,List.length_append,ih,List.length_cons];show 3 + _ = _;omega
 have h := owns_new (w := w) (lo := 0) (T := T) (n := xs.length) (size := 3) hlen (by unfold maxLen;omega) (Nat.zero_le _)
 refine rowsAt_of_owns (e := T) (base := 0) (fun r hr => ?_) (by rw [List.length_map];exact h) (fun r hr z hz => i64_small (hi r hr z hz).1 (hi r hr z hz).2)
 obtain ⟨x,_,rfl⟩ := List.mem_map.1 hr;rfl
theorem nums_new {w : World} {B T : Nat} {zs : List Int} (hB : w.heap.size = B) (hn : zs.length ≤ 1000) (hi : ∀ z ∈ zs, -100000 ≤ z ∧ z ≤ 100000) :
  NumsAt (w.alloc (.cells (zs.map (Value.int .i64)).toArray T)) (.slice (some ⟨B,0,none⟩) zs.length zs.length) zs := by
 subst hB
 have h := owns_new (w := w) (lo := 0) (T := T) (n := zs.length) (size := 1) (xs := zs.map (Value.int .i64)) (by simp) (by unfold maxLen;omega) (Nat.zero_le _)
 exact numsAt_of_owns (fun z hz => i64_small (hi z hz).1 (hi z hz).2) h
theorem stands_new {w : World} {B T : Nat} {qs : List Sq} (hB : w.heap.size = B) (hn : qs.length ≤ 1000) (cs : List Value) (hc : cs = qs.flatMap cellsQ) :
  StAt (w.alloc (.cells cs.toArray T)) (.slice (some ⟨B,0,none⟩) qs.length qs.length) qs := by
 subst hB;subst hc
 have hlen : (qs.flatMap cellsQ).length = qs.length * 3 := by
  clear hn
  induction qs with
  | nil => rfl
  | cons x xs ih => rw [List.flatMap_cons,List.length_append,ih,List.length_cons];show 3 + _ = _;omega
 have h := owns_new (w := w) (lo := 0) (T := T) (n := qs.length) (size := 3) hlen (by unfold maxLen;omega) (Nat.zero_le _)
 exact stAt_of_owns h
theorem keeps_rows {n : Nat} {rows : List (List Int)} : Keeps (fun v W => RowsAt n W v rows) := fun _ _ _ h hb => h.below hb
theorem keeps_grps {gs : List (List Int)} : Keeps (fun v W => ∃ u,v = .tuple #[u, .int .i64 0] ∧ ListsAt u gs W) := fun _ _ _ ⟨u,e,h⟩ hb => ⟨u,e,h.below hb⟩
theorem lists_new2 {w1 : World} {T1 T2 T3 : TypeId} : ListsAt (.slice (some ⟨w1.heap.size + 1 + 1,0,none⟩) 2 2) [[0,2], [1]] (((w1.alloc (.cells #[.int .i64 0, .int .i64 2] T1)).alloc (.cells #[.int .i64 1] T2)).alloc (.cells #[.slice (some ⟨w1.heap.size,0,none⟩) 2 2, .slice (some ⟨w1.heap.size + 1,0,none⟩) 1 1] T3)) := by
 have e1 := nums_new (w := w1) (T := T1) (zs := [0,2]) rfl (by decide) (by decide)
 have e2 := nums_new (w := w1.alloc (.cells #[.int .i64 0, .int .i64 2] T1)) (B := w1.heap.size + 1) (T := T2) (zs := [1]) (by simp) (by decide) (by decide)
 refine ⟨some ⟨w1.heap.size + 1 + 1,0,none⟩,2,rfl,fun k g hg => ?_⟩
 match k,hg with
 | 0,hg =>
  simp at hg
  subst hg
  exact ⟨_,rfl, .slice (some ⟨w1.heap.size,0,none⟩) 2 2,by simp [go_sem],e1.below (((Below.refl _ _).alloc (Nat.le_refl _) _).alloc (by simp) _)⟩
 | 1,hg =>
  simp at hg
  subst hg
  exact ⟨_,rfl, .slice (some ⟨w1.heap.size + 1,0,none⟩) 1 1,by simp [go_sem],e2.below ((Below.refl _ _).alloc (Nat.le_refl _) _)⟩
 | k + 2,hg => simp at hg
set_option maxRecDepth 100000 in
set_option maxHeartbeats 2000000 in
theorem sane_any {w : World}  :
  Calls Tryz.prog 9 #[] w (Ret w (.bool true)) := by
 unfold Ret
 go_enter Tryz.func9,Tryz.ntmps9
 go_wp2_with fail
 refine wares_any.mono ?_
 rintro e v1 ⟨sv,rfl,hb,hr⟩
 have hb0 := hb
 have hb1 : Below v1.heap.size v1 v1 := Below.refl _ _
 have hz1 := hb.size
 clear hb
 obtain ⟨sa,sc,rfl, -⟩ := hr.shape
 go_upto_region 4 with fail
 generalize hW : World.alloc (World.alloc (World.alloc v1 _) _) _ = v2
 have q0 : v2.cell? ⟨v1.heap.size,0,none⟩ = some (.slice sa exRows.length sc) := by rw [← hW];simp [go_sem]
 have q1 : v2.cell? ⟨v1.heap.size,1,none⟩ = some (.slice none 0 0) := by rw [← hW];simp [go_sem]
 have q2 : v2.cell? ⟨v1.heap.size + 1,0,none⟩ = some (.int .i64 1) := by rw [← hW];simp [go_sem]
 have q3 : v2.cell? ⟨v1.heap.size + 1,1,none⟩ = some (.int .i64 3) := by rw [← hW];simp [go_sem]
 have q4 : v2.cell? ⟨v1.heap.size + 1,2,none⟩ = some (.int .i64 2) := by rw [← hW];simp [go_sem]
 have q5 : v2.cell? ⟨v1.heap.size + 1,3,none⟩ = some (.int .i64 110) := by rw [← hW];simp [go_sem]
 have q6 : v2.cell? ⟨v1.heap.size + 1,4,none⟩ = some (.int .i64 100) := by rw [← hW];simp [go_sem]
 have q7 : v2.cell? ⟨v1.heap.size + 1,5,none⟩ = some (.int .i64 3000) := by rw [← hW];simp [go_sem]
 have q8 : v2.cell? ⟨v1.heap.size + 1 + 1,6,none⟩ = some (.int .i64 1) := by rw [← hW];simp [go_sem]
 have q9 : v2.cell? ⟨v1.heap.size + 1 + 1,7,none⟩ = some (.int .i64 2) := by rw [← hW];simp [go_sem]
 have q10 : v2.cell? ⟨v1.heap.size + 1 + 1,8,none⟩ = some (.int .i64 4) := by rw [← hW];simp [go_sem]
 have hL : RowsAt 3 v2 (.slice (some ⟨v1.heap.size + 1 + 1,0,none⟩) 3 3) (exL.map rowX) := by rw [← hW];exact items_new (T := 63) (xs := exL) (by simp) (by decide) (by decide) _ (by rfl)
 replace hr : RowsAt 11 v2 (.slice sa exRows.length sc) exRows := hr.below (by rw [← hW];go_grown)
 replace hb0 : Below w.heap.size w v2 := by rw [← hW];go_grown
 have hz2 : v2.heap.size = v1.heap.size + 1 + 1 + 1 := by rw [← hW];simp
 have HZ2 := hid hz2;clear hW hb1 hz2
 have hft : ∀ W' : World,Below v2.heap.size v2 W' → Calls Tryz.prog 23 #[.agg #[.slice sa exRows.length sc, .slice none 0 0], .agg #[.int .i64 1, .int .i64 3, .int .i64 2, .int .i64 110, .int .i64 100, .int .i64 3000], .agg #[.int .i64 1, .int .i64 2, .int .i64 4]] W' (Ret W' (.tuple #[.agg #[.int .i64 1, .int .i64 1, .int .i64 92, .int .i64 420], .int .i64 0])) := fun W' hb => foot_c (lv := .slice none 0 0) (hr.below hb)
 have HFT := hid hft;clear hft
 refine wp_region_Rl (l' := _) 10 8 rfl rfl rfl rfl rfl (by kernel_rfl) [(5,fun v _ => v = .tuple #[.agg #[.int .i64 1, .int .i64 1, .int .i64 92, .int .i64 420], .int .i64 0]),(9,NewCells v2.heap.size [.int .i64 0, .int .i64 0, .int .i64 0, .int .i64 0])] [0,1,2,3,4,5,6,7,8,9] 2 (by kernel_rfl) rfl (by simp only [List.forall_mem_cons];exact ⟨keeps_eq,keeps_new,fun _ h => by cases h⟩) (by kernel_rfl) ?_
 simp only [numbered,bound,List.set_cons_succ,List.set_cons_zero,List.filterMap_cons,List.filterMap_nil,List.getElem?_toArray,List.getElem?_cons_succ,List.getElem?_cons_zero,Option.map_some]
 show wpS _ _ _ _ _ _ _ [(_,_),(_,_),(_,_),(_,_),(_,_),(_,_),(_,_),(_,_),(_,_),(_,_)] _ _
 (refine wpS_quiet rfl rfl ?_;intro K hK inst hx;have s0 := fun x => (fun _ => bkeep (BQ.below x) q0) (hx x);have s1 := fun x => (fun _ => bkeep (BQ.below x) q1) (hx x);go_big_quiet_op;(first | go_big_quiet_on | (refine ⟨_,fun _ => rfl, ?_⟩;go_big_quiet_on));clear hx inst)
 (refine wpS_quiet rfl rfl ?_;intro K hK inst hx;have s2 := fun x => (fun _ => bkeep (BQ.below x) q2) (hx x);have s3 := fun x => (fun _ => bkeep (BQ.below x) q3) (hx x);have s4 := fun x => (fun _ => bkeep (BQ.below x) q4) (hx x);have s5 := fun x => (fun _ => bkeep (BQ.below x) q5) (hx x);have s6 := fun x => (fun _ => bkeep (BQ.below x) q6) (hx x);have s7 := fun x => (fun _ => bkeep (BQ.below x) q7) (hx x);go_big_quiet_op;(first | go_big_quiet_on | (refine ⟨_,fun _ => rfl, ?_⟩;go_big_quiet_on));clear hx inst)
 (refine wpS_quiet rfl rfl ?_;intro K hK inst hx;go_big_quiet_op;(first | go_big_quiet_on | (refine ⟨_,fun _ => rfl, ?_⟩;go_big_quiet_on));clear hx inst)
 (refine wpS_quiet rfl rfl ?_;intro K hK inst hx;go_big_quiet_op;(first | go_big_quiet_on | (refine ⟨_,fun _ => rfl, ?_⟩;go_big_quiet_on));clear hx inst)
 (refine wpS_quiet rfl rfl ?_;intro K hK inst hx;have s8 := fun x => (fun _ => bkeep (BQ.below x) q8) (hx x);have s9 := fun x => (fun _ => bkeep (BQ.below x) q9) (hx x);have s10 := fun x => (fun _ => bkeep (BQ.below x) q10) (hx x);go_big_quiet_op;(first | go_big_quiet_on | (refine ⟨_,fun _ => rfl, ?_⟩;go_big_quiet_on));clear hx inst)
 refine wpS_fresh rfl rfl (fun w' hb hF => ?_) ?_
 ·change freshAt _ _ _ (fun v _ => v = .tuple #[.agg #[.int .i64 1, .int .i64 1, .int .i64 92, .int .i64 420], .int .i64 0]) _;unfold freshAt;go_simp;exact HFT.out _ hb
 intro v W hv;simp only [pOf,List.lookup_cons,Nat.reduceBEq,beq_self_eq_true] at hv;subst hv
 simp only [Act.put,List.setIfInBounds_toArray,List.set_cons_succ,List.set_cons_zero]
 (refine wpS_quiet rfl rfl ?_;intro K hK inst hx;go_big_quiet_op;(first | go_big_quiet_on | (refine ⟨_,fun _ => rfl, ?_⟩;go_big_quiet_on));clear hx inst)
 (refine wpS_quiet rfl rfl ?_;intro K hK inst hx;go_big_quiet_op;(first | go_big_quiet_on | (refine ⟨_,fun _ => rfl, ?_⟩;go_big_quiet_on));clear hx inst)
 (refine wpS_quiet rfl rfl ?_;intro K hK inst hx;go_big_quiet_op;(first | go_big_quiet_on | (refine ⟨_,fun _ => rfl, ?_⟩;go_big_quiet_on));clear hx inst)
 refine wpS_fresh rfl rfl (fun w' hb hF => ?_) ?_
 ·change freshAt _ _ _ (NewCells v2.heap.size [.int .i64 0, .int .i64 0, .int .i64 0, .int .i64 0]) _;unfold freshAt;go_simp;exact new_of hb
 intro v W hv;simp only [pOf,List.lookup_cons,Nat.reduceBEq,beq_self_eq_true] at hv;obtain ⟨B,hB5,rfl,_⟩ := hv
 simp only [Act.put,List.setIfInBounds_toArray,List.set_cons_succ,List.set_cons_zero]
 refine wpS_nil ?_
 intro w2 hall
 have hb := hall.1
 have hN : NewCells v2.heap.size [.int .i64 0, .int .i64 0, .int .i64 0, .int .i64 0] (.pointer (some ⟨B,0,none⟩)) w2 := hall.2 9 _ rfl
 obtain ⟨B',hB',hv',hn⟩ := hN
 obtain rfl : B = B' := by simpa using hv'
 have nB0 := (hn 0 _ rfl).1
 have mB0 := (hn 0 _ rfl).2
 have nB1 := (hn 1 _ rfl).1
 have mB1 := (hn 1 _ rfl).2
 have nB2 := (hn 2 _ rfl).1
 have mB2 := (hn 2 _ rfl).2
 have nB3 := (hn 3 _ rfl).1
 have mB3 := (hn 3 _ rfl).2
 clear hn hv'
 clear hall HFT
 have hz2 := HZ2.out
 refine wpAny_ready (rs := [10]) (by kernel_rfl) (by simp) ?_
 refine AllReady.cons rfl (fun K hK => ?_) AllReady.nil
 go_simp
 refine hK _ _ ?_;clear hK K
 refine wpAny_ready (rs := [11]) (by kernel_rfl) (by simp) ?_
 refine AllReady.cons rfl (fun K hK => ?_) AllReady.nil
 go_simp
 refine hK _ _ ?_;clear hK K
 refine wpAny_done (by kernel_rfl) ?_ _
 refine ⟨rfl, ?_⟩
 go_upto_region 5 with fail
 generalize hW4 : (World.setCell (World.setCell (World.setCell (World.setCell w2 ⟨B,0,none⟩ _) ⟨B,1,none⟩ _) ⟨B,2,none⟩ _) ⟨B,3,none⟩ _) = v3
 have hb : Below v2.heap.size v2 v3 := by rw [← hW4];exact ((((hb.setCell (p := ⟨B,0,none⟩) hB' _).setCell (p := ⟨B,1,none⟩) hB' _).setCell (p := ⟨B,2,none⟩) hB' _).setCell (p := ⟨B,3,none⟩) hB' _)
 have q11 : v3.cell? ⟨B,0,none⟩ = some (.int .i64 1) := by rw [← hW4];simp [go_sem,nB0,nB1,nB2,nB3]
 have q12 : v3.cell? ⟨B,1,none⟩ = some (.int .i64 1) := by rw [← hW4];simp [go_sem,nB0,nB1,nB2,nB3]
 have q13 : v3.cell? ⟨B,2,none⟩ = some (.int .i64 92) := by rw [← hW4];simp [go_sem,nB0,nB1,nB2,nB3]
 have q14 : v3.cell? ⟨B,3,none⟩ = some (.int .i64 420) := by rw [← hW4];simp [go_sem,nB0,nB1,nB2,nB3]
 clear hW4 nB0 mB0 nB1 mB1 nB2 mB2 nB3 mB3
 replace q0 := bkeep hb q0
 replace q1 := bkeep hb q1
 replace q2 := bkeep hb q2
 replace q3 := bkeep hb q3
 replace q4 := bkeep hb q4
 replace q5 := bkeep hb q5
 replace q6 := bkeep hb q6
 replace q7 := bkeep hb q7
 replace q8 := bkeep hb q8
 replace q9 := bkeep hb q9
 replace q10 := bkeep hb q10
 replace hr := hr.below hb
 replace hL := hL.below hb
 replace hb0 := bnext (w := w) (by omega) hb
 have hz3 := hb.size
 clear hb
 go_wp2_with fail
 refine (pack_c hr hL).mono ?_
 rintro e w1 ⟨pv,rfl,hb,hp⟩
 replace hb0 := bnext (w := w) (by go_grown) hb
 have hz := hb.size
 (try simp only [World.size_alloc,World.size_setCell] at hz)
 replace q0 := bkeep hb (by first | (with_reducible exact q0) | (with_reducible exact akeep q0) | (with_reducible exact akeep (akeep q0)) | simp [*,go_sem])
 replace q1 := bkeep hb (by first | (with_reducible exact q1) | (with_reducible exact akeep q1) | (with_reducible exact akeep (akeep q1)) | simp [*,go_sem])
 replace q2 := bkeep hb (by first | (with_reducible exact q2) | (with_reducible exact akeep q2) | (with_reducible exact akeep (akeep q2)) | simp [*,go_sem])
 replace q3 := bkeep hb (by first | (with_reducible exact q3) | (with_reducible exact akeep q3) | (with_reducible exact akeep (akeep q3)) | simp [*,go_sem])
 replace q4 := bkeep hb (by first | (with_reducible exact q4) | (with_reducible exact akeep q4) | (with_reducible exact akeep (akeep q4)) | simp [*,go_sem])
 replace q5 := bkeep hb (by first | (with_reducible exact q5) | (with_reducible exact akeep q5) | (with_reducible exact akeep (akeep q5)) | simp [*,go_sem])
 replace q6 := bkeep hb (by first | (with_reducible exact q6) | (with_reducible exact akeep q6) | (with_reducible exact akeep (akeep q6)) | simp [*,go_sem])
 replace q7 := bkeep hb (by first | (with_reducible exact q7) | (with_reducible exact akeep q7) | (with_reducible exact akeep (akeep q7)) | simp [*,go_sem])
 replace q8 := bkeep hb (by first | (with_reducible exact q8) | (with_reducible exact akeep q8) | (with_reducible exact akeep (akeep q8)) | simp [*,go_sem])
 replace q9 := bkeep hb (by first | (with_reducible exact q9) | (with_reducible exact akeep q9) | (with_reducible exact akeep (akeep q9)) | simp [*,go_sem])
 replace q10 := bkeep hb (by first | (with_reducible exact q10) | (with_reducible exact akeep q10) | (with_reducible exact akeep (akeep q10)) | simp [*,go_sem])
 replace q11 := bkeep hb (by first | (with_reducible exact q11) | (with_reducible exact akeep q11) | (with_reducible exact akeep (akeep q11)) | simp [*,go_sem])
 replace q12 := bkeep hb (by first | (with_reducible exact q12) | (with_reducible exact akeep q12) | (with_reducible exact akeep (akeep q12)) | simp [*,go_sem])
 replace q13 := bkeep hb (by first | (with_reducible exact q13) | (with_reducible exact akeep q13) | (with_reducible exact akeep (akeep q13)) | simp [*,go_sem])
 replace q14 := bkeep hb (by first | (with_reducible exact q14) | (with_reducible exact akeep q14) | (with_reducible exact akeep (akeep q14)) | simp [*,go_sem])
 replace hr := (hr.below (by go_grown)).below hb
 replace hL := (hL.below (by go_grown)).below hb
 clear hb
 obtain ⟨pa,pc,rfl, -⟩ := hp.shape
 go_wp2_with fail
 refine (packs_c hr hL).mono ?_
 rintro e w1 ⟨rfl,hb⟩
 replace hb0 := bnext (w := w) (by go_grown) hb
 have hz := hb.size
 (try simp only [World.size_alloc,World.size_setCell] at hz)
 replace q0 := bkeep hb (by first | (with_reducible exact q0) | (with_reducible exact akeep q0) | (with_reducible exact akeep (akeep q0)) | simp [*,go_sem])
 replace q1 := bkeep hb (by first | (with_reducible exact q1) | (with_reducible exact akeep q1) | (with_reducible exact akeep (akeep q1)) | simp [*,go_sem])
 replace q2 := bkeep hb (by first | (with_reducible exact q2) | (with_reducible exact akeep q2) | (with_reducible exact akeep (akeep q2)) | simp [*,go_sem])
 replace q3 := bkeep hb (by first | (with_reducible exact q3) | (with_reducible exact akeep q3) | (with_reducible exact akeep (akeep q3)) | simp [*,go_sem])
 replace q4 := bkeep hb (by first | (with_reducible exact q4) | (with_reducible exact akeep q4) | (with_reducible exact akeep (akeep q4)) | simp [*,go_sem])
 replace q5 := bkeep hb (by first | (with_reducible exact q5) | (with_reducible exact akeep q5) | (with_reducible exact akeep (akeep q5)) | simp [*,go_sem])
 replace q6 := bkeep hb (by first | (with_reducible exact q6) | (with_reducible exact akeep q6) | (with_reducible exact akeep (akeep q6)) | simp [*,go_sem])
 replace q7 := bkeep hb (by first | (with_reducible exact q7) | (with_reducible exact akeep q7) | (with_reducible exact akeep (akeep q7)) | simp [*,go_sem])
 replace q8 := bkeep hb (by first | (with_reducible exact q8) | (with_reducible exact akeep q8) | (with_reducible exact akeep (akeep q8)) | simp [*,go_sem])
 replace q9 := bkeep hb (by first | (with_reducible exact q9) | (with_reducible exact akeep q9) | (with_reducible exact akeep (akeep q9)) | simp [*,go_sem])
 replace q10 := bkeep hb (by first | (with_reducible exact q10) | (with_reducible exact akeep q10) | (with_reducible exact akeep (akeep q10)) | simp [*,go_sem])
 replace q11 := bkeep hb (by first | (with_reducible exact q11) | (with_reducible exact akeep q11) | (with_reducible exact akeep (akeep q11)) | simp [*,go_sem])
 replace q12 := bkeep hb (by first | (with_reducible exact q12) | (with_reducible exact akeep q12) | (with_reducible exact akeep (akeep q12)) | simp [*,go_sem])
 replace q13 := bkeep hb (by first | (with_reducible exact q13) | (with_reducible exact akeep q13) | (with_reducible exact akeep (akeep q13)) | simp [*,go_sem])
 replace q14 := bkeep hb (by first | (with_reducible exact q14) | (with_reducible exact akeep q14) | (with_reducible exact akeep (akeep q14)) | simp [*,go_sem])
 replace hr := (hr.below (by go_grown)).below hb
 replace hL := (hL.below (by go_grown)).below hb
 replace hp := (hp.below (by go_grown)).below hb
 clear hb
 go_wp2_with fail
 refine (refuse_c1 (hr.below (by go_grown)) (items_new (xs := [⟨1,3,4⟩]) (by simp) (by decide) (by decide) _ (by rfl))).mono ?_
 rintro e w1 ⟨nv,rfl,hb,hn1⟩
 replace hb0 := bnext (w := w) (by go_grown) hb
 have hz := hb.size
 (try simp only [World.size_alloc,World.size_setCell] at hz)
 replace q0 := bkeep hb (by first | (with_reducible exact q0) | (with_reducible exact akeep q0) | (with_reducible exact akeep (akeep q0)) | simp [*,go_sem])
 replace q1 := bkeep hb (by first | (with_reducible exact q1) | (with_reducible exact akeep q1) | (with_reducible exact akeep (akeep q1)) | simp [*,go_sem])
 replace q2 := bkeep hb (by first | (with_reducible exact q2) | (with_reducible exact akeep q2) | (with_reducible exact akeep (akeep q2)) | simp [*,go_sem])
 replace q3 := bkeep hb (by first | (with_reducible exact q3) | (with_reducible exact akeep q3) | (with_reducible exact akeep (akeep q3)) | simp [*,go_sem])
 replace q4 := bkeep hb (by first | (with_reducible exact q4) | (with_reducible exact akeep q4) | (with_reducible exact akeep (akeep q4)) | simp [*,go_sem])
 replace q5 := bkeep hb (by first | (with_reducible exact q5) | (with_reducible exact akeep q5) | (with_reducible exact akeep (akeep q5)) | simp [*,go_sem])
 replace q6 := bkeep hb (by first | (with_reducible exact q6) | (with_reducible exact akeep q6) | (with_reducible exact akeep (akeep q6)) | simp [*,go_sem])
 replace q7 := bkeep hb (by first | (with_reducible exact q7) | (with_reducible exact akeep q7) | (with_reducible exact akeep (akeep q7)) | simp [*,go_sem])
 replace q8 := bkeep hb (by first | (with_reducible exact q8) | (with_reducible exact akeep q8) | (with_reducible exact akeep (akeep q8)) | simp [*,go_sem])
 replace q9 := bkeep hb (by first | (with_reducible exact q9) | (with_reducible exact akeep q9) | (with_reducible exact akeep (akeep q9)) | simp [*,go_sem])
 replace q10 := bkeep hb (by first | (with_reducible exact q10) | (with_reducible exact akeep q10) | (with_reducible exact akeep (akeep q10)) | simp [*,go_sem])
 replace q11 := bkeep hb (by first | (with_reducible exact q11) | (with_reducible exact akeep q11) | (with_reducible exact akeep (akeep q11)) | simp [*,go_sem])
 replace q12 := bkeep hb (by first | (with_reducible exact q12) | (with_reducible exact akeep q12) | (with_reducible exact akeep (akeep q12)) | simp [*,go_sem])
 replace q13 := bkeep hb (by first | (with_reducible exact q13) | (with_reducible exact akeep q13) | (with_reducible exact akeep (akeep q13)) | simp [*,go_sem])
 replace q14 := bkeep hb (by first | (with_reducible exact q14) | (with_reducible exact akeep q14) | (with_reducible exact akeep (akeep q14)) | simp [*,go_sem])
 replace hr := (hr.below (by go_grown)).below hb
 replace hL := (hL.below (by go_grown)).below hb
 replace hp := (hp.below (by go_grown)).below hb
 clear hb
 obtain ⟨na,nc,rfl, -⟩ := hn1.shape
 obtain ⟨v4,hv4⟩ : ∃ v,v = w1 := ⟨_,rfl⟩
 subst hv4
 go_upto_region 11 with fail
 generalize hW : World.alloc (World.alloc (World.alloc v4 _) _) _ = v5
 have hb : Below v4.heap.size v4 v5 := by rw [← hW];go_grown
 replace q0 := bkeep hb q0
 replace q1 := bkeep hb q1
 replace q2 := bkeep hb q2
 replace q3 := bkeep hb q3
 replace q4 := bkeep hb q4
 replace q5 := bkeep hb q5
 replace q6 := bkeep hb q6
 replace q7 := bkeep hb q7
 replace q8 := bkeep hb q8
 replace q9 := bkeep hb q9
 replace q10 := bkeep hb q10
 replace q11 := bkeep hb q11
 replace q12 := bkeep hb q12
 replace q13 := bkeep hb q13
 replace q14 := bkeep hb q14
 have q15 : v5.cell? ⟨v4.heap.size,0,none⟩ = some (.int .i64 1) := by rw [← hW];simp [go_sem]
 have q16 : v5.cell? ⟨v4.heap.size,1,none⟩ = some (.slice na 1 nc) := by rw [← hW];simp [go_sem]
 have q17 : v5.cell? ⟨v4.heap.size + 1,0,none⟩ = some (.int .i64 1) := by rw [← hW];simp [go_sem]
 have q18 : v5.cell? ⟨v4.heap.size + 1,1,none⟩ = some (.int .i64 3) := by rw [← hW];simp [go_sem]
 have q19 : v5.cell? ⟨v4.heap.size + 1,2,none⟩ = some (.int .i64 3) := by rw [← hW];simp [go_sem]
 have q20 : v5.cell? ⟨v4.heap.size + 1,3,none⟩ = some (.int .i64 110) := by rw [← hW];simp [go_sem]
 have q21 : v5.cell? ⟨v4.heap.size + 1,4,none⟩ = some (.int .i64 100) := by rw [← hW];simp [go_sem]
 have q22 : v5.cell? ⟨v4.heap.size + 1,5,none⟩ = some (.int .i64 3000) := by rw [← hW];simp [go_sem]
 have q23 : v5.cell? ⟨v4.heap.size + 1 + 1,0,none⟩ = some (.int .i64 1) := by rw [← hW];simp [go_sem]
 have q24 : v5.cell? ⟨v4.heap.size + 1 + 1,1,none⟩ = some (.int .i64 1) := by rw [← hW];simp [go_sem]
 have q25 : v5.cell? ⟨v4.heap.size + 1 + 1,2,none⟩ = some (.int .i64 5) := by rw [← hW];simp [go_sem]
 replace hb0 := bnext (w := w) (by exact hb0) hb
 replace hr := hr.below hb
 replace hL := hL.below hb
 replace hp := hp.below hb
 replace hn1 := hn1.below hb
 have hz5 := hb.size
 clear hb hW
 go_wp2_with fail
 refine (refuse_c2 (hr.below (by go_grown)) (items_new (xs := [⟨1,1,5⟩,⟨1,1,5⟩]) (by simp) (by decide) (by decide) _ (by rfl))).mono ?_
 rintro e w1 ⟨mv,rfl,hb,hn2⟩
 replace hb0 := bnext (w := w) (by go_grown) hb
 have hz := hb.size
 (try simp only [World.size_alloc,World.size_setCell] at hz)
 replace q0 := bkeep hb (by first | (with_reducible exact q0) | (with_reducible exact akeep q0) | (with_reducible exact akeep (akeep q0)) | simp [*,go_sem])
 replace q1 := bkeep hb (by first | (with_reducible exact q1) | (with_reducible exact akeep q1) | (with_reducible exact akeep (akeep q1)) | simp [*,go_sem])
 replace q2 := bkeep hb (by first | (with_reducible exact q2) | (with_reducible exact akeep q2) | (with_reducible exact akeep (akeep q2)) | simp [*,go_sem])
 replace q3 := bkeep hb (by first | (with_reducible exact q3) | (with_reducible exact akeep q3) | (with_reducible exact akeep (akeep q3)) | simp [*,go_sem])
 replace q4 := bkeep hb (by first | (with_reducible exact q4) | (with_reducible exact akeep q4) | (with_reducible exact akeep (akeep q4)) | simp [*,go_sem])
 replace q5 := bkeep hb (by first | (with_reducible exact q5) | (with_reducible exact akeep q5) | (with_reducible exact akeep (akeep q5)) | simp [*,go_sem])
 replace q6 := bkeep hb (by first | (with_reducible exact q6) | (with_reducible exact akeep q6) | (with_reducible exact akeep (akeep q6)) | simp [*,go_sem])
 replace q7 := bkeep hb (by first | (with_reducible exact q7) | (with_reducible exact akeep q7) | (with_reducible exact akeep (akeep q7)) | simp [*,go_sem])
 replace q8 := bkeep hb (by first | (with_reducible exact q8) | (with_reducible exact akeep q8) | (with_reducible exact akeep (akeep q8)) | simp [*,go_sem])
 replace q9 := bkeep hb (by first | (with_reducible exact q9) | (with_reducible exact akeep q9) | (with_reducible exact akeep (akeep q9)) | simp [*,go_sem])
 replace q10 := bkeep hb (by first | (with_reducible exact q10) | (with_reducible exact akeep q10) | (with_reducible exact akeep (akeep q10)) | simp [*,go_sem])
 replace q11 := bkeep hb (by first | (with_reducible exact q11) | (with_reducible exact akeep q11) | (with_reducible exact akeep (akeep q11)) | simp [*,go_sem])
 replace q12 := bkeep hb (by first | (with_reducible exact q12) | (with_reducible exact akeep q12) | (with_reducible exact akeep (akeep q12)) | simp [*,go_sem])
 replace q13 := bkeep hb (by first | (with_reducible exact q13) | (with_reducible exact akeep q13) | (with_reducible exact akeep (akeep q13)) | simp [*,go_sem])
 replace q14 := bkeep hb (by first | (with_reducible exact q14) | (with_reducible exact akeep q14) | (with_reducible exact akeep (akeep q14)) | simp [*,go_sem])
 replace q15 := bkeep hb (by first | (with_reducible exact q15) | (with_reducible exact akeep q15) | (with_reducible exact akeep (akeep q15)) | simp [*,go_sem])
 replace q16 := bkeep hb (by first | (with_reducible exact q16) | (with_reducible exact akeep q16) | (with_reducible exact akeep (akeep q16)) | simp [*,go_sem])
 replace q17 := bkeep hb (by first | (with_reducible exact q17) | (with_reducible exact akeep q17) | (with_reducible exact akeep (akeep q17)) | simp [*,go_sem])
 replace q18 := bkeep hb (by first | (with_reducible exact q18) | (with_reducible exact akeep q18) | (with_reducible exact akeep (akeep q18)) | simp [*,go_sem])
 replace q19 := bkeep hb (by first | (with_reducible exact q19) | (with_reducible exact akeep q19) | (with_reducible exact akeep (akeep q19)) | simp [*,go_sem])
 replace q20 := bkeep hb (by first | (with_reducible exact q20) | (with_reducible exact akeep q20) | (with_reducible exact akeep (akeep q20)) | simp [*,go_sem])
 replace q21 := bkeep hb (by first | (with_reducible exact q21) | (with_reducible exact akeep q21) | (with_reducible exact akeep (akeep q21)) | simp [*,go_sem])
 replace q22 := bkeep hb (by first | (with_reducible exact q22) | (with_reducible exact akeep q22) | (with_reducible exact akeep (akeep q22)) | simp [*,go_sem])
 replace q23 := bkeep hb (by first | (with_reducible exact q23) | (with_reducible exact akeep q23) | (with_reducible exact akeep (akeep q23)) | simp [*,go_sem])
 replace q24 := bkeep hb (by first | (with_reducible exact q24) | (with_reducible exact akeep q24) | (with_reducible exact akeep (akeep q24)) | simp [*,go_sem])
 replace q25 := bkeep hb (by first | (with_reducible exact q25) | (with_reducible exact akeep q25) | (with_reducible exact akeep (akeep q25)) | simp [*,go_sem])
 replace hr := (hr.below (by go_grown)).below hb
 replace hL := (hL.below (by go_grown)).below hb
 replace hp := (hp.below (by go_grown)).below hb
 replace hn1 := (hn1.below (by go_grown)).below hb
 clear hb
 obtain ⟨ma,mc,rfl, -⟩ := hn2.shape
 obtain ⟨v6,hv6⟩ : ∃ v,v = w1 := ⟨_,rfl⟩
 subst hv6
 go_upto_region 12 with fail
 generalize hW : World.alloc v6 _ = v7
 have hb : Below v6.heap.size v6 v7 := by rw [← hW];go_grown
 replace q0 := bkeep hb q0
 replace q1 := bkeep hb q1
 replace q2 := bkeep hb q2
 replace q3 := bkeep hb q3
 replace q4 := bkeep hb q4
 replace q5 := bkeep hb q5
 replace q6 := bkeep hb q6
 replace q7 := bkeep hb q7
 replace q8 := bkeep hb q8
 replace q9 := bkeep hb q9
 replace q10 := bkeep hb q10
 replace q11 := bkeep hb q11
 replace q12 := bkeep hb q12
 replace q13 := bkeep hb q13
 replace q14 := bkeep hb q14
 replace q15 := bkeep hb q15
 replace q16 := bkeep hb q16
 replace q17 := bkeep hb q17
 replace q18 := bkeep hb q18
 replace q19 := bkeep hb q19
 replace q20 := bkeep hb q20
 replace q21 := bkeep hb q21
 replace q22 := bkeep hb q22
 replace q23 := bkeep hb q23
 replace q24 := bkeep hb q24
 replace q25 := bkeep hb q25
 have q26 : v7.cell? ⟨v6.heap.size,0,none⟩ = some (.int .i64 5) := by rw [← hW];simp [go_sem]
 have q27 : v7.cell? ⟨v6.heap.size,1,none⟩ = some (.slice ma 2 mc) := by rw [← hW];simp [go_sem]
 replace hb0 := bnext (w := w) (by exact hb0) hb
 replace hr := hr.below hb
 replace hL := hL.below hb
 replace hp := hp.below hb
 replace hn1 := hn1.below hb
 replace hn2 := hn2.below hb
 clear hb hW
 have hgr : ∀ (W' : World) (v : Value),Below v7.heap.size v7 W' → RowsAt 3 W' v (([⟨1,1,5⟩,⟨1,1,5⟩,⟨1,2,4⟩] : List It).map rowX) → Calls Tryz.prog 27 #[.agg #[.slice sa exRows.length sc, .slice none 0 0], .agg #[.int .i64 1, .int .i64 3, .int .i64 2, .int .i64 110, .int .i64 100, .int .i64 3000],v] W' (fun e w'' => ∃ v',e = .returned v' ∧ Below W'.heap.size W' w'' ∧ ∃ u,v' = .tuple #[u, .int .i64 0] ∧ ListsAt u [[0,2], [1]] w'') := fun W' v hb hv => (groups_c (hr.below hb) hv).mono fun e w'' ⟨u,e1,hb,hl⟩ => ⟨_,e1,hb,u,rfl,hl⟩
 have HGR := hid hgr;clear hgr
 refine wp_region_Rl (l' := _) 12 11 rfl rfl rfl rfl rfl (by kernel_rfl) [(7,fun v W => RowsAt 3 W v (([⟨1,1,5⟩,⟨1,1,5⟩,⟨1,2,4⟩] : List It).map rowX)),(8,fun v W => ∃ u,v = .tuple #[u, .int .i64 0] ∧ ListsAt u [[0,2], [1]] W)] [0,1,2,3,4,5,6,7,8,9,10,11] 2 (by kernel_rfl) rfl (by simp only [List.forall_mem_cons];exact ⟨keeps_rows,keeps_grps,fun _ h => by cases h⟩) (by kernel_rfl) ?_
 simp only [numbered,bound,List.set_cons_succ,List.set_cons_zero,List.filterMap_cons,List.filterMap_nil,List.getElem?_toArray,List.getElem?_cons_succ,List.getElem?_cons_zero,Option.map_some]
 show wpS _ _ _ _ _ _ _ [(_,_),(_,_),(_,_),(_,_),(_,_),(_,_),(_,_),(_,_),(_,_),(_,_),(_,_),(_,_)] _ _
 (refine wpS_quiet rfl rfl ?_;intro K hK inst hx;have s0 := fun x => (fun _ => bkeep (BQ.below x) q0) (hx x);have s1 := fun x => (fun _ => bkeep (BQ.below x) q1) (hx x);go_big_quiet_op;(first | go_big_quiet_on | (refine ⟨_,fun _ => rfl, ?_⟩;go_big_quiet_on));clear hx inst)
 (refine wpS_quiet rfl rfl ?_;intro K hK inst hx;have s2 := fun x => (fun _ => bkeep (BQ.below x) q2) (hx x);have s3 := fun x => (fun _ => bkeep (BQ.below x) q3) (hx x);have s4 := fun x => (fun _ => bkeep (BQ.below x) q4) (hx x);have s5 := fun x => (fun _ => bkeep (BQ.below x) q5) (hx x);have s6 := fun x => (fun _ => bkeep (BQ.below x) q6) (hx x);have s7 := fun x => (fun _ => bkeep (BQ.below x) q7) (hx x);go_big_quiet_op;(first | go_big_quiet_on | (refine ⟨_,fun _ => rfl, ?_⟩;go_big_quiet_on));clear hx inst)
 (refine wpS_quiet rfl rfl ?_;intro K hK inst hx;have s23 := fun x => (fun _ => bkeep (BQ.below x) q23) (hx x);have s24 := fun x => (fun _ => bkeep (BQ.below x) q24) (hx x);have s25 := fun x => (fun _ => bkeep (BQ.below x) q25) (hx x);go_big_quiet_op;(first | go_big_quiet_on | (refine ⟨_,fun _ => rfl, ?_⟩;go_big_quiet_on));clear hx inst)
 (refine wpS_quiet rfl rfl ?_;intro K hK inst hx;have s23 := fun x => (fun _ => bkeep (BQ.below x) q23) (hx x);have s24 := fun x => (fun _ => bkeep (BQ.below x) q24) (hx x);have s25 := fun x => (fun _ => bkeep (BQ.below x) q25) (hx x);go_big_quiet_op;(first | go_big_quiet_on | (refine ⟨_,fun _ => rfl, ?_⟩;go_big_quiet_on));clear hx inst)
 (refine wpS_quiet rfl rfl ?_;intro K hK inst hx;go_big_quiet_op;(first | go_big_quiet_on | (refine ⟨_,fun _ => rfl, ?_⟩;go_big_quiet_on));clear hx inst)
 (refine wpS_quiet rfl rfl ?_;intro K hK inst hx;go_big_quiet_op;(first | go_big_quiet_on | (refine ⟨_,fun _ => rfl, ?_⟩;go_big_quiet_on));clear hx inst)
 (refine wpS_quiet rfl rfl ?_;intro K hK inst hx;have s8 := fun x => (fun _ => bkeep (BQ.below x) q8) (hx x);have s9 := fun x => (fun _ => bkeep (BQ.below x) q9) (hx x);have s10 := fun x => (fun _ => bkeep (BQ.below x) q10) (hx x);go_big_quiet_op;(first | go_big_quiet_on | (refine ⟨_,fun _ => rfl, ?_⟩;go_big_quiet_on));clear hx inst)
 refine wpS_fresh rfl rfl (fun w' hb hF => ?_) ?_
 ·change freshAt _ _ _ (fun v W => RowsAt 3 W v (([⟨1,1,5⟩,⟨1,1,5⟩,⟨1,2,4⟩] : List It).map rowX)) _;unfold freshAt;go_simp;exact ⟨(Below.refl _ _).alloc (Nat.le_refl _) _,items_new (xs := [⟨1,1,5⟩,⟨1,1,5⟩,⟨1,2,4⟩]) rfl (by decide) (by decide) _ (by rfl)⟩
 intro v W hv;simp only [pOf,List.lookup_cons,Nat.reduceBEq,beq_self_eq_true] at hv;obtain ⟨ia,ic,rfl, -⟩ := hv.shape
 simp only [Act.put,List.setIfInBounds_toArray,List.set_cons_succ,List.set_cons_zero]
 refine wpS_fresh rfl rfl (fun w' hb hF => ?_) ?_
 ·change freshAt _ _ _ (fun v W => ∃ u,v = .tuple #[u, .int .i64 0] ∧ ListsAt u [[0,2], [1]] W) _;have h4 := hF 7 _ rfl (by kernel_rfl);unfold freshAt;go_simp;exact HGR.out _ _ hb h4
 intro v W hv;simp only [pOf,List.lookup_cons,Nat.reduceBEq,beq_self_eq_true] at hv;obtain ⟨u,rfl,⟨ga,gc,rfl, -⟩⟩ := hv
 simp only [Act.put,List.setIfInBounds_toArray,List.set_cons_succ,List.set_cons_zero]
 (refine wpS_quiet rfl rfl ?_;intro K hK inst hx;go_big_quiet_op;(first | go_big_quiet_on | (refine ⟨_,fun _ => rfl, ?_⟩;go_big_quiet_on));clear hx inst)
 (refine wpS_quiet rfl rfl ?_;intro K hK inst hx;go_big_quiet_op;(first | go_big_quiet_on | (refine ⟨_,fun _ => rfl, ?_⟩;go_big_quiet_on));clear hx inst)
 (refine wpS_quiet rfl rfl ?_;intro K hK inst hx;go_big_quiet_op;(first | go_big_quiet_on | (refine ⟨_,fun _ => rfl, ?_⟩;go_big_quiet_on));clear hx inst)
 refine wpS_nil ?_
 intro w2 hall
 have hb := hall.1
 have hG : ListsAt (.slice ga [[0,2], [(1 : Int)]].length gc) [[0,2], [1]] w2 := by
  obtain ⟨u,he,h⟩ := hall.2 8 _ rfl
  simp at he
  subst he
  exact h
 clear hall HGR
 refine wpAny_ready (rs := [12]) (by kernel_rfl) (by simp) ?_
 refine AllReady.cons rfl (fun K hK => ?_) AllReady.nil
 go_simp
 refine hK _ _ ?_;clear hK K
 refine wpAny_ready (rs := [13]) (by kernel_rfl) (by simp) ?_
 refine AllReady.cons rfl (fun K hK => ?_) AllReady.nil
 go_simp
 refine hK _ _ ?_;clear hK K
 refine wpAny_done (by kernel_rfl) ?_ _
 refine ⟨rfl, ?_⟩
 replace hb0 := bnext (w := w) hb0 hb
 replace hp := hp.below hb
 replace hn1 := hn1.below hb
 replace hn2 := hn2.below hb
 replace q0 := bkeep hb q0
 replace q1 := bkeep hb q1
 replace q2 := bkeep hb q2
 replace q3 := bkeep hb q3
 replace q4 := bkeep hb q4
 replace q5 := bkeep hb q5
 replace q6 := bkeep hb q6
 replace q7 := bkeep hb q7
 replace q8 := bkeep hb q8
 replace q9 := bkeep hb q9
 replace q10 := bkeep hb q10
 replace q11 := bkeep hb q11
 replace q12 := bkeep hb q12
 replace q13 := bkeep hb q13
 replace q14 := bkeep hb q14
 replace q15 := bkeep hb q15
 replace q16 := bkeep hb q16
 replace q17 := bkeep hb q17
 replace q18 := bkeep hb q18
 replace q19 := bkeep hb q19
 replace q20 := bkeep hb q20
 replace q21 := bkeep hb q21
 replace q22 := bkeep hb q22
 replace q23 := bkeep hb q23
 replace q24 := bkeep hb q24
 replace q25 := bkeep hb q25
 replace q26 := bkeep hb q26
 replace q27 := bkeep hb q27
 clear hb hr hL
 have hzz := hb0.size
 go_wp2_with fail
 refine (sameStands_any (b := true) (hp.below (by go_grown)) (stands_new (qs := [⟨0,0,false⟩,⟨0,2,true⟩,⟨1,0,false⟩]) (by simp) (by decide) _ (by rfl)) (by decide) (by decide)).mono ?_
 rintro e w1 ⟨rfl,hb⟩
 replace hb0 := bnext (w := w) (by go_grown) hb
 replace q11 := bkeep hb (by first | (with_reducible exact q11) | (with_reducible exact akeep q11) | (with_reducible exact akeep (akeep (akeep q11))) | simp [*,go_sem])
 replace q12 := bkeep hb (by first | (with_reducible exact q12) | (with_reducible exact akeep q12) | (with_reducible exact akeep (akeep (akeep q12))) | simp [*,go_sem])
 replace q13 := bkeep hb (by first | (with_reducible exact q13) | (with_reducible exact akeep q13) | (with_reducible exact akeep (akeep (akeep q13))) | simp [*,go_sem])
 replace q14 := bkeep hb (by first | (with_reducible exact q14) | (with_reducible exact akeep q14) | (with_reducible exact akeep (akeep (akeep q14))) | simp [*,go_sem])
 replace q15 := bkeep hb (by first | (with_reducible exact q15) | (with_reducible exact akeep q15) | (with_reducible exact akeep (akeep (akeep q15))) | simp [*,go_sem])
 replace q16 := bkeep hb (by first | (with_reducible exact q16) | (with_reducible exact akeep q16) | (with_reducible exact akeep (akeep (akeep q16))) | simp [*,go_sem])
 replace q26 := bkeep hb (by first | (with_reducible exact q26) | (with_reducible exact akeep q26) | (with_reducible exact akeep (akeep (akeep q26))) | simp [*,go_sem])
 replace q27 := bkeep hb (by first | (with_reducible exact q27) | (with_reducible exact akeep q27) | (with_reducible exact akeep (akeep (akeep q27))) | simp [*,go_sem])
 replace hn1 := (hn1.below (by go_grown)).below hb
 replace hn2 := (hn2.below (by go_grown)).below hb
 replace hG := (hG.below (by go_grown)).below hb
 clear hb
 have hzz := hb0.size
 go_wp2_with fail
 refine (sameInts_any (b := true) (hn1.below (by go_grown)) (nums_new (zs := [0]) (by simp) (by decide) (by decide)) (by decide) (by decide)).mono ?_
 rintro e w1 ⟨rfl,hb⟩
 replace hb0 := bnext (w := w) (by go_grown) hb
 replace q11 := bkeep hb (by first | (with_reducible exact q11) | (with_reducible exact akeep q11) | (with_reducible exact akeep (akeep (akeep q11))) | simp [*,go_sem])
 replace q12 := bkeep hb (by first | (with_reducible exact q12) | (with_reducible exact akeep q12) | (with_reducible exact akeep (akeep (akeep q12))) | simp [*,go_sem])
 replace q13 := bkeep hb (by first | (with_reducible exact q13) | (with_reducible exact akeep q13) | (with_reducible exact akeep (akeep (akeep q13))) | simp [*,go_sem])
 replace q14 := bkeep hb (by first | (with_reducible exact q14) | (with_reducible exact akeep q14) | (with_reducible exact akeep (akeep (akeep q14))) | simp [*,go_sem])
 replace q15 := bkeep hb (by first | (with_reducible exact q15) | (with_reducible exact akeep q15) | (with_reducible exact akeep (akeep (akeep q15))) | simp [*,go_sem])
 replace q16 := bkeep hb (by first | (with_reducible exact q16) | (with_reducible exact akeep q16) | (with_reducible exact akeep (akeep (akeep q16))) | simp [*,go_sem])
 replace q26 := bkeep hb (by first | (with_reducible exact q26) | (with_reducible exact akeep q26) | (with_reducible exact akeep (akeep (akeep q26))) | simp [*,go_sem])
 replace q27 := bkeep hb (by first | (with_reducible exact q27) | (with_reducible exact akeep q27) | (with_reducible exact akeep (akeep (akeep q27))) | simp [*,go_sem])
 replace hn2 := (hn2.below (by go_grown)).below hb
 replace hG := (hG.below (by go_grown)).below hb
 clear hb
 have hzz := hb0.size
 go_wp2_with fail
 refine (sameInts_any (b := true) (hn2.below (by go_grown)) (nums_new (zs := [0,1]) (by simp) (by decide) (by decide)) (by decide) (by decide)).mono ?_
 rintro e w1 ⟨rfl,hb⟩
 replace hb0 := bnext (w := w) (by go_grown) hb
 replace q11 := bkeep hb (by first | (with_reducible exact q11) | (with_reducible exact akeep q11) | (with_reducible exact akeep (akeep (akeep q11))) | simp [*,go_sem])
 replace q12 := bkeep hb (by first | (with_reducible exact q12) | (with_reducible exact akeep q12) | (with_reducible exact akeep (akeep (akeep q12))) | simp [*,go_sem])
 replace q13 := bkeep hb (by first | (with_reducible exact q13) | (with_reducible exact akeep q13) | (with_reducible exact akeep (akeep (akeep q13))) | simp [*,go_sem])
 replace q14 := bkeep hb (by first | (with_reducible exact q14) | (with_reducible exact akeep q14) | (with_reducible exact akeep (akeep (akeep q14))) | simp [*,go_sem])
 replace q15 := bkeep hb (by first | (with_reducible exact q15) | (with_reducible exact akeep q15) | (with_reducible exact akeep (akeep (akeep q15))) | simp [*,go_sem])
 replace q16 := bkeep hb (by first | (with_reducible exact q16) | (with_reducible exact akeep q16) | (with_reducible exact akeep (akeep (akeep q16))) | simp [*,go_sem])
 replace q26 := bkeep hb (by first | (with_reducible exact q26) | (with_reducible exact akeep q26) | (with_reducible exact akeep (akeep (akeep q26))) | simp [*,go_sem])
 replace q27 := bkeep hb (by first | (with_reducible exact q27) | (with_reducible exact akeep q27) | (with_reducible exact akeep (akeep (akeep q27))) | simp [*,go_sem])
 replace hG := (hG.below (by go_grown)).below hb
 clear hb
 have hzz := hb0.size
 go_wp2_with fail
 refine (sameRows_any (b := true) (hG.below (by go_grown)) lists_new2 (by decide) (by decide) (by decide)).mono ?_
 rintro e w1 ⟨rfl,hb⟩
 replace hb0 := bnext (w := w) (by go_grown) hb
 replace q11 := bkeep hb (by first | (with_reducible exact q11) | (with_reducible exact akeep q11) | (with_reducible exact akeep (akeep (akeep q11))) | simp [*,go_sem])
 replace q12 := bkeep hb (by first | (with_reducible exact q12) | (with_reducible exact akeep q12) | (with_reducible exact akeep (akeep (akeep q12))) | simp [*,go_sem])
 replace q13 := bkeep hb (by first | (with_reducible exact q13) | (with_reducible exact akeep q13) | (with_reducible exact akeep (akeep (akeep q13))) | simp [*,go_sem])
 replace q14 := bkeep hb (by first | (with_reducible exact q14) | (with_reducible exact akeep q14) | (with_reducible exact akeep (akeep (akeep q14))) | simp [*,go_sem])
 replace q15 := bkeep hb (by first | (with_reducible exact q15) | (with_reducible exact akeep q15) | (with_reducible exact akeep (akeep (akeep q15))) | simp [*,go_sem])
 replace q16 := bkeep hb (by first | (with_reducible exact q16) | (with_reducible exact akeep q16) | (with_reducible exact akeep (akeep (akeep q16))) | simp [*,go_sem])
 replace q26 := bkeep hb (by first | (with_reducible exact q26) | (with_reducible exact akeep q26) | (with_reducible exact akeep (akeep (akeep q26))) | simp [*,go_sem])
 replace q27 := bkeep hb (by first | (with_reducible exact q27) | (with_reducible exact akeep q27) | (with_reducible exact akeep (akeep (akeep q27))) | simp [*,go_sem])
 clear hb
 go_wp2_with fail
 go_ret
 exact ⟨rfl,hb0⟩
end Go.Proofs.YthdfnkdifjajlaaGreatDoor