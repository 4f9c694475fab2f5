/- Part of a claim. -/
import Derived.Test.YtodmidchpbcnpaaGreatW13Y
import Derived.IntWalk
set_option linter.unusedVariables false
set_option linter.unusedSimpArgs false
namespace Go.Proofs.YtodmidchpbcnpaaGreat
open Go.RowKit Go.Pb Go.Pb.Ware


theorem shapeKept_eq {w : World} {m : Int} {v : Value} {rows : List (List Int)} {x : Bool} (h : RowsAt 11 w v rows) (hx : keptB okS m rows = x) :
  Calls Tryz.prog 116 #[v, .func (.func 117) #[] #[], .int .i64 m] w (Ret w (.bool x)) := by subst hx;exact shapeKept h
theorem bodyKept_eq {w : World} {m : Int} {v : Value} {rows : List (List Int)} {x : Bool} (h : RowsAt 7 w v rows) (hx : keptB okB m rows = x) :
  Calls Tryz.prog 118 #[v, .func (.func 119) #[] #[], .int .i64 m] w (Ret w (.bool x)) := by subst hx;exact bodyKept h
set_option maxRecDepth 100000 in
set_option maxHeartbeats 4000000 in
theorem wCheck {w : World} {vs vb : Value} {ss bs : List (List Int)} (h1 : RowsAt 11 w vs ss) (h2 : RowsAt 7 w vb bs) :
  Calls Tryz.prog 68 #[.agg #[vs,vb]] w (Ret w (.int .i64 (ckW ss bs))) := by
 unfold Ret
 obtain ⟨sa,sc,rfl,hl1⟩ := h1.shape
 obtain ⟨ba,bc,rfl,hl2⟩ := h2.shape
 cases e1 : keptB okS 40 ss
 ·rw [ckW_2 e1]
  have E1 := hid e1;clear e1
  go_enter Tryz.func68,Tryz.ntmps68
  go_wp2_with (go_at_call 116;refine (shapeKept_eq (h1.below (by go_grown)) E1.out).mono ?_;rintro e w1 ⟨rfl,hb⟩;replace hb0 := bnext (w := w) (by go_grown) hb;have hz := hb.size;(try simp only [World.size_alloc,World.size_setCell] at hz);replace q0 : w1.cell? ⟨w.heap.size,0,none⟩ = some (.slice sa ss.length sc) := bkeep hb (by first|with_reducible exact q0|with_reducible exact akeep q0|simp[*,go_sem]);replace q1 : w1.cell? ⟨w.heap.size,1,none⟩ = some (.slice ba bs.length bc) := bkeep hb (by first|with_reducible exact q1|with_reducible exact akeep q1|simp[*,go_sem]);clear hb)
  go_ret
  exact ⟨rfl,by go_grown⟩
 ·cases e2 : keptB okB 12 bs
  ·rw [ckW_3 e2]
   have E1 := hid e1;clear e1
   have E2 := hid e2;clear e2
   go_enter Tryz.func68,Tryz.ntmps68
   go_wp2_with (first | (go_at_call 116;refine (shapeKept_eq (h1.below (by go_grown)) E1.out).mono ?_;rintro e w1 ⟨rfl,hb⟩;replace hb0 := bnext (w := w) (by go_grown) hb;have hz := hb.size;(try simp only [World.size_alloc,World.size_setCell] at hz);replace q0 : w1.cell? ⟨w.heap.size,0,none⟩ = some (.slice sa ss.length sc) := bkeep hb (by first|with_reducible exact q0|with_reducible exact akeep q0|simp[*,go_sem]);replace q1 : w1.cell? ⟨w.heap.size,1,none⟩ = some (.slice ba bs.length bc) := bkeep hb (by first|with_reducible exact q1|with_reducible exact akeep q1|simp[*,go_sem]);clear hb) | (go_at_call 118;refine (bodyKept_eq (h2.below (by go_grown)) E2.out).mono ?_;rintro e w1 ⟨rfl,hb⟩;replace hb0 := bnext (w := w) (by go_grown) hb;have hz := hb.size;(try simp only [World.size_alloc,World.size_setCell] at hz);replace q0 : w1.cell? ⟨w.heap.size,0,none⟩ = some (.slice sa ss.length sc) := bkeep hb (by first|with_reducible exact q0|with_reducible exact akeep q0|simp[*,go_sem]);replace q1 : w1.cell? ⟨w.heap.size,1,none⟩ = some (.slice ba bs.length bc) := bkeep hb (by first|with_reducible exact q1|with_reducible exact akeep q1|simp[*,go_sem]);clear hb))
   go_ret
   exact ⟨rfl,by go_grown⟩
  ·rw [ckW_1 e1 e2]
   have E1 := hid e1;clear e1
   have E2 := hid e2;clear e2
   go_enter Tryz.func68,Tryz.ntmps68
   go_wp2_with (first | (go_at_call 116;refine (shapeKept_eq (h1.below (by go_grown)) E1.out).mono ?_;rintro e w1 ⟨rfl,hb⟩;replace hb0 := bnext (w := w) (by go_grown) hb;have hz := hb.size;(try simp only [World.size_alloc,World.size_setCell] at hz);replace q0 : w1.cell? ⟨w.heap.size,0,none⟩ = some (.slice sa ss.length sc) := bkeep hb (by first|with_reducible exact q0|with_reducible exact akeep q0|simp[*,go_sem]);replace q1 : w1.cell? ⟨w.heap.size,1,none⟩ = some (.slice ba bs.length bc) := bkeep hb (by first|with_reducible exact q1|with_reducible exact akeep q1|simp[*,go_sem]);clear hb) | (go_at_call 118;refine (bodyKept_eq (h2.below (by go_grown)) E2.out).mono ?_;rintro e w1 ⟨rfl,hb⟩;replace hb0 := bnext (w := w) (by go_grown) hb;have hz := hb.size;(try simp only [World.size_alloc,World.size_setCell] at hz);replace q0 : w1.cell? ⟨w.heap.size,0,none⟩ = some (.slice sa ss.length sc) := bkeep hb (by first|with_reducible exact q0|with_reducible exact akeep q0|simp[*,go_sem]);replace q1 : w1.cell? ⟨w.heap.size,1,none⟩ = some (.slice ba bs.length bc) := bkeep hb (by first|with_reducible exact q1|with_reducible exact akeep q1|simp[*,go_sem]);clear hb))
   go_ret
   exact ⟨rfl,by go_grown⟩
end Go.Proofs.YtodmidchpbcnpaaGreat
namespace Go.Proofs.YtodmidchpbcnpaaGreat
open Go.RowKit Go.Pb Go.Pb.Ware


theorem rCheckShape_eq {a0 a1 a2 a3 a4 a5 a6 a7 a8 a9 a10 c : Int} {w : World} (h : ckS ⟨a0,⟨a1,a2⟩,⟨a3,a4⟩,⟨a5,a6⟩,a7,⟨a8,a9⟩,a10⟩ = c) :
  Calls Tryz.prog 123 #[.agg #[.int .i64 a0, .int .i64 a1, .int .i64 a2, .int .i64 a3, .int .i64 a4, .int .i64 a5, .int .i64 a6, .int .i64 a7, .int .i64 a8, .int .i64 a9, .int .i64 a10]] w (Ret w (.int .i64 c)) := by subst h;exact rCheckShape
theorem rCheckBody_eq {a0 a1 a2 a3 a4 a5 a6 c : Int} {w : World} (h : ckB ⟨a0,⟨a1,a2⟩,⟨a3,a4⟩,⟨a5,a6⟩⟩ = c) :
  Calls Tryz.prog 124 #[.agg #[.int .i64 a0, .int .i64 a1, .int .i64 a2, .int .i64 a3, .int .i64 a4, .int .i64 a5, .int .i64 a6]] w (Ret w (.int .i64 c)) := by subst h;exact rCheckBody
theorem wrapm (m : Nat) (h : m ≤ 9223372036854775807) : IntKind.i64.wrap ((m : Int) + 1 - 1) = (m : Int) := by
 rw [show (m : Int) + 1 - 1 = m by omega];exact IntWalk.i64_in _ (by omega)
theorem lastId_succ {rows : List (List Int)} {m : Nat} (h : m < rows.length) : lastId rows (m + 1) = rows[m].getD 0 0 := by simp [lastId,List.getD,h]
set_option maxRecDepth 100000 in
set_option maxHeartbeats 8000000 in
theorem rCheck_any {w : World} {vs vb : Value} {ss bs : List (List Int)} (h1 : RowsAt 11 w vs ss) (h2 : RowsAt 7 w vb bs) :
  Calls Tryz.prog 71 #[.agg #[vs,vb]] w (Ret w (.int .i64 (ckW ss bs))) := by
 unfold Ret
 obtain ⟨sa,sc,rfl,hl1⟩ := h1.shape
 obtain ⟨ba,bc,rfl,hl2⟩ := h2.shape
 by_cases hs : (ss.length : Int) ≤ 40
 ·by_cases hb : (bs.length : Int) ≤ 12
  ·go_enter Tryz.func71,Tryz.ntmps71
   go_wp2_with fail
   go_loopw [3] (fun i wr => ∃ (k : Nat),k ≤ ss.length ∧ i = .int .i64 k ∧ kept okS 0 ss = kept okS (lastId ss k) (ss.drop k) ∧ Below w.heap.size w wr ∧ w.heap.size + 1 ≤ wr.heap.size ∧ wr.cell? ⟨w.heap.size,0,none⟩ = some (.slice sa ss.length sc) ∧ wr.cell? ⟨w.heap.size,1,none⟩ = some (.slice ba bs.length bc)) (fun i _ => ss.length - (intOf i).toNat)
   case atStart => exact ⟨0,by omega,rfl,rfl,by go_grown,by first | omega | simp,by first | exact q0 | simp [go_sem],by first | exact q1 | simp [go_sem]⟩
   case round =>
    obtain ⟨k,hk,rfl,hK,hb0,hz0,q0,q1⟩ := hrel
    have HK := hid hK;clear hK
    by_cases hlt : k < ss.length
    ·obtain ⟨a',ha,hl,hc0,hc⟩ := (h1.below hb0).row hlt
     subst ha
     obtain ⟨a0,a1,a2,a3,a4,a5,a6,a7,a8,a9,a10,hr⟩ := len11 hl
     rw [hr] at hc hc0
     have r0 := hc0 _ rfl
     have r1 := hc 1 _ (by decide) rfl
     have r2 := hc 2 _ (by decide) rfl
     have r3 := hc 3 _ (by decide) rfl
     have r4 := hc 4 _ (by decide) rfl
     have r5 := hc 5 _ (by decide) rfl
     have r6 := hc 6 _ (by decide) rfl
     have r7 := hc 7 _ (by decide) rfl
     have r8 := hc 8 _ (by decide) rfl
     have r9 := hc 9 _ (by decide) rfl
     have r10 := hc 10 _ (by decide) rfl
     clear hc hc0
     have HR := hid hr;clear hr
     cases hv : shOk ⟨a0,⟨a1,a2⟩,⟨a3,a4⟩,⟨a5,a6⟩,a7,⟨a8,a9⟩,a10⟩
     ·have c0 : ckS ⟨a0,⟨a1,a2⟩,⟨a3,a4⟩,⟨a5,a6⟩,a7,⟨a8,a9⟩,a10⟩ = 10 := by simp [ckS,hv]
      have C0 := hid c0;have V0 := hid hv;clear c0 hv
      have s0 := fun x : BW wr => bkeep x.below r0
      have s1 := fun x : BW wr => bkeep x.below r1
      have s2 := fun x : BW wr => bkeep x.below r2
      have s3 := fun x : BW wr => bkeep x.below r3
      have s4 := fun x : BW wr => bkeep x.below r4
      have s5 := fun x : BW wr => bkeep x.below r5
      have s6 := fun x : BW wr => bkeep x.below r6
      have s7 := fun x : BW wr => bkeep x.below r7
      have s8 := fun x : BW wr => bkeep x.below r8
      have s9 := fun x : BW wr => bkeep x.below r9
      have s10 := fun x : BW wr => bkeep x.below r10
      have t0 := fun x : BW wr => bkeep x.below q0
      have t1 := fun x : BW wr => bkeep x.below q1
      go_upto_region 6 with fail
      refine wp_region_qb (by kernel_rfl) (by kernel_rfl) fun hc => ?_
      repeat (go_big_quiet_step ((go_at_call 123;exact BW.call _ (rCheckShape_eq (c := _) C0.out))))
      (refine wpQuiet_nil ?_;intro w1 hb;replace hb0 := bnext (w := w) (by go_grown) hb;have hz := hb.size;(try simp only [World.size_alloc,World.size_setCell] at hz);replace q0 : w1.cell? ⟨w.heap.size,0,none⟩ = some (.slice (some a') ss.length sc) := bkeep hb (by first|with_reducible exact q0|with_reducible exact akeep q0|simp[*,go_sem]);replace q1 : w1.cell? ⟨w.heap.size,1,none⟩ = some (.slice ba bs.length bc) := bkeep hb (by first|with_reducible exact q1|with_reducible exact akeep q1|simp[*,go_sem]);clear hb)
      go_wp2
      go_ret
      exact ⟨ret_int (by rw [ckW_2 (by rw [keptB_short (by omega),HK.out,drop_row hlt,HR.out,kept_bad V0.out])]),by go_grown⟩
     ·have c0 : ckS ⟨a0,⟨a1,a2⟩,⟨a3,a4⟩,⟨a5,a6⟩,a7,⟨a8,a9⟩,a10⟩ = 0 := by simp [ckS,hv]
      have B0 := shOk_iff.1 hv;dsimp only at B0
      have P0 : 1 ≤ a0 := B0.1.1
      clear B0
      have C0 := hid c0;have V0 := hid (show okS [a0,a1,a2,a3,a4,a5,a6,a7,a8,a9,a10] = true from hv);clear c0 hv
      rcases k with _ | m
      ·have z0 : a'.add (0 * 11) = a' := by simp [Addr.add]
       rw [z0] at r0 r1 r2 r3 r4 r5 r6 r7 r8 r9 r10
       clear z0
       have s0 := fun x : BW wr => bkeep x.below r0
       have s1 := fun x : BW wr => bkeep x.below r1
       have s2 := fun x : BW wr => bkeep x.below r2
       have s3 := fun x : BW wr => bkeep x.below r3
       have s4 := fun x : BW wr => bkeep x.below r4
       have s5 := fun x : BW wr => bkeep x.below r5
       have s6 := fun x : BW wr => bkeep x.below r6
       have s7 := fun x : BW wr => bkeep x.below r7
       have s8 := fun x : BW wr => bkeep x.below r8
       have s9 := fun x : BW wr => bkeep x.below r9
       have s10 := fun x : BW wr => bkeep x.below r10
       have t0 := fun x : BW wr => bkeep x.below q0
       have t1 := fun x : BW wr => bkeep x.below q1
       go_upto_region 6 with fail
       refine wp_region_qb (by kernel_rfl) (by kernel_rfl) fun hc => ?_
       repeat (go_big_quiet_step ((go_at_call 123;exact BW.call _ (rCheckShape_eq (c := _) C0.out))))
       (refine wpQuiet_nil ?_;intro w1 hb;replace hb0 := bnext (w := w) (by go_grown) hb;have hz := hb.size;(try simp only [World.size_alloc,World.size_setCell] at hz);replace q0 : w1.cell? ⟨w.heap.size,0,none⟩ = some (.slice (some a') ss.length sc) := bkeep hb (by first|with_reducible exact q0|with_reducible exact akeep q0|simp[*,go_sem]);replace q1 : w1.cell? ⟨w.heap.size,1,none⟩ = some (.slice ba bs.length bc) := bkeep hb (by first|with_reducible exact q1|with_reducible exact akeep q1|simp[*,go_sem]);clear hb)
       go_wp2
       go_roundw
       case rel => exact ⟨0 + 1,by omega,by go_num,by rw [HK.out,drop_row hlt,HR.out,kept_next V0.out (show lastId ss 0 < ([a0,a1,a2,a3,a4,a5,a6,a7,a8,a9,a10]).getD 0 0 by show 0 < a0;omega),lastId_succ hlt,HR.out],hb0,by omega,q0,q1⟩
       case measure => first | (simp [intOf];done) | (simp [intOf];omega)
      ·obtain ⟨a2',ha2,hl2',hc0,_⟩ := (h1.below hb0).row (show m < ss.length by omega)
       obtain rfl : a' = a2' := by simpa using ha2
       obtain ⟨b0,b1,b2,b3,b4,b5,b6,b7,b8,b9,b10,hr2⟩ := len11 hl2'
       rw [hr2] at hc0
       have p0 := hc0 _ rfl
       clear hc0 ha2
       have HR2 := hid hr2;clear hr2
       have u0 := fun x : BW wr => bkeep x.below p0
       have W0 := wrapm m (by omega)
       by_cases hi : a0 ≤ b0
       ·have s0 := fun x : BW wr => bkeep x.below r0
        have s1 := fun x : BW wr => bkeep x.below r1
        have s2 := fun x : BW wr => bkeep x.below r2
        have s3 := fun x : BW wr => bkeep x.below r3
        have s4 := fun x : BW wr => bkeep x.below r4
        have s5 := fun x : BW wr => bkeep x.below r5
        have s6 := fun x : BW wr => bkeep x.below r6
        have s7 := fun x : BW wr => bkeep x.below r7
        have s8 := fun x : BW wr => bkeep x.below r8
        have s9 := fun x : BW wr => bkeep x.below r9
        have s10 := fun x : BW wr => bkeep x.below r10
        have t0 := fun x : BW wr => bkeep x.below q0
        have t1 := fun x : BW wr => bkeep x.below q1
        go_upto_region 6 with fail
        refine wp_region_qb (by kernel_rfl) (by kernel_rfl) fun hc => ?_
        repeat (go_big_quiet_step ((go_at_call 123;exact BW.call _ (rCheckShape_eq (c := _) C0.out))))
        (refine wpQuiet_nil ?_;intro w1 hb;replace hb0 := bnext (w := w) (by go_grown) hb;have hz := hb.size;(try simp only [World.size_alloc,World.size_setCell] at hz);replace q0 : w1.cell? ⟨w.heap.size,0,none⟩ = some (.slice (some a') ss.length sc) := bkeep hb (by first|with_reducible exact q0|with_reducible exact akeep q0|simp[*,go_sem]);replace q1 : w1.cell? ⟨w.heap.size,1,none⟩ = some (.slice ba bs.length bc) := bkeep hb (by first|with_reducible exact q1|with_reducible exact akeep q1|simp[*,go_sem]);clear hb)
        go_wp2
        go_ret
        exact ⟨ret_int (by rw [ckW_2 (by rw [keptB_short (by omega),HK.out,drop_row hlt,HR.out,kept_low (show ([a0,a1,a2,a3,a4,a5,a6,a7,a8,a9,a10]).getD 0 0 ≤ lastId ss (m + 1) by rw [lastId_succ (by omega),HR2.out];exact hi)])]),by go_grown⟩
       ·have hi2 : b0 < a0 := by omega
        have s0 := fun x : BW wr => bkeep x.below r0
        have s1 := fun x : BW wr => bkeep x.below r1
        have s2 := fun x : BW wr => bkeep x.below r2
        have s3 := fun x : BW wr => bkeep x.below r3
        have s4 := fun x : BW wr => bkeep x.below r4
        have s5 := fun x : BW wr => bkeep x.below r5
        have s6 := fun x : BW wr => bkeep x.below r6
        have s7 := fun x : BW wr => bkeep x.below r7
        have s8 := fun x : BW wr => bkeep x.below r8
        have s9 := fun x : BW wr => bkeep x.below r9
        have s10 := fun x : BW wr => bkeep x.below r10
        have t0 := fun x : BW wr => bkeep x.below q0
        have t1 := fun x : BW wr => bkeep x.below q1
        go_upto_region 6 with fail
        refine wp_region_qb (by kernel_rfl) (by kernel_rfl) fun hc => ?_
        repeat (go_big_quiet_step ((go_at_call 123;exact BW.call _ (rCheckShape_eq (c := _) C0.out))))
        (refine wpQuiet_nil ?_;intro w1 hb;replace hb0 := bnext (w := w) (by go_grown) hb;have hz := hb.size;(try simp only [World.size_alloc,World.size_setCell] at hz);replace q0 : w1.cell? ⟨w.heap.size,0,none⟩ = some (.slice (some a') ss.length sc) := bkeep hb (by first|with_reducible exact q0|with_reducible exact akeep q0|simp[*,go_sem]);replace q1 : w1.cell? ⟨w.heap.size,1,none⟩ = some (.slice ba bs.length bc) := bkeep hb (by first|with_reducible exact q1|with_reducible exact akeep q1|simp[*,go_sem]);clear hb)
        go_wp2
        go_roundw
        case rel => exact ⟨m + 1 + 1,by omega,by go_num,by rw [HK.out,drop_row hlt,HR.out,kept_next V0.out (show lastId ss (m + 1) < ([a0,a1,a2,a3,a4,a5,a6,a7,a8,a9,a10]).getD 0 0 by rw [lastId_succ (by omega),HR2.out];exact hi2),lastId_succ hlt,HR.out],hb0,by omega,q0,q1⟩
        case measure => first | (simp [intOf];done) | (simp [intOf];omega)
    ·have E11 := hid (show keptB okS 40 ss = true by rw [keptB_short (by omega),HK.out,List.drop_eq_nil_of_le (by omega),kept_nil])
     go_wp2_with fail
     go_loopw [4] (fun i wr => ∃ (k : Nat),k ≤ bs.length ∧ i = .int .i64 k ∧ kept okB 0 bs = kept okB (lastId bs k) (bs.drop k) ∧ Below w.heap.size w wr ∧ w.heap.size + 1 ≤ wr.heap.size ∧ wr.cell? ⟨w.heap.size,0,none⟩ = some (.slice sa ss.length sc) ∧ wr.cell? ⟨w.heap.size,1,none⟩ = some (.slice ba bs.length bc)) (fun i _ => bs.length - (intOf i).toNat)
     case atStart => exact ⟨0,by omega,rfl,rfl,by go_grown,by first | omega | simp,by first | exact q0 | simp [go_sem],by first | exact q1 | simp [go_sem]⟩
     case round =>
      obtain ⟨k,hk,rfl,hK,hb0,hz0,q0,q1⟩ := hrel
      have HK := hid hK;clear hK
      by_cases hlt : k < bs.length
      ·obtain ⟨a',ha,hl,hc0,hc⟩ := (h2.below hb0).row hlt
       subst ha
       obtain ⟨a0,a1,a2,a3,a4,a5,a6,hr⟩ := len7 hl
       rw [hr] at hc hc0
       have r0 := hc0 _ rfl
       have r1 := hc 1 _ (by decide) rfl
       have r2 := hc 2 _ (by decide) rfl
       have r3 := hc 3 _ (by decide) rfl
       have r4 := hc 4 _ (by decide) rfl
       have r5 := hc 5 _ (by decide) rfl
       have r6 := hc 6 _ (by decide) rfl
       clear hc hc0
       have HR := hid hr;clear hr
       cases hv : boOk ⟨a0,⟨a1,a2⟩,⟨a3,a4⟩,⟨a5,a6⟩⟩
       ·have c0 : ckB ⟨a0,⟨a1,a2⟩,⟨a3,a4⟩,⟨a5,a6⟩⟩ = 11 := by simp [ckB,hv]
        have C0 := hid c0;have V0 := hid hv;clear c0 hv
        have s0 := fun x : BW wr => bkeep x.below r0
        have s1 := fun x : BW wr => bkeep x.below r1
        have s2 := fun x : BW wr => bkeep x.below r2
        have s3 := fun x : BW wr => bkeep x.below r3
        have s4 := fun x : BW wr => bkeep x.below r4
        have s5 := fun x : BW wr => bkeep x.below r5
        have s6 := fun x : BW wr => bkeep x.below r6
        have t0 := fun x : BW wr => bkeep x.below q0
        have t1 := fun x : BW wr => bkeep x.below q1
        go_upto_region 11 with fail
        refine wp_region_qb (by kernel_rfl) (by kernel_rfl) fun hc => ?_
        repeat (go_big_quiet_step ((go_at_call 124;exact BW.call _ (rCheckBody_eq (c := _) C0.out))))
        (refine wpQuiet_nil ?_;intro w1 hb;replace hb0 := bnext (w := w) (by go_grown) hb;have hz := hb.size;(try simp only [World.size_alloc,World.size_setCell] at hz);replace q0 : w1.cell? ⟨w.heap.size,0,none⟩ = some (.slice sa ss.length sc) := bkeep hb (by first|with_reducible exact q0|with_reducible exact akeep q0|simp[*,go_sem]);replace q1 : w1.cell? ⟨w.heap.size,1,none⟩ = some (.slice (some a') bs.length bc) := bkeep hb (by first|with_reducible exact q1|with_reducible exact akeep q1|simp[*,go_sem]);clear hb)
        go_wp2
        go_ret
        exact ⟨ret_int (by rw [ckW_3 (by rw [keptB_short (by omega),HK.out,drop_row hlt,HR.out,kept_bad V0.out])]),by go_grown⟩
       ·have c0 : ckB ⟨a0,⟨a1,a2⟩,⟨a3,a4⟩,⟨a5,a6⟩⟩ = 0 := by simp [ckB,hv]
        have B0 := boOk_iff.1 hv;dsimp only at B0
        have P0 : 1 ≤ a0 := B0.1.1
        clear B0
        have C0 := hid c0;have V0 := hid (show okB [a0,a1,a2,a3,a4,a5,a6] = true from hv);clear c0 hv
        rcases k with _ | m
        ·have z0 : a'.add (0 * 7) = a' := by simp [Addr.add]
         rw [z0] at r0 r1 r2 r3 r4 r5 r6
         clear z0
         have s0 := fun x : BW wr => bkeep x.below r0
         have s1 := fun x : BW wr => bkeep x.below r1
         have s2 := fun x : BW wr => bkeep x.below r2
         have s3 := fun x : BW wr => bkeep x.below r3
         have s4 := fun x : BW wr => bkeep x.below r4
         have s5 := fun x : BW wr => bkeep x.below r5
         have s6 := fun x : BW wr => bkeep x.below r6
         have t0 := fun x : BW wr => bkeep x.below q0
         have t1 := fun x : BW wr => bkeep x.below q1
         go_upto_region 11 with fail
         refine wp_region_qb (by kernel_rfl) (by kernel_rfl) fun hc => ?_
         repeat (go_big_quiet_step ((go_at_call 124;exact BW.call _ (rCheckBody_eq (c := _) C0.out))))
         (refine wpQuiet_nil ?_;intro w1 hb;replace hb0 := bnext (w := w) (by go_grown) hb;have hz := hb.size;(try simp only [World.size_alloc,World.size_setCell] at hz);replace q0 : w1.cell? ⟨w.heap.size,0,none⟩ = some (.slice sa ss.length sc) := bkeep hb (by first|with_reducible exact q0|with_reducible exact akeep q0|simp[*,go_sem]);replace q1 : w1.cell? ⟨w.heap.size,1,none⟩ = some (.slice (some a') bs.length bc) := bkeep hb (by first|with_reducible exact q1|with_reducible exact akeep q1|simp[*,go_sem]);clear hb)
         go_wp2
         go_roundw
         case rel => exact ⟨0 + 1,by omega,by go_num,by rw [HK.out,drop_row hlt,HR.out,kept_next V0.out (show lastId bs 0 < ([a0,a1,a2,a3,a4,a5,a6]).getD 0 0 by show 0 < a0;omega),lastId_succ hlt,HR.out],hb0,by omega,q0,q1⟩
         case measure => first | (simp [intOf];done) | (simp [intOf];omega)
        ·obtain ⟨a2',ha2,hl2',hc0,_⟩ := (h2.below hb0).row (show m < bs.length by omega)
         obtain rfl : a' = a2' := by simpa using ha2
         obtain ⟨b0,b1,b2,b3,b4,b5,b6,hr2⟩ := len7 hl2'
         rw [hr2] at hc0
         have p0 := hc0 _ rfl
         clear hc0 ha2
         have HR2 := hid hr2;clear hr2
         have u0 := fun x : BW wr => bkeep x.below p0
         have W0 := wrapm m (by omega)
         by_cases hi : a0 ≤ b0
         ·have s0 := fun x : BW wr => bkeep x.below r0
          have s1 := fun x : BW wr => bkeep x.below r1
          have s2 := fun x : BW wr => bkeep x.below r2
          have s3 := fun x : BW wr => bkeep x.below r3
          have s4 := fun x : BW wr => bkeep x.below r4
          have s5 := fun x : BW wr => bkeep x.below r5
          have s6 := fun x : BW wr => bkeep x.below r6
          have t0 := fun x : BW wr => bkeep x.below q0
          have t1 := fun x : BW wr => bkeep x.below q1
          go_upto_region 11 with fail
          refine wp_region_qb (by kernel_rfl) (by kernel_rfl) fun hc => ?_
          repeat (go_big_quiet_step ((go_at_call 124;exact BW.call _ (rCheckBody_eq (c := _) C0.out))))
          (refine wpQuiet_nil ?_;intro w1 hb;replace hb0 := bnext (w := w) (by go_grown) hb;have hz := hb.size;(try simp only [World.size_alloc,World.size_setCell] at hz);replace q0 : w1.cell? ⟨w.heap.size,0,none⟩ = some (.slice sa ss.length sc) := bkeep hb (by first|with_reducible exact q0|with_reducible exact akeep q0|simp[*,go_sem]);replace q1 : w1.cell? ⟨w.heap.size,1,none⟩ = some (.slice (some a') bs.length bc) := bkeep hb (by first|with_reducible exact q1|with_reducible exact akeep q1|simp[*,go_sem]);clear hb)
          go_wp2
          go_ret
          exact ⟨ret_int (by rw [ckW_3 (by rw [keptB_short (by omega),HK.out,drop_row hlt,HR.out,kept_low (show ([a0,a1,a2,a3,a4,a5,a6]).getD 0 0 ≤ lastId bs (m + 1) by rw [lastId_succ (by omega),HR2.out];exact hi)])]),by go_grown⟩
         ·have hi2 : b0 < a0 := by omega
          have s0 := fun x : BW wr => bkeep x.below r0
          have s1 := fun x : BW wr => bkeep x.below r1
          have s2 := fun x : BW wr => bkeep x.below r2
          have s3 := fun x : BW wr => bkeep x.below r3
          have s4 := fun x : BW wr => bkeep x.below r4
          have s5 := fun x : BW wr => bkeep x.below r5
          have s6 := fun x : BW wr => bkeep x.below r6
          have t0 := fun x : BW wr => bkeep x.below q0
          have t1 := fun x : BW wr => bkeep x.below q1
          go_upto_region 11 with fail
          refine wp_region_qb (by kernel_rfl) (by kernel_rfl) fun hc => ?_
          repeat (go_big_quiet_step ((go_at_call 124;exact BW.call _ (rCheckBody_eq (c := _) C0.out))))
          (refine wpQuiet_nil ?_;intro w1 hb;replace hb0 := bnext (w := w) (by go_grown) hb;have hz := hb.size;(try simp only [World.size_alloc,World.size_setCell] at hz);replace q0 : w1.cell? ⟨w.heap.size,0,none⟩ = some (.slice sa ss.length sc) := bkeep hb (by first|with_reducible exact q0|with_reducible exact akeep q0|simp[*,go_sem]);replace q1 : w1.cell? ⟨w.heap.size,1,none⟩ = some (.slice (some a') bs.length bc) := bkeep hb (by first|with_reducible exact q1|with_reducible exact akeep q1|simp[*,go_sem]);clear hb)
          go_wp2
          go_roundw
          case rel => exact ⟨m + 1 + 1,by omega,by go_num,by rw [HK.out,drop_row hlt,HR.out,kept_next V0.out (show lastId bs (m + 1) < ([a0,a1,a2,a3,a4,a5,a6]).getD 0 0 by rw [lastId_succ (by omega),HR2.out];exact hi2),lastId_succ hlt,HR.out],hb0,by omega,q0,q1⟩
          case measure => first | (simp [intOf];done) | (simp [intOf];omega)
      ·have E7 := hid (show keptB okB 12 bs = true by rw [keptB_short (by omega),HK.out,List.drop_eq_nil_of_le (by omega),kept_nil])
       go_wp2
       go_ret
       exact ⟨ret_int (by rw [ckW_1 E11.out E7.out]),by go_grown⟩
  ·rw [ckW_3 (keptB_long (by omega))]
   go_enter Tryz.func71,Tryz.ntmps71
   go_wp2
   go_ret
   exact ⟨rfl,by go_grown⟩
 ·rw [ckW_2 (keptB_long (by omega))]
  go_enter Tryz.func71,Tryz.ntmps71
  go_wp2
  go_ret
  exact ⟨rfl,by go_grown⟩
end Go.Proofs.YtodmidchpbcnpaaGreat