/- Part of a claim. -/
import Derived.Test.YthdfnkdifjajlaaGreatDoorW13U
import Derived.IntWalk
set_option linter.unusedVariables false
set_option linter.unusedSimpArgs false
namespace Go.Proofs.YthdfnkdifjajlaaGreatDoor
open Go.RowKit Go.Pb Go.Pb.Ware


theorem shapeKept_eq {w : World} {m : Int} {v : Value} {rows : List (List Int)} {x : Bool} (h : RowsAt 11 w v rows) (hx : keptB okS m rows = x) :
  Calls Tryz.prog 87 #[v, .func (.func 88) #[] #[], .int .i64 m] w (Ret w (.bool x)) := by subst hx;exact shapeKept h
theorem bodyKept_eq {w : World} {m : Int} {v : Value} {rows : List (List Int)} {x : Bool} (h : RowsAt 7 w v rows) (hx : keptB okB m rows = x) :
  Calls Tryz.prog 89 #[v, .func (.func 90) #[] #[], .int .i64 m] w (Ret w (.bool x)) := by subst hx;exact bodyKept h
set_option maxRecDepth 100000 in
set_option maxHeartbeats 4000000 in
theorem wCheck {w : World} {vs vb : Value} {ss bs : List (List Int)} (h1 : RowsAt 11 w vs ss) (h2 : RowsAt 7 w vb bs) :
  Calls Tryz.prog 55 #[.agg #[vs,vb]] w (Ret w (.int .i64 (ckW ss bs))) := by
 unfold Ret
 obtain ⟨sa,sc,rfl,hl1⟩ := h1.shape
 obtain ⟨ba,bc,rfl,hl2⟩ := h2.shape
 cases e1 : keptB okS 40 ss
 ·rw [ckW_2 e1]
  have E1 := hid e1;clear e1
  go_enter Tryz.func55,Tryz.ntmps55
  go_wp2_with (go_at_call 87;refine (shapeKept_eq (h1.below (by go_grown)) E1.out).mono ?_;rintro e w1 ⟨rfl,hb⟩;replace hb0 := bnext (w := w) (by go_grown) hb;have hz := hb.size;(try simp only [World.size_alloc,World.size_setCell] at hz);replace q0 : w1.cell? ⟨w.heap.size,0,none⟩ = some (.slice sa ss.length sc) := bkeep hb (by first|with_reducible exact q0|with_reducible exact akeep q0|simp[*,go_sem]);replace q1 : w1.cell? ⟨w.heap.size,1,none⟩ = some (.slice ba bs.length bc) := bkeep hb (by first|with_reducible exact q1|with_reducible exact akeep q1|simp[*,go_sem]);clear hb)
  go_ret
  exact ⟨rfl,by go_grown⟩
 ·cases e2 : keptB okB 12 bs
  ·rw [ckW_3 e2]
   have E1 := hid e1;clear e1
   have E2 := hid e2;clear e2
   go_enter Tryz.func55,Tryz.ntmps55
   go_wp2_with (first | (go_at_call 87;refine (shapeKept_eq (h1.below (by go_grown)) E1.out).mono ?_;rintro e w1 ⟨rfl,hb⟩;replace hb0 := bnext (w := w) (by go_grown) hb;have hz := hb.size;(try simp only [World.size_alloc,World.size_setCell] at hz);replace q0 : w1.cell? ⟨w.heap.size,0,none⟩ = some (.slice sa ss.length sc) := bkeep hb (by first|with_reducible exact q0|with_reducible exact akeep q0|simp[*,go_sem]);replace q1 : w1.cell? ⟨w.heap.size,1,none⟩ = some (.slice ba bs.length bc) := bkeep hb (by first|with_reducible exact q1|with_reducible exact akeep q1|simp[*,go_sem]);clear hb) | (go_at_call 89;refine (bodyKept_eq (h2.below (by go_grown)) E2.out).mono ?_;rintro e w1 ⟨rfl,hb⟩;replace hb0 := bnext (w := w) (by go_grown) hb;have hz := hb.size;(try simp only [World.size_alloc,World.size_setCell] at hz);replace q0 : w1.cell? ⟨w.heap.size,0,none⟩ = some (.slice sa ss.length sc) := bkeep hb (by first|with_reducible exact q0|with_reducible exact akeep q0|simp[*,go_sem]);replace q1 : w1.cell? ⟨w.heap.size,1,none⟩ = some (.slice ba bs.length bc) := bkeep hb (by first|with_reducible exact q1|with_reducible exact akeep q1|simp[*,go_sem]);clear hb))
   go_ret
   exact ⟨rfl,by go_grown⟩
  ·rw [ckW_1 e1 e2]
   have E1 := hid e1;clear e1
   have E2 := hid e2;clear e2
   go_enter Tryz.func55,Tryz.ntmps55
   go_wp2_with (first | (go_at_call 87;refine (shapeKept_eq (h1.below (by go_grown)) E1.out).mono ?_;rintro e w1 ⟨rfl,hb⟩;replace hb0 := bnext (w := w) (by go_grown) hb;have hz := hb.size;(try simp only [World.size_alloc,World.size_setCell] at hz);replace q0 : w1.cell? ⟨w.heap.size,0,none⟩ = some (.slice sa ss.length sc) := bkeep hb (by first|with_reducible exact q0|with_reducible exact akeep q0|simp[*,go_sem]);replace q1 : w1.cell? ⟨w.heap.size,1,none⟩ = some (.slice ba bs.length bc) := bkeep hb (by first|with_reducible exact q1|with_reducible exact akeep q1|simp[*,go_sem]);clear hb) | (go_at_call 89;refine (bodyKept_eq (h2.below (by go_grown)) E2.out).mono ?_;rintro e w1 ⟨rfl,hb⟩;replace hb0 := bnext (w := w) (by go_grown) hb;have hz := hb.size;(try simp only [World.size_alloc,World.size_setCell] at hz);replace q0 : w1.cell? ⟨w.heap.size,0,none⟩ = some (.slice sa ss.length sc) := bkeep hb (by first|with_reducible exact q0|with_reducible exact akeep q0|simp[*,go_sem]);replace q1 : w1.cell? ⟨w.heap.size,1,none⟩ = some (.slice ba bs.length bc) := bkeep hb (by first|with_reducible exact q1|with_reducible exact akeep q1|simp[*,go_sem]);clear hb))
   go_ret
   exact ⟨rfl,by go_grown⟩
end Go.Proofs.YthdfnkdifjajlaaGreatDoor