/- Part of a claim. -/
import Derived.Test.YthdfnkdifjajlaaGreatDoorG6U
import Derived.RangeFuncNested
import Derived.RangeFuncBound
import Derived.RangeFuncCalls
import Derived.RangeFuncLeaves
set_option linter.unusedVariables false
set_option linter.unusedSimpArgs false
namespace Go.Proofs.YthdfnkdifjajlaaGreatDoor
open Go.RowKit Go.Pb Go.Pb.Ware Go.Pb.Sag


open Go.Shelf
attribute [local go_sem] Oper.semAt_some
set_option maxRecDepth 100000 in
set_option maxHeartbeats 4000000 in
theorem hasStand_any {w : World} {bid bwi bde bce bhi bbe fw fd fh fg : Int} (hX : boxOk ⟨bid,bwi,bde,bce,bhi,bbe⟩ = true) (hF : FtOk ⟨fw,fd,fh,fg⟩) {b : Bool} (hb : (!(standsL ⟨bid,bwi,bde,bce,bhi,bbe⟩ ⟨fw,fd,fh,fg⟩).isEmpty) = b) :
  Calls Tryz.prog 71 #[.agg #[.int .i64 bid, .int .i64 bwi, .int .i64 bde, .int .i64 bce, .int .i64 bhi, .int .i64 bbe], .agg #[.int .i64 fw, .int .i64 fd, .int .i64 fh, .int .i64 fg]] w (Ret w (.bool b)) := by
 unfold Ret
 refine (callsIn_wide (n := 8)).1 ?_
 refine callsIn_of_wp_marks Tryz.func71 rfl trivial ?_ rfl
 simp only [Tryz.ntmps71,List.size_toArray,List.length_cons,List.length_nil,Nat.reduceAdd,Nat.reduceSub,Array.replicate_succ,Array.replicate_zero,List.push_toArray,List.append_toArray,List.nil_append,List.cons_append]
 gi_wp2_with (refine ⟨trivial, ?_⟩;gi_at_call 95;refine (callsIn_wide.2 stands_any).mono ?_;rintro e w1 ⟨lb,rfl,hSt,hB,hz⟩)
 have hB0 : Below w.heap.size w w1 := (show Below w.heap.size w _ from (((Below.refl _ w).alloc (Nat.le_refl _) _).alloc (by simp) _).alloc (by simp;omega) _).trans (hB.mono (by simp;omega))
 have bC : CellsAt w1 (w.heap.size + 2) [.bool false] := CellsAt.below (fun o v hv => by match o,hv with | 0,hv => (injection hv with hv;subst hv;exact ⟨by simp [go_sem],by simp [go_sem]⟩) | o + 1,hv => simp at hv) hB
 simp only [World.size_alloc] at hz hSt
 clear hB
 refine wpIn_rangeFunc_ownH (F := Fence.wide) (n := 8) rfl (by omega) (gf := 115) (lb := lb) rfl trivial (enters_of Tryz.func115 (by kernel_rfl) rfl) (stands_stops (n := 7) (by omega) (w := w1) hX hF hSt (Nat.le_refl _)) (fun h k => h.trans k) (fun W l o o' => keepSeg_b (Nat.le_refl _) W l o o') (Below.refl _ _) (fun _ => rfl)
  (fun pre W => (CellsAt W (w.heap.size + 2) [.bool false] ∧ Below w.heap.size w W) ∧ pre = [])
  (fun c pre W => (CellsAt W (w.heap.size + 2) [.bool true] ∧ Below w.heap.size w W) ∧ (c = .ret ∧ pre ≠ []))
  (OwnFrom.and (OwnFrom.and (Own.from (cells_own _ (fun _ => [.bool false])) _) (ownFrom_below (Nat.le_refl _) (by omega))) (fun _ _ _ _ hs _ _ => hs))
  (fun c => OwnFrom.and (OwnFrom.and (Own.from (cells_own _ (fun _ => [.bool true])) _) (ownFrom_below (Nat.le_refl _) (by omega))) (fun _ _ _ _ hs _ _ => hs))
  ⟨⟨bC,hB0⟩,rfl⟩
  (fun x a' W => a' = { tmps := #[.agg #[.int .i64 bid, .int .i64 bwi, .int .i64 bde, .int .i64 bce, .int .i64 bhi, .int .i64 bbe], .agg #[.int .i64 fw, .int .i64 fd, .int .i64 fh, .int .i64 fg], .pointer (some ⟨w.heap.size,0,none⟩), .pointer (some ⟨w.heap.size + 1,0,none⟩), .pointer (some ⟨w.heap.size + 2,0,none⟩), .agg #[.int .i64 bid, .int .i64 bwi, .int .i64 bde, .int .i64 bce, .int .i64 bhi, .int .i64 bbe], .agg #[.int .i64 fw, .int .i64 fd, .int .i64 fh, .int .i64 fg], .func (.func 115) #[] lb,(encS x)[0]!],defers := [] })
  (fun x a' _ X Y row hs hg hr => hs)
  ?assign ?body ?done ?stop
 case assign =>
  rintro l pre x W K ⟨⟨b1,hB1⟩,hp⟩ hK
  simp only [encS]
  gi_wp2
  exact hK _ _ ((KeepsOthers.refl _).from _) KeepSeg.refl ⟨⟨b1,hB1⟩,hp⟩ (by simp [encS])
 case body =>
  rintro l pre x a' W hl ⟨r,hr⟩ ⟨⟨b1,hB1⟩,hp⟩ rfl hlt
  have q0 := (b1 0 _ rfl).1
  have f0 := (b1 0 _ rfl).2
  gi_wp2
  exact ⟨(KeepsOthers.setCell _ _ _).from _,⟨b1.store1,hB1.setCell (p := ⟨w.heap.size + 2,0,none⟩) (by simp) _⟩,rfl,by simp⟩
 case done =>
  rintro D zs W hD hzs ⟨⟨b1,hB1⟩,hp⟩ hK
  have q0 := (b1 0 _ rfl).1
  have f0 := (b1 0 _ rfl).2
  have hb : b = false := by rw [← hb, ← hzs,hp];rfl
  subst hb
  gi_wp2
  have hD2 : w.heap.size ≤ D := by omega
  have d2 := b1.store1 (a' := .bool false)
  have e1 := hB1.setCell (p := ⟨w.heap.size + 2,0,none⟩) (by simp) (.bool false)
  have hK2 := (KeepsOthers.setCell W ⟨w.heap.size + 2,0,none⟩ (.bool false)).same D _ hK rfl
  generalize W.setCell ⟨w.heap.size + 2,0,none⟩ (.bool false) = W2 at *
  refine ⟨by simp, .inl ⟨_,_,rfl,run_takeDeferred hK2, ?_⟩⟩
  have d3 := d2.kept (grownBy_putObj' W2 D (.deferred none)) (fun r e => by cases e;exact ⟨_,hK2,rfl⟩)
  have e3 := e1.trans (belowK_b (w := w) (Nat.le_refl _) W2 D _ (.deferred none) hD2 hK2 rfl rfl)
  have p0 := (d3 0 _ rfl).1
  exact ⟨.bool false,by simp [results,Tryz.results71,p0,go_sem],rfl,e3⟩
 case stop =>
  rintro D j pre W hD hpre ⟨⟨b1,hB1⟩,rfl,hne⟩ hK2
  have q0 := (b1 0 _ rfl).1
  have hb : b = true := by
   rw [← hb];cases hs : standsL ⟨bid,bwi,bde,bce,bhi,bbe⟩ ⟨fw,fd,fh,fg⟩ with
   | nil => rw [hs] at hpre;exact absurd (List.prefix_nil.1 hpre) hne
   | cons a l => rfl
  subst hb
  gi_wp2
  have hD2 : w.heap.size ≤ D := by omega
  refine ⟨by simp, .inl ⟨_,_,rfl,run_takeDeferred hK2, ?_⟩⟩
  have d3 := b1.kept (grownBy_putObj' W D (.deferred none)) (fun r e => by cases e;exact ⟨_,hK2,rfl⟩)
  have e3 := hB1.trans (belowK_b (w := w) (Nat.le_refl _) W D _ (.deferred none) hD2 hK2 rfl rfl)
  have p0 := (d3 0 _ rfl).1
  exact ⟨.bool true,by simp [results,Tryz.results71,p0,go_sem],rfl,e3⟩
end Go.Proofs.YthdfnkdifjajlaaGreatDoor