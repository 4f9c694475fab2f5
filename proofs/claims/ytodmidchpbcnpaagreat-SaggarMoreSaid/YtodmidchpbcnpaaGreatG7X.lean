/- Part of a claim. -/
import Derived.Test.YtodmidchpbcnpaaGreatG6X
import Derived.RangeFuncNested
import Derived.RangeFuncBound
import Derived.RangeFuncCalls
import Derived.RangeFuncLeaves
set_option linter.unusedVariables false
set_option linter.unusedSimpArgs false
namespace Go.Proofs.YtodmidchpbcnpaaGreat
open Go.RowKit Go.Pb Go.Pb.Ware Go.Pb.Sag


open Go.Shelf
attribute [local go_sem] Oper.semAt_some
set_option maxRecDepth 100000 in
set_option maxHeartbeats 4000000 in
theorem hasStand_any {w : World} {bid bwi bde bce bhi bbe fw fd fh fg : Int} (hX : boxOk ⟨bid,bwi,bde,bce,bhi,bbe⟩ = true) (hF : FtOk ⟨fw,fd,fh,fg⟩) {b : Bool} (hb : (!(standsL ⟨bid,bwi,bde,bce,bhi,bbe⟩ ⟨fw,fd,fh,fg⟩).isEmpty) = b) :
  Calls Tryz.prog 141 #[.agg #[.int .i64 bid, .int .i64 bwi, .int .i64 bde, .int .i64 bce, .int .i64 bhi, .int .i64 bbe], .agg #[.int .i64 fw, .int .i64 fd, .int .i64 fh, .int .i64 fg]] w (Ret w (.bool b)) := by
 unfold Ret
 refine (callsIn_wide (n := 8)).1 ?_
 refine callsIn_of_wp_marks Tryz.func141 rfl trivial ?_ rfl
 simp only [Tryz.ntmps141,List.size_toArray,List.length_cons,List.length_nil,Nat.reduceAdd,Nat.reduceSub,Array.replicate_succ,Array.replicate_zero,List.push_toArray,List.append_toArray,List.nil_append,List.cons_append]
 gi_wp2_with (refine ⟨trivial, ?_⟩;gi_at_call 64;refine (callsIn_wide.2 stands_any).mono ?_;rintro e w1 ⟨lb,rfl,hSt,hB,hz⟩)
 have hB0 : Below w.heap.size w w1 := (show Below w.heap.size w _ from (((Below.refl _ w).alloc (Nat.le_refl _) _).alloc (by simp) _).alloc (by simp;omega) _).trans (hB.mono (by simp;omega))
 have bC : CellsAt w1 (w.heap.size + 2) [.bool false] := CellsAt.below (fun o v hv => by match o,hv with | 0,hv => (injection hv with hv;subst hv;exact ⟨by simp [go_sem],by simp [go_sem]⟩) | o + 1,hv => simp at hv) hB
 simp only [World.size_alloc] at hz hSt
 clear hB
 refine wpIn_rangeFunc_ownH (F := Fence.wide) (n := 8) rfl (by omega) (gf := 113) (lb := lb) rfl trivial (enters_of Tryz.func113 (by kernel_rfl) rfl) (stands_stops (n := 7) (by omega) (w := w1) hX hF hSt (Nat.le_refl _)) (fun h k => h.trans k) (fun W l o o' => keepSeg_b (Nat.le_refl _) W l o o') (Below.refl _ _) (fun _ => rfl)
  (fun pre W => (CellsAt W (w.heap.size + 2) [.bool false] ∧ Below w.heap.size w W) ∧ pre = [])
  (fun c pre W => (CellsAt W (w.heap.size + 2) [.bool true] ∧ Below w.heap.size w W) ∧ (c = .ret ∧ pre ≠ []))
  (OwnFrom.and (OwnFrom.and (Own.from (cells_own _ (fun _ => [.bool false])) _) (ownFrom_below (Nat.le_refl _) (by omega))) (fun _ _ _ _ hs _ _ => hs))
  (fun c => OwnFrom.and (OwnFrom.and (Own.from (cells_own _ (fun _ => [.bool true])) _) (ownFrom_below (Nat.le_refl _) (by omega))) (fun _ _ _ _ hs _ _ => hs))
  ⟨⟨bC,hB0⟩,rfl⟩
  (fun x a' W => a' = { tmps := #[.agg #[.int .i64 bid, .int .i64 bwi, .int .i64 bde, .int .i64 bce, .int .i64 bhi, .int .i64 bbe], .agg #[.int .i64 fw, .int .i64 fd, .int .i64 fh, .int .i64 fg], .pointer (some ⟨w.heap.size,0,none⟩), .pointer (some ⟨w.heap.size + 1,0,none⟩), .pointer (some ⟨w.heap.size + 2,0,none⟩), .agg #[.int .i64 bid, .int .i64 bwi, .int .i64 bde, .int .i64 bce, .int .i64 bhi, .int .i64 bbe], .agg #[.int .i64 fw, .int .i64 fd, .int .i64 fh, .int .i64 fg], .func (.func 113) #[] lb,(encS x)[0]!],defers := [] })
  (fun x a' _ X Y row hs hg hr => hs)
  ?assign ?body ?done ?stop
 case assign =>
  rintro l pre x W K ⟨⟨b1,hB1⟩,hp⟩ hK
  simp only [encS]
  gi_wp2
  exact hK _ _ ((KeepsOthers.refl _).from _) KeepSeg.refl ⟨⟨b1,hB1⟩,hp⟩ (by simp [encS])
 case body =>
  rintro l pre x a' W hl ⟨r,hr⟩ ⟨⟨b1,hB1⟩,hp⟩ rfl hlt
  have q0 := (b1 0 _ rfl).1
  have f0 := (b1 0 _ rfl).2
  gi_wp2
  exact ⟨(KeepsOthers.setCell _ _ _).from _,⟨b1.store1,hB1.setCell (p := ⟨w.heap.size + 2,0,none⟩) (by simp) _⟩,rfl,by simp⟩
 case done =>
  rintro D zs W hD hzs ⟨⟨b1,hB1⟩,hp⟩ hK
  have q0 := (b1 0 _ rfl).1
  have f0 := (b1 0 _ rfl).2
  have hb : b = false := by rw [← hb, ← hzs,hp];rfl
  subst hb
  gi_wp2
  have hD2 : w.heap.size ≤ D := by omega
  have d2 := b1.store1 (a' := .bool false)
  have e1 := hB1.setCell (p := ⟨w.heap.size + 2,0,none⟩) (by simp) (.bool false)
  have hK2 := (KeepsOthers.setCell W ⟨w.heap.size + 2,0,none⟩ (.bool false)).same D _ hK rfl
  generalize W.setCell ⟨w.heap.size + 2,0,none⟩ (.bool false) = W2 at *
  refine ⟨by simp, .inl ⟨_,_,rfl,run_takeDeferred hK2, ?_⟩⟩
  have d3 := d2.kept (grownBy_putObj' W2 D (.deferred none)) (fun r e => by cases e;exact ⟨_,hK2,rfl⟩)
  have e3 := e1.trans (belowK_b (w := w) (Nat.le_refl _) W2 D _ (.deferred none) hD2 hK2 rfl rfl)
  have p0 := (d3 0 _ rfl).1
  exact ⟨.bool false,by simp [results,Tryz.results141,p0,go_sem],rfl,e3⟩
 case stop =>
  rintro D j pre W hD hpre ⟨⟨b1,hB1⟩,rfl,hne⟩ hK2
  have q0 := (b1 0 _ rfl).1
  have hb : b = true := by
   rw [← hb];cases hs : standsL ⟨bid,bwi,bde,bce,bhi,bbe⟩ ⟨fw,fd,fh,fg⟩ with
   | nil => rw [hs] at hpre;exact absurd (List.prefix_nil.1 hpre) hne
   | cons a l => rfl
  subst hb
  gi_wp2
  have hD2 : w.heap.size ≤ D := by omega
  refine ⟨by simp, .inl ⟨_,_,rfl,run_takeDeferred hK2, ?_⟩⟩
  have d3 := b1.kept (grownBy_putObj' W D (.deferred none)) (fun r e => by cases e;exact ⟨_,hK2,rfl⟩)
  have e3 := hB1.trans (belowK_b (w := w) (Nat.le_refl _) W D _ (.deferred none) hD2 hK2 rfl rfl)
  have p0 := (d3 0 _ rfl).1
  exact ⟨.bool true,by simp [results,Tryz.results141,p0,go_sem],rfl,e3⟩
set_option maxRecDepth 100000 in
set_option maxHeartbeats 4000000 in
theorem isStand_any {w : World} {bid bwi bde bce bhi bbe fw fd fh fg : Int} (hX : boxOk ⟨bid,bwi,bde,bce,bhi,bbe⟩ = true) (hF : FtOk ⟨fw,fd,fh,fg⟩) {py px : Int} {pt b : Bool} (hb : anySt py px pt (standsL ⟨bid,bwi,bde,bce,bhi,bbe⟩ ⟨fw,fd,fh,fg⟩) = b) :
  Calls Tryz.prog 132 #[.agg #[.int .i64 bid, .int .i64 bwi, .int .i64 bde, .int .i64 bce, .int .i64 bhi, .int .i64 bbe], .agg #[.int .i64 fw, .int .i64 fd, .int .i64 fh, .int .i64 fg], .agg #[.int .i64 py, .int .i64 px, .bool pt]] w (Ret w (.bool b)) := by
 unfold Ret
 refine (callsIn_wide (n := 8)).1 ?_
 refine callsIn_of_wp_marks Tryz.func132 rfl trivial ?_ rfl
 simp only [Tryz.ntmps132,List.size_toArray,List.length_cons,List.length_nil,Nat.reduceAdd,Nat.reduceSub,Array.replicate_succ,Array.replicate_zero,List.push_toArray,List.append_toArray,List.nil_append,List.cons_append]
 gi_wp2_with (refine ⟨trivial, ?_⟩;gi_at_call 64;refine (callsIn_wide.2 stands_any).mono ?_;rintro e w1 ⟨lb,rfl,hSt,hB,hz⟩)
 have hB0 : Below w.heap.size w w1 := (show Below w.heap.size w _ from ((((Below.refl _ w).alloc (Nat.le_refl _) _).alloc (by simp) _).alloc (by simp;omega) _).alloc (by simp;omega) _).trans (hB.mono (by simp;omega))
 have bC : CellsAt w1 (w.heap.size + 3) [.bool false] := CellsAt.below (fun o v hv => by match o,hv with | 0,hv => (injection hv with hv;subst hv;exact ⟨by simp [go_sem],by simp [go_sem]⟩) | o + 1,hv => simp at hv) hB
 have bP : CellsAt w1 (w.heap.size + 2) [.int .i64 py, .int .i64 px, .bool pt] := CellsAt.below (fun o v hv => by match o,hv with | 0,hv => (injection hv with hv;subst hv;exact ⟨by simp [go_sem],by simp [go_sem]⟩) | 1,hv => (injection hv with hv;subst hv;exact ⟨by simp [go_sem],by simp [go_sem]⟩) | 2,hv => (injection hv with hv;subst hv;exact ⟨by simp [go_sem],by simp [go_sem]⟩) | o + 3,hv => simp at hv) hB
 simp only [World.size_alloc] at hz hSt
 clear hB
 refine wpIn_rangeFunc_ownH (F := Fence.wide) (n := 8) rfl (by omega) (gf := 113) (lb := lb) rfl trivial (enters_of Tryz.func113 (by kernel_rfl) rfl) (stands_stops (n := 7) (by omega) (w := w1) hX hF hSt (Nat.le_refl _)) (fun h k => h.trans k) (fun W l o o' => keepSeg_b (Nat.le_refl _) W l o o') (Below.refl _ _) (fun _ => rfl)
  (fun pre W => ((CellsAt W (w.heap.size + 3) [.bool false] ∧ CellsAt W (w.heap.size + 2) [.int .i64 py, .int .i64 px, .bool pt]) ∧ Below w.heap.size w W) ∧ (w1.heap.size ≤ W.heap.size ∧ anySt py px pt pre = false))
  (fun c pre W => (CellsAt W (w.heap.size + 3) [.bool true] ∧ Below w.heap.size w W) ∧ (c = .ret ∧ anySt py px pt pre = true))
  (OwnFrom.and (OwnFrom.and (OwnFrom.and (Own.from (cells_own _ (fun _ => [.bool false])) _) (Own.from (cells_own _ (fun _ => [.int .i64 py, .int .i64 px, .bool pt])) _)) (ownFrom_below (Nat.le_refl _) (by omega))) (fun _ _ _ _ hs hg _ => ⟨Nat.le_trans hs.1 hg.size,hs.2⟩))
  (fun c => OwnFrom.and (OwnFrom.and (Own.from (cells_own _ (fun _ => [.bool true])) _) (ownFrom_below (Nat.le_refl _) (by omega))) (fun _ _ _ _ hs _ _ => hs))
  ⟨⟨⟨bC,bP⟩,hB0⟩,Nat.le_refl _,rfl⟩
  (fun x a' W => ∃ Bx,w.heap.size + 3 < Bx ∧ CellsAt W Bx (cellsP x) ∧ a' = { tmps := #[.agg #[.int .i64 bid, .int .i64 bwi, .int .i64 bde, .int .i64 bce, .int .i64 bhi, .int .i64 bbe], .agg #[.int .i64 fw, .int .i64 fd, .int .i64 fh, .int .i64 fg], .agg #[.int .i64 py, .int .i64 px, .bool pt], .pointer (some ⟨w.heap.size,0,none⟩), .pointer (some ⟨w.heap.size + 1,0,none⟩), .pointer (some ⟨w.heap.size + 2,0,none⟩), .pointer (some ⟨w.heap.size + 3,0,none⟩), .pointer (some ⟨Bx,0,none⟩), .agg #[.int .i64 bid, .int .i64 bwi, .int .i64 bde, .int .i64 bce, .int .i64 bhi, .int .i64 bbe], .agg #[.int .i64 fw, .int .i64 fd, .int .i64 fh, .int .i64 fg], .func (.func 113) #[] lb,(encS x)[0]!,undef,undef,undef],defers := [] })
  (fun x a' _ X Y row hs hg hr => by obtain ⟨Bx,h1,h2,h3⟩ := hs;exact ⟨Bx,h1,h2.kept hg (fun r e => (hr r e).2),h3⟩)
  ?assign ?body ?done ?stop
 case assign =>
  rintro l pre x W K ⟨⟨⟨b1,b2⟩,hB1⟩,hws,hp⟩ hK
  simp only [encS]
  gi_wp2
  have hsW := hB1.size
  have hlt : w.heap.size + 3 < W.heap.size := World.block_lt_of_cell? W _ (b1 0 _ rfl).1
  exact hK _ _ ((KeepsOthers.alloc _ _).from _) ⟨by simp,fun k h1 h2 => Below.heap_alloc _ _ _ (by omega)⟩ ⟨⟨⟨b1.alloc _,b2.alloc _⟩,hB1.alloc hsW _⟩,by simp;omega,hp⟩ ⟨W.heap.size,hlt,CellsAt.new W (cellsP x) 62,by simp [encS]⟩
 case body =>
  rintro l pre x a' W hl ⟨r,hr⟩ ⟨⟨⟨b1,b2⟩,hB1⟩,hws,hp⟩ ⟨Bx,hBx,bX,rfl⟩ hlt
  have q0 := (b1 0 _ rfl).1
  have f0 := (b1 0 _ rfl).2
  have q1 := (b2 0 _ rfl).1
  have q2 := (b2 1 _ rfl).1
  have q3 := (b2 2 _ rfl).1
  have q4 := (bX 0 _ rfl).1
  have q5 := (bX 1 _ rfl).1
  have q6 := (bX 2 _ rfl).1
  have hsn := anySt_snoc py px pt pre x
  gi_wp2
  all_goals first
   | exact ⟨(KeepsOthers.refl _).from _,KeepSeg.refl,⟨⟨b1,b2⟩,hB1⟩,hws,by rw [hsn,hp];simp [sameSt, *]⟩
   | exact ⟨(KeepsOthers.setCell _ _ _).from _,⟨b1.store1,hB1.setCell (p := ⟨w.heap.size + 3,0,none⟩) (by simp) _⟩,rfl,by rw [hsn];simp [sameSt, *]⟩
 case done =>
  rintro D zs W hD hzs ⟨⟨⟨b1,b2⟩,hB1⟩,hws,hp⟩ hK
  have q0 := (b1 0 _ rfl).1
  have f0 := (b1 0 _ rfl).2
  have hb : b = false := by rw [← hb, ← hzs,hp]
  subst hb
  gi_wp2
  have hD2 : w.heap.size ≤ D := by omega
  have d2 := b1.store1 (a' := .bool false)
  have e1 := hB1.setCell (p := ⟨w.heap.size + 3,0,none⟩) (by simp) (.bool false)
  have hK2 := (KeepsOthers.setCell W ⟨w.heap.size + 3,0,none⟩ (.bool false)).same D _ hK rfl
  generalize W.setCell ⟨w.heap.size + 3,0,none⟩ (.bool false) = W2 at *
  refine ⟨by simp, .inl ⟨_,_,rfl,run_takeDeferred hK2, ?_⟩⟩
  have d3 := d2.kept (grownBy_putObj' W2 D (.deferred none)) (fun r e => by cases e;exact ⟨_,hK2,rfl⟩)
  have e3 := e1.trans (belowK_b (w := w) (Nat.le_refl _) W2 D _ (.deferred none) hD2 hK2 rfl rfl)
  have p0 := (d3 0 _ rfl).1
  exact ⟨.bool false,by simp [results,Tryz.results132,p0,go_sem],rfl,e3⟩
 case stop =>
  rintro D j pre W hD hpre ⟨⟨b1,hB1⟩,rfl,hne⟩ hK2
  have q0 := (b1 0 _ rfl).1
  have hb : b = true := by rw [← hb];exact anySt_part hpre hne
  subst hb
  gi_wp2
  have hD2 : w.heap.size ≤ D := by omega
  refine ⟨by simp, .inl ⟨_,_,rfl,run_takeDeferred hK2, ?_⟩⟩
  have d3 := b1.kept (grownBy_putObj' W D (.deferred none)) (fun r e => by cases e;exact ⟨_,hK2,rfl⟩)
  have e3 := hB1.trans (belowK_b (w := w) (Nat.le_refl _) W D _ (.deferred none) hD2 hK2 rfl rfl)
  have p0 := (d3 0 _ rfl).1
  exact ⟨.bool true,by simp [results,Tryz.results132,p0,go_sem],rfl,e3⟩
end Go.Proofs.YtodmidchpbcnpaaGreat