/- Part of a claim. -/
import Derived.Test.YtodmidchpbcnpaaGreatG4Y
import Derived.Test.YtodmidchpbcnpaaGreatKScY
import Derived.Deep.DeepMust
import Derived.Test.YtodmidchpbcnpaaGreatG1Y
import Derived.Test.YtodmidchpbcnpaaGreatKLibY
set_option linter.unusedVariables false
set_option linter.unusedSimpArgs false
namespace Go.Proofs.YtodmidchpbcnpaaGreat
open Go.RowKit Go.Pb Go.Pb.Ware Go.Pb.Sag


theorem Tryz.infoS : (Tryz.prog.info? 62).map (fun i => (i.zero,i.size,i.bytes)) = some (some (.agg #[.int .i64 0, .int .i64 0, .bool false]),3,24) := by kernel_rfl
set_option maxRecDepth 100000 in
set_option maxHeartbeats 600000 in
theorem cloneS {w : World} {v : Value} {xs : List Sq} (hr : StAt w v xs) (hn : xs.length ≤ 1000) :
  Calls Tryz.prog 126 #[v] w (NewSts 62 xs w) := by
 obtain ⟨i0,hi,hz0,hz1,hz2⟩ := info_parts Tryz.infoS
 unfold NewSts
 obtain ⟨aa,cap,rfl,hl1,hl2⟩ := hr.shape
 cases aa with
 | none =>
  have hx : xs = [] := by rcases hr with ⟨_,h⟩ | ⟨a,_,h,_⟩ <;> first | exact h | exact List.map_eq_nil_iff.1 h | (simp at h;done) | cases h
  subst hx
  have hc : cap = 0 := by rcases hr with ⟨h,_⟩ | ⟨a,_,h,_⟩ <;> first | (injection h;done) | (injection h with _ _ h;exact h) | cases h
  subst hc
  have hnil : ∀ w' : World,(binOp BinOp.eql 41 (.slice none 0 0) (.slice none 0 0)).run Tryz.prog w' = .ok (.bool true) w' := fun w' => rfl
  go_enter Tryz.func126,Tryz.ntmps126
  go_wp2_with fail
  go_ret
  exact ⟨_,rfl,by go_grown,World.ownsRow_nil _ _ _ _⟩
 | some a =>
  have hnil : ∀ w' : World,(binOp BinOp.eql 41 (.slice (some a) xs.length cap) (.slice none 0 0)).run Tryz.prog w' = .ok (.bool false) w' := fun w' => rfl
  go_enter Tryz.func126,Tryz.ntmps126
  go_wp2_with (at_builtin;go_must (refine wpList_append_own _ rfl _ _ 41 rfl w.heap.size 62 i0 (.agg #[.int .i64 0, .int .i64 0, .bool false]) 3 24 Tryz.underlying41 hi hz0 hz1 hz2 rfl (by decide) _ _ _ rfl (owns_empty w 62 3) a xs.length cap (xs.flatMap cellsQ) rfl (flat_len cellsQ lenQ xs) ?c1 one_Q (by unfold maxLen;omega) (by omega) (by simp) ?_;(case c1 => exact fun j u h => akeep (stAt_cells hr j u h));intro v' w4 ho4 hg4 hnil;have hb0 := below_grown ((Below.refl _ w).alloc (Nat.le_refl _) _) hg4 (owns_empty w 62 3) (by simp) (Nat.le_refl _)))
  go_ret
  exact ⟨_,rfl,hb0,by simpa using ho4⟩
set_option maxRecDepth 100000 in
set_option maxHeartbeats 600000 in
theorem cloneF {w : World} {v : Value} {xs : List Ft} (hr : FeetAt w v xs) (hn : xs.length ≤ 1000) :
  Calls Tryz.prog 144 #[v] w (NewFeet 34 xs w) := by
 obtain ⟨i0,hi,hz0,hz1,hz2⟩ := info_parts Tryz.infoF
 unfold NewFeet
 obtain ⟨aa,cap,rfl,hl1⟩ := hr.shape
 rw [List.length_map] at hr hl1 ⊢
 cases aa with
 | none =>
  have hx : xs = [] := by rcases hr with ⟨_,h⟩ | ⟨a,_,h,_⟩ <;> first | exact h | exact List.map_eq_nil_iff.1 h | (simp at h;done) | cases h
  subst hx
  have hc : cap = 0 := by rcases hr with ⟨h,_⟩ | ⟨a,_,h,_⟩ <;> first | (injection h;done) | (injection h with _ _ h;exact h) | cases h
  subst hc
  have hnil : ∀ w' : World,(binOp BinOp.eql 38 (.slice none 0 0) (.slice none 0 0)).run Tryz.prog w' = .ok (.bool true) w' := fun w' => rfl
  go_enter Tryz.func144,Tryz.ntmps144
  go_wp2_with fail
  go_ret
  exact ⟨_,rfl,by go_grown,World.ownsRow_nil _ _ _ _⟩
 | some a =>
  have hnil : ∀ w' : World,(binOp BinOp.eql 38 (.slice (some a) xs.length cap) (.slice none 0 0)).run Tryz.prog w' = .ok (.bool false) w' := fun w' => rfl
  go_enter Tryz.func144,Tryz.ntmps144
  go_wp2_with (at_builtin;go_must (refine wpList_append_own _ rfl _ _ 38 rfl w.heap.size 34 i0 (.agg #[.int .i64 0, .int .i64 0, .int .i64 0, .int .i64 0]) 4 32 Tryz.underlying38 hi hz0 hz1 hz2 rfl (by decide) _ _ _ rfl (owns_empty w 34 4) a xs.length cap (xs.flatMap cellsF) rfl (flat_len cellsF lenF xs) ?c1 one_F (by unfold maxLen;omega) (by omega) (by simp) ?_;(case c1 => exact fun j u h => akeep (feetAt_cells hr j u h));intro v' w4 ho4 hg4 hnil;have hb0 := below_grown ((Below.refl _ w).alloc (Nat.le_refl _) _) hg4 (owns_empty w 34 4) (by simp) (Nat.le_refl _)))
  go_ret
  exact ⟨_,rfl,hb0,by simpa using ho4⟩
end Go.Proofs.YtodmidchpbcnpaaGreat
namespace Go.Proofs.YtodmidchpbcnpaaGreat
open Go.RowKit Go.Pb Go.Pb.Ware Go.Pb.Sag


set_option maxRecDepth 100000 in
set_option maxHeartbeats 600000 in
theorem count_more {w : World} {pv : Value} {M : Nat} {m : Int} (h0 : 0 ≤ m) (h1 : m ≤ 2000) (hl : m + 1 < 1000) (q0 : w.cell? ⟨M,0,none⟩ = some (.int .i64 m)) (f0 : w.frozen? ⟨M,0,none⟩ = false) :
  Calls Tryz.prog 76 #[pv, .pointer (some ⟨M,0,none⟩)] w (fun e w' => e = .returned (.bool true) ∧ w' = w.setCell ⟨M,0,none⟩ (.int .i64 (m + 1))) := by
 go_enter Tryz.func76,Tryz.ntmps76
 go_wp2
 all_goals go_ret
 all_goals exact ⟨ret_bool (by first | rfl | exact decide_eq_true (by omega) | exact decide_eq_false (by omega)),rfl⟩
set_option maxRecDepth 100000 in
set_option maxHeartbeats 600000 in
theorem count_full {w : World} {pv : Value} {M : Nat} {m : Int} (h0 : 0 ≤ m) (h1 : m ≤ 2000) (hl : 1000 ≤ m + 1) (q0 : w.cell? ⟨M,0,none⟩ = some (.int .i64 m)) (f0 : w.frozen? ⟨M,0,none⟩ = false) :
  Calls Tryz.prog 76 #[pv, .pointer (some ⟨M,0,none⟩)] w (fun e w' => e = .returned (.bool false) ∧ w' = w.setCell ⟨M,0,none⟩ (.int .i64 (m + 1))) := by
 go_enter Tryz.func76,Tryz.ntmps76
 go_wp2
 all_goals go_ret
 all_goals exact ⟨ret_bool (by first | rfl | exact decide_eq_true (by omega) | exact decide_eq_false (by omega)),rfl⟩
set_option maxRecDepth 100000 in
set_option maxHeartbeats 600000 in
theorem nth_past {w : World} {pv fv : Value} {xs : List Sq} {A N F I : Nat} {m n : Int} (h0 : 0 ≤ m) (h1 : m ≤ 1000000) (q0 : w.cell? ⟨A,0,none⟩ = some (.int .i64 m)) (f0 : w.frozen? ⟨A,0,none⟩ = false) (q1 : w.cell? ⟨N,0,none⟩ = some (.int .i64 n)) (q2 : w.cell? ⟨F,0,none⟩ = some (.slice none 0 0)) (f2 : w.frozen? ⟨F,0,none⟩ = false) (q3 : w.cell? ⟨I,0,none⟩ = some (.bool false)) (f3 : w.frozen? ⟨I,0,none⟩ = false) (hp : StAt w pv xs) (hn : xs.length ≤ 1000) (hFI : F ≠ I) (hl : m ≠ n) :
  Calls Tryz.prog 125 #[pv, .pointer (some ⟨A,0,none⟩), .pointer (some ⟨N,0,none⟩), .pointer (some ⟨F,0,none⟩), .pointer (some ⟨I,0,none⟩)] w (fun e w' => e = .returned (.bool true) ∧ w' = w.setCell ⟨A,0,none⟩ (.int .i64 (m + 1))) := by
 obtain ⟨aa,cap,rfl,hl1,hl2⟩ := hp.shape
 go_enter Tryz.func125,Tryz.ntmps125
 go_wp2
 all_goals go_ret
 all_goals exact ⟨rfl,rfl⟩
set_option maxRecDepth 100000 in
set_option maxHeartbeats 600000 in
theorem nth_here {w : World} {pv fv : Value} {xs : List Sq} {A N F I : Nat} {m n : Int} (h0 : 0 ≤ m) (h1 : m ≤ 1000000) (q0 : w.cell? ⟨A,0,none⟩ = some (.int .i64 m)) (f0 : w.frozen? ⟨A,0,none⟩ = false) (q1 : w.cell? ⟨N,0,none⟩ = some (.int .i64 n)) (q2 : w.cell? ⟨F,0,none⟩ = some (.slice none 0 0)) (f2 : w.frozen? ⟨F,0,none⟩ = false) (q3 : w.cell? ⟨I,0,none⟩ = some (.bool false)) (f3 : w.frozen? ⟨I,0,none⟩ = false) (hp : StAt w pv xs) (hn : xs.length ≤ 1000) (hFI : F ≠ I) (hl : m = n) :
  Calls Tryz.prog 125 #[pv, .pointer (some ⟨A,0,none⟩), .pointer (some ⟨N,0,none⟩), .pointer (some ⟨F,0,none⟩), .pointer (some ⟨I,0,none⟩)] w (fun e w' => e = .returned (.bool false) ∧ ∃ w1 v,Below w.heap.size w w1 ∧ w1.ownsRow w.heap.size 62 3 v xs.length (xs.flatMap cellsQ) ∧ w' = (w1.setCell ⟨F,0,none⟩ v).setCell ⟨I,0,none⟩ (.bool true)) := by
 obtain ⟨aa,cap,rfl,hl1,hl2⟩ := hp.shape
 subst hl
 go_enter Tryz.func125,Tryz.ntmps125
 go_wp2_with fail
 refine (cloneS hp hn).mono ?_
 rintro e w1 ⟨v,rfl,hb,ho⟩
 have p2 := bkeep hb q2
 have g2 := bfree hb q2 f2
 have p3 := bkeep hb q3
 have g3 := bfree hb q3 f3
 obtain ⟨va,vc,rfl,hvl⟩ := owns_shape ho
 go_wp2_with fail
 go_ret
 exact ⟨rfl,w1,_,hb,ho,rfl⟩
end Go.Proofs.YtodmidchpbcnpaaGreat
namespace Go.Proofs.YtodmidchpbcnpaaGreat
open Go.RowKit Go.Pb Go.Pb.Ware Go.Pb.Sag


set_option maxRecDepth 100000 in
set_option maxHeartbeats 800000 in
theorem chosen_any {w : World} {lv v : Value} {fs : List Ft} {zs : List Int} (hl : FeetAt w lv fs) (hn : fs.length ≤ 1000) (hi : NumsAt w v zs) (hzn : zs.length ≤ 1000) (hz : ∀ z ∈ zs,0 ≤ z ∧ z < (fs.length : Int)) :
  Calls Tryz.prog 97 #[lv,v] w (NewFeet 34 (chosenL fs zs) w) := by
 obtain ⟨i0,hi0,hz0,hz1,hz2⟩ := info_parts Tryz.infoF
 obtain ⟨a,cap,rfl,hl1,hl2⟩ := hi.shape
 obtain ⟨la,lc,rfl,hll⟩ := hl.shape
 rw [List.length_map] at hl hll ⊢
 unfold NewFeet
 go_enter Tryz.func97,Tryz.ntmps97
 go_wp2_with (at_make;refine wpList_make_own _ rfl _ _ 38 rfl w.heap.size 34 i0 (.agg #[.int .i64 0, .int .i64 0, .int .i64 0, .int .i64 0]) 4 Tryz.underlying38 hi0 hz0 hz1 .i64 .i64 _ zs.length rfl rfl rfl (by rw [hz2];omega) (by unfold maxLen;omega) (Nat.le_refl _) ?_;intro w2 ho hg;have hb0 : Below w.heap.size w w2 := (Below.refl _ w).grown hg (Nat.le_refl _) (fun k h => by cases h);have hz3 := hg.size;clear hg)
 go_loopw [5,13] (fun fv iv wr => ∃ k : Nat,k ≤ zs.length ∧ iv = .int .i64 k ∧ wr.ownsRow w.heap.size 34 4 fv k ((chosenL fs (zs.take k)).flatMap cellsF) ∧ Below w.heap.size w wr) (fun _ iv _ => zs.length - (intOf iv).toNat)
 case atStart => exact ⟨0,Nat.zero_le _,rfl,by simpa [chosenL] using ho,hb0⟩
 case round =>
  clear hb0 hz3 ho
  obtain ⟨k,hk,rfl,ho,hb0⟩ := hrel
  have hzr := hb0.size
  obtain ⟨ua,uc,rfl,hul⟩ := owns_shape ho
  by_cases hlt : k < zs.length
  ·obtain ⟨a',ha,r0⟩ := (hi.below hb0).elem hlt
   subst ha
   obtain ⟨m,hm⟩ : ∃ m : Nat,zs[k] = (m : Int) := ⟨zs[k].toNat,by have := hz zs[k] (List.getElem_mem hlt);omega⟩
   have hmb : m < fs.length := by have := hz zs[k] (List.getElem_mem hlt);omega
   rw [hm] at r0
   obtain ⟨b',hb',hrl,hc0,hcc⟩ := (show RowsAt 4 wr (.slice la (fs.map rowF).length lc) (fs.map rowF) by rw [List.length_map];exact hl.below hb0).row (k := m) (by rw [List.length_map];exact hmb)
   subst hb'
   obtain ⟨f,hf⟩ : ∃ f,f = fs[m] := ⟨_,rfl⟩
   have hfs : fs[m]? = some f := by rw [hf];exact List.getElem?_eq_getElem hmb
   obtain ⟨fw,fd,fh,fg⟩ := f
   have hat : (fs.map rowF)[m]'(by rw [List.length_map];exact hmb) = [fw,fd,fh,fg] := by rw [List.getElem_map, ← hf];rfl
   rw [hat] at hc0 hcc
   have p0 := hc0 _ rfl
   have p1 := hcc 1 _ (by decide) rfl
   have p2 := hcc 2 _ (by decide) rfl
   have p3 := hcc 3 _ (by decide) rfl
   clear hc0 hcc hat hrl hf
   have HE := hid (chosen_snoc (fs := fs) hlt hm hfs)
   clear hm hfs
   have hkl : (k : Int) < (zs.length : Int) := by omega
   have hmi : (m : Int) < (fs.length : Int) := by omega
   go_wp2_with (at_builtin;go_must (refine wpList_append_own _ rfl _ _ 38 rfl w.heap.size 34 i0 (.agg #[.int .i64 0, .int .i64 0, .int .i64 0, .int .i64 0]) 4 32 Tryz.underlying38 hi0 hz0 hz1 hz2 rfl (by decide) _ _ _ rfl (ho.alloc _) ⟨wr.heap.size,0,none⟩ 1 1 (cellsF (⟨fw,fd,fh,fg⟩ : Ft)) rfl rfl ?c1 one_cellsF (by unfold maxLen;omega) (by omega) (by simp;omega) ?_;(case c1 => exact new_cellsF wr (⟨fw,fd,fh,fg⟩ : Ft) 34);intro v' w4 ho4 hg4 hnil;replace hb0 := below_grown (hb0.alloc (by omega) _) hg4 (ho.alloc _) (by simp;omega) (by omega);clear hg4 hnil ho))
   rw [HE.out] at ho4
   go_roundw
   case rel => exact ⟨k + 1,by omega,by go_num,ho4,hb0⟩
   case measure => first | (simp [intOf];done) | (simp [intOf];omega)
  ·obtain rfl : k = zs.length := by omega
   rw [List.take_length] at ho
   go_wp2_with fail
   go_ret
   exact ⟨_,rfl,hb0,by rw [show (chosenL fs zs).length = zs.length from List.length_map ..];exact ho⟩
end Go.Proofs.YtodmidchpbcnpaaGreat