/- Part of a claim. -/
import Derived.Test.YthdfnkdifjajlaaGreatDoorKG50U
import Derived.Test.YthdfnkdifjajlaaGreatDoorG18U
set_option linter.unusedVariables false
set_option linter.unusedSimpArgs false
namespace Go.Proofs.YthdfnkdifjajlaaGreatDoor
open Go.RowKit Go.Pb Go.Pb.Ware Go.Pb.Sag


def CountAt (lo M : Nat) (w0 : World) (m : Nat) (W : World) : Prop := m < 1000 ∧ Below lo w0 W ∧ W.cell? ⟨M,0,none⟩ = some (.int .i64 (m : Int)) ∧ W.frozen? ⟨M,0,none⟩ = false
def CountEnd (lo M : Nat) (w0 : World) (SH : List (List St)) (W : World) : Prop := 1000 ≤ SH.length ∧ Below lo w0 W ∧ W.cell? ⟨M,0,none⟩ = some (.int .i64 1000)
theorem show_packs {w0 w : World} {lo M : Nat} {SH : List (List St)} (hM : lo ≤ M) (hMw : M < w.heap.size) (m : Nat) (W : World) (pv : Value) (q : List St) (hq : SH[m]? = some q) (hJ : CountAt lo M w0 m W) (hz : w.heap.size ≤ W.heap.size) (hp : StAt W pv (q.map toSq)) :
  Calls Tryz.prog 44 #[pv, .pointer (some ⟨M,0,none⟩)] W (fun e W' => ∃ b,e = .returned (.bool b) ∧ KeepSeg w.heap.size W.heap.size W W' ∧ (b = true → CountAt lo M w0 (m + 1) W') ∧ (b = false → CountEnd lo M w0 SH W')) := by
 obtain ⟨hm,hB,hc,hf⟩ := hJ
 have hlen := (List.getElem?_eq_some_iff.1 hq).1
 have hk : ∀ v,KeepSeg w.heap.size W.heap.size W (W.setCell ⟨M,0,none⟩ v) := fun v => ⟨by simp [World.setCell],fun k h1 h2 => Below.heap_setCell _ _ _ _ (by show k ≠ M;omega)⟩
 by_cases h : m + 1 < 1000
 ·refine (count_more (m := (m : Int)) (by omega) (by omega) (by omega) hc hf).mono ?_
  rintro e W' ⟨rfl,rfl⟩
  refine ⟨true,rfl,hk _,fun _ => ⟨h,hB.setCell (p := ⟨M,0,none⟩) hM _, ?_,set_free hc hf⟩,fun h => (by cases h)⟩
  rw [show (((m + 1 : Nat) : Int)) = (m : Int) + 1 by omega]
  exact setc_same hc
 ·have hm9 : m = 999 := by omega
  subst hm9
  refine (count_full (m := 999) (by omega) (by omega) (by omega) hc hf).mono ?_
  rintro e W' ⟨rfl,rfl⟩
  exact ⟨false,rfl,hk _,fun h => (by cases h),fun _ => ⟨by omega,hB.setCell (p := ⟨M,0,none⟩) hM _,setc_same hc⟩⟩
set_option maxRecDepth 100000 in
set_option maxHeartbeats 1000000 in
theorem packs_count {w : World} {w0 : World} {lo M : Nat} {bid bwi bde bce bhi bbe : Int} {lv : Value} {fs : List Ft} (hX : boxOk ⟨bid,bwi,bde,bce,bhi,bbe⟩ = true) (hl : FeetAt w lv fs) (hok : ∀ f ∈ fs,FtOk f) (hn : fs.length ≤ 5) (hlo : lo ≤ w.heap.size) (hM : lo ≤ M) (hMw : M < w.heap.size) (hB : Below lo w0 w) (hc : w.cell? ⟨M,0,none⟩ = some (.int .i64 0)) (hf : w.frozen? ⟨M,0,none⟩ = false) (hspots : ∀ (W : World) (v : Value),FeetAt W v fs → Calls Tryz.prog 65 #[.agg #[.int .i64 bid, .int .i64 bwi, .int .i64 bde, .int .i64 bce, .int .i64 bhi, .int .i64 bbe],v] W (fun e W' => ∃ u,e = .returned u ∧ Below W.heap.size W W' ∧ SpotsIn W.heap.size W'.heap.size u (fs.map (spotsL ⟨bid,bwi,bde,bce,bhi,bbe⟩)) W' ∧ W.heap.size ≤ W'.heap.size)) :
  Calls Tryz.prog 43 #[.agg #[.int .i64 bid, .int .i64 bwi, .int .i64 bde, .int .i64 bce, .int .i64 bhi, .int .i64 bbe],lv, .func (.func 44) #[] #[.pointer (some ⟨M,0,none⟩)]] w (fun e w' => e = .returned (.tuple #[]) ∧ Below lo w0 w' ∧ w'.cell? ⟨M,0,none⟩ = some (.int .i64 ((min (shownL ⟨bid,bwi,bde,bce,bhi,bbe⟩ fs).length 1000 : Nat) : Int))) := by
 refine (searchP (cv0 := .pointer (some ⟨M,0,none⟩)) (J := CountAt lo M w0) (Jx := CountEnd lo M w0 (shownL ⟨bid,bwi,bde,bce,bhi,bbe⟩ fs)) hX hl hok hn ?_ ⟨by omega,hB,by simpa using hc,hf⟩ (fun m W pv q => show_packs hM hMw m W pv q) hspots).mono ?_
 ·rintro m W W' ⟨h1,h2,h3,h4⟩ hb
  exact ⟨h1,h2.trans (hb.mono hlo),(hb.cell (p := ⟨M,0,none⟩) hMw).trans h3,(hb.frozen (p := ⟨M,0,none⟩) hMw).trans h4⟩
 ·rintro e W' ⟨rfl,⟨h1,h2,h3,_⟩ | ⟨h1,h2,h3⟩⟩
  ·exact ⟨rfl,h2,by rw [h3,Nat.min_eq_left (by omega)]⟩
  ·exact ⟨rfl,h2,by rw [h3,Nat.min_eq_right h1];rfl⟩
end Go.Proofs.YthdfnkdifjajlaaGreatDoor