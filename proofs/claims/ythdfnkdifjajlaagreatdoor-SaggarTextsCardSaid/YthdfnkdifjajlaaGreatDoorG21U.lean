/- Part of a claim. -/
import Derived.Test.YthdfnkdifjajlaaGreatDoorKG50U
import Derived.Test.YthdfnkdifjajlaaGreatDoorG18U
set_option linter.unusedVariables false
set_option linter.unusedSimpArgs false
namespace Go.Proofs.YthdfnkdifjajlaaGreatDoor
open Go.RowKit Go.Pb Go.Pb.Ware Go.Pb.Sag


theorem packs_len : ∀ {sp : List (List Sp)} {used : Nat} {q : List St},q ∈ packsF sp used → q.length = sp.length
 | [],_,q,h => by
  rw [packsF,List.mem_singleton] at h;rw [h];rfl
 | l :: ls,used,q,h => by
  rw [packsF,List.mem_flatMap] at h
  obtain ⟨a,_,h⟩ := h
  split at h
  ·cases h
  ·rw [List.mem_map] at h
   obtain ⟨r,hr,rfl⟩ := h
   rw [List.length_cons,List.length_cons,packs_len hr]
theorem shown_len {s : Bx} {fs : List Ft} {q : List St} (h : q ∈ shownL s fs) : q.length = fs.length := by
 unfold shownL at h
 split at h
 ·cases h
 ·unfold allPacks at h
  rw [packs_len h,List.length_map]
def AheadAt (lo A N F I n : Nat) (w0 : World) (m : Nat) (W : World) : Prop := m ≤ n ∧ Below lo w0 W ∧ (W.cell? ⟨A,0,none⟩ = some (.int .i64 (m : Int)) ∧ W.frozen? ⟨A,0,none⟩ = false) ∧ W.cell? ⟨N,0,none⟩ = some (.int .i64 (n : Int)) ∧ (W.cell? ⟨F,0,none⟩ = some (.slice none 0 0) ∧ W.frozen? ⟨F,0,none⟩ = false) ∧ (W.cell? ⟨I,0,none⟩ = some (.bool false) ∧ W.frozen? ⟨I,0,none⟩ = false)
def FoundAt (lo F I n : Nat) (w0 : World) (SH : List (List St)) (W : World) : Prop := ∃ q v,SH[n]? = some q ∧ Below lo w0 W ∧ W.cell? ⟨F,0,none⟩ = some v ∧ W.cell? ⟨I,0,none⟩ = some (.bool true) ∧ W.ownsRow lo 37 3 v q.length ((q.map toSq).flatMap cellsQ)
theorem show_nth {w0 w : World} {lo A N F I n : Nat} {SH : List (List St)} (hSH : ∀ q ∈ SH,q.length ≤ 1000) (hn : n ≤ 1000000) (hA : lo ≤ A) (hF : lo ≤ F) (hI : lo ≤ I) (kA : A < w.heap.size) (kF : F < w.heap.size) (kI : I < w.heap.size) (hAN : A ≠ N) (hAF : A ≠ F) (hAI : A ≠ I) (hFI : F ≠ I) (m : Nat) (W : World) (pv : Value) (q : List St) (hq : SH[m]? = some q) (hJ : AheadAt lo A N F I n w0 m W) (hz : w.heap.size ≤ W.heap.size) (hp : StAt W pv (q.map toSq)) :
  Calls Tryz.prog 62 #[pv, .pointer (some ⟨A,0,none⟩), .pointer (some ⟨N,0,none⟩), .pointer (some ⟨F,0,none⟩), .pointer (some ⟨I,0,none⟩)] W (fun e W' => ∃ b,e = .returned (.bool b) ∧ KeepSeg w.heap.size W.heap.size W W' ∧ (b = true → AheadAt lo A N F I n w0 (m + 1) W') ∧ (b = false → FoundAt lo F I n w0 SH W')) := by
 obtain ⟨hmn,hB,⟨a1,a2⟩,b1,⟨c1,c2⟩,⟨d1,d2⟩⟩ := hJ
 have hlen := hSH q (List.mem_of_getElem? hq)
 have hlen2 : (q.map toSq).length ≤ 1000 := by rw [List.length_map];exact hlen
 by_cases h : m = n
 ·subst h
  refine (nth_here (fv := .bool false) (m := (m : Int)) (n := (m : Int)) (by omega) (by omega) a1 a2 b1 c1 c2 d1 d2 hp hlen2 hFI rfl).mono ?_
  rintro e W' ⟨rfl,w1,v,hb,ho,rfl⟩
  refine ⟨false,rfl,⟨by simpa [World.setCell] using hb.size,fun k h1 h2 => ?_⟩,fun h => (by cases h),fun _ => ⟨q,v,hq, ?_, ?_, ?_, ?_⟩⟩
  ·exact (Below.heap_setCell _ _ _ _ (by show k ≠ I;omega)).trans ((Below.heap_setCell _ _ _ _ (by show k ≠ F;omega)).trans (hb.block k h2))
  ·exact ((hB.trans (hb.mono (by omega))).setCell (p := ⟨F,0,none⟩) hF _).setCell (p := ⟨I,0,none⟩) hI _
  ·exact setc_block (setc_same (bkeep hb c1)) hFI
  ·exact setc_same (setc_block (bkeep hb d1) hFI.symm)
  ·rw [List.length_map] at ho
   exact owns_base (by omega) (owns_set (owns_set ho (by omega) _) (by omega) _)
 ·refine (nth_past (fv := .bool false) (m := (m : Int)) (n := (n : Int)) (by omega) (by omega) a1 a2 b1 c1 c2 d1 d2 hp hlen2 hFI (by omega)).mono ?_
  rintro e W' ⟨rfl,rfl⟩
  refine ⟨true,rfl,⟨by simp [World.setCell],fun k h1 h2 => Below.heap_setCell _ _ _ _ (by show k ≠ A;omega)⟩,fun _ => ⟨by omega,hB.setCell (p := ⟨A,0,none⟩) hA _,⟨?_,set_free a1 a2⟩,setc_block b1 hAN.symm,⟨setc_block c1 hAF.symm,set_free c1 c2⟩,⟨setc_block d1 hAI.symm,set_free d1 d2⟩⟩,fun h => (by cases h)⟩
  rw [show (((m + 1 : Nat) : Int)) = (m : Int) + 1 by omega]
  exact setc_same a1
def NthRes (SH : List (List St)) (n : Nat) (W : World) (e : Ending) (w' : World) : Prop := ∃ v b,e = .returned (.tuple #[v, .bool b]) ∧ Below W.heap.size W w' ∧ ((SH[n]? = none ∧ v = .slice none 0 0 ∧ b = false) ∨ ∃ q,SH[n]? = some q ∧ b = true ∧ w'.ownsRow W.heap.size 37 3 v q.length ((q.map toSq).flatMap cellsQ))
set_option maxRecDepth 100000 in
set_option maxHeartbeats 1000000 in
theorem search_nth {w : World} {w0 : World} {lo A N F I n : Nat} {bid bwi bde bce bhi bbe : Int} {lv : Value} {fs : List Ft} (hX : boxOk ⟨bid,bwi,bde,bce,bhi,bbe⟩ = true) (hl : FeetAt w lv fs) (hok : ∀ f ∈ fs,FtOk f) (hn : fs.length ≤ 5) (hnn : n ≤ 1000000) (hA : lo ≤ A) (hF : lo ≤ F) (hI : lo ≤ I) (kA : A < w.heap.size) (kN : N < w.heap.size) (kF : F < w.heap.size) (kI : I < w.heap.size) (hAN : A ≠ N) (hAF : A ≠ F) (hAI : A ≠ I) (hFI : F ≠ I) (h0 : AheadAt lo A N F I n w0 0 w) (hspots : ∀ (W : World) (v : Value),FeetAt W v fs → Calls Tryz.prog 65 #[.agg #[.int .i64 bid, .int .i64 bwi, .int .i64 bde, .int .i64 bce, .int .i64 bhi, .int .i64 bbe],v] W (fun e W' => ∃ u,e = .returned u ∧ Below W.heap.size W W' ∧ SpotsIn W.heap.size W'.heap.size u (fs.map (spotsL ⟨bid,bwi,bde,bce,bhi,bbe⟩)) W' ∧ W.heap.size ≤ W'.heap.size)) :
  Calls Tryz.prog 43 #[.agg #[.int .i64 bid, .int .i64 bwi, .int .i64 bde, .int .i64 bce, .int .i64 bhi, .int .i64 bbe],lv, .func (.func 62) #[] #[.pointer (some ⟨A,0,none⟩), .pointer (some ⟨N,0,none⟩), .pointer (some ⟨F,0,none⟩), .pointer (some ⟨I,0,none⟩)]] w (fun e w' => e = .returned (.tuple #[]) ∧ (((shownL ⟨bid,bwi,bde,bce,bhi,bbe⟩ fs)[n]? = none ∧ Below lo w0 w' ∧ w'.cell? ⟨F,0,none⟩ = some (.slice none 0 0) ∧ w'.cell? ⟨I,0,none⟩ = some (.bool false)) ∨ FoundAt lo F I n w0 (shownL ⟨bid,bwi,bde,bce,bhi,bbe⟩ fs) w')) := by
 have hSH : ∀ q ∈ (shownL ⟨bid,bwi,bde,bce,bhi,bbe⟩ fs),q.length ≤ 1000 := fun q hq => by rw [shown_len hq];omega
 refine (searchN (cv0 := .pointer (some ⟨A,0,none⟩)) (cv1 := .pointer (some ⟨N,0,none⟩)) (cv2 := .pointer (some ⟨F,0,none⟩)) (cv3 := .pointer (some ⟨I,0,none⟩)) (J := AheadAt lo A N F I n w0) (Jx := FoundAt lo F I n w0 (shownL ⟨bid,bwi,bde,bce,bhi,bbe⟩ fs)) hX hl hok hn ?_ h0 (fun m W pv q => show_nth hSH hnn hA hF hI kA kF kI hAN hAF hAI hFI m W pv q) hspots).mono ?_
 ·rintro m W W' ⟨h1,h2,⟨h3,h4⟩,h5,⟨h6,h7⟩,⟨h8,h9⟩⟩ hb
  exact ⟨h1,h2.trans (hb.mono (by omega)),⟨(hb.cell (p := ⟨A,0,none⟩) kA).trans h3,(hb.frozen (p := ⟨A,0,none⟩) kA).trans h4⟩,(hb.cell (p := ⟨N,0,none⟩) kN).trans h5,⟨(hb.cell (p := ⟨F,0,none⟩) kF).trans h6,(hb.frozen (p := ⟨F,0,none⟩) kF).trans h7⟩,⟨(hb.cell (p := ⟨I,0,none⟩) kI).trans h8,(hb.frozen (p := ⟨I,0,none⟩) kI).trans h9⟩⟩
 ·rintro e W' ⟨rfl,⟨h1,h2,_,_,⟨h6,_⟩,⟨h8,_⟩⟩ | h⟩
  ·exact ⟨rfl, .inl ⟨List.getElem?_eq_none h1,h2,h6,h8⟩⟩
  ·exact ⟨rfl, .inr h⟩
set_option maxRecDepth 100000 in
set_option maxHeartbeats 1000000 in
theorem nth_any {w : World} {n : Nat} {bid bwi bde bce bhi bbe : Int} {lv : Value} {fs : List Ft} (hX : boxOk ⟨bid,bwi,bde,bce,bhi,bbe⟩ = true) (hl : FeetAt w lv fs) (hok : ∀ f ∈ fs,FtOk f) (hn : fs.length ≤ 5) (hnn : n ≤ 1000000) (hspots : ∀ (W : World) (v : Value),FeetAt W v fs → Calls Tryz.prog 65 #[.agg #[.int .i64 bid, .int .i64 bwi, .int .i64 bde, .int .i64 bce, .int .i64 bhi, .int .i64 bbe],v] W (fun e W' => ∃ u,e = .returned u ∧ Below W.heap.size W W' ∧ SpotsIn W.heap.size W'.heap.size u (fs.map (spotsL ⟨bid,bwi,bde,bce,bhi,bbe⟩)) W' ∧ W.heap.size ≤ W'.heap.size)) :
  Calls Tryz.prog 42 #[.agg #[.int .i64 bid, .int .i64 bwi, .int .i64 bde, .int .i64 bce, .int .i64 bhi, .int .i64 bbe],lv, .int .i64 (n : Int)] w (NthRes (shownL ⟨bid,bwi,bde,bce,bhi,bbe⟩ fs) n w) := by
 obtain ⟨la,lc,rfl,hll⟩ := hl.shape
 rw [List.length_map] at hl hll ⊢
 have HS := hid hspots;clear hspots
 go_enter Tryz.func42,Tryz.ntmps42
 go_wp2_with fail
 refine (search_nth (w0 := w) (lo := w.heap.size) (n := n) hX (hl.below (by go_grown)) hok hn hnn (by omega) (by omega) (by omega) (by simp <;> omega) (by simp <;> omega) (by simp <;> omega) (by simp <;> omega) (by omega) (by omega) (by omega) (by omega) ⟨Nat.zero_le _,by go_grown,⟨by simp [go_sem],by simp [go_sem]⟩,by simp [go_sem],⟨by simp [go_sem],by simp [go_sem]⟩,by simp [go_sem],by simp [go_sem]⟩ HS.out).mono ?_
 rintro e w2 ⟨rfl,hres⟩
 obtain ⟨v,b,hB2,hF2,hI2,hcase⟩ : ∃ v b,Below w.heap.size w w2 ∧ w2.cell? ⟨w.heap.size + 1 + 1,0,none⟩ = some v ∧ w2.cell? ⟨w.heap.size + 1 + 1 + 1 + 1,0,none⟩ = some (.bool b) ∧ (((shownL ⟨bid,bwi,bde,bce,bhi,bbe⟩ fs)[n]? = none ∧ v = .slice none 0 0 ∧ b = false) ∨ ∃ q,(shownL ⟨bid,bwi,bde,bce,bhi,bbe⟩ fs)[n]? = some q ∧ b = true ∧ w2.ownsRow w.heap.size 37 3 v q.length ((q.map toSq).flatMap cellsQ)) := by
  rcases hres with ⟨h1,h2,h3,h4⟩ | ⟨q,v,h1,h2,h3,h4,h5⟩
  ·exact ⟨_,_,h2,h3,h4, .inl ⟨h1,rfl,rfl⟩⟩
  ·exact ⟨_,_,h2,h3,h4, .inr ⟨q,h1,rfl,h5⟩⟩
 clear hres
 have x0 := fun x : BW w2 => bkeep x.below hF2
 have x1 := fun x : BW w2 => bkeep x.below hI2
 go_upto_region 4 with fail
 refine wp_region_qb (by kernel_rfl) (by kernel_rfl) fun hc => ?_
 repeat (go_big_quiet_step (fail))
 refine wpQuiet_nil ?_
 intro w3 hb
 go_wp2_with fail
 go_ret2
 refine ⟨_,_,rfl,hB2.trans (hb.mono hB2.size), ?_⟩
 rcases hcase with h | ⟨q,h1,h2,h3⟩
 ·exact .inl h
 ·exact .inr ⟨q,h1,h2,owns_below h3 hb⟩
end Go.Proofs.YthdfnkdifjajlaaGreatDoor