/- Part of a claim. -/
import Derived.Test.YthdfnkdifjajlaaGreatDoorG26U
set_option linter.unusedVariables false
set_option linter.unusedSimpArgs false
namespace Go.Proofs.YthdfnkdifjajlaaGreatDoor
open Go.RowKit Go.Pb Go.Pb.Ware Go.Pb.Sag


def kindL (s : Bx) (fs : List Ft) : Option Int := ([1,2,3,4,5] : List Int).find? (troubleA s fs)
def refuseF (s : Bx) (fs : List Ft) : Int × List Int × Int := match kindL s fs with | some k => (k,neededL s fs k,0) | none => (0, [],3)
def refuseA (ss bs : List (List Int)) (s : Bx) (xs : List It) : Int × List Int × Int := if ckL ss bs s xs = 0 then refuseF s (feetV ss bs s xs) else (0, [],ckL ss bs s xs)
theorem kind_some {s : Bx} {fs : List Ft} {k : Nat} (h1 : 1 ≤ k) (h5 : k ≤ 5) (hf : ∀ j : Nat,1 ≤ j → j < k → troubleA s fs (j : Int) = false) (ht : troubleA s fs (k : Int) = true) : kindL s fs = some (k : Int) := by
 unfold kindL
 have e : ∀ j : Nat,1 ≤ j → j < k → troubleA s fs (j : Int) = false := hf
 rcases (show k = 1 ∨ k = 2 ∨ k = 3 ∨ k = 4 ∨ k = 5 by omega) with rfl | rfl | rfl | rfl | rfl
 ·rw [List.find?_cons_of_pos (by exact ht)];rfl
 ·rw [List.find?_cons_of_neg (by have := e 1 (by omega) (by omega);simpa using this),List.find?_cons_of_pos (by exact ht)];rfl
 ·rw [List.find?_cons_of_neg (by have := e 1 (by omega) (by omega);simpa using this),List.find?_cons_of_neg (by have := e 2 (by omega) (by omega);simpa using this),List.find?_cons_of_pos (by exact ht)];rfl
 ·rw [List.find?_cons_of_neg (by have := e 1 (by omega) (by omega);simpa using this),List.find?_cons_of_neg (by have := e 2 (by omega) (by omega);simpa using this),List.find?_cons_of_neg (by have := e 3 (by omega) (by omega);simpa using this),List.find?_cons_of_pos (by exact ht)];rfl
 ·rw [List.find?_cons_of_neg (by have := e 1 (by omega) (by omega);simpa using this),List.find?_cons_of_neg (by have := e 2 (by omega) (by omega);simpa using this),List.find?_cons_of_neg (by have := e 3 (by omega) (by omega);simpa using this),List.find?_cons_of_neg (by have := e 4 (by omega) (by omega);simpa using this),List.find?_cons_of_pos (by exact ht)];rfl
theorem kind_none {s : Bx} {fs : List Ft} (hf : ∀ j : Nat,1 ≤ j → j < 6 → troubleA s fs (j : Int) = false) : kindL s fs = none := by
 unfold kindL
 rw [List.find?_eq_none]
 intro x hx
 simp only [List.mem_cons,List.not_mem_nil,or_false] at hx
 rcases hx with rfl | rfl | rfl | rfl | rfl
 ·have := hf 1 (by omega) (by omega);simpa using this
 ·have := hf 2 (by omega) (by omega);simpa using this
 ·have := hf 3 (by omega) (by omega);simpa using this
 ·have := hf 4 (by omega) (by omega);simpa using this
 ·have := hf 5 (by omega) (by omega);simpa using this
def RefuseRes (r : Int × List Int × Int) (W : World) (e : Ending) (w' : World) : Prop := ∃ v,e = .returned (.tuple #[.agg #[.int .i64 r.1,v], .int .i64 r.2.2]) ∧ Below W.heap.size W w' ∧ NumsAt w' v r.2.1
set_option maxRecDepth 100000 in
set_option maxHeartbeats 1000000 in
theorem Refuse_any {w : World} {vs vb : Value} {ss bs : List (List Int)} (h1 : RowsAt 11 w vs ss) (h2 : RowsAt 7 w vb bs) {lv : Value} {xs : List It} {bid bwi bde bce bhi bbe : Int} (hl : RowsAt 3 w lv (xs.map rowX)) :
  Calls Tryz.prog 26 #[.agg #[vs,vb], .agg #[.int .i64 bid, .int .i64 bwi, .int .i64 bde, .int .i64 bce, .int .i64 bhi, .int .i64 bbe],lv] w (RefuseRes (refuseA ss bs ⟨bid,bwi,bde,bce,bhi,bbe⟩ xs) w) := by
 obtain ⟨la,lc,rfl,hll⟩ := hl.shape
 rw [List.length_map] at hl ⊢
 obtain ⟨c,hc⟩ : ∃ c,ckL ss bs ⟨bid,bwi,bde,bce,bhi,bbe⟩ xs = c := ⟨_,rfl⟩
 unfold RefuseRes
 by_cases hc0 : c = 0
 ·subst hc0
  obtain ⟨hw,hX,hxl, -⟩ := ckL_0 hc
  have hR : refuseA ss bs ⟨bid,bwi,bde,bce,bhi,bbe⟩ xs = refuseF ⟨bid,bwi,bde,bce,bhi,bbe⟩ (feetV ss bs ⟨bid,bwi,bde,bce,bhi,bbe⟩ xs) := by unfold refuseA;rw [if_pos hc]
  obtain ⟨fs,hfs⟩ : ∃ fs,(feetV ss bs ⟨bid,bwi,bde,bce,bhi,bbe⟩ xs) = fs := ⟨_,rfl⟩
  have hok : ∀ f ∈ fs,FtOk f := hfs ▸ feet_ok
  have hn : fs.length ≤ 5 := hfs ▸ feet_len
  rw [hR,hfs]
  have HFS := hid hfs;clear hfs
  have HC := hid hc;have HX := hid hX;clear hc hw hX hR
  go_enter Tryz.func26,Tryz.ntmps26
  go_wp2_with fail
  refine (Feet_any (h1.below (by go_grown)) (h2.below (by go_grown)) (hl.below (by go_grown))).mono ?_
  rintro e w1 ⟨fv,rfl,hb,ho⟩
  replace hb0 := bnext (w := w) (by go_grown) hb;have hz := hb.size;(try simp only [World.size_alloc,World.size_setCell] at hz);replace q0 : w1.cell? ⟨w.heap.size,0,none⟩ = some (vs) := bkeep hb (by first|with_reducible exact q0|with_reducible exact akeep q0|simp[*,go_sem]);replace q1 : w1.cell? ⟨w.heap.size,1,none⟩ = some (vb) := bkeep hb (by first|with_reducible exact q1|with_reducible exact akeep q1|simp[*,go_sem]);replace q2 : w1.cell? ⟨w.heap.size + 1,0,none⟩ = some (.int .i64 bid) := bkeep hb (by first|with_reducible exact q2|with_reducible exact akeep q2|simp[*,go_sem]);replace q3 : w1.cell? ⟨w.heap.size + 1,1,none⟩ = some (.int .i64 bwi) := bkeep hb (by first|with_reducible exact q3|with_reducible exact akeep q3|simp[*,go_sem]);replace q4 : w1.cell? ⟨w.heap.size + 1,2,none⟩ = some (.int .i64 bde) := bkeep hb (by first|with_reducible exact q4|with_reducible exact akeep q4|simp[*,go_sem]);replace q5 : w1.cell? ⟨w.heap.size + 1,3,none⟩ = some (.int .i64 bce) := bkeep hb (by first|with_reducible exact q5|with_reducible exact akeep q5|simp[*,go_sem]);replace q6 : w1.cell? ⟨w.heap.size + 1,4,none⟩ = some (.int .i64 bhi) := bkeep hb (by first|with_reducible exact q6|with_reducible exact akeep q6|simp[*,go_sem]);replace q7 : w1.cell? ⟨w.heap.size + 1,5,none⟩ = some (.int .i64 bbe) := bkeep hb (by first|with_reducible exact q7|with_reducible exact akeep q7|simp[*,go_sem]);replace f8 : w1.frozen? ⟨w.heap.size + 1 + 1,0,none⟩ = false := bfree (v := .int .i64 0) hb (by first|with_reducible exact q8|with_reducible exact akeep q8|simp[*,go_sem]) (by first|with_reducible exact f8|with_reducible exact afree q8 f8|simp[*,go_sem]);replace q8 : w1.cell? ⟨w.heap.size + 1 + 1,0,none⟩ = some (.int .i64 0) := bkeep hb (by first|with_reducible exact q8|with_reducible exact akeep q8|simp[*,go_sem]);replace f9 : w1.frozen? ⟨w.heap.size + 1 + 1,1,none⟩ = false := bfree (v := .slice none 0 0) hb (by first|with_reducible exact q9|with_reducible exact akeep q9|simp[*,go_sem]) (by first|with_reducible exact f9|with_reducible exact afree q9 f9|simp[*,go_sem]);replace q9 : w1.cell? ⟨w.heap.size + 1 + 1,1,none⟩ = some (.slice none 0 0) := bkeep hb (by first|with_reducible exact q9|with_reducible exact akeep q9|simp[*,go_sem]);skip
  clear hb
  rw [HC.out]
  rw [HFS.out] at ho
  have hfa := feetAt_of_owns hok ho
  obtain ⟨fa,fc,rfl,hfl⟩ := owns_shape ho
  clear ho HC
  go_wp2_with fail
  go_loopw [10] (fun kv wr => ∃ k : Nat,1 ≤ k ∧ k ≤ 6 ∧ kv = .int .i64 k ∧ (∀ j : Nat,1 ≤ j → j < k → troubleA ⟨bid,bwi,bde,bce,bhi,bbe⟩ fs (j : Int) = false) ∧ FeetAt wr (.slice fa fs.length fc) fs ∧ Below w.heap.size w wr ∧ (wr.cell? ⟨w.heap.size + 1,0,none⟩ = some (.int .i64 bid) ∧ wr.cell? ⟨w.heap.size + 1,1,none⟩ = some (.int .i64 bwi) ∧ wr.cell? ⟨w.heap.size + 1,2,none⟩ = some (.int .i64 bde) ∧ wr.cell? ⟨w.heap.size + 1,3,none⟩ = some (.int .i64 bce) ∧ wr.cell? ⟨w.heap.size + 1,4,none⟩ = some (.int .i64 bhi) ∧ wr.cell? ⟨w.heap.size + 1,5,none⟩ = some (.int .i64 bbe)) ∧ CellsAt wr (w.heap.size + 1 + 1) [.int .i64 0, .slice none 0 0]) (fun kv _ => 6 - (intOf kv).toNat)
  case atStart => exact ⟨1,Nat.le_refl _,by omega,rfl,fun j h1 h2 => by omega,hfa,hb0,⟨q2,q3,q4,q5,q6,q7⟩,CellsAt.pair q8 f8 q9 f9⟩
  case round =>
   clear hfa hb0 q0 q1 q2 q3 q4 q5 q6 q7 q8 q9 f8 f9
   obtain ⟨k,hk1,hk6,rfl,hT,hfa,hb0,⟨b2,b3,b4,b5,b6,b7⟩,hD⟩ := hrel
   have HT := hid hT;clear hT
   have hzz := hb0.size
   by_cases hlt : k ≤ 5
   ·have hki : (k : Int) ≤ 5 := by omega
    obtain ⟨b,hbb⟩ : ∃ b,troubleA ⟨bid,bwi,bde,bce,bhi,bbe⟩ fs (k : Int) = b := ⟨_,rfl⟩
    have HB := hid hbb;clear hbb
    go_wp2_with fail
    refine (trouble_any HX.out hfa hok hn HB.out).mono ?_
    rintro e w2 ⟨rfl,hb⟩
    replace hfa := hfa.below hb
    replace hD := hD.below hb
    replace hb0 := bnext (w := w) hb0 hb
    replace b2 := bkeep hb b2
    replace b3 := bkeep hb b3
    replace b4 := bkeep hb b4
    replace b5 := bkeep hb b5
    replace b6 := bkeep hb b6
    replace b7 := bkeep hb b7
    clear hb
    cases b
    ·go_wp2_with fail
     go_roundw
     case rel => exact ⟨k + 1,by omega,by omega,by go_num,fun j h1 h2 => by (rcases Nat.lt_or_ge j k with h3 | h3);exact HT.out j h1 h3;rw [show j = k by omega];exact HB.out,hfa,hb0,⟨b2,b3,b4,b5,b6,b7⟩,hD⟩
     case measure => first | (simp [intOf];done) | (simp [intOf];omega)
    ·have hR : refuseF ⟨bid,bwi,bde,bce,bhi,bbe⟩ fs = ((k : Int),neededL ⟨bid,bwi,bde,bce,bhi,bbe⟩ fs (k : Int),0) := by unfold refuseF;rw [kind_some hk1 hlt HT.out HB.out]
     have HR := hid hR
     clear hR HT
     go_wp2_with fail
     refine (needed_any HX.out hfa hok hn).mono ?_
     rintro e w3 ⟨nv,rfl,hb,hnum,hown⟩
     have hown2 : ∀ b,nv.ownBlock = some b → b ≠ w.heap.size + 1 + 1 := fun b e => by have h1 := hown b e;have h2 := World.block_lt_of_cell? w2 _ (hD 0 _ rfl).1;dsimp only at h2;omega
     have HO := hid hown2;clear hown hown2
     replace hfa := hfa.below hb
     replace hD := hD.below hb
     replace hb0 := bnext (w := w) hb0 hb
     replace b2 := bkeep hb b2
     replace b3 := bkeep hb b3
     replace b4 := bkeep hb b4
     replace b5 := bkeep hb b5
     replace b6 := bkeep hb b6
     replace b7 := bkeep hb b7
     clear hb
     obtain ⟨na,nc,rfl,hn1,hn2⟩ := hnum.shape
     have d0 := (hD 0 _ rfl).1;have d1 := (hD 1 _ rfl).1;have g0 := (hD 0 _ rfl).2;have g1 := (hD 1 _ rfl).2
     obtain ⟨nl,hnl⟩ : ∃ nl,(neededL ⟨bid,bwi,bde,bce,bhi,bbe⟩ fs (k : Int)).length = nl := ⟨_,rfl⟩
     have HN := hid hnum;have HL := hid hnl;clear hnum
     rw [hnl]
     clear hnl hn1
     go_wp2_with fail
     refine bodyPost_ret (v := .tuple #[.agg #[.int .i64 (k : Int), .slice na nl nc], .int .i64 0]) (by simp [results,Tryz.results26,go_sem, *]) rfl ?_
     rw [HR.out]
     exact ⟨_,rfl,by go_grown,by rw [← HL.out];exact numsAt_set (numsAt_set HN.out HO.out) HO.out⟩
   ·obtain rfl : k = 6 := by omega
    have hR : refuseF ⟨bid,bwi,bde,bce,bhi,bbe⟩ fs = (0, [],3) := by unfold refuseF;rw [kind_none (fun j h1 h2 => HT.out j h1 h2)]
    have HR := hid hR
    clear hR HT
    have d0 := (hD 0 _ rfl).1;have d1 := (hD 1 _ rfl).1;have g0 := (hD 0 _ rfl).2;have g1 := (hD 1 _ rfl).2
    go_wp2_with fail
    refine bodyPost_ret (v := .tuple #[.agg #[.int .i64 0, .slice none 0 0], .int .i64 3]) (by simp [results,Tryz.results26,go_sem, *]) rfl ?_
    rw [HR.out]
    exact ⟨_,rfl,by go_grown, .inl ⟨rfl,rfl⟩⟩
 ·have hR : refuseA ss bs ⟨bid,bwi,bde,bce,bhi,bbe⟩ xs = (0, [],c) := by unfold refuseA;rw [if_neg (by rw [hc];exact hc0),hc]
  rw [hR]
  have hcn : (c != 0) = true := by simpa using hc0
  have HC := hid hc;clear hc hR
  go_enter Tryz.func26,Tryz.ntmps26
  go_wp2_with fail
  refine (Feet_any (h1.below (by go_grown)) (h2.below (by go_grown)) (hl.below (by go_grown))).mono ?_
  rintro e w1 ⟨fv,rfl,hb,ho⟩
  replace hb0 := bnext (w := w) (by go_grown) hb;have hz := hb.size;(try simp only [World.size_alloc,World.size_setCell] at hz);replace q0 : w1.cell? ⟨w.heap.size,0,none⟩ = some (vs) := bkeep hb (by first|with_reducible exact q0|with_reducible exact akeep q0|simp[*,go_sem]);replace q1 : w1.cell? ⟨w.heap.size,1,none⟩ = some (vb) := bkeep hb (by first|with_reducible exact q1|with_reducible exact akeep q1|simp[*,go_sem]);replace q2 : w1.cell? ⟨w.heap.size + 1,0,none⟩ = some (.int .i64 bid) := bkeep hb (by first|with_reducible exact q2|with_reducible exact akeep q2|simp[*,go_sem]);replace q3 : w1.cell? ⟨w.heap.size + 1,1,none⟩ = some (.int .i64 bwi) := bkeep hb (by first|with_reducible exact q3|with_reducible exact akeep q3|simp[*,go_sem]);replace q4 : w1.cell? ⟨w.heap.size + 1,2,none⟩ = some (.int .i64 bde) := bkeep hb (by first|with_reducible exact q4|with_reducible exact akeep q4|simp[*,go_sem]);replace q5 : w1.cell? ⟨w.heap.size + 1,3,none⟩ = some (.int .i64 bce) := bkeep hb (by first|with_reducible exact q5|with_reducible exact akeep q5|simp[*,go_sem]);replace q6 : w1.cell? ⟨w.heap.size + 1,4,none⟩ = some (.int .i64 bhi) := bkeep hb (by first|with_reducible exact q6|with_reducible exact akeep q6|simp[*,go_sem]);replace q7 : w1.cell? ⟨w.heap.size + 1,5,none⟩ = some (.int .i64 bbe) := bkeep hb (by first|with_reducible exact q7|with_reducible exact akeep q7|simp[*,go_sem]);replace f8 : w1.frozen? ⟨w.heap.size + 1 + 1,0,none⟩ = false := bfree (v := .int .i64 0) hb (by first|with_reducible exact q8|with_reducible exact akeep q8|simp[*,go_sem]) (by first|with_reducible exact f8|with_reducible exact afree q8 f8|simp[*,go_sem]);replace q8 : w1.cell? ⟨w.heap.size + 1 + 1,0,none⟩ = some (.int .i64 0) := bkeep hb (by first|with_reducible exact q8|with_reducible exact akeep q8|simp[*,go_sem]);replace f9 : w1.frozen? ⟨w.heap.size + 1 + 1,1,none⟩ = false := bfree (v := .slice none 0 0) hb (by first|with_reducible exact q9|with_reducible exact akeep q9|simp[*,go_sem]) (by first|with_reducible exact f9|with_reducible exact afree q9 f9|simp[*,go_sem]);replace q9 : w1.cell? ⟨w.heap.size + 1 + 1,1,none⟩ = some (.slice none 0 0) := bkeep hb (by first|with_reducible exact q9|with_reducible exact akeep q9|simp[*,go_sem]);skip
  clear hb
  rw [HC.out]
  go_wp2_with fail
  refine bodyPost_ret (v := .tuple #[.agg #[.int .i64 0, .slice none 0 0], .int .i64 c]) (by simp [results,Tryz.results26,go_sem, *]) rfl ?_
  exact ⟨_,rfl,by go_grown, .inl ⟨rfl,rfl⟩⟩
end Go.Proofs.YthdfnkdifjajlaaGreatDoor