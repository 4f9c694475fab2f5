/- Part of a claim. -/
import Derived.Test.YtodmidchpbcnpaaGreatKG53Y
import Derived.Test.YtodmidchpbcnpaaGreatG55Y
import Derived.Test.YtodmidchpbcnpaaGreatG51Y
import Derived.Test.YtodmidchpbcnpaaGreatG12Y
import Derived.Test.YtodmidchpbcnpaaGreatG5Y
import Derived.Deep.LoopGhost
set_option linter.unusedVariables false
set_option linter.unusedSimpArgs false
namespace Go.Proofs.YtodmidchpbcnpaaGreat
open Go.RowKit Go.Pb Go.Pb.Ware Go.Pb.Sag


theorem cover_step {s : Bx} {fs : List Ft} {qs : List Sq} {k u : Nat} {b : Bool} (h1 : k < fs.length) (h2 : k < qs.length) (h : (coverF s (fs.drop k) (qs.drop k) u).isSome = b) :
  (isStQ s fs[k] qs[k] && (decide (u &&& maskWQ s fs[k] qs[k] = 0) && (coverF s (fs.drop (k + 1)) (qs.drop (k + 1)) (u ||| maskWQ s fs[k] qs[k])).isSome)) = b := by
 rw [List.drop_eq_getElem_cons h1,List.drop_eq_getElem_cons h2,coverF] at h
 rw [← h]
 cases isStQ s fs[k] qs[k] with
 | false => rfl
 | true =>
  rw [if_pos rfl,Bool.true_and]
  by_cases h0 : u &&& maskWQ s fs[k] qs[k] = 0
  ·rw [decide_eq_true h0,if_neg (by rw [h0];decide),Bool.true_and]
  ·rw [decide_eq_false h0,if_pos (by simpa using h0)];rfl
theorem st_nat {s : Bx} {f : Ft} {q : Sq} (hF : FtOk f) (h : isStQ s f q = true) : ∃ p : St,q = toSq p ∧ p ∈ standsL s f ∧ maskWQ s f q = maskW s f p := by
 rw [isSt_any hF,any_toSq] at h
 obtain ⟨p,hp,rfl⟩ := h
 exact ⟨p,rfl,hp,rfl⟩
set_option maxRecDepth 100000 in
set_option maxHeartbeats 2000000 in
theorem rCovers {w : World} {lv pv : Value} {fs : List Ft} {qs : List Sq} {bid bwi bde bce bhi bbe : Int} (hX : boxOk ⟨bid,bwi,bde,bce,bhi,bbe⟩ = true) (hl : FeetAt w lv fs) (hok : ∀ f ∈ fs,FtOk f) (hp : StAt w pv qs) (hqn : qs.length = fs.length) {b : Bool} (hb : (coverF ⟨bid,bwi,bde,bce,bhi,bbe⟩ fs qs 0).isSome = b) :
  Calls Tryz.prog 136 #[.agg #[.int .i64 bid, .int .i64 bwi, .int .i64 bde, .int .i64 bce, .int .i64 bhi, .int .i64 bbe],lv,pv] w (fun e w' => ∃ z : Int,e = .returned (.tuple #[.int .i64 z, .bool b]) ∧ Below w.heap.size w w') := by
 obtain ⟨la,lc,rfl,hll⟩ := hl.shape
 obtain ⟨pa,pc,rfl,hpl,hpc⟩ := hp.shape
 rw [List.length_map] at hl hll ⊢
 have HX := hid hX;have HB := hid hb;have HQN := hid hqn;clear hX hb hqn
 go_enter Tryz.func136,Tryz.ntmps136
 go_upto_region 1 with fail
 generalize hW : World.alloc w _ = v1
 have q0 : v1.cell? ⟨w.heap.size,0,none⟩ = some (.int .i64 bid) := by rw [← hW];simp [go_sem]
 have q1 : v1.cell? ⟨w.heap.size,1,none⟩ = some (.int .i64 bwi) := by rw [← hW];simp [go_sem]
 have q2 : v1.cell? ⟨w.heap.size,2,none⟩ = some (.int .i64 bde) := by rw [← hW];simp [go_sem]
 have q3 : v1.cell? ⟨w.heap.size,3,none⟩ = some (.int .i64 bce) := by rw [← hW];simp [go_sem]
 have q4 : v1.cell? ⟨w.heap.size,4,none⟩ = some (.int .i64 bhi) := by rw [← hW];simp [go_sem]
 have q5 : v1.cell? ⟨w.heap.size,5,none⟩ = some (.int .i64 bbe) := by rw [← hW];simp [go_sem]
 have hbv : Below w.heap.size w v1 := by rw [← hW];exact (Below.refl _ _).alloc (Nat.le_refl _) _
 have hz1 : w.heap.size < v1.heap.size := by rw [← hW];simp
 clear hW
 replace hl := hl.below hbv;replace hp := hp.below hbv
 have HL := hid hl;have HP0 := hid hp;clear hl hp
 go_wp2_with fail
 go_loopg [8,9,10,11,14] fs.length (fun gk uv _ _ _ iv wr => ∃ k u : Nat,k ≤ fs.length ∧ gk = fs.length - k ∧ iv = .int .i64 k ∧ uv = .int .i64 (u : Nat) ∧ u < 2 ^ 36 ∧ Hid ((coverF ⟨bid,bwi,bde,bce,bhi,bbe⟩ (fs.drop k) (qs.drop k) u).isSome = b) ∧ Below v1.heap.size v1 wr)
 case atStart => exact ⟨0,0,Nat.zero_le _,rfl,rfl,rfl,by decide,HB,Below.refl _ _⟩
 case round =>
  obtain ⟨k,u,hk,hgk,rfl,rfl,hu,HP,hb0⟩ := hrel
  have HGK := hid hgk;clear hgk
  have hzr := hb0.size
  have hbw : Below w.heap.size w wr := hbv.trans (hb0.mono (by omega))
  by_cases hlt : k < fs.length
  ·obtain ⟨a',ha,hrl,hc0,hcc⟩ := (show RowsAt 4 wr (.slice la (fs.map rowF).length lc) (fs.map rowF) by rw [List.length_map];exact HL.out.below hb0).row (k := k) (by rw [List.length_map];exact hlt)
   subst ha
   obtain ⟨f,hf⟩ : ∃ f,f = fs[k] := ⟨_,rfl⟩
   have hfo := hok f (by rw [hf];exact List.getElem_mem hlt)
   have hkq : k < qs.length := by rw [HQN.out];exact hlt
   have hst := cover_step hlt hkq HP.out
   rw [← hf] at hst
   obtain ⟨fw,fd,fh,fg⟩ := f
   have hat : (fs.map rowF)[k]'(by rw [List.length_map];exact hlt) = [fw,fd,fh,fg] := by rw [List.getElem_map, ← hf];rfl
   rw [hat] at hc0 hcc
   have r0 := hc0 _ rfl
   have r1 := hcc 1 _ (by decide) rfl
   have r2 := hcc 2 _ (by decide) rfl
   have r3 := hcc 3 _ (by decide) rfl
   clear hc0 hcc hat hrl hf
   obtain ⟨a2,ha2,s0,s1,s2⟩ := (HP0.out.below hb0).row hkq
   subst ha2
   obtain ⟨sq,hsq⟩ : ∃ q,q = qs[k] := ⟨_,rfl⟩
   rw [← hsq] at hst s0 s1 s2
   obtain ⟨py,px,pt⟩ := sq
   dsimp only at s0 s1 s2
   have hkqi : (k : Int) < (qs.length : Int) := by omega
   have hkfi : (k : Int) < (fs.length : Int) := by omega
   have HST := hid hst;have HFO := hid hfo;clear hst hsq HP hfo
   replace q0 := bkeep hb0 q0
   replace q1 := bkeep hb0 q1
   replace q2 := bkeep hb0 q2
   replace q3 := bkeep hb0 q3
   replace q4 := bkeep hb0 q4
   replace q5 := bkeep hb0 q5
   go_upto_region 5 with fail
   generalize hW : World.alloc wr _ = v5
   have c0 : v5.cell? ⟨wr.heap.size,0,none⟩ = some (.int .i64 fw) := by rw [← hW];simp [go_sem]
   have c1 : v5.cell? ⟨wr.heap.size,1,none⟩ = some (.int .i64 fd) := by rw [← hW];simp [go_sem]
   have c2 : v5.cell? ⟨wr.heap.size,2,none⟩ = some (.int .i64 fh) := by rw [← hW];simp [go_sem]
   have c3 : v5.cell? ⟨wr.heap.size,3,none⟩ = some (.int .i64 fg) := by rw [← hW];simp [go_sem]
   have hb : Below wr.heap.size wr v5 := by rw [← hW];exact (Below.refl _ _).alloc (Nat.le_refl _) _
   replace q0 := bkeep hb q0
   replace q1 := bkeep hb q1
   replace q2 := bkeep hb q2
   replace q3 := bkeep hb q3
   replace q4 := bkeep hb q4
   replace q5 := bkeep hb q5
   replace s0 := bkeep hb s0
   replace s1 := bkeep hb s1
   replace s2 := bkeep hb s2
   replace hb0 := hb0.trans (hb.mono hzr)
   replace hbw := bnext (w := w) hbw hb
   clear hb hW r0 r1 r2 r3
   obtain ⟨is,his⟩ : ∃ is,isStQ ⟨bid,bwi,bde,bce,bhi,bbe⟩ ⟨fw,fd,fh,fg⟩ ⟨py,px,pt⟩ = is := ⟨_,rfl⟩
   have HIS := hid his;clear his
   have hzv := hb0.size
   have hlt5 : wr.heap.size < v5.heap.size := World.block_lt_of_cell? v5 _ c0
   have xq0 := fun x : BW v5 => bkeep x.below q0
   have xq1 := fun x : BW v5 => bkeep x.below q1
   have xq2 := fun x : BW v5 => bkeep x.below q2
   have xq3 := fun x : BW v5 => bkeep x.below q3
   have xq4 := fun x : BW v5 => bkeep x.below q4
   have xq5 := fun x : BW v5 => bkeep x.below q5
   have xc0 := fun x : BW v5 => bkeep x.below c0
   have xc1 := fun x : BW v5 => bkeep x.below c1
   have xc2 := fun x : BW v5 => bkeep x.below c2
   have xc3 := fun x : BW v5 => bkeep x.below c3
   have xs0 := fun x : BW v5 => bkeep x.below s0
   have xs1 := fun x : BW v5 => bkeep x.below s1
   have xs2 := fun x : BW v5 => bkeep x.below s2
   refine wp_region_qb (by kernel_rfl) (by kernel_rfl) fun hc => ?_
   repeat (go_big_quiet_step ((go_at_call 115;exact BW.call _ (rIsStand_eq HX.out HFO.out HIS.out))))
   refine wpQuiet_nil ?_
   intro w9 hb
   have hz9 := hb.size
   replace hb0 := hb0.trans (hb.mono (by omega))
   replace hbw := bnext (w := w) hbw hb
   replace q0 := bkeep hb q0
   replace q1 := bkeep hb q1
   replace q2 := bkeep hb q2
   replace q3 := bkeep hb q3
   replace q4 := bkeep hb q4
   replace q5 := bkeep hb q5
   replace c0 := bkeep hb c0
   replace c1 := bkeep hb c1
   replace c2 := bkeep hb c2
   replace c3 := bkeep hb c3
   replace s0 := bkeep hb s0
   replace s1 := bkeep hb s1
   replace s2 := bkeep hb s2
   clear hb hc xq0 xq1 xq2 xq3 xq4 xq5 xc0 xc1 xc2 xc3 xs0 xs1 xs2
   cases is
   ·have hbf : b = false := by rw [← HST.out,HIS.out];rfl
    subst hbf
    clear HST HIS
    go_wp2_with fail
    go_ret2
    exact ⟨_,rfl,hbw⟩
   ·obtain ⟨p,hpq,hpm,hmk⟩ := st_nat HFO.out HIS.out
    obtain ⟨y,x,t⟩ := p
    injection hpq with e1 e2 e3
    subst e1;subst e2;subst e3
    dsimp only at *
    obtain ⟨mk,hm⟩ : ∃ m,maskW ⟨bid,bwi,bde,bce,bhi,bbe⟩ ⟨fw,fd,fh,fg⟩ ⟨y,x,pt⟩ = m := ⟨_,rfl⟩
    have hst2 := HST.out
    have hml := (maskWQ_rel HX.out HFO.out HIS.out).2
    rw [HIS.out,hmk,hm,Bool.true_and] at hst2
    rw [hmk,hm] at hml
    have HST2 := hid hst2;have HMEM := hid hpm;have HMK := hid hm;clear hst2 hpm hm hmk HST HIS
    go_upto_region 7 with fail
    obtain ⟨v6,hv6⟩ : ∃ v,v = w9 := ⟨_,rfl⟩
    subst hv6
    have xq0 := fun x : BW v6 => bkeep x.below q0
    have xq1 := fun x : BW v6 => bkeep x.below q1
    have xq2 := fun x : BW v6 => bkeep x.below q2
    have xq3 := fun x : BW v6 => bkeep x.below q3
    have xq4 := fun x : BW v6 => bkeep x.below q4
    have xq5 := fun x : BW v6 => bkeep x.below q5
    have xc0 := fun x : BW v6 => bkeep x.below c0
    have xc1 := fun x : BW v6 => bkeep x.below c1
    have xc2 := fun x : BW v6 => bkeep x.below c2
    have xc3 := fun x : BW v6 => bkeep x.below c3
    have xs0 := fun x : BW v6 => bkeep x.below s0
    have xs1 := fun x : BW v6 => bkeep x.below s1
    have xs2 := fun x : BW v6 => bkeep x.below s2
    refine wp_region_qb (by kernel_rfl) (by kernel_rfl) fun hc => ?_
    repeat (go_big_quiet_step ((go_at_call 80;exact BW.call _ (rCells_eq HX.out HFO.out HMEM.out HMK.out))))
    refine wpQuiet_nil ?_
    intro w9 hb
    have hz9 := hb.size
    replace hb0 := hb0.trans (hb.mono (by omega))
    replace hbw := bnext (w := w) hbw hb
    replace q0 := bkeep hb q0
    replace q1 := bkeep hb q1
    replace q2 := bkeep hb q2
    replace q3 := bkeep hb q3
    replace q4 := bkeep hb q4
    replace q5 := bkeep hb q5
    replace c0 := bkeep hb c0
    replace c1 := bkeep hb c1
    replace c2 := bkeep hb c2
    replace c3 := bkeep hb c3
    replace s0 := bkeep hb s0
    replace s1 := bkeep hb s1
    replace s2 := bkeep hb s2
    clear hb hc xq0 xq1 xq2 xq3 xq4 xq5 xc0 xc1 xc2 xc3 xs0 xs1 xs2
    have hand := i64_and_nat u mk (by omega) (by omega)
    have hor := i64_or_nat u mk (by omega) (by omega)
    by_cases h0 : u &&& mk = 0
    ·have hz : ((u &&& mk : Nat) : Int) = 0 := by simp [h0]
     have ha2 : bits .and .i64 (u : Int) (mk : Int) = 0 := hand.trans hz
     have HP2 := hid (show (coverF ⟨bid,bwi,bde,bce,bhi,bbe⟩ (fs.drop (k + 1)) (qs.drop (k + 1)) (u ||| mk)).isSome = b from by have h := HST2.out;rwa [decide_eq_true h0,Bool.true_and] at h)
     have hlt3 := Nat.or_lt_two_pow hu hml
     clear hz h0 hand HST2
     go_wp2_with fail
     go_roundg (fs.length - (k + 1))
     case measure => have h := HGK.out;omega
     case rel => exact ⟨k + 1,_,by omega,rfl,by go_num,rfl,hlt3,HP2,hb0⟩
    ·have hbf : b = false := by rw [← HST2.out,decide_eq_false h0];rfl
     subst hbf
     have hz : ¬ ((u &&& mk : Nat) : Int) = 0 := by omega
     obtain ⟨ga2,hga2⟩ : ∃ z : Int,bits .and .i64 (u : Int) (mk : Int) = z := ⟨_,rfl⟩
     have hz2 : ¬ ga2 = 0 := by rw [← hga2,hand];exact hz
     have hz3 : (ga2 == 0) = false := beq_eq_false_iff_ne.mpr hz2
     clear hand hor hz h0 HST2
     go_wp2_with fail
     go_ret2
     exact ⟨_,rfl,hbw⟩
  ·obtain rfl : k = fs.length := by omega
   have hbt : b = true := by have h := HP.out;rw [List.drop_length,List.drop_of_length_le (by rw [HQN.out];omega),coverF] at h;exact h.symm
   subst hbt
   go_wp2_with fail
   go_ret2
   exact ⟨_,rfl,hbw⟩
set_option maxRecDepth 100000 in
set_option maxHeartbeats 2000000 in
theorem rIsPack {w : World} {lv pv : Value} {fs : List Ft} {qs : List Sq} {bid bwi bde bce bhi bbe : Int} (hX : boxOk ⟨bid,bwi,bde,bce,bhi,bbe⟩ = true) (hl : FeetAt w lv fs) (hok : ∀ f ∈ fs,FtOk f) (hn : fs.length ≤ 1000) (hp : StAt w pv qs) {b : Bool} (hb : packB ⟨bid,bwi,bde,bce,bhi,bbe⟩ fs qs = b) :
  Calls Tryz.prog 85 #[.agg #[.int .i64 bid, .int .i64 bwi, .int .i64 bde, .int .i64 bce, .int .i64 bhi, .int .i64 bbe],lv,pv] w (Ret w (.bool b)) := by
 unfold Ret
 obtain ⟨la,lc,rfl,hll⟩ := hl.shape
 obtain ⟨pa,pc,rfl,hpl,hpc⟩ := hp.shape
 rw [List.length_map] at hl hll ⊢
 rw [pack_cover hX hok] at hb
 have HX := hid hX;clear hX
 by_cases hqn : qs.length = fs.length
 ·rw [decide_eq_true hqn,Bool.true_and] at hb
  have HQN := hid hqn
  have hp2 := hp
  rw [hqn] at hp hpl ⊢
  have HP := hid hp;clear hp hp2
  clear hqn
  obtain ⟨lo,hlo⟩ : ∃ z,lowB ⟨bid,bwi,bde,bce,bhi,bbe⟩ fs = z := ⟨_,rfl⟩
  rw [hlo] at hb
  have HLO := hid hlo;clear hlo
  obtain ⟨co,hco⟩ : ∃ z,(coverF ⟨bid,bwi,bde,bce,bhi,bbe⟩ fs qs 0).isSome = z := ⟨_,rfl⟩
  rw [hco] at hb
  have HCO := hid hco;clear hco
  have HBB := hid hb;clear hb
  go_enter Tryz.func85,Tryz.ntmps85
  go_wp2_with fail
  refine (rLow (hl.below (by go_grown)) hok hn HLO.out).mono ?_
  rintro e w1 ⟨rfl,hb⟩
  replace hb0 := bnext (w := w) (by go_grown) hb;have hz := hb.size;(try simp only [World.size_alloc,World.size_setCell] at hz);replace q0 : w1.cell? ⟨w.heap.size,0,none⟩ = some (.int .i64 bid) := bkeep hb (by first|with_reducible exact q0|with_reducible exact akeep q0|simp[*,go_sem]);replace q1 : w1.cell? ⟨w.heap.size,1,none⟩ = some (.int .i64 bwi) := bkeep hb (by first|with_reducible exact q1|with_reducible exact akeep q1|simp[*,go_sem]);replace q2 : w1.cell? ⟨w.heap.size,2,none⟩ = some (.int .i64 bde) := bkeep hb (by first|with_reducible exact q2|with_reducible exact akeep q2|simp[*,go_sem]);replace q3 : w1.cell? ⟨w.heap.size,3,none⟩ = some (.int .i64 bce) := bkeep hb (by first|with_reducible exact q3|with_reducible exact akeep q3|simp[*,go_sem]);replace q4 : w1.cell? ⟨w.heap.size,4,none⟩ = some (.int .i64 bhi) := bkeep hb (by first|with_reducible exact q4|with_reducible exact akeep q4|simp[*,go_sem]);replace q5 : w1.cell? ⟨w.heap.size,5,none⟩ = some (.int .i64 bbe) := bkeep hb (by first|with_reducible exact q5|with_reducible exact akeep q5|simp[*,go_sem]);clear hb
  cases lo
  ·have hbf : b = false := HBB.out.symm
   subst hbf
   go_wp2_with fail
   go_ret
   exact ⟨rfl,hb0⟩
  ·have hbf : b = co := HBB.out.symm
   subst hbf
   go_wp2_with fail
   refine (rCovers HX.out (hl.below hb0) hok (HP.out.below hb0) HQN.out HCO.out).mono ?_
   rintro e w2 ⟨z,rfl,hb⟩
   replace hb0 := bnext (w := w) hb0 hb
   go_wp2_with fail
   go_ret
   exact ⟨rfl,hb0⟩
 ·rw [decide_eq_false hqn,Bool.false_and] at hb
  subst hb
  have hne : ¬ (fs.length : Int) = (qs.length : Int) := by omega
  clear hqn
  go_enter Tryz.func85,Tryz.ntmps85
  go_wp2_with fail
  go_ret
  exact ⟨rfl,by go_grown⟩
set_option maxRecDepth 100000 in
set_option maxHeartbeats 2000000 in
theorem rCheckPack {w : World} {vs vb : Value} {ss bs : List (List Int)} (h1 : RowsAt 11 w vs ss) (h2 : RowsAt 7 w vb bs) {lv pv : Value} {xs : List It} {qs : List Sq} {bid bwi bde bce bhi bbe : Int} (hl : RowsAt 3 w lv (xs.map rowX)) (hp : StAt w pv qs) {c : Int} (hx : ckK ss bs ⟨bid,bwi,bde,bce,bhi,bbe⟩ xs qs = c) :
  Calls Tryz.prog 42 #[.agg #[vs,vb], .agg #[.int .i64 bid, .int .i64 bwi, .int .i64 bde, .int .i64 bce, .int .i64 bhi, .int .i64 bbe],lv,pv] w (Ret w (.int .i64 c)) := by
 unfold Ret
 subst hx
 obtain ⟨c,hc⟩ : ∃ c,ckL ss bs ⟨bid,bwi,bde,bce,bhi,bbe⟩ xs = c := ⟨_,rfl⟩
 obtain ⟨la,lc,rfl,hll⟩ := hl.shape
 rw [List.length_map] at hl hll ⊢
 obtain ⟨pa,pc,rfl,hpl,hpc⟩ := hp.shape
 by_cases hc0 : c = 0
 ·subst hc0
  obtain ⟨hw,hX,hx5,hall⟩ := ckL_0 hc
  obtain ⟨b,hb⟩ : ∃ b,packB ⟨bid,bwi,bde,bce,bhi,bbe⟩ (feetV ss bs ⟨bid,bwi,bde,bce,bhi,bbe⟩ xs) qs = b := ⟨_,rfl⟩
  rw [(ckK_in hc hb).1]
  have hfv : xs.map (footR ss bce) = (feetV ss bs ⟨bid,bwi,bde,bce,bhi,bbe⟩ xs) := (feetV_0 hc).symm
  have HC := hid hc;have HB := hid hb;have HX := hid hX;have HW := hid hw;have HALL := hid (show xs.all (itemB ss) = true from List.all_eq_true.2 hall);have HFV := hid hfv;clear hc hb hX hw hall hfv
  go_enter Tryz.func42,Tryz.ntmps42
  go_wp2_with fail
  refine (rHead (h1.below (by go_grown)) (h2.below (by go_grown)) (hl.below (by go_grown)) HC.out).mono ?_
  rintro e w1 ⟨rfl,hb⟩
  replace hb0 := bnext (w := w) (by go_grown) hb;have hz := hb.size;(try simp only [World.size_alloc,World.size_setCell] at hz);replace q0 : w1.cell? ⟨w.heap.size,0,none⟩ = some (vs) := bkeep hb (by first|with_reducible exact q0|with_reducible exact akeep q0|simp[*,go_sem]);replace q1 : w1.cell? ⟨w.heap.size,1,none⟩ = some (vb) := bkeep hb (by first|with_reducible exact q1|with_reducible exact akeep q1|simp[*,go_sem]);replace q2 : w1.cell? ⟨w.heap.size + 1,0,none⟩ = some (.int .i64 bid) := bkeep hb (by first|with_reducible exact q2|with_reducible exact akeep q2|simp[*,go_sem]);replace q3 : w1.cell? ⟨w.heap.size + 1,1,none⟩ = some (.int .i64 bwi) := bkeep hb (by first|with_reducible exact q3|with_reducible exact akeep q3|simp[*,go_sem]);replace q4 : w1.cell? ⟨w.heap.size + 1,2,none⟩ = some (.int .i64 bde) := bkeep hb (by first|with_reducible exact q4|with_reducible exact akeep q4|simp[*,go_sem]);replace q5 : w1.cell? ⟨w.heap.size + 1,3,none⟩ = some (.int .i64 bce) := bkeep hb (by first|with_reducible exact q5|with_reducible exact akeep q5|simp[*,go_sem]);replace q6 : w1.cell? ⟨w.heap.size + 1,4,none⟩ = some (.int .i64 bhi) := bkeep hb (by first|with_reducible exact q6|with_reducible exact akeep q6|simp[*,go_sem]);replace q7 : w1.cell? ⟨w.heap.size + 1,5,none⟩ = some (.int .i64 bbe) := bkeep hb (by first|with_reducible exact q7|with_reducible exact akeep q7|simp[*,go_sem]);clear hb
  replace hl := hl.below hb0;replace hp := hp.below hb0;replace h1 := h1.below hb0;replace h2 := h2.below hb0
  have HL := hid hl;have HP := hid hp;have H1 := hid h1;have H2 := hid h2;clear hl hp h1 h2
  obtain ⟨v6,hv6⟩ : ∃ v,v = w1 := ⟨_,rfl⟩
  subst hv6
  go_upto_region 4 with fail
  refine wp_region_Rs [(4,fun v W => W.ownsRow v6.heap.size 34 4 v (feetV ss bs ⟨bid,bwi,bde,bce,bhi,bbe⟩ xs).length ((feetV ss bs ⟨bid,bwi,bde,bce,bhi,bbe⟩ xs).flatMap cellsF)),(6,fun v _ => v = .bool b)] [0,1,2,3,4,5,6,7] 0 (by kernel_rfl) rfl (by simp only [List.forall_mem_cons];exact ⟨keeps_owns,keeps_eq,fun _ h => by cases h⟩) (by kernel_rfl) ?_
  simp only [numbered,List.filterMap_cons,List.filterMap_nil,List.getElem?_toArray,List.getElem?_cons_succ,List.getElem?_cons_zero,Option.map_some]
  show wpS _ _ _ _ _ _ _ [(_,_),(_,_),(_,_),(_,_),(_,_),(_,_),(_,_),(_,_)] _ _
  (refine wpS_quiet rfl rfl ?_;intro K hK inst hx;go_big_quiet_op;go_big_quiet_on;clear hx inst)
  (refine wpS_quiet rfl rfl ?_;intro K hK inst hx;go_big_quiet_op;go_big_quiet_on;clear hx inst)
  (refine wpS_quiet rfl rfl ?_;intro K hK inst hx;go_big_quiet_op;go_big_quiet_on;clear hx inst)
  (refine wpS_quiet rfl rfl ?_;intro K hK inst hx;go_big_quiet_op;go_big_quiet_on;clear hx inst)
  refine wpS_fresh rfl rfl (fun w' hb hF => ?_) ?_
  ·change freshAt _ _ _ (fun v W => W.ownsRow v6.heap.size 34 4 v (feetV ss bs ⟨bid,bwi,bde,bce,bhi,bbe⟩ xs).length ((feetV ss bs ⟨bid,bwi,bde,bce,bhi,bbe⟩ xs).flatMap cellsF)) _;unfold freshAt;go_simp;refine (rfeet_any (H1.out.below hb) (H2.out.below hb) (HL.out.below hb) (by omega) HW.out HX.out HALL.out).mono ?_;rintro e w9 ⟨v,rfl,hb9,ho⟩;rw [HFV.out] at ho;exact ⟨_,rfl,hb9,owns_base hb.size ho⟩
  intro v W hv;simp only [pOf,List.lookup_cons,Nat.reduceBEq,beq_self_eq_true] at hv;have hv0 := hv;obtain ⟨fa,fc,rfl, -⟩ := owns_shape hv
  simp only [Act.put,List.setIfInBounds_toArray,List.set_cons_succ,List.set_cons_zero]
  (refine wpS_quiet rfl rfl ?_;intro K hK inst hx;go_big_quiet_op;go_big_quiet_on;clear hx inst)
  refine wpS_fresh rfl rfl (fun w' hb hF => ?_) ?_
  ·change freshAt _ _ _ (fun v _ => v = .bool b) _;have h4 : w'.ownsRow v6.heap.size 34 4 _ (feetV ss bs ⟨bid,bwi,bde,bce,bhi,bbe⟩ xs).length ((feetV ss bs ⟨bid,bwi,bde,bce,bhi,bbe⟩ xs).flatMap cellsF) := hF 4 _ rfl (by kernel_rfl);have h9 := feetAt_of_owns feet_ok h4;unfold freshAt;go_simp;exact rIsPack HX.out h9 feet_ok (Nat.le_trans feet_len (by decide)) (HP.out.below hb) HB.out
  intro v W hv;simp only [pOf,List.lookup_cons,Nat.reduceBEq,beq_self_eq_true] at hv;subst hv
  simp only [Act.put,List.setIfInBounds_toArray,List.set_cons_succ,List.set_cons_zero]
  (refine wpS_quiet rfl rfl ?_;intro K hK inst hx;go_big_quiet_op;go_big_quiet_on;clear hx inst)
  refine wpS_nil ?_
  intro w2 hall
  have hb := hall.1
  clear hall
  replace hb0 := bnext (w := w) hb0 hb
  refine wpAny_done (by kernel_rfl) ?_ _
  cases b
  ·go_wp2_with fail
   go_ret
   exact ⟨rfl,hb0⟩
  ·go_wp2_with fail
   go_ret
   exact ⟨rfl,hb0⟩
 ·rw [(ckK_bad (qs := qs) (show ckL ss bs ⟨bid,bwi,bde,bce,bhi,bbe⟩ xs ≠ 0 by rw [hc];exact hc0)).1,hc]
  have hcn : (c != 0) = true := by simpa using hc0
  have HC := hid hc;clear hc
  go_enter Tryz.func42,Tryz.ntmps42
  go_wp2_with fail
  refine (rHead (h1.below (by go_grown)) (h2.below (by go_grown)) (hl.below (by go_grown)) HC.out).mono ?_
  rintro e w1 ⟨rfl,hb⟩
  replace hb0 := bnext (w := w) (by go_grown) hb;have hz := hb.size;(try simp only [World.size_alloc,World.size_setCell] at hz);replace q0 : w1.cell? ⟨w.heap.size,0,none⟩ = some (vs) := bkeep hb (by first|with_reducible exact q0|with_reducible exact akeep q0|simp[*,go_sem]);replace q1 : w1.cell? ⟨w.heap.size,1,none⟩ = some (vb) := bkeep hb (by first|with_reducible exact q1|with_reducible exact akeep q1|simp[*,go_sem]);replace q2 : w1.cell? ⟨w.heap.size + 1,0,none⟩ = some (.int .i64 bid) := bkeep hb (by first|with_reducible exact q2|with_reducible exact akeep q2|simp[*,go_sem]);replace q3 : w1.cell? ⟨w.heap.size + 1,1,none⟩ = some (.int .i64 bwi) := bkeep hb (by first|with_reducible exact q3|with_reducible exact akeep q3|simp[*,go_sem]);replace q4 : w1.cell? ⟨w.heap.size + 1,2,none⟩ = some (.int .i64 bde) := bkeep hb (by first|with_reducible exact q4|with_reducible exact akeep q4|simp[*,go_sem]);replace q5 : w1.cell? ⟨w.heap.size + 1,3,none⟩ = some (.int .i64 bce) := bkeep hb (by first|with_reducible exact q5|with_reducible exact akeep q5|simp[*,go_sem]);replace q6 : w1.cell? ⟨w.heap.size + 1,4,none⟩ = some (.int .i64 bhi) := bkeep hb (by first|with_reducible exact q6|with_reducible exact akeep q6|simp[*,go_sem]);replace q7 : w1.cell? ⟨w.heap.size + 1,5,none⟩ = some (.int .i64 bbe) := bkeep hb (by first|with_reducible exact q7|with_reducible exact akeep q7|simp[*,go_sem]);clear hb
  go_wp2_with fail
  go_ret
  exact ⟨rfl,hb0⟩
end Go.Proofs.YtodmidchpbcnpaaGreat