/- Part of a claim. -/
import Derived.Test.YtodmidchpbcnpaaGreatG52Y
import Derived.Test.YtodmidchpbcnpaaGreatKSkY
import Derived.Deep.LoopGhost
set_option linter.unusedVariables false
set_option linter.unusedSimpArgs false
namespace Go.Proofs.YtodmidchpbcnpaaGreat
open Go.RowKit Go.Pb Go.Pb.Ware Go.Pb.Sag


theorem i64_or_nat (a b : Nat) (ha : a < 2 ^ 62) (hb : b < 2 ^ 62) : bits .or .i64 (a : Int) (b : Int) = ((a ||| b : Nat) : Int) := by
 have hx : a ||| b < 2 ^ 62 := Nat.or_lt_two_pow ha hb
 show IntKind.i64.wrap ((BitVec.ofInt 64 (a : Int) ||| BitVec.ofInt 64 (b : Int)).toNat : Int) = _
 rw [BitVec.toNat_or,ofInt_u64 a (by omega),ofInt_u64 b (by omega),IntKind.wrap_i64]
 omega
theorem i64_and_nat (a b : Nat) (ha : a < 2 ^ 62) (hb : b < 2 ^ 62) : bits .and .i64 (a : Int) (b : Int) = ((a &&& b : Nat) : Int) := by
 have hx : a &&& b < 2 ^ 62 := Nat.and_lt_two_pow _ hb
 show IntKind.i64.wrap ((BitVec.ofInt 64 (a : Int) &&& BitVec.ofInt 64 (b : Int)).toNat : Int) = _
 rw [BitVec.toNat_and,ofInt_u64 a (by omega),ofInt_u64 b (by omega),IntKind.wrap_i64]
 omega
theorem or_bitW {c W y x : Nat} (hc : c < 2 ^ 36) (hW : W ≤ 6) (hy : y ≤ 5) (hx : x < W) : bits .or .i64 (c : Int) (IntKind.i64.wrap (2 ^ (y * W + x))) = ((c ||| bitW W y x : Nat) : Int) := by
 have h3 := bitW_lt hW hy hx
 have e3 : IntKind.i64.wrap (2 ^ (y * W + x)) = ((bitW W y x : Nat) : Int) := by
  have h4 : (2 ^ (y * W + x) : Int) = ((bitW W y x : Nat) : Int) := by unfold bitW;simp
  rw [h4,IntKind.wrap_i64]
  omega
 rw [e3,i64_or_nat c (bitW W y x) (by omega) (by omega)]
set_option maxRecDepth 100000 in
set_option maxHeartbeats 2000000 in
theorem rArea {w : World} {lv : Value} {fs : List Ft} (hl : FeetAt w lv fs) (hok : ∀ f ∈ fs,FtOk f) (hn : fs.length ≤ 1000) :
  Calls Tryz.prog 82 #[lv] w (Ret w (.int .i64 (areaL fs))) := by
 unfold Ret
 obtain ⟨la,lc,rfl,hll⟩ := hl.shape
 rw [List.length_map] at hl hll ⊢
 go_enter Tryz.func82,Tryz.ntmps82
 go_wp2_with fail
 go_loopg [3,5,8] fs.length (fun gk nv _ iv wr => ∃ k : Nat,k ≤ fs.length ∧ gk = fs.length - k ∧ iv = .int .i64 k ∧ nv = .int .i64 (areaL (fs.take k)) ∧ Below w.heap.size w wr)
 case atStart => exact ⟨0,Nat.zero_le _,rfl,rfl,by simp [areaL],Below.refl _ _⟩
 case round =>
  obtain ⟨k,hk,hgk,rfl,rfl,hb0⟩ := hrel
  have HGK := hid hgk;clear hgk
  have hzz := hb0.size
  by_cases hlt : k < fs.length
  ·have hkl : (k : Int) < (fs.length : Int) := by omega
   obtain ⟨a',ha,hrl,hc0,hcc⟩ := (show RowsAt 4 wr (.slice la (fs.map rowF).length lc) (fs.map rowF) by rw [List.length_map];exact hl.below hb0).row (k := k) (by rw [List.length_map];exact hlt)
   subst ha
   obtain ⟨f,hf⟩ : ∃ f,f = fs[k] := ⟨_,rfl⟩
   have hat : (fs.map rowF)[k]'(by rw [List.length_map];exact hlt) = [f.wide,f.deep,f.high,f.weight] := by rw [List.getElem_map, ← hf];rfl
   rw [hat] at hc0 hcc
   have r0 := hc0 _ rfl
   have r1 := hcc 1 _ (by decide) rfl
   have r2 := hcc 2 _ (by decide) rfl
   have r3 := hcc 3 _ (by decide) rfl
   clear hc0 hcc hat hrl
   have hfo := hok f (by rw [hf];exact List.getElem_mem hlt)
   unfold FtOk at hfo
   have hbd := areaL_bd hok k
   have hsu : areaL (fs.take (k + 1)) = areaL (fs.take k) + f.wide * f.deep := by rw [hf];exact areaL_snoc hlt
   have hbd2 := areaL_bd hok (k + 1)
   rw [hsu] at hbd2
   have HSU := hid hsu;clear hsu
   clear hf
   obtain ⟨fw,fd,fh,fg⟩ := f
   dsimp only at *
   obtain ⟨n0,hn0⟩ : ∃ n,areaL (fs.take k) = n := ⟨_,rfl⟩
   rw [hn0] at hbd hbd2 ⊢
   have HN0 := hid hn0;clear hn0
   have hmm := mul_bd fw fd 2100 2100 (by omega) (by omega) (by omega) (by omega)
   go_upto_region 5 with fail
   generalize hW : World.alloc wr _ = v5
   have c0 : v5.cell? ⟨wr.heap.size,0,none⟩ = some (.int .i64 fw) := by rw [← hW];simp [go_sem]
   have c1 : v5.cell? ⟨wr.heap.size,1,none⟩ = some (.int .i64 fd) := by rw [← hW];simp [go_sem]
   have c2 : v5.cell? ⟨wr.heap.size,2,none⟩ = some (.int .i64 fh) := by rw [← hW];simp [go_sem]
   have c3 : v5.cell? ⟨wr.heap.size,3,none⟩ = some (.int .i64 fg) := by rw [← hW];simp [go_sem]
   have hb : Below wr.heap.size wr v5 := by rw [← hW];exact (Below.refl _ _).alloc (Nat.le_refl _) _
   replace hb0 := bnext (w := w) hb0 hb
   clear hb hW r0 r1 r2 r3
   go_wp2_with fail
   go_roundg (fs.length - (k + 1))
   case measure => have h := HGK.out;omega
   case rel => exact ⟨k + 1,by omega,rfl,by go_num,(by rw [HSU.out,HN0.out];try go_num),hb0⟩
  ·obtain rfl : k = fs.length := by omega
   rw [List.take_length] at *
   go_wp2_with fail
   go_ret
   exact ⟨rfl,hb0⟩
set_option maxRecDepth 100000 in
set_option maxHeartbeats 2000000 in
theorem rWeight {w : World} {lv : Value} {fs : List Ft} (hl : FeetAt w lv fs) (hok : ∀ f ∈ fs,FtOk f) (hn : fs.length ≤ 1000) :
  Calls Tryz.prog 143 #[lv] w (Ret w (.int .i64 (weightL fs))) := by
 unfold Ret
 obtain ⟨la,lc,rfl,hll⟩ := hl.shape
 rw [List.length_map] at hl hll ⊢
 go_enter Tryz.func143,Tryz.ntmps143
 go_wp2_with fail
 go_loopg [3,5,8] fs.length (fun gk nv _ iv wr => ∃ k : Nat,k ≤ fs.length ∧ gk = fs.length - k ∧ iv = .int .i64 k ∧ nv = .int .i64 (weightL (fs.take k)) ∧ Below w.heap.size w wr)
 case atStart => exact ⟨0,Nat.zero_le _,rfl,rfl,by simp [weightL],Below.refl _ _⟩
 case round =>
  obtain ⟨k,hk,hgk,rfl,rfl,hb0⟩ := hrel
  have HGK := hid hgk;clear hgk
  have hzz := hb0.size
  by_cases hlt : k < fs.length
  ·have hkl : (k : Int) < (fs.length : Int) := by omega
   obtain ⟨a',ha,hrl,hc0,hcc⟩ := (show RowsAt 4 wr (.slice la (fs.map rowF).length lc) (fs.map rowF) by rw [List.length_map];exact hl.below hb0).row (k := k) (by rw [List.length_map];exact hlt)
   subst ha
   obtain ⟨f,hf⟩ : ∃ f,f = fs[k] := ⟨_,rfl⟩
   have hat : (fs.map rowF)[k]'(by rw [List.length_map];exact hlt) = [f.wide,f.deep,f.high,f.weight] := by rw [List.getElem_map, ← hf];rfl
   rw [hat] at hc0 hcc
   have r0 := hc0 _ rfl
   have r1 := hcc 1 _ (by decide) rfl
   have r2 := hcc 2 _ (by decide) rfl
   have r3 := hcc 3 _ (by decide) rfl
   clear hc0 hcc hat hrl
   have hfo := hok f (by rw [hf];exact List.getElem_mem hlt)
   unfold FtOk at hfo
   have hbd := weightL_bd hok k
   have hsu : weightL (fs.take (k + 1)) = weightL (fs.take k) + f.weight := by rw [hf];exact weightL_snoc hlt
   have hbd2 := weightL_bd hok (k + 1)
   rw [hsu] at hbd2
   have HSU := hid hsu;clear hsu
   clear hf
   obtain ⟨fw,fd,fh,fg⟩ := f
   dsimp only at *
   obtain ⟨n0,hn0⟩ : ∃ n,weightL (fs.take k) = n := ⟨_,rfl⟩
   rw [hn0] at hbd hbd2 ⊢
   have HN0 := hid hn0;clear hn0
   have hmm := mul_bd fw fd 2100 2100 (by omega) (by omega) (by omega) (by omega)
   go_upto_region 5 with fail
   generalize hW : World.alloc wr _ = v5
   have c0 : v5.cell? ⟨wr.heap.size,0,none⟩ = some (.int .i64 fw) := by rw [← hW];simp [go_sem]
   have c1 : v5.cell? ⟨wr.heap.size,1,none⟩ = some (.int .i64 fd) := by rw [← hW];simp [go_sem]
   have c2 : v5.cell? ⟨wr.heap.size,2,none⟩ = some (.int .i64 fh) := by rw [← hW];simp [go_sem]
   have c3 : v5.cell? ⟨wr.heap.size,3,none⟩ = some (.int .i64 fg) := by rw [← hW];simp [go_sem]
   have hb : Below wr.heap.size wr v5 := by rw [← hW];exact (Below.refl _ _).alloc (Nat.le_refl _) _
   replace hb0 := bnext (w := w) hb0 hb
   clear hb hW r0 r1 r2 r3
   go_wp2_with fail
   go_roundg (fs.length - (k + 1))
   case measure => have h := HGK.out;omega
   case rel => exact ⟨k + 1,by omega,rfl,by go_num,(by rw [HSU.out,HN0.out];try go_num),hb0⟩
  ·obtain rfl : k = fs.length := by omega
   rw [List.take_length] at *
   go_wp2_with fail
   go_ret
   exact ⟨rfl,hb0⟩
set_option maxRecDepth 100000 in
set_option maxHeartbeats 2000000 in
theorem rLow {w : World} {lv : Value} {fs : List Ft} {bid bwi bde bce bhi bbe : Int} {b : Bool} (hl : FeetAt w lv fs) (hok : ∀ f ∈ fs,FtOk f) (hn : fs.length ≤ 1000) (hb : lowB ⟨bid,bwi,bde,bce,bhi,bbe⟩ fs = b) :
  Calls Tryz.prog 135 #[.agg #[.int .i64 bid, .int .i64 bwi, .int .i64 bde, .int .i64 bce, .int .i64 bhi, .int .i64 bbe],lv] w (Ret w (.bool b)) := by
 unfold Ret
 obtain ⟨la,lc,rfl,hll⟩ := hl.shape
 rw [List.length_map] at hl hll ⊢
 have hs3 : troubleB ⟨bid,bwi,bde,bce,bhi,bbe⟩ fs 3 = decide (bbe < weightL fs) := rfl
 have hs1 : troubleB ⟨bid,bwi,bde,bce,bhi,bbe⟩ fs 1 = fs.any (highB ⟨bid,bwi,bde,bce,bhi,bbe⟩) := rfl
 have hlo : lowB ⟨bid,bwi,bde,bce,bhi,bbe⟩ fs = (!(fs.any (highB ⟨bid,bwi,bde,bce,bhi,bbe⟩)) && !decide (bbe < weightL fs)) := by unfold lowB;rw [hs1,hs3]
 have HB := hid (hlo.symm.trans hb);clear hs1 hs3 hlo hb
 go_enter Tryz.func135,Tryz.ntmps135
 go_upto_region 1 with fail
 generalize hW : World.alloc w _ = v1
 have q0 : v1.cell? ⟨w.heap.size,0,none⟩ = some (.int .i64 bid) := by rw [← hW];simp [go_sem]
 have q1 : v1.cell? ⟨w.heap.size,1,none⟩ = some (.int .i64 bwi) := by rw [← hW];simp [go_sem]
 have q2 : v1.cell? ⟨w.heap.size,2,none⟩ = some (.int .i64 bde) := by rw [← hW];simp [go_sem]
 have q3 : v1.cell? ⟨w.heap.size,3,none⟩ = some (.int .i64 bce) := by rw [← hW];simp [go_sem]
 have q4 : v1.cell? ⟨w.heap.size,4,none⟩ = some (.int .i64 bhi) := by rw [← hW];simp [go_sem]
 have q5 : v1.cell? ⟨w.heap.size,5,none⟩ = some (.int .i64 bbe) := by rw [← hW];simp [go_sem]
 have hbv : Below w.heap.size w v1 := by rw [← hW];exact (Below.refl _ _).alloc (Nat.le_refl _) _
 clear hW
 go_wp2_with fail
 go_loopg [6,9] fs.length (fun gk _ iv wr => ∃ k : Nat,k ≤ fs.length ∧ gk = fs.length - k ∧ iv = .int .i64 k ∧ Hid ((fs.take k).any (highB ⟨bid,bwi,bde,bce,bhi,bbe⟩) = false) ∧ Below v1.heap.size v1 wr)
 case atStart => exact ⟨0,Nat.zero_le _,rfl,rfl,by simp [Hid],Below.refl _ _⟩
 case round =>
  obtain ⟨k,hk,hgk,rfl,HA,hB⟩ := hrel
  have HGK := hid hgk;clear hgk
  have hb1 : Below w.heap.size w wr := bnext (w := w) hbv hB
  have p4 := bkeep hB q4
  have p5 := bkeep hB q5
  by_cases hlt : k < fs.length
  ·have hkl : (k : Int) < (fs.length : Int) := by omega
   obtain ⟨a',ha,hrl,hc0,hcc⟩ := (show RowsAt 4 wr (.slice la (fs.map rowF).length lc) (fs.map rowF) by rw [List.length_map];exact hl.below hb1).row (k := k) (by rw [List.length_map];exact hlt)
   subst ha
   obtain ⟨f,hf⟩ : ∃ f,fs[k] = f := ⟨_,rfl⟩
   have hat : (fs.map rowF)[k]'(by rw [List.length_map];exact hlt) = [f.wide,f.deep,f.high,f.weight] := by rw [List.getElem_map,hf];rfl
   rw [hat] at hc0 hcc
   have r0 := hc0 _ rfl
   have r1 := hcc 1 _ (by decide) rfl
   have r2 := hcc 2 _ (by decide) rfl
   have r3 := hcc 3 _ (by decide) rfl
   clear hc0 hcc hat hrl
   have HF := hid hf;clear hf
   obtain ⟨fw,fd,fh,fg⟩ := f
   dsimp only at *
   go_upto_region 4 with fail
   generalize hW : World.alloc wr _ = v5
   have c0 : v5.cell? ⟨wr.heap.size,0,none⟩ = some (.int .i64 fw) := by rw [← hW];simp [go_sem]
   have c1 : v5.cell? ⟨wr.heap.size,1,none⟩ = some (.int .i64 fd) := by rw [← hW];simp [go_sem]
   have c2 : v5.cell? ⟨wr.heap.size,2,none⟩ = some (.int .i64 fh) := by rw [← hW];simp [go_sem]
   have c3 : v5.cell? ⟨wr.heap.size,3,none⟩ = some (.int .i64 fg) := by rw [← hW];simp [go_sem]
   have hb : Below wr.heap.size wr v5 := by rw [← hW];exact (Below.refl _ _).alloc (Nat.le_refl _) _
   replace hb1 := bnext (w := w) hb1 hb
   replace hB := bnext (w := v1) hB hb
   replace p4 := bkeep hb p4
   clear hb hW r0 r1 r2 r3
   by_cases hhi : bhi < fh
   ·have hany : fs.any (highB ⟨bid,bwi,bde,bce,bhi,bbe⟩) = true := any_yes hlt (by rw [HF.out];exact decide_eq_true hhi)
    have hd : b = false := by rw [← HB.out,hany];rfl
    subst hd
    clear HB
    go_wp2_with fail
    go_ret
    exact ⟨rfl,hb1⟩
   ·have hnh : highB ⟨bid,bwi,bde,bce,bhi,bbe⟩ fs[k] = false := by rw [HF.out];exact decide_eq_false hhi
    have HA2 := hid (any_no hlt HA.out hnh);clear HA hnh
    go_wp2_with fail
    go_roundg (fs.length - (k + 1))
    case measure => have h := HGK.out;omega
    case rel => exact ⟨k + 1,by omega,rfl,by go_num,HA2,hB⟩
  ·obtain rfl : k = fs.length := by omega
   have hany := HA.out
   rw [List.take_length] at hany
   obtain ⟨n0,hn0⟩ : ∃ n,weightL fs = n := ⟨_,rfl⟩
   have hd : decide (n0 ≤ bbe) = b := by rw [← HB.out,hany,hn0,Bool.eq_iff_iff];simp
   have HD := hid hd;clear HB HA hany hd
   have hwt : ∀ W' : World,Below wr.heap.size wr W' → Calls Tryz.prog 143 #[.slice la fs.length lc] W' (Ret W' (.int .i64 n0)) := fun W' hb => hn0 ▸ rWeight (show FeetAt W' (.slice la fs.length lc) fs from (hl.below hb1).below hb) hok hn
   have HWT := hid hwt;clear hwt hn0
   have s5 := fun x : BW wr => bkeep x.below p5
   go_upto_region 7 with fail
   refine wp_region_qb (by kernel_rfl) (by kernel_rfl) fun hc => ?_
   repeat (go_big_quiet_step ((go_at_call 143;exact BW.call _ (HWT.out _ (BW.below _)))))
   refine wpQuiet_nil ?_
   intro w9 hb
   replace hb1 := bnext (w := w) hb1 hb
   go_wp2_with fail
   go_ret
   exact ⟨ret_bool HD.out,hb1⟩
set_option maxRecDepth 100000 in
set_option maxHeartbeats 2000000 in
theorem rCells {w : World} {bid bde bce bhi bbe fw fd fh fg : Int} {W y x : Nat} {t : Bool} (hW : W ≤ 6) (h1 : 0 ≤ (sideV ⟨fw,fd,fh,fg⟩ t).1 ∧ (x : Int) + (sideV ⟨fw,fd,fh,fg⟩ t).1 ≤ (W : Int)) (h2 : 0 ≤ (sideV ⟨fw,fd,fh,fg⟩ t).2 ∧ (y : Int) + (sideV ⟨fw,fd,fh,fg⟩ t).2 ≤ 6) :
  Calls Tryz.prog 80 #[.agg #[.int .i64 bid, .int .i64 (W : Nat), .int .i64 bde, .int .i64 bce, .int .i64 bhi, .int .i64 bbe], .agg #[.int .i64 fw, .int .i64 fd, .int .i64 fh, .int .i64 fg], .agg #[.int .i64 (y : Nat), .int .i64 (x : Nat), .bool t]] w (Ret w (.int .i64 ((maskW ⟨bid,(W : Nat),bde,bce,bhi,bbe⟩ ⟨fw,fd,fh,fg⟩ ⟨y,x,t⟩ : Nat) : Int))) := by
 unfold Ret
 obtain ⟨a,b,hs⟩ : ∃ a b,sideV ⟨fw,fd,fh,fg⟩ t = (a,b) := ⟨_,_,rfl⟩
 have hmk : maskW ⟨bid,(W : Nat),bde,bce,bhi,bbe⟩ ⟨fw,fd,fh,fg⟩ ⟨y,x,t⟩ = boxW W y x a.toNat b.toNat := by unfold maskW;rw [hs];simp
 rw [hmk]
 clear hmk
 rw [hs] at h1 h2
 dsimp only at h1 h2
 obtain ⟨wi,rfl⟩ : ∃ n : Nat,a = n := ⟨a.toNat,by omega⟩
 obtain ⟨de,rfl⟩ : ∃ n : Nat,b = n := ⟨b.toNat,by omega⟩
 simp only [Int.toNat_natCast]
 have hx6 : x ≤ 6 := by omega
 have hy6 : y ≤ 6 := by omega
 have hwi6 : wi ≤ 6 := by omega
 have hde6 : de ≤ 6 := by omega
 cases t
 ·have hs2 : fw = (wi : Int) ∧ fd = (de : Int) := by unfold sideV at hs;simpa using hs
  obtain ⟨e1,e2⟩ := hs2
  subst e1;subst e2
  clear hs
  go_enter Tryz.func80,Tryz.ntmps80
  go_upto_region 1 with fail
  generalize hWW : World.alloc (World.alloc (World.alloc w _) _) _ = v1
  have q0 : v1.cell? ⟨w.heap.size,0,none⟩ = some (.int .i64 bid) := by rw [← hWW];simp [go_sem]
  have q1 : v1.cell? ⟨w.heap.size,1,none⟩ = some (.int .i64 ((W : Nat))) := by rw [← hWW];simp [go_sem]
  have q2 : v1.cell? ⟨w.heap.size,2,none⟩ = some (.int .i64 bde) := by rw [← hWW];simp [go_sem]
  have q3 : v1.cell? ⟨w.heap.size,3,none⟩ = some (.int .i64 bce) := by rw [← hWW];simp [go_sem]
  have q4 : v1.cell? ⟨w.heap.size,4,none⟩ = some (.int .i64 bhi) := by rw [← hWW];simp [go_sem]
  have q5 : v1.cell? ⟨w.heap.size,5,none⟩ = some (.int .i64 bbe) := by rw [← hWW];simp [go_sem]
  have q6 : v1.cell? ⟨w.heap.size + 1,0,none⟩ = some (.int .i64 (wi : Nat)) := by rw [← hWW];simp [go_sem]
  have q7 : v1.cell? ⟨w.heap.size + 1,1,none⟩ = some (.int .i64 (de : Nat)) := by rw [← hWW];simp [go_sem]
  have q8 : v1.cell? ⟨w.heap.size + 1,2,none⟩ = some (.int .i64 fh) := by rw [← hWW];simp [go_sem]
  have q9 : v1.cell? ⟨w.heap.size + 1,3,none⟩ = some (.int .i64 fg) := by rw [← hWW];simp [go_sem]
  have q10 : v1.cell? ⟨w.heap.size + 1 + 1,0,none⟩ = some (.int .i64 (y : Nat)) := by rw [← hWW];simp [go_sem]
  have q11 : v1.cell? ⟨w.heap.size + 1 + 1,1,none⟩ = some (.int .i64 (x : Nat)) := by rw [← hWW];simp [go_sem]
  have q12 : v1.cell? ⟨w.heap.size + 1 + 1,2,none⟩ = some (.bool false) := by rw [← hWW];simp [go_sem]
  have hbv : Below w.heap.size w v1 := by rw [← hWW];go_grown
  clear hWW
  go_wp2_with fail
  go_loopg [9,10,11] de (fun gk ov yv _ wr => ∃ k : Nat,k ≤ de ∧ gk = de - k ∧ yv = .int .i64 ((y + k : Nat) : Int) ∧ ov = .int .i64 ((boxW W y x wi k : Nat) : Int) ∧ v1 = wr)
  case atStart => exact ⟨0,Nat.zero_le _,rfl,rfl,rfl,rfl⟩
  case round =>
   obtain ⟨k,hk,hgk,rfl,rfl,rfl⟩ := hrel
   have HGK := hid hgk;clear hgk
   obtain ⟨GK,rfl⟩ : ∃ GK,GK = gk := ⟨_,rfl⟩
   have hkb : ((y + k : Nat) : Int) ≤ 12 := by omega
   by_cases hlt : k < de
   ·have hlti : ((y + k : Nat) : Int) < (y : Int) + (de : Int) := by omega
    have hbl := boxW_lt (W := W) (y := y) (x := x) (wide := wi) (k := k) hW (by omega) (by omega)
    go_wp2_with fail
    go_loopg [9,11] wi (fun gk ov xv wr => ∃ j : Nat,j ≤ wi ∧ gk = wi - j ∧ xv = .int .i64 ((x + j : Nat) : Int) ∧ ov = .int .i64 ((boxW W y x wi k ||| rowW W (y + k) x j : Nat) : Int) ∧ v1 = wr)
    case atStart => exact ⟨0,Nat.zero_le _,rfl,rfl,by simp [rowW],rfl⟩
    case round =>
     obtain ⟨j,hj,hgk,rfl,rfl,rfl⟩ := hrel
     have HGK2 := hid hgk;clear hgk
     by_cases hlj : j < wi
     ·have hltj : ((x + j : Nat) : Int) < (x : Int) + (wi : Int) := by omega
      have hm := Nat.or_lt_two_pow hbl (rowW_lt (y := y + k) (x := x) (k := j) hW (by omega) (by omega))
      have hor := or_bitW (y := y + k) (x := x + j) hm hW (by omega) (by omega)
      have hmul := Nat.mul_le_mul (show y + k ≤ 6 by omega) hW
      have hX1b : x + j < W := by omega
      obtain ⟨cc,hcc⟩ : ∃ n : Nat,boxW W y x wi k ||| rowW W (y + k) x j = n := ⟨_,rfl⟩
      have hnx : boxW W y x wi k ||| rowW W (y + k) x (j + 1) = cc ||| bitW W (y + k) (x + j) := by rw [rowW, ← Nat.or_assoc,hcc]
      rw [hcc] at hor hm ⊢
      have HNX := hid hnx;clear hnx hcc hbl
      have hj1 : ((x + (j + 1) : Nat) : Int) = ((x + j : Nat) : Int) + 1 := by omega
      have HJ1 := hid hj1;clear hj1
      obtain ⟨Y1,hY1⟩ : ∃ n : Nat,y + k = n := ⟨_,rfl⟩
      obtain ⟨X1,hX1⟩ : ∃ n : Nat,x + j = n := ⟨_,rfl⟩
      rw [hY1] at hor hmul ⊢
      rw [hX1] at hor hltj hX1b ⊢
      have HY1 := hid hY1;have HX1 := hid hX1
      obtain ⟨S1,hS1⟩ : ∃ n : Nat,Y1 * W = n := ⟨_,rfl⟩
      rw [hS1] at hor hmul
      have e1 : (Y1 : Int) * (W : Int) = (S1 : Int) := by rw [← hS1];exact (Int.natCast_mul _ _).symm
      have hpr : 0 ≤ (Y1 : Int) * (W : Int) ∧ (Y1 : Int) * (W : Int) ≤ 36 := by rw [e1];omega
      have e3 : ((Y1 : Int) * (W : Int) + (X1 : Int)).toNat = S1 + X1 := by rw [e1];omega
      have e4 : (0 : Int) ≤ (Y1 : Int) * (W : Int) + (X1 : Int) := by omega
      have E1 := hid e1;have HOR := hid hor;clear e1 hor hS1 hY1 hX1
      go_wp2_with fail
      have hY2 := HY1.out;subst hY2;have hX2 := HX1.out;subst hX2
      go_roundg (wi - (j + 1))
      case measure => have h := HGK2.out;omega
      case rel => exact ⟨j + 1,by omega,rfl,by rw [HJ1.out],by (rw [HNX.out];exact congrArg (Value.int .i64) (by have h := HOR.out;rwa [IntWalk.i64_left] at h)),rfl⟩
     ·obtain rfl : j = wi := by omega
      go_wp2_with fail
      go_roundg (de - (k + 1))
      case measure => have h := HGK.out;omega
      case rel => exact ⟨k + 1,by omega,rfl,by go_num,by rw [boxW],rfl⟩
   ·obtain rfl : k = de := by omega
    have hltn : ¬ ((y + k : Nat) : Int) < (y : Int) + (k : Int) := by omega
    go_wp2_with fail
    go_ret
    exact ⟨rfl,hbv⟩
 ·have hs2 : fd = (wi : Int) ∧ fw = (de : Int) := by unfold sideV at hs;simpa using hs
  obtain ⟨e1,e2⟩ := hs2
  subst e1;subst e2
  clear hs
  go_enter Tryz.func80,Tryz.ntmps80
  go_upto_region 1 with fail
  generalize hWW : World.alloc (World.alloc (World.alloc w _) _) _ = v1
  have q0 : v1.cell? ⟨w.heap.size,0,none⟩ = some (.int .i64 bid) := by rw [← hWW];simp [go_sem]
  have q1 : v1.cell? ⟨w.heap.size,1,none⟩ = some (.int .i64 ((W : Nat))) := by rw [← hWW];simp [go_sem]
  have q2 : v1.cell? ⟨w.heap.size,2,none⟩ = some (.int .i64 bde) := by rw [← hWW];simp [go_sem]
  have q3 : v1.cell? ⟨w.heap.size,3,none⟩ = some (.int .i64 bce) := by rw [← hWW];simp [go_sem]
  have q4 : v1.cell? ⟨w.heap.size,4,none⟩ = some (.int .i64 bhi) := by rw [← hWW];simp [go_sem]
  have q5 : v1.cell? ⟨w.heap.size,5,none⟩ = some (.int .i64 bbe) := by rw [← hWW];simp [go_sem]
  have q6 : v1.cell? ⟨w.heap.size + 1,0,none⟩ = some (.int .i64 (de : Nat)) := by rw [← hWW];simp [go_sem]
  have q7 : v1.cell? ⟨w.heap.size + 1,1,none⟩ = some (.int .i64 (wi : Nat)) := by rw [← hWW];simp [go_sem]
  have q8 : v1.cell? ⟨w.heap.size + 1,2,none⟩ = some (.int .i64 fh) := by rw [← hWW];simp [go_sem]
  have q9 : v1.cell? ⟨w.heap.size + 1,3,none⟩ = some (.int .i64 fg) := by rw [← hWW];simp [go_sem]
  have q10 : v1.cell? ⟨w.heap.size + 1 + 1,0,none⟩ = some (.int .i64 (y : Nat)) := by rw [← hWW];simp [go_sem]
  have q11 : v1.cell? ⟨w.heap.size + 1 + 1,1,none⟩ = some (.int .i64 (x : Nat)) := by rw [← hWW];simp [go_sem]
  have q12 : v1.cell? ⟨w.heap.size + 1 + 1,2,none⟩ = some (.bool true) := by rw [← hWW];simp [go_sem]
  have hbv : Below w.heap.size w v1 := by rw [← hWW];go_grown
  clear hWW
  go_wp2_with fail
  go_loopg [9,10,11] de (fun gk ov yv _ wr => ∃ k : Nat,k ≤ de ∧ gk = de - k ∧ yv = .int .i64 ((y + k : Nat) : Int) ∧ ov = .int .i64 ((boxW W y x wi k : Nat) : Int) ∧ v1 = wr)
  case atStart => exact ⟨0,Nat.zero_le _,rfl,rfl,rfl,rfl⟩
  case round =>
   obtain ⟨k,hk,hgk,rfl,rfl,rfl⟩ := hrel
   have HGK := hid hgk;clear hgk
   obtain ⟨GK,rfl⟩ : ∃ GK,GK = gk := ⟨_,rfl⟩
   have hkb : ((y + k : Nat) : Int) ≤ 12 := by omega
   by_cases hlt : k < de
   ·have hlti : ((y + k : Nat) : Int) < (y : Int) + (de : Int) := by omega
    have hbl := boxW_lt (W := W) (y := y) (x := x) (wide := wi) (k := k) hW (by omega) (by omega)
    go_wp2_with fail
    go_loopg [9,11] wi (fun gk ov xv wr => ∃ j : Nat,j ≤ wi ∧ gk = wi - j ∧ xv = .int .i64 ((x + j : Nat) : Int) ∧ ov = .int .i64 ((boxW W y x wi k ||| rowW W (y + k) x j : Nat) : Int) ∧ v1 = wr)
    case atStart => exact ⟨0,Nat.zero_le _,rfl,rfl,by simp [rowW],rfl⟩
    case round =>
     obtain ⟨j,hj,hgk,rfl,rfl,rfl⟩ := hrel
     have HGK2 := hid hgk;clear hgk
     by_cases hlj : j < wi
     ·have hltj : ((x + j : Nat) : Int) < (x : Int) + (wi : Int) := by omega
      have hm := Nat.or_lt_two_pow hbl (rowW_lt (y := y + k) (x := x) (k := j) hW (by omega) (by omega))
      have hor := or_bitW (y := y + k) (x := x + j) hm hW (by omega) (by omega)
      have hmul := Nat.mul_le_mul (show y + k ≤ 6 by omega) hW
      have hX1b : x + j < W := by omega
      obtain ⟨cc,hcc⟩ : ∃ n : Nat,boxW W y x wi k ||| rowW W (y + k) x j = n := ⟨_,rfl⟩
      have hnx : boxW W y x wi k ||| rowW W (y + k) x (j + 1) = cc ||| bitW W (y + k) (x + j) := by rw [rowW, ← Nat.or_assoc,hcc]
      rw [hcc] at hor hm ⊢
      have HNX := hid hnx;clear hnx hcc hbl
      have hj1 : ((x + (j + 1) : Nat) : Int) = ((x + j : Nat) : Int) + 1 := by omega
      have HJ1 := hid hj1;clear hj1
      obtain ⟨Y1,hY1⟩ : ∃ n : Nat,y + k = n := ⟨_,rfl⟩
      obtain ⟨X1,hX1⟩ : ∃ n : Nat,x + j = n := ⟨_,rfl⟩
      rw [hY1] at hor hmul ⊢
      rw [hX1] at hor hltj hX1b ⊢
      have HY1 := hid hY1;have HX1 := hid hX1
      obtain ⟨S1,hS1⟩ : ∃ n : Nat,Y1 * W = n := ⟨_,rfl⟩
      rw [hS1] at hor hmul
      have e1 : (Y1 : Int) * (W : Int) = (S1 : Int) := by rw [← hS1];exact (Int.natCast_mul _ _).symm
      have hpr : 0 ≤ (Y1 : Int) * (W : Int) ∧ (Y1 : Int) * (W : Int) ≤ 36 := by rw [e1];omega
      have e3 : ((Y1 : Int) * (W : Int) + (X1 : Int)).toNat = S1 + X1 := by rw [e1];omega
      have e4 : (0 : Int) ≤ (Y1 : Int) * (W : Int) + (X1 : Int) := by omega
      have E1 := hid e1;have HOR := hid hor;clear e1 hor hS1 hY1 hX1
      go_wp2_with fail
      have hY2 := HY1.out;subst hY2;have hX2 := HX1.out;subst hX2
      go_roundg (wi - (j + 1))
      case measure => have h := HGK2.out;omega
      case rel => exact ⟨j + 1,by omega,rfl,by rw [HJ1.out],by (rw [HNX.out];exact congrArg (Value.int .i64) (by have h := HOR.out;rwa [IntWalk.i64_left] at h)),rfl⟩
     ·obtain rfl : j = wi := by omega
      go_wp2_with fail
      go_roundg (de - (k + 1))
      case measure => have h := HGK.out;omega
      case rel => exact ⟨k + 1,by omega,rfl,by go_num,by rw [boxW],rfl⟩
   ·obtain rfl : k = de := by omega
    have hltn : ¬ ((y + k : Nat) : Int) < (y : Int) + (k : Int) := by omega
    go_wp2_with fail
    go_ret
    exact ⟨rfl,hbv⟩
end Go.Proofs.YtodmidchpbcnpaaGreat