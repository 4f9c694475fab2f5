/- Part of a claim. -/
import Derived.Test.YtodmidchpbcnpaaGreatG31Y
import Derived.Test.YtodmidchpbcnpaaGreatG27Y
import Derived.Test.YtodmidchpbcnpaaGreatG23Y
import Derived.Test.YtodmidchpbcnpaaGreatG22Y
import Derived.Test.YtodmidchpbcnpaaGreatG20Y
import Derived.Test.YtodmidchpbcnpaaGreatKSkY
import Derived.Test.YtodmidchpbcnpaaGreatKScY
import Derived.Test.YtodmidchpbcnpaaGreatKG83Y
import Derived.Test.YtodmidchpbcnpaaGreatKSqY
import Derived.Test.YtodmidchpbcnpaaGreatG30Y
import Derived.Test.YtodmidchpbcnpaaGreatG25Y
import Derived.Test.YtodmidchpbcnpaaGreatG24Y
import Derived.Test.YtodmidchpbcnpaaGreatG4Y
set_option linter.unusedVariables false
set_option linter.unusedSimpArgs false
namespace Go.Proofs.YtodmidchpbcnpaaGreat
open Go.RowKit Go.Pb Go.Pb.Ware Go.Pb.Sag


theorem owns_new {w : World} {lo T n size : Nat} {xs : List Value} (hs : xs.length = n * size) (hn : n ≤ maxLen) (hlo : lo ≤ w.heap.size) : (w.alloc (.cells xs.toArray T)).ownsRow lo T size (.slice (some ⟨w.heap.size,0,none⟩) n n) n xs := by
 refine ⟨by omega, .inr ⟨w.heap.size,n,xs.toArray,rfl,hlo,heap_alloc_new w _,Nat.le_refl _,hn,by rw [List.size_toArray];omega, ?_⟩⟩
 show xs.take (n * size) = xs
 rw [← hs,List.take_length]
theorem groupsAt_lists {lo : Nat} {v : Value} {gs : List (List Int)} {W : World} (h : GroupsAt lo v gs W) (hi : ∀ g ∈ gs, ∀ z ∈ g,I64 z) : ListsAt v gs W := by
 obtain ⟨us,h1,h2⟩ := h
 obtain ⟨a,c,rfl,hc⟩ := owns_shape h1
 refine ⟨a,c,rfl,fun k g hg => ?_⟩
 have hk := (List.getElem?_eq_some_iff.1 hg).1
 have hl : us.length = gs.length := by have := h1.1;omega
 have hu : us[k]? = some (us[k]'(by omega)) := List.getElem?_eq_getElem _
 rcases h1.2 with ⟨_,hn⟩ | ⟨B,cap,cur,e,hr⟩
 ·omega
 ·injection e with e1 e2 e3
  subst e1
  exact ⟨_,rfl,us[k]'(by omega),h1.cells (g := B) rfl k _ hu,numsAt_of_owns (hi g (List.mem_of_getElem? hg)) (h2 k _ g hu hg)⟩
theorem i64_small {z : Int} (h1 : -100000 ≤ z) (h2 : z ≤ 100000) : I64 z := I64.mk (by omega) (by omega)
def WaresRes (W : World) (e : Ending) (w' : World) : Prop := ∃ sv,e = .returned (.agg #[sv, .slice none 0 0]) ∧ Below W.heap.size W w' ∧ RowsAt 11 w' sv exRows
theorem exRows_ok : ∀ r ∈ exRows,r.length = 11 ∧ ∀ z ∈ r,I64 z := by
 have h : ∀ r ∈ exRows,r.length = 11 ∧ ∀ z ∈ r, -100000 ≤ z ∧ z ≤ 100000 := by decide
 exact fun r hr => ⟨(h r hr).1,fun z hz => i64_small ((h r hr).2 z hz).1 ((h r hr).2 z hz).2⟩
theorem exRows_at {w : World} {lo T : Nat} {v : Value} (h : w.ownsRow lo T 11 v 2 (exRows.flatten.map (Value.int .i64))) : RowsAt 11 w v exRows :=
 rowsAt_of_owns (rows := exRows) (fun r hr => (exRows_ok r hr).1) h (fun r hr => (exRows_ok r hr).2)
def WaresOwn (W : World) (e : Ending) (w' : World) : Prop := ∃ sv,e = .returned (.agg #[sv, .slice none 0 0]) ∧ Below W.heap.size W w' ∧ w'.ownsRow W.heap.size 109 11 sv 2 (exRows.flatten.map (Value.int .i64))
set_option maxRecDepth 100000 in
set_option maxHeartbeats 1000000 in
theorem wares_own {w : World}  :
  Calls Tryz.prog 72 #[] w (WaresOwn w) := by
 unfold WaresOwn
 go_enter Tryz.func72,Tryz.ntmps72
 go_wp2_with fail
 refine bodyPost_ret (v := .agg #[.slice (some ⟨w.heap.size + 1,0,none⟩) 2 2, .slice none 0 0]) (by simp [results,Tryz.results72,go_sem, *]) rfl ?_
 refine ⟨_,rfl,by go_grown, ?_⟩
 have h := owns_new (w := w.alloc (.cells #[.slice (some ⟨w.heap.size + 1,0,none⟩) 2 2, .slice none 0 0] 25)) (lo := w.heap.size) (T := 109) (n := 2) (size := 11) (xs := exRows.flatten.map (Value.int .i64)) (by decide) (by decide) (by simp)
 simp only [World.size_alloc] at h
 exact h
theorem wares_any {w : World} : Calls Tryz.prog 72 #[] w (WaresRes w) := wares_own.mono fun e w' ⟨sv,e1,hb,ho⟩ => ⟨sv,e1,hb,exRows_at ho⟩
end Go.Proofs.YtodmidchpbcnpaaGreat
namespace Go.Proofs.YtodmidchpbcnpaaGreat
open Go.RowKit Go.Pb Go.Pb.Ware Go.Pb.Sag


set_option maxRecDepth 100000 in
set_option maxHeartbeats 2000000 in
theorem rGrid {w : World} {vs vb : Value} {ss bs : List (List Int)} (h1 : RowsAt 11 w vs ss) (h2 : RowsAt 7 w vb bs) {lv pv : Value} {xs : List It} {qs : List Sq} {bid bwi bde bce bhi bbe : Int} (hl : RowsAt 3 w lv (xs.map rowX)) (hp : StAt w pv qs) {c : Int} {rows : List (List Int)} (hc : ckK ss bs ⟨bid,bwi,bde,bce,bhi,bbe⟩ xs qs = c) (hr : gridA ss bs ⟨bid,bwi,bde,bce,bhi,bbe⟩ xs qs = rows) :
  Calls Tryz.prog 32 #[.agg #[vs,vb], .agg #[.int .i64 bid, .int .i64 bwi, .int .i64 bde, .int .i64 bce, .int .i64 bhi, .int .i64 bbe],lv,pv] w (GridRes rows c w) := by
 obtain ⟨la,lc,rfl,hll⟩ := hl.shape
 rw [List.length_map] at hl hll ⊢
 obtain ⟨pa,pc,rfl,hpl,hpc⟩ := hp.shape
 unfold GridRes
 by_cases hc0 : c = 0
 ·subst hc0
  obtain ⟨k0,kp⟩ := ckK_0 hc
  obtain ⟨hw,hX,hx5,hall⟩ := ckL_0 k0
  have hX2 := boxOk_iff.1 hX
  dsimp only at hX2
  have hr1 : rows = gridL ⟨bid,bwi,bde,bce,bhi,bbe⟩ (feetV ss bs ⟨bid,bwi,bde,bce,bhi,bbe⟩ xs) qs := by rw [← hr];unfold gridA;rw [if_pos hc]
  subst hr1
  obtain ⟨Wd,rfl⟩ : ∃ n : Nat,bwi = n := ⟨bwi.toNat,by omega⟩
  obtain ⟨D,rfl⟩ : ∃ n : Nat,bde = n := ⟨bde.toNat,by omega⟩
  obtain ⟨FS,hFS⟩ : ∃ l,(feetV ss bs ⟨bid,(Wd : Int),(D : Int),bce,bhi,bbe⟩ xs) = l := ⟨_,rfl⟩
  have hfv : xs.map (footR ss bce) = FS := by rw [← hFS];exact (feetV_0 k0).symm
  have hok : ∀ f ∈ FS,FtOk f := by rw [← hFS];exact feet_ok
  have hfl : FS.length = xs.length := by rw [← hfv];exact List.length_map ..
  have hql : qs.length = FS.length := by rw [← hFS];exact pack_long kp
  rw [hFS] at kp ⊢
  have HC := hid hc;have HX := hid hX;have HW := hid hw;have HP := hid kp;have HFV := hid hfv;have HFL := hid hfl;have HQL := hid (hql.trans hfl);have HALL := hid (show xs.all (itemB ss) = true from List.all_eq_true.2 hall)
  clear hc hr k0 kp hX hw hall hFS hql hfv hfl
  obtain ⟨i0,hi,hz0,hz1,hz2⟩ := info_parts Tryz.infoR
  obtain ⟨i1,hj,hy0,hy1,hy2⟩ := info_parts Tryz.infoZ
  go_enter Tryz.func32,Tryz.ntmps32
  go_wp2_with fail
  refine (rCheckPack (h1.below (by go_grown)) (h2.below (by go_grown)) (hl.below (by go_grown)) (hp.below (by go_grown)) HC.out).mono ?_
  rintro e w1 ⟨rfl,hb⟩
  replace hb0 := bnext (w := w) (by go_grown) hb;have hz := hb.size;(try simp only [World.size_alloc,World.size_setCell] at hz);replace q0 : w1.cell? ⟨w.heap.size,0,none⟩ = some (vs) := bkeep hb (by first|with_reducible exact q0|with_reducible exact akeep q0|simp[*,go_sem]);replace q1 : w1.cell? ⟨w.heap.size,1,none⟩ = some (vb) := bkeep hb (by first|with_reducible exact q1|with_reducible exact akeep q1|simp[*,go_sem]);replace q2 : w1.cell? ⟨w.heap.size + 1,0,none⟩ = some (.int .i64 bid) := bkeep hb (by first|with_reducible exact q2|with_reducible exact akeep q2|simp[*,go_sem]);replace q3 : w1.cell? ⟨w.heap.size + 1,1,none⟩ = some (.int .i64 (Wd : Int)) := bkeep hb (by first|with_reducible exact q3|with_reducible exact akeep q3|simp[*,go_sem]);replace q4 : w1.cell? ⟨w.heap.size + 1,2,none⟩ = some (.int .i64 (D : Int)) := bkeep hb (by first|with_reducible exact q4|with_reducible exact akeep q4|simp[*,go_sem]);replace q5 : w1.cell? ⟨w.heap.size + 1,3,none⟩ = some (.int .i64 bce) := bkeep hb (by first|with_reducible exact q5|with_reducible exact akeep q5|simp[*,go_sem]);replace q6 : w1.cell? ⟨w.heap.size + 1,4,none⟩ = some (.int .i64 bhi) := bkeep hb (by first|with_reducible exact q6|with_reducible exact akeep q6|simp[*,go_sem]);replace q7 : w1.cell? ⟨w.heap.size + 1,5,none⟩ = some (.int .i64 bbe) := bkeep hb (by first|with_reducible exact q7|with_reducible exact akeep q7|simp[*,go_sem]);clear hb
  replace hl := hl.below hb0;replace h1 := h1.below hb0;replace h2 := h2.below hb0;replace hp := hp.below hb0
  obtain ⟨v3,hv3⟩ : ∃ v,v = w1 := ⟨_,rfl⟩
  subst hv3
  go_wp2_with fail
  refine (rfeet_any h1 h2 hl (by omega) HW.out HX.out HALL.out).mono ?_
  rintro e w1 ⟨fv,rfl,hb,ho⟩
  replace hp := hp.below hb
  replace hb0 := bnext (w := w) (by go_grown) hb;have hz := hb.size;(try simp only [World.size_alloc,World.size_setCell] at hz);replace q0 : w1.cell? ⟨w.heap.size,0,none⟩ = some (vs) := bkeep hb (by first|with_reducible exact q0|with_reducible exact akeep q0|simp[*,go_sem]);replace q1 : w1.cell? ⟨w.heap.size,1,none⟩ = some (vb) := bkeep hb (by first|with_reducible exact q1|with_reducible exact akeep q1|simp[*,go_sem]);replace q2 : w1.cell? ⟨w.heap.size + 1,0,none⟩ = some (.int .i64 bid) := bkeep hb (by first|with_reducible exact q2|with_reducible exact akeep q2|simp[*,go_sem]);replace q3 : w1.cell? ⟨w.heap.size + 1,1,none⟩ = some (.int .i64 (Wd : Int)) := bkeep hb (by first|with_reducible exact q3|with_reducible exact akeep q3|simp[*,go_sem]);replace q4 : w1.cell? ⟨w.heap.size + 1,2,none⟩ = some (.int .i64 (D : Int)) := bkeep hb (by first|with_reducible exact q4|with_reducible exact akeep q4|simp[*,go_sem]);replace q5 : w1.cell? ⟨w.heap.size + 1,3,none⟩ = some (.int .i64 bce) := bkeep hb (by first|with_reducible exact q5|with_reducible exact akeep q5|simp[*,go_sem]);replace q6 : w1.cell? ⟨w.heap.size + 1,4,none⟩ = some (.int .i64 bhi) := bkeep hb (by first|with_reducible exact q6|with_reducible exact akeep q6|simp[*,go_sem]);replace q7 : w1.cell? ⟨w.heap.size + 1,5,none⟩ = some (.int .i64 bbe) := bkeep hb (by first|with_reducible exact q7|with_reducible exact akeep q7|simp[*,go_sem]);skip
  clear hb
  rw [HFV.out] at ho
  have hfa := feetAt_of_owns hok ho
  rw [HFL.out] at ho
  obtain ⟨fa,fc,rfl, -⟩ := owns_shape ho
  clear ho hl h1 h2
  obtain ⟨n,hn⟩ : ∃ n,xs.length = n := ⟨_,rfl⟩
  have HFN := hid (HFL.out.trans hn);have HQN := hid (HQL.out.trans hn)
  have hn5 : n ≤ 5 := by omega
  rw [hn] at hfa hll hx5 ⊢
  have HFA := hid hfa
  clear hn HFL HQL hfa hx5
  obtain ⟨v4,hv4⟩ : ∃ v,v = w1 := ⟨_,rfl⟩
  subst hv4
  go_wp2_with fail
  go_loopg [12,13] D (fun gk ov yv wr => ∃ y : Nat,y ≤ D ∧ gk = D - y ∧ yv = .int .i64 y ∧ RowsG v4.heap.size wr.heap.size 71 3 ov ((List.range y).map (gridRow FS qs Wd n)) wr ∧ Below v4.heap.size v4 wr)
  case atStart => exact ⟨0,Nat.zero_le _,rfl,rfl,RowsG.nil,Below.refl _ _⟩
  case round =>
   obtain ⟨y,hy,hgk,rfl,hR,hB⟩ := hrel
   have HGK := hid hgk;clear hgk
   obtain ⟨us,ho,hr⟩ := hR
   rw [List.length_map,List.length_range] at ho
   obtain ⟨oa,oc,rfl, -⟩ := owns_shape ho
   have HR := hid (show RowsG v4.heap.size wr.heap.size 71 3 (.slice oa y oc) ((List.range y).map (gridRow FS qs Wd n)) wr from ⟨us,by rw [List.length_map,List.length_range];exact ho,hr⟩);clear ho hr us
   have p2 := bkeep hB q2
   have p3 := bkeep hB q3
   have p4 := bkeep hB q4
   have p5 := bkeep hB q5
   have p6 := bkeep hB q6
   have p7 := bkeep hB q7
   have hzr := hB.size
   obtain ⟨v7,hv7⟩ : ∃ v,v = wr := ⟨_,rfl⟩
   subst hv7
   by_cases hlt : y < D
   ·have hyi : (y : Int) < (D : Int) := by omega
    go_wp2_with (at_make;refine wpList_make_full _ rfl _ _ 71 rfl v4.heap.size 3 i1 (.int .i64 0) 1 Tryz.underlying71 hj hy0 hy1 .i64 .i64 _ _ Wd rfl rfl rfl rfl (by rw [hy2];omega) (by unfold maxLen;omega) hzr ?_;intro w5 ho5 hg5)
    rw [made_row (fs := FS) (qs := qs) (y := y)] at ho5
    have hb5 : Below v7.heap.size v7 w5 := (Below.refl _ v7).grown hg5 (Nat.le_refl _) (fun k h => by cases h)
    have hz5 : v7.heap.size < w5.heap.size := (World.ownsRow.lt ho5 v7.heap.size (by simp [Value.ownBlock])).2
    replace HR := hid (HR.out.below hb5)
    have hB5 := hB.trans (hb5.mono hzr)
    clear hb5 hg5 hB p2 p3 p4 p5 p6 p7
    go_loopg [41] n (fun gk iv wr => ∃ i : Nat,i ≤ n ∧ gk = n - i ∧ iv = .int .i64 i ∧ Hid (RowsG v4.heap.size v7.heap.size 71 3 (.slice oa y oc) ((List.range y).map (gridRow FS qs Wd n)) wr) ∧ Hid (wr.ownsRow v4.heap.size 3 1 (.slice (some ⟨v7.heap.size,0,none⟩) Wd Wd) Wd ((gridRow FS qs Wd i y).map (Value.int .i64))) ∧ Below v4.heap.size v4 wr ∧ v7.heap.size < wr.heap.size)
    case atStart => exact ⟨0,Nat.zero_le _,rfl,rfl,HR,hid ho5,hB5,hz5⟩
    case round =>
     clear HR ho5 hB5 hz5
     obtain ⟨i,hi',hgk,rfl,HR,HO,hB,hz5⟩ := hrel
     have HGK2 := hid hgk;clear hgk
     have p2 := bkeep hB q2
     have p3 := bkeep hB q3
     have p4 := bkeep hB q4
     have p5 := bkeep hB q5
     have p6 := bkeep hB q6
     have p7 := bkeep hB q7
     by_cases hli : i < n
     ·have hii : (i : Int) < (n : Int) := by omega
      have hif : i < FS.length := by rw [HFN.out];exact hli
      have hiq : i < qs.length := by rw [HQN.out];exact hli
      have hiqi : (i : Int) < (qs.length : Int) := by omega
      obtain ⟨a',ha,hrl,hc0,hcc⟩ := (show RowsAt 4 wr (.slice fa (FS.map rowF).length fc) (FS.map rowF) by rw [List.length_map,HFN.out];exact HFA.out.below hB).row (k := i) (by rw [List.length_map];exact hif)
      subst ha
      obtain ⟨f,hf⟩ : ∃ f,FS[i] = f := ⟨_,rfl⟩
      have hfo := hok f (by rw [← hf];exact List.getElem_mem hif)
      have hfe : FS[i]? = some f := by rw [List.getElem?_eq_getElem hif,hf]
      obtain ⟨fw,fd,fh,fg⟩ := f
      have hat : (FS.map rowF)[i]'(by rw [List.length_map];exact hif) = [fw,fd,fh,fg] := by rw [List.getElem_map,hf];rfl
      rw [hat] at hc0 hcc
      have r0 := hc0 _ rfl
      have r1 := hcc 1 _ (by decide) rfl
      have r2 := hcc 2 _ (by decide) rfl
      have r3 := hcc 3 _ (by decide) rfl
      clear hc0 hcc hat hrl hf
      obtain ⟨a2,ha2,s0,s1,s2⟩ := (hp.below hB).row hiq
      subst ha2
      obtain ⟨p,hpm,hpe⟩ := pack_stand HP.out hfe (List.getElem?_eq_getElem hiq)
      have hqe : qs[i]? = some (toSq p) := by rw [List.getElem?_eq_getElem hiq,hpe]
      obtain ⟨mk,hmk⟩ : ∃ m,maskW ⟨bid,(Wd : Int),(D : Int),bce,bhi,bbe⟩ ⟨fw,fd,fh,fg⟩ p = m := ⟨_,rfl⟩
      have hml := (maskW_rel HX.out hfo hpm).2
      rw [hmk] at hml
      have hbit : ∀ x,x < Wd → mk.testBit (y * Wd + x) = covK FS qs i y x := fun x hx => by rw [covK_at hfe hqe, ← hmk];exact maskW_test (s := ⟨bid,(Wd : Int),(D : Int),bce,bhi,bbe⟩) HX.out hfo hpm (by simpa using hx)
      obtain ⟨py,px,pt⟩ := p
      rw [hpe] at s0 s1 s2
      unfold toSq at s0 s1 s2
      dsimp only at s0 s1 s2
      have HBIT := hid hbit;have HFO := hid hfo;have HMEM := hid hpm;have HMK := hid hmk;clear hbit hfo hpm hmk hfe hqe hpe
      go_upto_region 13 with fail
      obtain ⟨v8,hv8⟩ : ∃ v,v = wr := ⟨_,rfl⟩
      subst hv8
      have xp2 := fun x : BW v8 => bkeep x.below p2
      have xp3 := fun x : BW v8 => bkeep x.below p3
      have xp4 := fun x : BW v8 => bkeep x.below p4
      have xp5 := fun x : BW v8 => bkeep x.below p5
      have xp6 := fun x : BW v8 => bkeep x.below p6
      have xp7 := fun x : BW v8 => bkeep x.below p7
      have xr0 := fun x : BW v8 => bkeep x.below r0
      have xr1 := fun x : BW v8 => bkeep x.below r1
      have xr2 := fun x : BW v8 => bkeep x.below r2
      have xr3 := fun x : BW v8 => bkeep x.below r3
      have xs0 := fun x : BW v8 => bkeep x.below s0
      have xs1 := fun x : BW v8 => bkeep x.below s1
      have xs2 := fun x : BW v8 => bkeep x.below s2
      refine wp_region_qb (by kernel_rfl) (by kernel_rfl) fun hc => ?_
      repeat (go_big_quiet_step ((go_at_call 80;exact BW.call _ (rCells_eq HX.out HFO.out HMEM.out HMK.out))))
      refine wpQuiet_nil ?_
      intro w9 hb
      have hz9 := hb.size
      replace HR := hid (HR.out.below hb);replace HO := hid (owns_below HO.out hb)
      replace hB := hB.trans (hb.mono hB.size)
      replace hz5 : v7.heap.size < w9.heap.size := by omega
      clear hb hc hz9 xp2 xp3 xp4 xp5 xp6 xp7 xr0 xr1 xr2 xr3 xs0 xs1 xs2 p2 p3 p4 p5 p6 p7 r0 r1 r2 r3 s0 s1 s2
      rw [← rowMix_zero] at HO
      go_wp2_with fail
      go_loopg [17] Wd (fun gk xv wr => ∃ x : Nat,x ≤ Wd ∧ gk = Wd - x ∧ xv = .int .i64 x ∧ Hid (RowsG v4.heap.size v7.heap.size 71 3 (.slice oa y oc) ((List.range y).map (gridRow FS qs Wd n)) wr) ∧ Hid (wr.ownsRow v4.heap.size 3 1 (.slice (some ⟨v7.heap.size,0,none⟩) Wd Wd) Wd ((rowMix FS qs Wd y i x).map (Value.int .i64))) ∧ Below v4.heap.size v4 wr ∧ v7.heap.size < wr.heap.size)
      case atStart => exact ⟨0,Nat.zero_le _,rfl,rfl,HR,HO,hB,hz5⟩
      case round =>
       clear HR HO hB hz5
       obtain ⟨x,hx,hgk,rfl,HR,HO,hB,hz5⟩ := hrel
       have HGK3 := hid hgk;clear hgk
       have p2 := bkeep hB q2
       have p3 := bkeep hB q3
       have p4 := bkeep hB q4
       have p5 := bkeep hB q5
       have p6 := bkeep hB q6
       have p7 := bkeep hB q7
       by_cases hlx : x < Wd
       ·have hxi : (x : Int) < (Wd : Int) := by omega
        have hmm := mul_bd (y : Int) (Wd : Int) 5 6 (by omega) (by omega) (by omega) (by omega)
        obtain ⟨t,ht⟩ : ∃ t,covK FS qs i y x = t := ⟨_,rfl⟩
        have hsh := shr_bit (fun a ha => i64_and_nat a 1 ha (by decide)) (show mk < 2 ^ 62 by omega) ((HBIT.out x hlx).trans ht)
        have hcn : ((y : Int) * (Wd : Int) + (x : Int)).toNat = y * Wd + x := by have h : ((y : Int) * (Wd : Int) + (x : Int)) = ((y * Wd + x : Nat) : Int) := (by rw [Int.natCast_add,Int.natCast_mul]);rw [h,Int.toNat_natCast]
        have hs0 : (0 : Int) ≤ (y : Int) * (Wd : Int) + (x : Int) := by omega
        have hs1 : (y : Int) * (Wd : Int) + (x : Int) ≤ 64 := by omega
        have c0 := HO.out.cells (g := v7.heap.size) rfl x _ (by rw [List.getElem?_map,rowMix_at hlx];rfl)
        have f0 := owns_frozen HO.out rfl x
        rw [Go.WideShapes.add_plain,Nat.zero_add] at c0
        have HT := hid ht;clear ht
        cases t
        ·rw [if_neg (by simp)] at hsh
         replace HO := hid (show wr.ownsRow v4.heap.size 3 1 (.slice (some ⟨v7.heap.size,0,none⟩) Wd Wd) Wd ((rowMix FS qs Wd y i (x + 1)).map (Value.int .i64)) by rw [rowMix_no HT.out];exact HO.out)
         clear c0 f0
         go_wp2_with fail
         go_roundg (Wd - (x + 1))
         case measure => have h := HGK3.out;omega
         case rel => exact ⟨x + 1,by omega,rfl,by go_num,HR,HO,hB,hz5⟩
        ·rw [if_pos rfl] at hsh
         have hR2 : RowsG v4.heap.size v7.heap.size 71 3 (.slice oa y oc) ((List.range y).map (gridRow FS qs Wd n)) (wr.setCell ⟨v7.heap.size,x,none⟩ (.int .i64 ((i : Int) + 1))) := HR.out.set (by decide) (Nat.le_refl _) HO.out
         have hO2 : (wr.setCell ⟨v7.heap.size,x,none⟩ (.int .i64 ((i : Int) + 1))).ownsRow v4.heap.size 3 1 (.slice (some ⟨v7.heap.size,0,none⟩) Wd Wd) Wd ((rowMix FS qs Wd y i (x + 1)).map (Value.int .i64)) := by rw [← rowMix_yes HT.out,List.map_set];exact own_set HO.out
         have hB2 : Below v4.heap.size v4 (wr.setCell ⟨v7.heap.size,x,none⟩ (.int .i64 ((i : Int) + 1))) := hB.setCell (p := ⟨v7.heap.size,x,none⟩) hzr _
         replace HR := hid hR2;replace HO := hid hO2;clear hR2 hO2
         go_wp2_with fail
         go_roundg (Wd - (x + 1))
         case measure => have h := HGK3.out;omega
         case rel => exact ⟨x + 1,by omega,rfl,by go_num,HR,HO,hB2,by simpa using hz5⟩
       ·obtain rfl : x = Wd := by omega
        rw [rowMix_all] at HO
        go_wp2_with fail
        go_roundg (n - (i + 1))
        case measure => have h := HGK2.out;omega
        case rel => exact ⟨i + 1,by omega,rfl,by go_num,HR,HO,hB,hz5⟩
     ·obtain rfl : i = n := by omega
      obtain ⟨us,ho,hr⟩ := HR.out
      rw [List.length_map,List.length_range] at ho
      have hcg : ∀ j u,([(.slice (some ⟨v7.heap.size,0,none⟩) Wd Wd)] : List Value)[j]? = some u → (World.alloc wr (.cells #[(.slice (some ⟨v7.heap.size,0,none⟩) Wd Wd)] 71)).cell? ((⟨wr.heap.size,0,none⟩ : Addr).add j) = some u := fun j u h => by cases j with | zero => (injection h with h;subst h;rw [Go.WideShapes.add_plain];simp [go_sem]) | succ j => simp at h
      have HCG := hid hcg;clear hcg
      have hzw := hB.size
      go_wp2_with (at_builtin;go_must (refine wpList_append_own _ rfl _ _ 57 rfl v4.heap.size 71 i0 (.slice none 0 0) 1 24 Tryz.underlying57 hi hz0 hz1 hz2 rfl (by decide) _ _ _ rfl (ho.alloc _) ⟨wr.heap.size,0,none⟩ 1 1 [(.slice (some ⟨v7.heap.size,0,none⟩) Wd Wd)] rfl rfl HCG.out (fun u h => by simp only [List.mem_cons,List.not_mem_nil,or_false] at h;rcases h with rfl;rfl) (by unfold maxLen;omega) (by omega) (by simp;omega) ?_;intro v' w7 ho7 hg7 hnil))
      have hal : Below wr.heap.size wr (World.alloc wr (.cells #[(.slice (some ⟨v7.heap.size,0,none⟩) Wd Wd)] 71)) := (Below.refl _ _).alloc (Nat.le_refl _) _
      have hB7 : Below v4.heap.size v4 w7 := below_grown (hB.trans (hal.mono hzw)) hg7 (ho.alloc _) (by simp;omega) (Nat.le_refl _)
      have hz7 : v7.heap.size < w7.heap.size := by have := hg7.size;simp at this;omega
      have hR7 := RowsG.push (TQ := 71) (TI := 3) (hi2 := w7.heap.size) (rows := ((List.range y).map (gridRow FS qs Wd i))) (g := gridRow FS qs Wd i y) (by decide) (by rw [List.length_map,List.length_range];exact ho.alloc _) (fun k u g h1 h2 => ⟨(hr k u g h1 h2).1.alloc _,(hr k u g h1 h2).2⟩) (by omega) (by rw [gridRow_len];exact HO.out.alloc _) (fun b e => by simp [Value.ownBlock] at e;omega) hg7 (by rw [List.length_map,List.length_range];exact ho7)
      rw [show ((List.range y).map (gridRow FS qs Wd i)) ++ [gridRow FS qs Wd i y] = ((List.range (y + 1)).map (gridRow FS qs Wd i)) from by rw [List.range_succ,List.map_append];rfl] at hR7
      have HR7 := hid hR7;clear hR7 ho hr HO HR ho7 hg7 hnil hB hal
      go_wp2_with fail
      go_roundg (D - (y + 1))
      case measure => have h := HGK.out;omega
      case rel => exact ⟨y + 1,by omega,rfl,by go_num,HR7.out,hB7⟩
   ·obtain rfl : y = D := by omega
    have hBw : Below w.heap.size w v7 := bnext (w := w) hb0 hB
    obtain ⟨us,ho,hr⟩ := HR.out
    have hLL := groupsAt_lists (lo := v4.heap.size) (gs := ((List.range y).map (gridRow FS qs Wd n))) ⟨us,ho,fun k u g h1 h2 => (hr k u g h1 h2).1⟩ (fun g hg z hz => by obtain ⟨y', -,rfl⟩ := List.mem_map.1 hg;exact gridRow_i64 (by omega) z hz)
    clear ho hr
    have HLL := hid hLL;clear hLL
    go_wp2_with fail
    go_ret2
    refine ⟨_,rfl,hBw, ?_⟩
    have h := HLL.out
    rw [show gridL _ FS qs = ((List.range y).map (gridRow FS qs Wd n)) from by unfold gridL;rw [HFN.out];simp]
    exact h
 ·have hr0 : rows = [] := by rw [← hr];unfold gridA;rw [if_neg (by rw [hc];exact hc0)]
  subst hr0
  have hcn : (c != 0) = true := by simpa using hc0
  have HC := hid hc;clear hc hr
  go_enter Tryz.func32,Tryz.ntmps32
  go_wp2_with fail
  refine (rCheckPack (h1.below (by go_grown)) (h2.below (by go_grown)) (hl.below (by go_grown)) (hp.below (by go_grown)) HC.out).mono ?_
  rintro e w1 ⟨rfl,hb⟩
  replace hb0 := bnext (w := w) (by go_grown) hb;have hz := hb.size;(try simp only [World.size_alloc,World.size_setCell] at hz);replace q0 : w1.cell? ⟨w.heap.size,0,none⟩ = some (vs) := bkeep hb (by first|with_reducible exact q0|with_reducible exact akeep q0|simp[*,go_sem]);replace q1 : w1.cell? ⟨w.heap.size,1,none⟩ = some (vb) := bkeep hb (by first|with_reducible exact q1|with_reducible exact akeep q1|simp[*,go_sem]);replace q2 : w1.cell? ⟨w.heap.size + 1,0,none⟩ = some (.int .i64 bid) := bkeep hb (by first|with_reducible exact q2|with_reducible exact akeep q2|simp[*,go_sem]);replace q3 : w1.cell? ⟨w.heap.size + 1,1,none⟩ = some (.int .i64 bwi) := bkeep hb (by first|with_reducible exact q3|with_reducible exact akeep q3|simp[*,go_sem]);replace q4 : w1.cell? ⟨w.heap.size + 1,2,none⟩ = some (.int .i64 bde) := bkeep hb (by first|with_reducible exact q4|with_reducible exact akeep q4|simp[*,go_sem]);replace q5 : w1.cell? ⟨w.heap.size + 1,3,none⟩ = some (.int .i64 bce) := bkeep hb (by first|with_reducible exact q5|with_reducible exact akeep q5|simp[*,go_sem]);replace q6 : w1.cell? ⟨w.heap.size + 1,4,none⟩ = some (.int .i64 bhi) := bkeep hb (by first|with_reducible exact q6|with_reducible exact akeep q6|simp[*,go_sem]);replace q7 : w1.cell? ⟨w.heap.size + 1,5,none⟩ = some (.int .i64 bbe) := bkeep hb (by first|with_reducible exact q7|with_reducible exact akeep q7|simp[*,go_sem]);clear hb
  go_wp2_with fail
  go_ret2
  exact ⟨_,rfl,hb0,lists_nil⟩
end Go.Proofs.YtodmidchpbcnpaaGreat
namespace Go.Proofs.YtodmidchpbcnpaaGreat
open Go.RowKit Go.Pb Go.Pb.Ware Go.Pb.Sag


theorem ex_c1 : nthA exRows [] ⟨1,3,2,110,100,3000⟩ exL 0 24 = ([⟨0,0,false⟩,⟨0,2,true⟩,⟨1,0,false⟩],0) := by decide +kernel
theorem ex_c2 : packsN exRows [] ⟨1,3,2,110,100,3000⟩ exL = 44 := by decide +kernel
theorem ex_c3 : ckL exRows [] ⟨1,3,2,110,100,3000⟩ exL = 0 := by decide +kernel
theorem ex_c4 : refuseA exRows [] ⟨1,3,2,110,100,3000⟩ [⟨1,3,4⟩] = (1, [0],0) := by decide +kernel
theorem ex_c5 : refuseA exRows [] ⟨1,3,3,110,100,3000⟩ [⟨1,1,5⟩,⟨1,1,5⟩] = (5, [0,1],0) := by decide +kernel
theorem ex_c6 : groupsA exRows [] ⟨1,3,2,110,100,3000⟩ [⟨1,1,5⟩,⟨1,1,5⟩,⟨1,2,4⟩] = ([[0,2], [1]],0) := by decide +kernel
theorem ex_c7 : footV exRows [] ⟨1,3,2,110,100,3000⟩ ⟨1,2,4⟩ = (⟨1,1,92,420⟩,0) := by rfl
theorem no_bodies {w : World} : RowsAt 7 w (.slice none 0 0) [] := .inl ⟨rfl,rfl⟩
theorem ex_spots {W : World} {v : Value} {d : Int} (hd : boxOk ⟨1,3,d,110,100,3000⟩ = true) {xs : List It} (h : FeetAt W v (feetV exRows [] ⟨1,3,d,110,100,3000⟩ xs)) :
  Calls Tryz.prog 129 #[.agg #[.int .i64 1, .int .i64 3, .int .i64 d, .int .i64 110, .int .i64 100, .int .i64 3000],v] W (fun e W' => ∃ u,e = .returned u ∧ Below W.heap.size W W' ∧ SpotsIn W.heap.size W'.heap.size u ((feetV exRows [] ⟨1,3,d,110,100,3000⟩ xs).map (spotsL ⟨1,3,d,110,100,3000⟩)) W' ∧ W.heap.size ≤ W'.heap.size) := spots_any hd feet_ok feet_len h
theorem foot_c {w : World} {sv lv : Value} (hr : RowsAt 11 w sv exRows)  : Calls Tryz.prog 12 #[.agg #[sv, .slice none 0 0], .agg #[.int .i64 1, .int .i64 3, .int .i64 2, .int .i64 110, .int .i64 100, .int .i64 3000], .agg #[.int .i64 1, .int .i64 2, .int .i64 4]] w (Ret w (.tuple #[.agg #[.int .i64 1, .int .i64 1, .int .i64 92, .int .i64 420], .int .i64 0])) := by
 have h := @Foot_any w _ _ _ _ hr no_bodies 1 3 2 110 100 3000 1 2 4 1 1 92 420 0 ex_c7
 rw [show (0 : Int) = 0 from rfl] at h
 exact h
theorem pack_c {w : World} {sv lv : Value} (hr : RowsAt 11 w sv exRows) (hl : RowsAt 3 w lv ((exL : List It).map rowX)) : Calls Tryz.prog 25 #[.agg #[sv, .slice none 0 0], .agg #[.int .i64 1, .int .i64 3, .int .i64 2, .int .i64 110, .int .i64 100, .int .i64 3000],lv] w (fun e w' => ∃ v,e = .returned (.tuple #[v, .int .i64 0]) ∧ Below w.heap.size w w' ∧ StAt w' v (([⟨0,0,false⟩,⟨0,2,true⟩,⟨1,0,false⟩] : List St).map toSq)) := by
 have h := Pack_any (bid := 1) (bwi := 3) (bde := 2) (bce := 110) (bhi := 100) (bbe := 3000) hr no_bodies hl (fun W v h => ex_spots (d := 2) (by decide) h)
 rw [ex_c1] at h
 refine h.mono ?_
 rintro e w1 ⟨v,rfl,hb,ho⟩
 exact ⟨v,rfl,hb,stAt_of_owns (qs := ([⟨0,0,false⟩,⟨0,2,true⟩,⟨1,0,false⟩] : List St).map toSq) ho⟩
theorem packs_c {w : World} {sv lv : Value} (hr : RowsAt 11 w sv exRows) (hl : RowsAt 3 w lv ((exL : List It).map rowX)) : Calls Tryz.prog 27 #[.agg #[sv, .slice none 0 0], .agg #[.int .i64 1, .int .i64 3, .int .i64 2, .int .i64 110, .int .i64 100, .int .i64 3000],lv] w (Ret w (.tuple #[.int .i64 44, .int .i64 0])) := by
 have h := Packs_any (bid := 1) (bwi := 3) (bde := 2) (bce := 110) (bhi := 100) (bbe := 3000) hr no_bodies hl (fun W v h => ex_spots (d := 2) (by decide) h)
 rw [ex_c2,ex_c3] at h
 exact h
theorem refuse_c1 {w : World} {sv lv : Value} (hr : RowsAt 11 w sv exRows) (hl : RowsAt 3 w lv (([⟨1,3,4⟩] : List It).map rowX)) : Calls Tryz.prog 43 #[.agg #[sv, .slice none 0 0], .agg #[.int .i64 1, .int .i64 3, .int .i64 2, .int .i64 110, .int .i64 100, .int .i64 3000],lv] w (fun e w' => ∃ v,e = .returned (.tuple #[.agg #[.int .i64 1,v], .int .i64 0]) ∧ Below w.heap.size w w' ∧ NumsAt w' v [0]) := by
 have h := Refuse_any (bid := 1) (bwi := 3) (bde := 2) (bce := 110) (bhi := 100) (bbe := 3000) hr no_bodies hl
 rw [ex_c4] at h
 exact h
theorem refuse_c2 {w : World} {sv lv : Value} (hr : RowsAt 11 w sv exRows) (hl : RowsAt 3 w lv (([⟨1,1,5⟩,⟨1,1,5⟩] : List It).map rowX)) : Calls Tryz.prog 43 #[.agg #[sv, .slice none 0 0], .agg #[.int .i64 1, .int .i64 3, .int .i64 3, .int .i64 110, .int .i64 100, .int .i64 3000],lv] w (fun e w' => ∃ v,e = .returned (.tuple #[.agg #[.int .i64 5,v], .int .i64 0]) ∧ Below w.heap.size w w' ∧ NumsAt w' v [0,1]) := by
 have h := Refuse_any (bid := 1) (bwi := 3) (bde := 3) (bce := 110) (bhi := 100) (bbe := 3000) hr no_bodies hl
 rw [ex_c5] at h
 exact h
theorem groups_c {w : World} {sv lv : Value} (hr : RowsAt 11 w sv exRows) (hl : RowsAt 3 w lv (([⟨1,1,5⟩,⟨1,1,5⟩,⟨1,2,4⟩] : List It).map rowX)) : Calls Tryz.prog 50 #[.agg #[sv, .slice none 0 0], .agg #[.int .i64 1, .int .i64 3, .int .i64 2, .int .i64 110, .int .i64 100, .int .i64 3000],lv] w (fun e w' => ∃ v,e = .returned (.tuple #[v, .int .i64 0]) ∧ Below w.heap.size w w' ∧ ListsAt v [[0,2], [1]] w') := by
 have h := Groups_any (bid := 1) (bwi := 3) (bde := 2) (bce := 110) (bhi := 100) (bbe := 3000) hr no_bodies hl
 rw [ex_c6] at h
 refine h.mono ?_
 rintro e w1 ⟨v,rfl,hb,hg⟩
 refine ⟨v,rfl,hb,groupsAt_lists hg ?_⟩
 have h2 : ∀ g ∈ ([[0,2], [1]] : List (List Int)), ∀ z ∈ g, -100000 ≤ z ∧ z ≤ 100000 := by decide
 exact fun g hg z hz => i64_small (h2 g hg z hz).1 (h2 g hg z hz).2
end Go.Proofs.YtodmidchpbcnpaaGreat