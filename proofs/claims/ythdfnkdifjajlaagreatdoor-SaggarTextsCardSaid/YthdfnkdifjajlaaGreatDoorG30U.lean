/- Part of a claim. -/
import Derived.Test.YthdfnkdifjajlaaGreatDoorG29U
import Derived.Test.YthdfnkdifjajlaaGreatDoorG26U
import Derived.Test.YthdfnkdifjajlaaGreatDoorKG50U
import Derived.Test.YthdfnkdifjajlaaGreatDoorG4U
import Derived.Test.YthdfnkdifjajlaaGreatDoorG24U
import Derived.Test.YthdfnkdifjajlaaGreatDoorKXaU
import Derived.Deep.LoopGhost
set_option linter.unusedVariables false
set_option linter.unusedSimpArgs false
namespace Go.Proofs.YthdfnkdifjajlaaGreatDoor
open Go.RowKit Go.Pb Go.Pb.Ware Go.Pb.Sag


open Go.Pb.Sag
def FirstRes (lo : Nat) (r : Option (List (List Int))) (e : Ending) (w' : World) : Prop := (∃ rs v,r = some rs ∧ e = .returned (.tuple #[v, .bool true]) ∧ GroupsAt lo v rs w') ∨ (r = none ∧ e = .returned (.tuple #[.slice none 0 0, .bool false]))
theorem groupsAt_base {lo lo2 : Nat} {v : Value} {gs : List (List Int)} {W : World} (h : GroupsAt lo v gs W) (hb : lo2 ≤ lo) : GroupsAt lo2 v gs W := by
 obtain ⟨us,h1,h2⟩ := h
 exact ⟨us,owns_base hb h1,fun k v g h3 h4 => owns_base hb (h2 k v g h3 h4)⟩
theorem groupsAt_nil (lo : Nat) (W : World) : GroupsAt lo (.slice none 0 0) [] W := ⟨[],World.ownsRow_nil _ _ _ _,fun k v g h => by simp at h⟩
set_option maxRecDepth 100000 in
set_option maxHeartbeats 1500000 in
theorem first_any {w : World} {n most : Nat} {ca cb : Value} {does : List Int → Bool} {Q : World → Prop} (hn : n ≤ 1000) (hmn : most ≤ n) (hQ : (∀ W W',Q W → Below w.heap.size W W' → Q W')) (hdo : (∀ (W : World) (v : Value) (g : List Int),Q W → NumsAt W v g → (∀ z ∈ g,0 ≤ z ∧ z < (n : Int)) → 0 < g.length → g.length ≤ n → g.Pairwise (· < ·) → Calls Tryz.prog 78 #[v,ca,cb] W (fun e W' => e = .returned (.bool (does g)) ∧ Q W' ∧ Above w.heap.size W W'))) (hq : Q w) :
  Calls Tryz.prog 77 #[.int .i64 (n : Int), .int .i64 (most : Int), .func (.func 78) #[] #[ca,cb]] w (fun e w' => Q w' ∧ w.heap.size ≤ w'.heap.size ∧ FirstRes w.heap.size (putG does most n 0 []) e w') := by
 have hmf : ∀ (fn : Fn) (first cap : Array Value) (w : World),(Instr.makeFunc fn first cap).run Tryz.prog w = .ok (.func fn first cap) w := fun _ _ _ _ => rfl
 have hsf : ∀ (w : World) (a : Addr) (m : Mode) (fn : Fn) (first captured : Array Value),(store a (.func fn first captured) m).run Tryz.prog w = stored Tryz.prog w a (.func fn first captured) m := fun w a m _ _ _ => run_store _ w a _ m rfl
 go_enter Tryz.func77,Tryz.ntmps77
 go_upto_region 3 with fail
 generalize hW3 : World.alloc (World.alloc (World.alloc (World.alloc (World.alloc w _) _) _) _) _ = W3
 have x0 : W3.cell? ⟨w.heap.size,0,none⟩ = some (.int .i64 (n : Int)) := by rw [← hW3];simp [go_sem]
 have x1 : W3.cell? ⟨w.heap.size + 1,0,none⟩ = some (.int .i64 (most : Int)) := by rw [← hW3];simp [go_sem]
 have x2 : W3.cell? ⟨w.heap.size + 1 + 1,0,none⟩ = some (.func (.func 78) #[] #[ca,cb]) := by rw [← hW3];simp [go_sem]
 have x3 : W3.cell? ⟨w.heap.size + 1 + 1 + 1,0,none⟩ = some (.slice none 0 0) := by rw [← hW3];simp [go_sem]
 have x4 : W3.cell? ⟨w.heap.size + 1 + 1 + 1 + 1,0,none⟩ = some (.nilFunc) := by rw [← hW3];simp [go_sem]
 have f3 : W3.frozen? ⟨w.heap.size + 1 + 1 + 1,0,none⟩ = false := by rw [← hW3];simp [go_sem]
 have f4 : W3.frozen? ⟨w.heap.size + 1 + 1 + 1 + 1,0,none⟩ = false := by rw [← hW3];simp [go_sem]
 have hs3 : W3.heap.size = w.heap.size + 5 := by rw [← hW3];simp
 have hb3 : Below w.heap.size w W3 := by rw [← hW3];go_grown
 have HS3 := hid hs3;clear hs3 hW3
 go_upto_region 4 with fail
 generalize hW4 : World.alloc W3 _ = W4
 have y5 : W4.cell? ⟨W3.heap.size,0,none⟩ = some (.func (.func 102) #[] #[.pointer (some ⟨w.heap.size + 1 + 1 + 1,0,none⟩), .pointer (some ⟨w.heap.size + 1 + 1,0,none⟩), .pointer (some ⟨w.heap.size + 1 + 1 + 1 + 1,0,none⟩)]) := by rw [← hW4];simp [go_sem]
 have y0 : W4.cell? ⟨w.heap.size,0,none⟩ = some (.int .i64 (n : Int)) := by rw [← hW4];exact akeep x0
 have y1 : W4.cell? ⟨w.heap.size + 1,0,none⟩ = some (.int .i64 (most : Int)) := by rw [← hW4];exact akeep x1
 have y2 : W4.cell? ⟨w.heap.size + 1 + 1,0,none⟩ = some (.func (.func 78) #[] #[ca,cb]) := by rw [← hW4];exact akeep x2
 have y3 : W4.cell? ⟨w.heap.size + 1 + 1 + 1,0,none⟩ = some (.slice none 0 0) := by rw [← hW4];exact akeep x3
 have y4 : W4.cell? ⟨w.heap.size + 1 + 1 + 1 + 1,0,none⟩ = some (.nilFunc) := by rw [← hW4];exact akeep x4
 have g3 : W4.frozen? ⟨w.heap.size + 1 + 1 + 1,0,none⟩ = false := by rw [← hW4];exact afree x3 f3
 have g4 : W4.frozen? ⟨w.heap.size + 1 + 1 + 1 + 1,0,none⟩ = false := by rw [← hW4];exact afree x4 f4
 have hs4 : W4.heap.size = w.heap.size + 6 := by rw [← hW4,World.size_alloc];have := HS3.out;omega
 have hb4 : Below w.heap.size w W4 := by rw [← hW4];exact hb3.alloc (by have := HS3.out;omega) _
 have HS4 := hid hs4
 clear hs4 hW4 hb3 x0 x1 x2 x3 x4 f3 f4
 go_upto_region 5 with fail
 generalize hW0 : World.setCell W4 _ _ = W0
 have hs0 : W0.heap.size = w.heap.size + 6 := by rw [← hW0];have := HS4.out;simp;omega
 have hb0 : Below w.heap.size w W0 := by rw [← hW0];exact hb4.setCell (p := ⟨w.heap.size + 1 + 1 + 1 + 1,0,none⟩) (by show w.heap.size ≤ w.heap.size + 1 + 1 + 1 + 1;omega) _
 have hP0 : PartsAt w.heap.size 73 3 [] W0 := by
  refine ⟨.slice none 0 0, [],⟨?_, ?_⟩,World.ownsRow_nil _ _ _ _,fun k v g h => by simp at h,fun j k u v h h1 => by simp at h1,by omega⟩
  ·rw [← hW0];exact setc_block y3 (by omega)
  ·rw [← hW0];exact set_free y3 g3
 have hB0 : BoxesAt w.heap.size (.int .i64 (n : Int)) (.int .i64 (most : Int)) (.func (.func 78) #[] #[ca,cb]) (.func (.func 103) #[] #[.pointer (some ⟨w.heap.size,0,none⟩), .pointer (some ⟨w.heap.size + 3,0,none⟩), .pointer (some ⟨w.heap.size + 5,0,none⟩), .pointer (some ⟨w.heap.size + 1,0,none⟩)]) (.func (.func 102) #[] #[.pointer (some ⟨w.heap.size + 3,0,none⟩), .pointer (some ⟨w.heap.size + 2,0,none⟩), .pointer (some ⟨w.heap.size + 4,0,none⟩)]) W0 := by
  have z5 := y5
  rw [HS3.out] at z5 hW0
  rw [← hW0]
  exact ⟨setc_block y0 (by omega),setc_block y1 (by omega),setc_block y2 (by omega),setc_same y4,setc_block z5 (by omega)⟩
 have b4 := hB0.2.2.2.1
 clear hW0 hb4 y0 y1 y2 y3 y4 y5 g3 g4
 rw [HS3.out]
 go_wp2_with fail
 have hq0 := hQ _ _ hq hb0
 refine (puts_any (B := w.heap.size) hn hmn hQ hdo n 0 [] W0 (by omega) GoodR.nil (by simp) hP0 hB0 hq0).mono ?_
 unfold PutsRes
 rintro e w1 ⟨hq1,hB1,⟨rs,hrs,rfl,hP1⟩ | ⟨hrs,rfl,hP1⟩⟩
 ·have hgd := putG_good _ _ _ _ GoodR.nil (by simp) hrs
  obtain ⟨gv,vs,d1,ho,hr,hA,hz⟩ := hP1
  obtain ⟨ga,gcap,rfl, -⟩ := owns_shape ho
  have q0 := d1.1
  have HRS := hid hrs;clear hrs
  go_wp2_with fail
  refine (copied_any hgd.1.1 (by omega) (by omega) ho hr).mono ?_
  rintro e w2 ⟨v,rfl,hb2,hg2⟩
  have hq2 := hQ _ _ hq1 (hb2.mono (by omega))
  have hz2 := hb2.size
  go_wp2_with fail
  go_ret2
  exact ⟨hq2,by omega, .inl ⟨rs,v,HRS.out,rfl,groupsAt_base hg2 (by omega)⟩⟩
 ·obtain ⟨gv,vs,d1,ho,hr,hA,hz⟩ := hP1
  have HRS := hid hrs;clear hrs
  go_wp2_with fail
  go_ret2
  exact ⟨hq1,by omega, .inr ⟨HRS.out,rfl⟩⟩
set_option maxRecDepth 100000 in
set_option maxHeartbeats 1500000 in
theorem fewest_any {w : World} {n : Nat} {ca cb : Value} {does : List Int → Bool} {Q : World → Prop} (hn : n ≤ 1000) (hQ : (∀ W W',Q W → Below w.heap.size W W' → Q W')) (hdo : (∀ (W : World) (v : Value) (g : List Int),Q W → NumsAt W v g → (∀ z ∈ g,0 ≤ z ∧ z < (n : Int)) → 0 < g.length → g.length ≤ n → g.Pairwise (· < ·) → Calls Tryz.prog 78 #[v,ca,cb] W (fun e W' => e = .returned (.bool (does g)) ∧ Q W' ∧ Above w.heap.size W W'))) (hq : Q w) :
  Calls Tryz.prog 47 #[.int .i64 (n : Int), .func (.func 78) #[] #[ca,cb]] w (fun e w' => Q w' ∧ w.heap.size ≤ w'.heap.size ∧ FirstRes w.heap.size (fewG does n) e w') := by
 unfold FirstRes
 have HQ := hid hQ;have HDO := hid hdo;clear hQ hdo
 go_enter Tryz.func47,Tryz.ntmps47
 go_wp2_with fail
 go_loopg [11] n (fun gk iv wr => ∃ i : Nat,i ≤ n ∧ gk = n - i ∧ iv = .int .i64 i ∧ Q wr ∧ w.heap.size ≤ wr.heap.size ∧ (∀ j,j < i → does [(j : Int)] = true))
 case atStart => exact ⟨0,Nat.zero_le _,rfl,rfl,hq,Nat.le_refl _,fun j h => by omega⟩
 case round =>
  clear hq
  obtain ⟨i,hi,hgk,rfl,hq,hz,ho⟩ := hrel
  have HGK := hid hgk;have HO := hid ho;clear hgk ho
  by_cases hlt : i < n
  ·have hki : (i : Int) < (n : Int) := by omega
   go_wp2_with fail
   obtain ⟨b,hbb⟩ : ∃ b,does [(i : Int)] = b := ⟨_,rfl⟩
   have hnum : NumsAt (wr.alloc (.cells #[.int .i64 (i : Int)] 3)) (.slice (some ⟨wr.heap.size,0,none⟩) 1 1) [(i : Int)] := numsAt_of_owns (base := wr.heap.size) (e := 3) (fun z hz => by rw [List.mem_singleton.1 hz];exact I64.mk (by omega) (by omega)) ⟨rfl, .inr ⟨wr.heap.size,1,#[.int .i64 (i : Int)],rfl,Nat.le_refl _,World.alloc_heap_new wr _,Nat.le_refl _,by unfold maxLen;omega,rfl,rfl⟩⟩
   have hbl : Below w.heap.size wr (wr.alloc (.cells #[.int .i64 (i : Int)] 3)) := ((Below.refl _ wr).alloc (Nat.le_refl _) _).mono hz
   refine (HDO.out _ _ [(i : Int)] (HQ.out _ _ hq hbl) hnum (fun z hz => by rw [List.mem_singleton.1 hz];omega) (by simp) (by simp;omega) (List.pairwise_singleton _ _)).mono ?_
   clear hnum hbl
   rintro e w2 ⟨rfl,hq2,ha2⟩
   rw [hbb]
   have hz2 : w.heap.size ≤ w2.heap.size := by have := ha2.size;simp at this;omega
   have HBB := hid hbb;clear hbb ha2 hq
   cases b
   ·have hf : fewG does n = none := by unfold fewG;rw [if_neg];intro h;have h2 := List.all_eq_true.1 h i (List.mem_range.2 hlt);rw [HBB.out] at h2;cases h2
    have HF := hid hf;clear hf
    go_wp2_with fail
    go_ret2
    exact ⟨hq2,hz2, .inr ⟨HF.out,rfl⟩⟩
   ·go_wp2_with fail
    go_roundg (n - (i + 1))
    case measure => have h := HGK.out;omega
    case rel => exact ⟨i + 1,by omega,rfl,by go_num,hq2,hz2,fun j hj => by (rcases Nat.lt_or_ge j i with h3 | h3);exact HO.out j h3;rw [show j = i by omega];exact HBB.out⟩
  ·obtain rfl : i = n := by omega
   have hfw : fewG does i = (List.range (i + 1)).findSome? (fun m => putG does m i 0 []) := by unfold fewG;rw [if_pos (List.all_eq_true.2 fun j hj => HO.out j (List.mem_range.1 hj))]
   have HF := hid hfw;clear hfw
   go_wp2_with fail
   go_loopg [21] i (fun gk mv wr => ∃ m : Nat,m ≤ i ∧ gk = i - m ∧ mv = .int .i64 m ∧ Q wr ∧ w.heap.size ≤ wr.heap.size ∧ (∀ j,j < m → putG does j i 0 [] = none))
   case atStart => exact ⟨0,Nat.zero_le _,rfl,rfl,hq,hz,fun j h => by omega⟩
   case round =>
    clear hq hz
    obtain ⟨m,hm,hgk2,rfl,hq,hz,hno⟩ := hrel
    have HGK2 := hid hgk2;have HNO := hid hno;clear hgk2 hno
    by_cases hlt2 : m < i
    ·have hmi : (m : Int) < (i : Int) := by omega
     go_wp2_with fail
     refine (first_any (w := wr) (n := i) (most := m) hn (by omega) (fun W W' h1 h2 => HQ.out W W' h1 (h2.mono (by omega))) (fun W v g h1 h2 h3 h4 h5 h6 => (HDO.out W v g h1 h2 h3 h4 h5 h6).mono fun e W' h => ⟨h.1,h.2.1,h.2.2.mono (by omega)⟩) hq).mono ?_
     unfold FirstRes
     rintro e w3 ⟨hq3,hz3,⟨rs,v,hrs,rfl,hg3⟩ | ⟨hrs,rfl⟩⟩
     ·have HRS := hid hrs;clear hrs
      go_wp2_with fail
      go_ret2
      exact ⟨hq3,by omega, .inl ⟨rs,v,by rw [HF.out];exact find_here (k := m) (by omega) HNO.out HRS.out,rfl,groupsAt_base hg3 hz⟩⟩
     ·have HRS := hid hrs;clear hrs
      go_wp2_with fail
      go_roundg (i - (m + 1))
      case measure => have h := HGK2.out;omega
      case rel => exact ⟨m + 1,by omega,rfl,by go_num,hq3,by omega,fun j hj => by (rcases Nat.lt_or_ge j m with h3 | h3);exact HNO.out j h3;rw [show j = m by omega];exact HRS.out⟩
    ·obtain rfl : m = i := by omega
     go_wp2_with fail
     refine (first_any (w := wr) (n := m) (most := m) hn (Nat.le_refl _) (fun W W' h1 h2 => HQ.out W W' h1 (h2.mono (by omega))) (fun W v g h1 h2 h3 h4 h5 h6 => (HDO.out W v g h1 h2 h3 h4 h5 h6).mono fun e W' h => ⟨h.1,h.2.1,h.2.2.mono (by omega)⟩) hq).mono ?_
     unfold FirstRes
     rintro e w3 ⟨hq3,hz3,⟨rs,v,hrs,rfl,hg3⟩ | ⟨hrs,rfl⟩⟩
     ·have HRS := hid hrs;clear hrs
      go_wp2_with fail
      go_ret2
      exact ⟨hq3,by omega, .inl ⟨rs,v,by rw [HF.out];exact find_here (k := m) (by omega) HNO.out HRS.out,rfl,groupsAt_base hg3 hz⟩⟩
     ·exfalso
      obtain ⟨r,hr⟩ := putG_some (does := does) (most := m) m 0 [] (fun j h1 h2 => HO.out j (by omega)) (by omega) (by simp)
      rw [hr] at hrs;cases hrs
set_option maxRecDepth 100000 in
set_option maxHeartbeats 1000000 in
theorem fitting1_any {w : World} {X : Nat} {bid bwi bde bce bhi bbe : Int} {v fv : Value} {fs : List Ft} {g : List Int} (hX : boxOk ⟨bid,bwi,bde,bce,bhi,bbe⟩ = true) (hok : ∀ f ∈ fs,FtOk f) (hfn : fs.length ≤ 1000) (hbx : w.cell? ⟨X,0,none⟩ = some (.int .i64 bid) ∧ w.cell? ⟨X,1,none⟩ = some (.int .i64 bwi) ∧ w.cell? ⟨X,2,none⟩ = some (.int .i64 bde) ∧ w.cell? ⟨X,3,none⟩ = some (.int .i64 bce) ∧ w.cell? ⟨X,4,none⟩ = some (.int .i64 bhi) ∧ w.cell? ⟨X,5,none⟩ = some (.int .i64 bbe)) (hfv : w.cell? ⟨X + 1,0,none⟩ = some fv) (hf : FeetAt w fv fs) (hi : NumsAt w v g) (hgl : g.length ≤ 5) (hz : ∀ z ∈ g,0 ≤ z ∧ z < (fs.length : Int)) :
  Calls Tryz.prog 78 #[v, .pointer (some ⟨X,0,none⟩), .pointer (some ⟨X + 1,0,none⟩)] w (Ret w (.bool (fitsB ⟨bid,bwi,bde,bce,bhi,bbe⟩ (chosenL fs g)))) := by
 unfold Ret
 obtain ⟨x0,x1,x2,x3,x4,x5⟩ := hbx
 obtain ⟨va,vc,rfl,hvl,hvc⟩ := hi.shape
 obtain ⟨fa,fc,rfl,hfl⟩ := hf.shape
 rw [List.length_map] at hf hfl hfv
 obtain ⟨cs,hcs⟩ : ∃ cs,chosenL fs g = cs := ⟨_,rfl⟩
 obtain ⟨tb,htb⟩ : ∃ tb,fitsB ⟨bid,bwi,bde,bce,bhi,bbe⟩ cs = tb := ⟨_,rfl⟩
 have hok1 := chosen_ok hok hz
 have hn1 : (chosenL fs g).length ≤ 5 := by unfold chosenL;rw [List.length_map];exact hgl
 rw [hcs] at hok1 hn1
 have hch : ∀ W' : World,Below w.heap.size w W' → Calls Tryz.prog 76 #[.slice fa fs.length fc, .slice va g.length vc] W' (fun e w'' => ∃ u,e = .returned u ∧ Below W'.heap.size W' w'' ∧ w''.ownsRow w.heap.size 66 4 u cs.length (cs.flatMap cellsF)) := fun W' hb => by
  rw [← hcs];refine (chosen_any (hf.below hb) (by omega) (hi.below hb) (by omega) hz).mono ?_
  rintro e w'' ⟨u,rfl,h2,h3⟩
  exact ⟨u,rfl,h2,owns_base hb.size h3⟩
 have htr : ∀ (W' : World) (u : Value),W'.ownsRow w.heap.size 66 4 u cs.length (cs.flatMap cellsF) → Calls Tryz.prog 74 #[.agg #[.int .i64 bid, .int .i64 bwi, .int .i64 bde, .int .i64 bce, .int .i64 bhi, .int .i64 bbe],u] W' (Ret W' (.bool tb)) := fun W' u h => fits_any htb hX (feetAt_of_owns hok1 h) hok1 hn1
 rw [hcs,htb]
 have HCH := hid hch;have HTR := hid htr;clear hch htr hok1 hn1 htb hcs
 go_enter Tryz.func78,Tryz.ntmps78
 go_upto_region 1 with fail
 refine wp_region_Rs [(3,fun v W => W.ownsRow w.heap.size 66 4 v cs.length (cs.flatMap cellsF)),(4,fun v _ => v = .bool tb)] [0,1,2,3,4] 1 (by kernel_rfl) rfl (by simp only [List.forall_mem_cons];exact ⟨keeps_owns,keeps_eq,fun _ h => by cases h⟩) (by kernel_rfl) ?_
 simp only [numbered,List.filterMap_cons,List.filterMap_nil,List.getElem?_toArray,List.getElem?_cons_succ,List.getElem?_cons_zero,Option.map_some]
 show wpS _ _ _ _ _ _ _ [(_,_),(_,_),(_,_),(_,_),(_,_)] _ _
 (refine wpS_quiet rfl rfl ?_;intro K hK inst hx;have s0 := fun x => (fun _ => bkeep (BQ.below x) x0) (hx x);have s1 := fun x => (fun _ => bkeep (BQ.below x) x1) (hx x);have s2 := fun x => (fun _ => bkeep (BQ.below x) x2) (hx x);have s3 := fun x => (fun _ => bkeep (BQ.below x) x3) (hx x);have s4 := fun x => (fun _ => bkeep (BQ.below x) x4) (hx x);have s5 := fun x => (fun _ => bkeep (BQ.below x) x5) (hx x);go_big_quiet_op;(first | go_big_quiet_on | (refine ⟨_,fun _ => rfl, ?_⟩;go_big_quiet_on));clear hx inst)
 (refine wpS_quiet rfl rfl ?_;intro K hK inst hx;have s9 := fun x => (fun _ => bkeep (BQ.below x) hfv) (hx x);go_big_quiet_op;(first | go_big_quiet_on | (refine ⟨_,fun _ => rfl, ?_⟩;go_big_quiet_on));clear hx inst)
 (refine wpS_quiet rfl rfl ?_;intro K hK inst hx;go_big_quiet_op;(first | go_big_quiet_on | (refine ⟨_,fun _ => rfl, ?_⟩;go_big_quiet_on));clear hx inst)
 refine wpS_fresh rfl rfl (fun w' hb hF => ?_) ?_
 ·change freshAt _ _ _ (fun v W => W.ownsRow w.heap.size 66 4 v cs.length (cs.flatMap cellsF)) _;unfold freshAt;go_simp;exact HCH.out _ hb
 intro v W hv;simp only [pOf,List.lookup_cons,Nat.reduceBEq,beq_self_eq_true] at hv;obtain ⟨ca,cc,rfl, -⟩ := owns_shape hv
 simp only [Act.put,List.setIfInBounds_toArray,List.set_cons_succ,List.set_cons_zero]
 refine wpS_fresh rfl rfl (fun w' hb hF => ?_) ?_
 ·change freshAt _ _ _ (fun v _ => v = .bool tb) _;have h4 := hF 3 _ rfl (by kernel_rfl);unfold freshAt;go_simp;exact HTR.out _ _ h4
 intro v W hv;simp only [pOf,List.lookup_cons,Nat.reduceBEq,beq_self_eq_true] at hv;subst hv
 simp only [Act.put,List.setIfInBounds_toArray,List.set_cons_succ,List.set_cons_zero]
 refine wpS_nil ?_
 intro w3 hall
 have hb := hall.1
 clear hall
 refine wpAny_ready (rs := [5]) (by kernel_rfl) (by simp) ?_
 refine AllReady.cons rfl (fun K hK => ?_) AllReady.nil
 go_simp
 refine hK _ _ ?_;clear hK K
 refine wpAny_done (by kernel_rfl) ?_ _
 go_wp2_with fail
 go_ret
 exact ⟨rfl,hb⟩
set_option maxRecDepth 100000 in
set_option maxHeartbeats 1000000 in
theorem fitting_any {w : World} {bid bwi bde bce bhi bbe : Int} {fa : Option Addr} {fn fc : Nat} :
  Calls Tryz.prog 48 #[.agg #[.int .i64 bid, .int .i64 bwi, .int .i64 bde, .int .i64 bce, .int .i64 bhi, .int .i64 bbe], .slice fa fn fc] w (fun e w' => e = .returned (.func (.func 78) #[] #[.pointer (some ⟨w.heap.size,0,none⟩), .pointer (some ⟨w.heap.size + 1,0,none⟩)]) ∧ Below w.heap.size w w' ∧ w'.heap.size = w.heap.size + 2 ∧ (w'.cell? ⟨w.heap.size,0,none⟩ = some (.int .i64 bid) ∧ w'.cell? ⟨w.heap.size,1,none⟩ = some (.int .i64 bwi) ∧ w'.cell? ⟨w.heap.size,2,none⟩ = some (.int .i64 bde) ∧ w'.cell? ⟨w.heap.size,3,none⟩ = some (.int .i64 bce) ∧ w'.cell? ⟨w.heap.size,4,none⟩ = some (.int .i64 bhi) ∧ w'.cell? ⟨w.heap.size,5,none⟩ = some (.int .i64 bbe)) ∧ w'.cell? ⟨w.heap.size + 1,0,none⟩ = some (.slice fa fn fc)) := by
 have hmf : ∀ (fn : Fn) (first cap : Array Value) (w : World),(Instr.makeFunc fn first cap).run Tryz.prog w = .ok (.func fn first cap) w := fun _ _ _ _ => rfl
 go_enter Tryz.func48,Tryz.ntmps48
 go_wp2_with fail
 go_ret
 exact ⟨rfl,by go_grown,by simp,⟨by simp [go_sem],by simp [go_sem],by simp [go_sem],by simp [go_sem],by simp [go_sem],by simp [go_sem]⟩,by simp [go_sem]⟩
def GroupsRes (r : List (List Int) × Int) (W : World) (e : Ending) (w' : World) : Prop := ∃ v,e = .returned (.tuple #[v, .int .i64 r.2]) ∧ Below W.heap.size W w' ∧ GroupsAt W.heap.size v r.1 w'
theorem one_fits {s : Bx} {fs : List Ft} {j : Nat} (h : j < fs.length) : chosenL fs [(j : Int)] = [fs[j]] := by
 unfold chosenL
 simp [List.getD_eq_getElem?_getD,List.getElem?_eq_getElem h]
theorem all_fits {s : Bx} {fs : List Ft} : (List.range fs.length).all (fun j => fitsB s (chosenL fs [(j : Int)])) = fs.all (fun f => fitsB s [f]) := by
 rw [Bool.eq_iff_iff,List.all_eq_true,List.all_eq_true]
 constructor
 ·intro h f hf
  obtain ⟨j,hj,rfl⟩ := List.getElem_of_mem hf
  have := h j (List.mem_range.2 hj)
  rw [one_fits (s := s) hj] at this
  exact this
 ·intro h j hj
  have hj2 := List.mem_range.1 hj
  rw [one_fits (s := s) hj2]
  exact h _ (List.getElem_mem hj2)
theorem few_groups {s : Bx} {fs : List Ft} : fewG (fun g => fitsB s (chosenL fs g)) fs.length = if fs.all (fun f => fitsB s [f]) = true then groupsF s fs else none := by
 unfold fewG
 rw [all_fits]
 split
 ·rename_i h
  unfold groupsF
  congr 1
  funext m
  refine putG_F _ _ _ fun j _ h2 => ?_
  rw [one_fits (s := s) (by omega)]
  exact List.all_eq_true.1 h _ (List.getElem_mem _)
 ·rfl
set_option maxRecDepth 100000 in
set_option maxHeartbeats 1000000 in
theorem Groups_any {w : World} {vs vb : Value} {ss bs : List (List Int)} (h1 : RowsAt 11 w vs ss) (h2 : RowsAt 7 w vb bs) {lv : Value} {xs : List It} {bid bwi bde bce bhi bbe : Int} (hl : RowsAt 3 w lv (xs.map rowX)) :
  Calls Tryz.prog 27 #[.agg #[vs,vb], .agg #[.int .i64 bid, .int .i64 bwi, .int .i64 bde, .int .i64 bce, .int .i64 bhi, .int .i64 bbe],lv] w (GroupsRes (groupsA ss bs ⟨bid,bwi,bde,bce,bhi,bbe⟩ xs) w) := by
 obtain ⟨la,lc,rfl,hll⟩ := hl.shape
 rw [List.length_map] at hl hll ⊢
 obtain ⟨c,hc⟩ : ∃ c,ckL ss bs ⟨bid,bwi,bde,bce,bhi,bbe⟩ xs = c := ⟨_,rfl⟩
 unfold GroupsRes
 by_cases hc0 : c = 0
 ·subst hc0
  obtain ⟨hw,hX,hxl, -⟩ := ckL_0 hc
  obtain ⟨fs,hfs⟩ : ∃ fs,(feetV ss bs ⟨bid,bwi,bde,bce,bhi,bbe⟩ xs) = fs := ⟨_,rfl⟩
  have hok : ∀ f ∈ fs,FtOk f := hfs ▸ feet_ok
  have hn : fs.length ≤ 5 := hfs ▸ feet_len
  have hxf : xs.length = fs.length := by rw [← hfs,feetV_0 hc,List.length_map]
  have hR : groupsA ss bs ⟨bid,bwi,bde,bce,bhi,bbe⟩ xs = if fs.all (fun f => fitsB ⟨bid,bwi,bde,bce,bhi,bbe⟩ [f]) = true then ((groupsF ⟨bid,bwi,bde,bce,bhi,bbe⟩ fs).getD [],0) else ([],24) := by unfold groupsA;rw [if_pos hc,hfs]
  rw [hxf] at hl hll ⊢
  have HR := hid hR
  have HFS := hid hfs;have HC := hid hc;have HX := hid hX;clear hc hw hX hfs hR hxf
  go_enter Tryz.func27,Tryz.ntmps27
  go_wp2_with fail
  refine (Feet_any (h1.below (by go_grown)) (h2.below (by go_grown)) (hl.below (by go_grown))).mono ?_
  rintro e w1 ⟨fv,rfl,hb,ho⟩
  replace hb0 := bnext (w := w) (by go_grown) hb;have hz := hb.size;(try simp only [World.size_alloc,World.size_setCell] at hz);replace q0 : w1.cell? ⟨w.heap.size,0,none⟩ = some (vs) := bkeep hb (by first|with_reducible exact q0|with_reducible exact akeep q0|simp[*,go_sem]);replace q1 : w1.cell? ⟨w.heap.size,1,none⟩ = some (vb) := bkeep hb (by first|with_reducible exact q1|with_reducible exact akeep q1|simp[*,go_sem]);replace q2 : w1.cell? ⟨w.heap.size + 1,0,none⟩ = some (.int .i64 bid) := bkeep hb (by first|with_reducible exact q2|with_reducible exact akeep q2|simp[*,go_sem]);replace q3 : w1.cell? ⟨w.heap.size + 1,1,none⟩ = some (.int .i64 bwi) := bkeep hb (by first|with_reducible exact q3|with_reducible exact akeep q3|simp[*,go_sem]);replace q4 : w1.cell? ⟨w.heap.size + 1,2,none⟩ = some (.int .i64 bde) := bkeep hb (by first|with_reducible exact q4|with_reducible exact akeep q4|simp[*,go_sem]);replace q5 : w1.cell? ⟨w.heap.size + 1,3,none⟩ = some (.int .i64 bce) := bkeep hb (by first|with_reducible exact q5|with_reducible exact akeep q5|simp[*,go_sem]);replace q6 : w1.cell? ⟨w.heap.size + 1,4,none⟩ = some (.int .i64 bhi) := bkeep hb (by first|with_reducible exact q6|with_reducible exact akeep q6|simp[*,go_sem]);replace q7 : w1.cell? ⟨w.heap.size + 1,5,none⟩ = some (.int .i64 bbe) := bkeep hb (by first|with_reducible exact q7|with_reducible exact akeep q7|simp[*,go_sem]);skip
  clear hb
  rw [HC.out]
  rw [HFS.out] at ho
  have hfa := feetAt_of_owns hok ho
  obtain ⟨fa,fc,rfl,hfl⟩ := owns_shape ho
  have hz1 := hb0.size
  clear ho HC
  go_wp2_with fail
  refine fitting_any.mono ?_
  rintro e w2 ⟨rfl,hb2,hs2,hbx,hfv⟩
  have hb02 := bnext (w := w) hb0 hb2
  go_wp2_with fail
  refine (fewest_any (w := w2) (n := fs.length) (does := fun g => fitsB ⟨bid,bwi,bde,bce,bhi,bbe⟩ (chosenL fs g)) (Q := fun W => Below w2.heap.size w2 W) (by omega) (fun W W' h1 h2 => h1.trans h2) (fun W v g hq hv hz h0 h1 h2 => ?_) (Below.refl _ _)).mono ?_
  ·refine (fitting1_any (X := w1.heap.size) HX.out hok (by omega) ⟨bkeep hq hbx.1,bkeep hq hbx.2.1,bkeep hq hbx.2.2.1,bkeep hq hbx.2.2.2.1,bkeep hq hbx.2.2.2.2.1,bkeep hq hbx.2.2.2.2.2⟩ (bkeep hq hfv) ((hfa.below hb2).below hq) hv (by omega) hz).mono ?_
   rintro e W' ⟨rfl,hb⟩
   exact ⟨rfl,hq.trans (hb.mono hq.size),Above.of_below hb⟩
  unfold FirstRes
  rw [few_groups]
  rintro e w3 ⟨hb3,hz3,⟨rs,v,hrs,rfl,hg3⟩ | ⟨hrs,rfl⟩⟩
  ·have hR2 : groupsA ss bs ⟨bid,bwi,bde,bce,bhi,bbe⟩ xs = (rs,0) := by rw [HR.out];split at hrs;(rename_i h;rw [if_pos h,hrs];rfl);cases hrs
   have HR2 := hid hR2;clear hR2 hrs
   go_wp2_with fail
   go_ret2
   rw [HR2.out]
   exact ⟨_,rfl,bnext (w := w) hb02 hb3,groupsAt_base hg3 (by omega)⟩
  ·have hR2 : groupsA ss bs ⟨bid,bwi,bde,bce,bhi,bbe⟩ xs = ([],24) := by
    rw [HR.out];split at hrs
    ·rename_i h
     exfalso
     have h1 := few_groups (s := ⟨bid,bwi,bde,bce,bhi,bbe⟩) (fs := fs)
     rw [if_pos h,hrs] at h1
     unfold fewG at h1
     rw [all_fits,if_pos h] at h1
     obtain ⟨r,hr⟩ := putG_some (does := fun g => fitsB ⟨bid,bwi,bde,bce,bhi,bbe⟩ (chosenL fs g)) (most := fs.length) fs.length 0 [] (fun j _ h2 => by have h3 : (List.range fs.length).all (fun j => fitsB ⟨bid,bwi,bde,bce,bhi,bbe⟩ (chosenL fs [(j : Int)])) = true := all_fits.trans h;exact List.all_eq_true.1 h3 j (List.mem_range.2 (by omega))) (by omega) (by simp)
     have h4 := List.findSome?_eq_none_iff.1 h1 fs.length (List.mem_range.2 (by omega))
     rw [hr] at h4;cases h4
    ·rename_i h
     rw [if_neg h]
   have HR2 := hid hR2;clear hR2 hrs
   go_wp2_with fail
   go_ret2
   rw [HR2.out]
   exact ⟨_,rfl,bnext (w := w) hb02 hb3,groupsAt_nil _ _⟩
 ·have hR : groupsA ss bs ⟨bid,bwi,bde,bce,bhi,bbe⟩ xs = ([],c) := by unfold groupsA;rw [if_neg (by rw [hc];exact hc0),hc]
  rw [hR]
  have hcn : (c != 0) = true := by simpa using hc0
  have HC := hid hc;clear hc hR
  go_enter Tryz.func27,Tryz.ntmps27
  go_wp2_with fail
  refine (Feet_any (h1.below (by go_grown)) (h2.below (by go_grown)) (hl.below (by go_grown))).mono ?_
  rintro e w1 ⟨fv,rfl,hb,ho⟩
  replace hb0 := bnext (w := w) (by go_grown) hb;have hz := hb.size;(try simp only [World.size_alloc,World.size_setCell] at hz);replace q0 : w1.cell? ⟨w.heap.size,0,none⟩ = some (vs) := bkeep hb (by first|with_reducible exact q0|with_reducible exact akeep q0|simp[*,go_sem]);replace q1 : w1.cell? ⟨w.heap.size,1,none⟩ = some (vb) := bkeep hb (by first|with_reducible exact q1|with_reducible exact akeep q1|simp[*,go_sem]);replace q2 : w1.cell? ⟨w.heap.size + 1,0,none⟩ = some (.int .i64 bid) := bkeep hb (by first|with_reducible exact q2|with_reducible exact akeep q2|simp[*,go_sem]);replace q3 : w1.cell? ⟨w.heap.size + 1,1,none⟩ = some (.int .i64 bwi) := bkeep hb (by first|with_reducible exact q3|with_reducible exact akeep q3|simp[*,go_sem]);replace q4 : w1.cell? ⟨w.heap.size + 1,2,none⟩ = some (.int .i64 bde) := bkeep hb (by first|with_reducible exact q4|with_reducible exact akeep q4|simp[*,go_sem]);replace q5 : w1.cell? ⟨w.heap.size + 1,3,none⟩ = some (.int .i64 bce) := bkeep hb (by first|with_reducible exact q5|with_reducible exact akeep q5|simp[*,go_sem]);replace q6 : w1.cell? ⟨w.heap.size + 1,4,none⟩ = some (.int .i64 bhi) := bkeep hb (by first|with_reducible exact q6|with_reducible exact akeep q6|simp[*,go_sem]);replace q7 : w1.cell? ⟨w.heap.size + 1,5,none⟩ = some (.int .i64 bbe) := bkeep hb (by first|with_reducible exact q7|with_reducible exact akeep q7|simp[*,go_sem]);skip
  clear hb
  rw [HC.out]
  go_wp2_with fail
  go_ret2
  exact ⟨_,rfl,by go_grown,groupsAt_nil _ _⟩
end Go.Proofs.YthdfnkdifjajlaaGreatDoor