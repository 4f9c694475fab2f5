/- Part of a claim. -/
import Derived.Test.YtodmidchpbcnpaaGreatG51Y
import Derived.Test.YtodmidchpbcnpaaGreatKSkY
import Derived.Test.YtodmidchpbcnpaaGreatKG14Y
import Derived.Deep.LoopGhost
set_option linter.unusedVariables false
set_option linter.unusedSimpArgs false
namespace Go.Proofs.YtodmidchpbcnpaaGreat
open Go.RowKit Go.Pb Go.Pb.Ware Go.Pb.Sag


set_option maxRecDepth 100000 in
set_option maxHeartbeats 4000000 in
theorem rIsStand_any {w : World} {bid bwi bde bce bhi bbe fw fd fh fg : Int} (hX : boxOk ⟨bid,bwi,bde,bce,bhi,bbe⟩ = true) (hF : FtOk ⟨fw,fd,fh,fg⟩) {py px : Int} {pt : Bool} :
  Calls Tryz.prog 115 #[.agg #[.int .i64 bid, .int .i64 bwi, .int .i64 bde, .int .i64 bce, .int .i64 bhi, .int .i64 bbe], .agg #[.int .i64 fw, .int .i64 fd, .int .i64 fh, .int .i64 fg], .agg #[.int .i64 py, .int .i64 px, .bool pt]] w (Ret w (.bool (isStQ ⟨bid,bwi,bde,bce,bhi,bbe⟩ ⟨fw,fd,fh,fg⟩ ⟨py,px,pt⟩))) := by
 unfold Ret
 have hx := boxOk_iff.1 hX
 dsimp only at hx
 unfold FtOk at hF
 dsimp only at hF
 cases pt
 ·go_enter Tryz.func115,Tryz.ntmps115
  go_wp2
  all_goals (go_ret;exact ⟨ret_bool (by rw [Bool.eq_iff_iff,isSt_iff];simp [sideV];omega),by go_grown⟩)
 ·go_enter Tryz.func115,Tryz.ntmps115
  go_wp2
  all_goals (go_ret;exact ⟨ret_bool (by rw [Bool.eq_iff_iff,isSt_iff];simp [sideV];omega),by go_grown⟩)
theorem rIsStand_eq {w : World} {bid bwi bde bce bhi bbe fw fd fh fg : Int} (hX : boxOk ⟨bid,bwi,bde,bce,bhi,bbe⟩ = true) (hF : FtOk ⟨fw,fd,fh,fg⟩) {py px : Int} {pt b : Bool} (h : isStQ ⟨bid,bwi,bde,bce,bhi,bbe⟩ ⟨fw,fd,fh,fg⟩ ⟨py,px,pt⟩ = b) : Calls Tryz.prog 115 #[.agg #[.int .i64 bid, .int .i64 bwi, .int .i64 bde, .int .i64 bce, .int .i64 bhi, .int .i64 bbe], .agg #[.int .i64 fw, .int .i64 fd, .int .i64 fh, .int .i64 fg], .agg #[.int .i64 py, .int .i64 px, .bool pt]] w (Ret w (.bool b)) := by subst h;exact rIsStand_any hX hF
theorem lenP (p : St) : (cellsP p).length = 3 := rfl
theorem oneP (p : St) : ∀ u ∈ cellsP p,u.oneCell' = true := fun u h => by
 simp only [cellsP,List.mem_cons,List.not_mem_nil,or_false] at h
 rcases h with rfl | rfl | rfl <;> rfl
theorem flatP (l : List St) : l.flatMap cellsP = (l.map toSq).flatMap cellsQ := by
 induction l with
 | nil => rfl
 | cons a l ih => rw [List.flatMap_cons,List.map_cons,List.flatMap_cons,ih];rfl
theorem flatP_len (l : List St) : (l.flatMap cellsP).length = l.length * 3 := by
 induction l with
 | nil => rfl
 | cons a l ih => rw [List.flatMap_cons,List.length_append,ih,List.length_cons,lenP];omega
theorem ownP_len {W : World} {base T m : Nat} {v : Value} {l : List St} (h : W.ownsRow base T 3 v m (l.flatMap cellsP)) : m = l.length := by
 have h1 := h.1
 rw [flatP_len] at h1
 omega
theorem flatP_snoc {l : List St} {p : St} : l.flatMap cellsP ++ cellsP p = (l ++ [p]).flatMap cellsP := by rw [List.flatMap_append];simp
theorem standsN_small {s : Bx} {f : Ft} (hX : boxOk s = true) : ∀ n,n ≤ 6 → (standsN s f n).length ≤ n * 12
 | 0,_ => by simp [standsN]
 | n + 1,h => by
  have h2 := boxOk_iff.1 hX
  have hr : ∀ m,m ≤ 6 → (rowL s f n m).length ≤ m * 2 := by
   intro m
   induction m with
   | zero => intro _;simp [rowL]
   | succ m ih =>
    intro hm
    rw [rowL,List.length_append]
    have h3 : (cellL s f n m (Go.Pb.Sag.ways f).length).length ≤ 2 := by
     unfold cellL
     refine Nat.le_trans (List.length_filter_le _ _) ?_
     rw [List.length_map,List.length_take]
     have := (Go.Pb.Sag.ways_len f).2
     omega
    have := ih (by omega)
    omega
  rw [standsN,List.length_append]
  have h1 := standsN_small (f := f) hX n (by omega)
  have h3 := hr s.wide.toNat (by omega)
  omega
theorem stands_small {s : Bx} {f : Ft} (hX : boxOk s = true) : (standsL s f).length ≤ 72 := by
 have h2 := boxOk_iff.1 hX
 have := standsN_small (f := f) hX s.deep.toNat (by omega)
 unfold standsL
 omega
theorem st_bound {s : Bx} {f : Ft} (hX : boxOk s = true) {y x k : Nat} (hy : y < s.deep.toNat) (hx : x < s.wide.toNat) : (standsN s f y ++ rowL s f y x ++ cellR s f y x k).length ≤ 1000 := by
 have h0 := boxOk_iff.1 hX
 have h1 := standsN_small (f := f) hX y (by omega)
 have h2 : (rowL s f y x).length ≤ (standsN s f (y + 1)).length := by
  rw [standsN,List.length_append]
  have := (row_part s f y (m := x) (n := s.wide.toNat) (by omega)).length_le
  omega
 have h3 := standsN_small (f := f) hX (y + 1) (by omega)
 have h4 : (cellR s f y x k).length ≤ 2 := by
  unfold cellR
  refine Nat.le_trans (List.length_filter_le _ _) ?_
  rw [List.length_map,List.length_take]
  exact Nat.min_le_right _ _
 rw [List.length_append,List.length_append]
 omega
set_option maxRecDepth 100000 in
set_option maxHeartbeats 4000000 in
theorem rstands_any2 {w : World} {bid bwi bde bce bhi bbe fw fd fh fg : Int} (hX : boxOk ⟨bid,bwi,bde,bce,bhi,bbe⟩ = true) (hF : FtOk ⟨fw,fd,fh,fg⟩) :
  Calls Tryz.prog 65 #[.agg #[.int .i64 bid, .int .i64 bwi, .int .i64 bde, .int .i64 bce, .int .i64 bhi, .int .i64 bbe], .agg #[.int .i64 fw, .int .i64 fd, .int .i64 fh, .int .i64 fg]] w (fun e w' => ∃ v,e = .returned v ∧ Below w.heap.size w w' ∧ w'.ownsRow w.heap.size 62 3 v (standsL ⟨bid,bwi,bde,bce,bhi,bbe⟩ ⟨fw,fd,fh,fg⟩).length ((standsL ⟨bid,bwi,bde,bce,bhi,bbe⟩ ⟨fw,fd,fh,fg⟩).flatMap cellsP)) := by
 obtain ⟨i0,hi,hz0,hz1,hz2⟩ := info_parts Tryz.infoS
 have hx := boxOk_iff.1 hX
 dsimp only at hx
 obtain ⟨D,rfl⟩ : ∃ D : Nat,bde = (D : Int) := ⟨bde.toNat,by omega⟩
 obtain ⟨E,rfl⟩ : ∃ E : Nat,bwi = (E : Int) := ⟨bwi.toNat,by omega⟩
 have hD : D ≤ 6 := by omega
 have hE : E ≤ 6 := by omega
 have HXX := hid hX;clear hX hx
 obtain ⟨BB,hBB⟩ : ∃ BB : Bx,BB = ⟨bid,(E : Int),(D : Int),bce,bhi,bbe⟩ := ⟨_,rfl⟩
 obtain ⟨FF,hFF⟩ : ∃ FF : Ft,FF = ⟨fw,fd,fh,fg⟩ := ⟨_,rfl⟩
 have hst : ∀ (W : World) (py px : Int) (pt b : Bool),isStQ BB FF ⟨py,px,pt⟩ = b → Calls Tryz.prog 115 #[.agg #[.int .i64 bid, .int .i64 (E : Int), .int .i64 (D : Int), .int .i64 bce, .int .i64 bhi, .int .i64 bbe], .agg #[.int .i64 fw, .int .i64 fd, .int .i64 fh, .int .i64 fg], .agg #[.int .i64 py, .int .i64 px, .bool pt]] W (Ret W (.bool b)) := fun W py px pt b h => by subst hBB;subst hFF;exact rIsStand_eq HXX.out hF h
 have hbw : BB.wide.toNat = E := by rw [hBB];simp
 have hbd : BB.deep.toNat = D := by rw [hBB];simp
 have hgoal : standsL ⟨bid,(E : Int),(D : Int),bce,bhi,bbe⟩ ⟨fw,fd,fh,fg⟩ = standsL BB FF := by rw [hBB,hFF]
 rw [hgoal]
 have hsm : ∀ y x k,y < D → x < E → (standsN BB FF y ++ rowL BB FF y x ++ cellR BB FF y x k).length ≤ 1000 := fun y x k h1 h2 => st_bound (by rw [hBB];exact HXX.out) (by rw [hbd];exact h1) (by rw [hbw];exact h2)
 have HST := hid hst;have HBW := hid hbw;have HBD := hid hbd;have HSM := hid hsm;clear hst hbw hbd hBB hFF hgoal hF hsm
 go_enter Tryz.func65,Tryz.ntmps65
 go_wp2_with fail
 obtain ⟨v1,hv1⟩ : ∃ v : World,v = (w.alloc (.cells #[.int .i64 bid, .int .i64 (E : Int), .int .i64 (D : Int), .int .i64 bce, .int .i64 bhi, .int .i64 bbe] 27)).alloc (.cells #[.int .i64 fw, .int .i64 fd, .int .i64 fh, .int .i64 fg] 34) := ⟨_,rfl⟩
 rw [← hv1]
 have q0 : v1.cell? ⟨w.heap.size,0,none⟩ = some (.int .i64 bid) := by rw [hv1];simp [go_sem]
 have q1 : v1.cell? ⟨w.heap.size,1,none⟩ = some (.int .i64 (E : Int)) := by rw [hv1];simp [go_sem]
 have q2 : v1.cell? ⟨w.heap.size,2,none⟩ = some (.int .i64 (D : Int)) := by rw [hv1];simp [go_sem]
 have q3 : v1.cell? ⟨w.heap.size,3,none⟩ = some (.int .i64 bce) := by rw [hv1];simp [go_sem]
 have q4 : v1.cell? ⟨w.heap.size,4,none⟩ = some (.int .i64 bhi) := by rw [hv1];simp [go_sem]
 have q5 : v1.cell? ⟨w.heap.size,5,none⟩ = some (.int .i64 bbe) := by rw [hv1];simp [go_sem]
 have q6 : v1.cell? ⟨w.heap.size + 1,0,none⟩ = some (.int .i64 fw) := by rw [hv1];simp [go_sem]
 have q7 : v1.cell? ⟨w.heap.size + 1,1,none⟩ = some (.int .i64 fd) := by rw [hv1];simp [go_sem]
 have q8 : v1.cell? ⟨w.heap.size + 1,2,none⟩ = some (.int .i64 fh) := by rw [hv1];simp [go_sem]
 have q9 : v1.cell? ⟨w.heap.size + 1,3,none⟩ = some (.int .i64 fg) := by rw [hv1];simp [go_sem]
 have hb0 : Below w.heap.size w v1 := by rw [hv1];go_grown
 have hz3 : w.heap.size ≤ v1.heap.size := hb0.size
 clear hv1
 go_loopg [5,6,7,9,10] D (fun gk ov yv _ _ _ wr => ∃ y m : Nat,y ≤ D ∧ gk = D - y ∧ yv = .int .i64 y ∧ wr.ownsRow v1.heap.size 62 3 ov m ((standsN BB FF y).flatMap cellsP) ∧ Below v1.heap.size v1 wr)
 case atStart => exact ⟨0,0,Nat.zero_le _,rfl,rfl,by simpa [standsN] using World.ownsRow_nil _ _ _ _,Below.refl _ _⟩
 case round =>
  obtain ⟨y,m0,hy,hgk,rfl,ho,hB⟩ := hrel
  have HGK := hid hgk;clear hgk
  obtain ⟨GK,rfl⟩ : ∃ GK,GK = gk := ⟨_,rfl⟩
  have p2 := bkeep hB q2
  obtain ⟨oa,oc,rfl, -⟩ := owns_shape ho
  by_cases hlt : y < D
  ·have hyi : (y : Int) < (D : Int) := by omega
   go_wp2_with fail
   go_loopg [5,7,9,10] E (fun gk ov xv _ _ wr => ∃ x m : Nat,x ≤ E ∧ gk = E - x ∧ xv = .int .i64 x ∧ wr.ownsRow v1.heap.size 62 3 ov m ((standsN BB FF y ++ rowL BB FF y x).flatMap cellsP) ∧ Below v1.heap.size v1 wr)
   case atStart => exact ⟨0,m0,Nat.zero_le _,rfl,rfl,by simpa [rowL] using ho,hB⟩
   case round =>
    clear ho hB p2
    obtain ⟨x,m1,hx,hgk,rfl,ho,hB⟩ := hrel
    have HGK2 := hid hgk;clear hgk
    obtain ⟨GK2,rfl⟩ : ∃ GK2,GK2 = gk := ⟨_,rfl⟩
    have p1 := bkeep hB q1
    obtain ⟨ob,od,rfl, -⟩ := owns_shape ho
    by_cases hlx : x < E
    ·obtain ⟨wm,hwm⟩ : ∃ v,v = wr := ⟨_,rfl⟩
     subst hwm
     have hxi : (x : Int) < (E : Int) := by omega
     have hzr := hB.size
     go_wp2_with fail
     generalize hW : World.alloc wm _ = v2
     have hbo : v2.ownsRow v1.heap.size 4 1 (.slice (some ⟨wm.heap.size,0,none⟩) 2 2) 2 [.bool false, .bool true] := by rw [← hW];exact World.ownsRow_lit wm #[.bool false, .bool true] 2 hzr (by unfold maxLen;omega) rfl
     have hb : Below wm.heap.size wm v2 := by rw [← hW];exact (Below.refl _ _).alloc (Nat.le_refl _) _
     replace ho := owns_below ho hb
     have hB2 := bnext (w := v1) hB hb
     clear hW hb
     go_loopg [5,9,10,25] 2 (fun gk ov _ _ kv wr => ∃ k m : Nat,(k = 0 ∧ kv = .int .i64 0 ∨ k = 1 ∧ kv = .int .i64 1 ∨ k = 2 ∧ kv = .int .i64 2) ∧ gk = 2 - k ∧ wr.ownsRow v1.heap.size 62 3 ov m ((standsN BB FF y ++ rowL BB FF y x ++ cellR BB FF y x k).flatMap cellsP) ∧ Below v1.heap.size v1 wr ∧ wr.ownsRow v1.heap.size 4 1 (.slice (some ⟨wm.heap.size,0,none⟩) 2 2) 2 [.bool false, .bool true])
     case atStart => exact ⟨0,m1, .inl ⟨rfl,rfl⟩,rfl,by simpa [cellR] using ho,hB2,hbo⟩
     case round =>
      clear ho hB2 hbo
      obtain ⟨k,m,hk,hgk,ho,hB,hbo⟩ := hrel
      have HGK3 := hid hgk;clear hgk
      have b0 := hbo.cells (g := wm.heap.size) rfl 0 _ rfl
      have b1 := hbo.cells (g := wm.heap.size) rfl 1 _ rfl
      rw [Go.WideShapes.add_plain,Nat.zero_add] at b0 b1
      have hzr := hB.size
      obtain ⟨oe,og,rfl, -⟩ := owns_shape ho
      rcases hk with ⟨rfl,rfl⟩ | ⟨rfl,rfl⟩ | ⟨rfl,rfl⟩
      ·obtain ⟨b,hb⟩ : ∃ b,isStQ BB FF ⟨(y : Int),(x : Int),false⟩ = b := ⟨_,rfl⟩
       have HB := hid hb;clear hb
       have p0 := bkeep hB q0
       have p1 := bkeep hB q1
       have p2 := bkeep hB q2
       have p3 := bkeep hB q3
       have p4 := bkeep hB q4
       have p5 := bkeep hB q5
       have p6 := bkeep hB q6
       have p7 := bkeep hB q7
       have p8 := bkeep hB q8
       have p9 := bkeep hB q9
       go_upto_region 12 with fail
       generalize hW : World.alloc wr _ = v5
       have c0 : v5.cell? ⟨wr.heap.size,0,none⟩ = some (.int .i64 y) := by rw [← hW];simp [go_sem]
       have c1 : v5.cell? ⟨wr.heap.size,1,none⟩ = some (.int .i64 x) := by rw [← hW];simp [go_sem]
       have c2 : v5.cell? ⟨wr.heap.size,2,none⟩ = some (.bool false) := by rw [← hW];simp [go_sem]
       have hb : Below wr.heap.size wr v5 := by rw [← hW];exact (Below.refl _ _).alloc (Nat.le_refl _) _
       replace ho := owns_below ho hb
       replace hB := bnext (w := v1) hB hb
       replace hbo := owns_below hbo hb
       replace p0 := bkeep hb p0
       replace p1 := bkeep hb p1
       replace p2 := bkeep hb p2
       replace p3 := bkeep hb p3
       replace p4 := bkeep hb p4
       replace p5 := bkeep hb p5
       replace p6 := bkeep hb p6
       replace p7 := bkeep hb p7
       replace p8 := bkeep hb p8
       replace p9 := bkeep hb p9
       clear hb hW
       go_wp2_with fail
       refine (HST.out _ _ _ _ _ HB.out).mono ?_
       rintro e w6 ⟨rfl,hb⟩
       replace ho := owns_below ho hb
       replace hB := bnext (w := v1) hB hb
       replace hbo := owns_below hbo hb
       replace c0 := bkeep hb c0
       replace c1 := bkeep hb c1
       replace c2 := bkeep hb c2
       have hz6 := hB.size
       clear hb p0 p1 p2 p3 p4 p5 p6 p7 p8 p9
       cases b
       ·have hno := cellR_no (s := BB) (f := FF) (y := y) (x := x) (k := 0) (t := false) rfl HB.out
        rw [← hno] at ho
        have HO := hid ho;clear ho hno
        go_wp2_with fail
        go_roundg (2 - 1)
        case measure => have h := HGK3.out;omega
        case rel => exact ⟨1,m, .inr (.inl ⟨rfl,rfl⟩),rfl,HO.out,hB,hbo⟩
       ·have hcg : ∀ i u,(cellsP ⟨y,x,false⟩)[i]? = some u → (w6.alloc (.cells #[.int .i64 (y : Int), .int .i64 (x : Int), .bool false] 62)).cell? ((⟨w6.heap.size,0,none⟩ : Addr).add i) = some u := fun i u h => by
         rw [Go.WideShapes.add_plain,Nat.zero_add]
         exact (CellsAt.new w6 [.int .i64 (y : Int), .int .i64 (x : Int), .bool false] 62 i u h).1
        have hlb : m ≤ 1000 := by have h1 := HSM.out y x 0 hlt hlx;have h2 := ownP_len ho;omega
        have HCG := hid hcg;clear hcg
        go_wp2_with (at_builtin;go_must (refine wpList_append_own _ rfl _ _ 41 rfl v1.heap.size 62 i0 (.agg #[.int .i64 0, .int .i64 0, .bool false]) 3 24 Tryz.underlying41 hi hz0 hz1 hz2 rfl (by decide) _ _ _ rfl (ho.alloc _) ⟨w6.heap.size,0,none⟩ 1 1 (cellsP ⟨y,x,false⟩) rfl rfl HCG.out (oneP _) (by unfold maxLen;omega) (by omega) (by simp;omega) ?_;intro v' w7 ho7 hg7 hnil))
        have hb7 : Below v1.heap.size v1 w7 := below_grown (hB.alloc hz6 _) hg7 (ho.alloc _) (by simp;omega) (Nat.le_refl _)
        have hbo7 := (hbo.alloc (.cells #[.int .i64 (y : Int), .int .i64 (x : Int), .bool false] 62)).kept hg7 (apart_types (hbo.alloc (.cells #[.int .i64 (y : Int), .int .i64 (x : Int), .bool false] 62)) (ho.alloc (.cells #[.int .i64 (y : Int), .int .i64 (x : Int), .bool false] 62)) (show (4 : Nat) ≠ 62 by decide))
        clear hbo
        rw [flatP_snoc,List.append_assoc, ← cellR_yes (s := BB) (f := FF) (y := y) (x := x) (k := 0) (t := false) rfl HB.out] at ho7
        have HO := hid ho7;clear ho7 hg7 hnil ho
        go_roundg (2 - 1)
        case measure => have h := HGK3.out;omega
        case rel => exact ⟨1,m + 1, .inr (.inl ⟨rfl,rfl⟩),rfl,HO.out,hb7,hbo7⟩
      ·obtain ⟨b,hb⟩ : ∃ b,isStQ BB FF ⟨(y : Int),(x : Int),true⟩ = b := ⟨_,rfl⟩
       have HB := hid hb;clear hb
       have p0 := bkeep hB q0
       have p1 := bkeep hB q1
       have p2 := bkeep hB q2
       have p3 := bkeep hB q3
       have p4 := bkeep hB q4
       have p5 := bkeep hB q5
       have p6 := bkeep hB q6
       have p7 := bkeep hB q7
       have p8 := bkeep hB q8
       have p9 := bkeep hB q9
       go_upto_region 12 with fail
       generalize hW : World.alloc wr _ = v5
       have c0 : v5.cell? ⟨wr.heap.size,0,none⟩ = some (.int .i64 y) := by rw [← hW];simp [go_sem]
       have c1 : v5.cell? ⟨wr.heap.size,1,none⟩ = some (.int .i64 x) := by rw [← hW];simp [go_sem]
       have c2 : v5.cell? ⟨wr.heap.size,2,none⟩ = some (.bool true) := by rw [← hW];simp [go_sem]
       have hb : Below wr.heap.size wr v5 := by rw [← hW];exact (Below.refl _ _).alloc (Nat.le_refl _) _
       replace ho := owns_below ho hb
       replace hB := bnext (w := v1) hB hb
       replace hbo := owns_below hbo hb
       replace p0 := bkeep hb p0
       replace p1 := bkeep hb p1
       replace p2 := bkeep hb p2
       replace p3 := bkeep hb p3
       replace p4 := bkeep hb p4
       replace p5 := bkeep hb p5
       replace p6 := bkeep hb p6
       replace p7 := bkeep hb p7
       replace p8 := bkeep hb p8
       replace p9 := bkeep hb p9
       clear hb hW
       go_wp2_with fail
       refine (HST.out _ _ _ _ _ HB.out).mono ?_
       rintro e w6 ⟨rfl,hb⟩
       replace ho := owns_below ho hb
       replace hB := bnext (w := v1) hB hb
       replace hbo := owns_below hbo hb
       replace c0 := bkeep hb c0
       replace c1 := bkeep hb c1
       replace c2 := bkeep hb c2
       have hz6 := hB.size
       clear hb p0 p1 p2 p3 p4 p5 p6 p7 p8 p9
       cases b
       ·have hno := cellR_no (s := BB) (f := FF) (y := y) (x := x) (k := 1) (t := true) rfl HB.out
        rw [← hno] at ho
        have HO := hid ho;clear ho hno
        go_wp2_with fail
        go_roundg (2 - 2)
        case measure => have h := HGK3.out;omega
        case rel => exact ⟨2,m, .inr (.inr ⟨rfl,rfl⟩),rfl,HO.out,hB,hbo⟩
       ·have hcg : ∀ i u,(cellsP ⟨y,x,true⟩)[i]? = some u → (w6.alloc (.cells #[.int .i64 (y : Int), .int .i64 (x : Int), .bool true] 62)).cell? ((⟨w6.heap.size,0,none⟩ : Addr).add i) = some u := fun i u h => by
         rw [Go.WideShapes.add_plain,Nat.zero_add]
         exact (CellsAt.new w6 [.int .i64 (y : Int), .int .i64 (x : Int), .bool true] 62 i u h).1
        have hlb : m ≤ 1000 := by have h1 := HSM.out y x 1 hlt hlx;have h2 := ownP_len ho;omega
        have HCG := hid hcg;clear hcg
        go_wp2_with (at_builtin;go_must (refine wpList_append_own _ rfl _ _ 41 rfl v1.heap.size 62 i0 (.agg #[.int .i64 0, .int .i64 0, .bool false]) 3 24 Tryz.underlying41 hi hz0 hz1 hz2 rfl (by decide) _ _ _ rfl (ho.alloc _) ⟨w6.heap.size,0,none⟩ 1 1 (cellsP ⟨y,x,true⟩) rfl rfl HCG.out (oneP _) (by unfold maxLen;omega) (by omega) (by simp;omega) ?_;intro v' w7 ho7 hg7 hnil))
        have hb7 : Below v1.heap.size v1 w7 := below_grown (hB.alloc hz6 _) hg7 (ho.alloc _) (by simp;omega) (Nat.le_refl _)
        have hbo7 := (hbo.alloc (.cells #[.int .i64 (y : Int), .int .i64 (x : Int), .bool true] 62)).kept hg7 (apart_types (hbo.alloc (.cells #[.int .i64 (y : Int), .int .i64 (x : Int), .bool true] 62)) (ho.alloc (.cells #[.int .i64 (y : Int), .int .i64 (x : Int), .bool true] 62)) (show (4 : Nat) ≠ 62 by decide))
        clear hbo
        rw [flatP_snoc,List.append_assoc, ← cellR_yes (s := BB) (f := FF) (y := y) (x := x) (k := 1) (t := true) rfl HB.out] at ho7
        have HO := hid ho7;clear ho7 hg7 hnil ho
        go_roundg (2 - 2)
        case measure => have h := HGK3.out;omega
        case rel => exact ⟨2,m + 1, .inr (.inr ⟨rfl,rfl⟩),rfl,HO.out,hb7,hbo7⟩
      ·have hrw : standsN BB FF y ++ rowL BB FF y x ++ cellR BB FF y x 2 = standsN BB FF y ++ rowL BB FF y (x + 1) := by rw [cellR_all,rowL,List.append_assoc]
       rw [hrw] at ho
       have HO := hid ho;clear ho hrw
       go_wp2_with fail
       go_roundg (E - (x + 1))
       case measure => have h := HGK2.out;omega
       case rel => exact ⟨x + 1,m,by omega,rfl,by go_num,HO.out,hB⟩
    ·obtain rfl : x = E := by omega
     have hrw : standsN BB FF y ++ rowL BB FF y x = standsN BB FF (y + 1) := by rw [standsN,HBW.out]
     rw [hrw] at ho
     have HO := hid ho;clear ho hrw
     go_wp2_with fail
     go_roundg (D - (y + 1))
     case measure => have h := HGK.out;omega
     case rel => exact ⟨y + 1,m1,by omega,rfl,by go_num,HO.out,hB⟩
  ·obtain rfl : y = D := by omega
   have hrw : standsN BB FF y = standsL BB FF := by unfold standsL;rw [HBD.out]
   rw [hrw] at ho
   have hml := ownP_len ho
   subst hml
   have HO := hid ho;clear ho hrw
   go_wp2_with fail
   go_ret
   exact ⟨_,rfl,bnext (w := w) hb0 hB,owns_base hz3 HO.out⟩
end Go.Proofs.YtodmidchpbcnpaaGreat