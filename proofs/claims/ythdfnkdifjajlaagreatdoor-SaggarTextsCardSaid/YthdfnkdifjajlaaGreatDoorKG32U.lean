/- Part of a claim. -/
import Derived.Test.YthdfnkdifjajlaaGreatDoorG31U
import Derived.Test.YthdfnkdifjajlaaGreatDoorG27U
import Derived.Test.YthdfnkdifjajlaaGreatDoorG23U
import Derived.Test.YthdfnkdifjajlaaGreatDoorG22U
import Derived.Test.YthdfnkdifjajlaaGreatDoorG20U
import Derived.Test.YthdfnkdifjajlaaGreatDoorKXaU
import Derived.Test.YthdfnkdifjajlaaGreatDoorKSdU
import Derived.Test.YthdfnkdifjajlaaGreatDoorG30U
import Derived.Test.YthdfnkdifjajlaaGreatDoorG25U
import Derived.Test.YthdfnkdifjajlaaGreatDoorG24U
import Derived.Test.YthdfnkdifjajlaaGreatDoorG4U
set_option linter.unusedVariables false
set_option linter.unusedSimpArgs false
namespace Go.Proofs.YthdfnkdifjajlaaGreatDoor
open Go.RowKit Go.Pb Go.Pb.Ware Go.Pb.Sag


theorem owns_new {w : World} {lo T n size : Nat} {xs : List Value} (hs : xs.length = n * size) (hn : n ≤ maxLen) (hlo : lo ≤ w.heap.size) : (w.alloc (.cells xs.toArray T)).ownsRow lo T size (.slice (some ⟨w.heap.size,0,none⟩) n n) n xs := by
 refine ⟨by omega, .inr ⟨w.heap.size,n,xs.toArray,rfl,hlo,heap_alloc_new w _,Nat.le_refl _,hn,by rw [List.size_toArray];omega, ?_⟩⟩
 show xs.take (n * size) = xs
 rw [← hs,List.take_length]
theorem groupsAt_lists {lo : Nat} {v : Value} {gs : List (List Int)} {W : World} (h : GroupsAt lo v gs W) (hi : ∀ g ∈ gs, ∀ z ∈ g,I64 z) : ListsAt v gs W := by
 obtain ⟨us,h1,h2⟩ := h
 obtain ⟨a,c,rfl,hc⟩ := owns_shape h1
 refine ⟨a,c,rfl,fun k g hg => ?_⟩
 have hk := (List.getElem?_eq_some_iff.1 hg).1
 have hl : us.length = gs.length := by have := h1.1;omega
 have hu : us[k]? = some (us[k]'(by omega)) := List.getElem?_eq_getElem _
 rcases h1.2 with ⟨_,hn⟩ | ⟨B,cap,cur,e,hr⟩
 ·omega
 ·injection e with e1 e2 e3
  subst e1
  exact ⟨_,rfl,us[k]'(by omega),h1.cells (g := B) rfl k _ hu,numsAt_of_owns (hi g (List.mem_of_getElem? hg)) (h2 k _ g hu hg)⟩
theorem i64_small {z : Int} (h1 : -100000 ≤ z) (h2 : z ≤ 100000) : I64 z := I64.mk (by omega) (by omega)
def WaresRes (W : World) (e : Ending) (w' : World) : Prop := ∃ sv,e = .returned (.agg #[sv, .slice none 0 0]) ∧ Below W.heap.size W w' ∧ RowsAt 11 w' sv exRows
theorem exRows_ok : ∀ r ∈ exRows,r.length = 11 ∧ ∀ z ∈ r,I64 z := by
 have h : ∀ r ∈ exRows,r.length = 11 ∧ ∀ z ∈ r, -100000 ≤ z ∧ z ≤ 100000 := by decide
 exact fun r hr => ⟨(h r hr).1,fun z hz => i64_small ((h r hr).2 z hz).1 ((h r hr).2 z hz).2⟩
theorem exRows_at {w : World} {lo T : Nat} {v : Value} (h : w.ownsRow lo T 11 v 2 (exRows.flatten.map (Value.int .i64))) : RowsAt 11 w v exRows :=
 rowsAt_of_owns (rows := exRows) (fun r hr => (exRows_ok r hr).1) h (fun r hr => (exRows_ok r hr).2)
def WaresOwn (W : World) (e : Ending) (w' : World) : Prop := ∃ sv,e = .returned (.agg #[sv, .slice none 0 0]) ∧ Below W.heap.size W w' ∧ w'.ownsRow W.heap.size 91 11 sv 2 (exRows.flatten.map (Value.int .i64))
set_option maxRecDepth 100000 in
set_option maxHeartbeats 1000000 in
theorem wares_own {w : World}  :
  Calls Tryz.prog 22 #[] w (WaresOwn w) := by
 unfold WaresOwn
 go_enter Tryz.func22,Tryz.ntmps22
 go_wp2_with fail
 refine bodyPost_ret (v := .agg #[.slice (some ⟨w.heap.size + 1,0,none⟩) 2 2, .slice none 0 0]) (by simp [results,Tryz.results22,go_sem, *]) rfl ?_
 refine ⟨_,rfl,by go_grown, ?_⟩
 have h := owns_new (w := w.alloc (.cells #[.slice (some ⟨w.heap.size + 1,0,none⟩) 2 2, .slice none 0 0] 58)) (lo := w.heap.size) (T := 91) (n := 2) (size := 11) (xs := exRows.flatten.map (Value.int .i64)) (by decide) (by decide) (by simp)
 simp only [World.size_alloc] at h
 exact h
theorem wares_any {w : World} : Calls Tryz.prog 22 #[] w (WaresRes w) := wares_own.mono fun e w' ⟨sv,e1,hb,ho⟩ => ⟨sv,e1,hb,exRows_at ho⟩
end Go.Proofs.YthdfnkdifjajlaaGreatDoor
namespace Go.Proofs.YthdfnkdifjajlaaGreatDoor
open Go.RowKit Go.Pb Go.Pb.Ware Go.Pb.Sag


theorem ex_c1 : nthA exRows [] ⟨1,3,2,110,100,3000⟩ exL 0 24 = ([⟨0,0,false⟩,⟨0,2,true⟩,⟨1,0,false⟩],0) := by decide +kernel
theorem ex_c2 : packsN exRows [] ⟨1,3,2,110,100,3000⟩ exL = 44 := by decide +kernel
theorem ex_c3 : ckL exRows [] ⟨1,3,2,110,100,3000⟩ exL = 0 := by decide +kernel
theorem ex_c4 : refuseA exRows [] ⟨1,3,2,110,100,3000⟩ [⟨1,3,4⟩] = (1, [0],0) := by decide +kernel
theorem ex_c5 : refuseA exRows [] ⟨1,3,3,110,100,3000⟩ [⟨1,1,5⟩,⟨1,1,5⟩] = (5, [0,1],0) := by decide +kernel
theorem ex_c6 : groupsA exRows [] ⟨1,3,2,110,100,3000⟩ [⟨1,1,5⟩,⟨1,1,5⟩,⟨1,2,4⟩] = ([[0,2], [1]],0) := by decide +kernel
theorem ex_c7 : footV exRows [] ⟨1,3,2,110,100,3000⟩ ⟨1,2,4⟩ = (⟨1,1,92,420⟩,0) := by rfl
theorem no_bodies {w : World} : RowsAt 7 w (.slice none 0 0) [] := .inl ⟨rfl,rfl⟩
theorem ex_spots {W : World} {v : Value} {d : Int} (hd : boxOk ⟨1,3,d,110,100,3000⟩ = true) {xs : List It} (h : FeetAt W v (feetV exRows [] ⟨1,3,d,110,100,3000⟩ xs)) :
  Calls Tryz.prog 65 #[.agg #[.int .i64 1, .int .i64 3, .int .i64 d, .int .i64 110, .int .i64 100, .int .i64 3000],v] W (fun e W' => ∃ u,e = .returned u ∧ Below W.heap.size W W' ∧ SpotsIn W.heap.size W'.heap.size u ((feetV exRows [] ⟨1,3,d,110,100,3000⟩ xs).map (spotsL ⟨1,3,d,110,100,3000⟩)) W' ∧ W.heap.size ≤ W'.heap.size) := spots_any hd feet_ok feet_len h
theorem foot_c {w : World} {sv lv : Value} (hr : RowsAt 11 w sv exRows)  : Calls Tryz.prog 23 #[.agg #[sv, .slice none 0 0], .agg #[.int .i64 1, .int .i64 3, .int .i64 2, .int .i64 110, .int .i64 100, .int .i64 3000], .agg #[.int .i64 1, .int .i64 2, .int .i64 4]] w (Ret w (.tuple #[.agg #[.int .i64 1, .int .i64 1, .int .i64 92, .int .i64 420], .int .i64 0])) := by
 have h := @Foot_any w _ _ _ _ hr no_bodies 1 3 2 110 100 3000 1 2 4 1 1 92 420 0 ex_c7
 rw [show (0 : Int) = 0 from rfl] at h
 exact h
theorem pack_c {w : World} {sv lv : Value} (hr : RowsAt 11 w sv exRows) (hl : RowsAt 3 w lv ((exL : List It).map rowX)) : Calls Tryz.prog 24 #[.agg #[sv, .slice none 0 0], .agg #[.int .i64 1, .int .i64 3, .int .i64 2, .int .i64 110, .int .i64 100, .int .i64 3000],lv] w (fun e w' => ∃ v,e = .returned (.tuple #[v, .int .i64 0]) ∧ Below w.heap.size w w' ∧ StAt w' v (([⟨0,0,false⟩,⟨0,2,true⟩,⟨1,0,false⟩] : List St).map toSq)) := by
 have h := Pack_any (bid := 1) (bwi := 3) (bde := 2) (bce := 110) (bhi := 100) (bbe := 3000) hr no_bodies hl (fun W v h => ex_spots (d := 2) (by decide) h)
 rw [ex_c1] at h
 refine h.mono ?_
 rintro e w1 ⟨v,rfl,hb,ho⟩
 exact ⟨v,rfl,hb,stAt_of_owns (qs := ([⟨0,0,false⟩,⟨0,2,true⟩,⟨1,0,false⟩] : List St).map toSq) ho⟩
theorem packs_c {w : World} {sv lv : Value} (hr : RowsAt 11 w sv exRows) (hl : RowsAt 3 w lv ((exL : List It).map rowX)) : Calls Tryz.prog 25 #[.agg #[sv, .slice none 0 0], .agg #[.int .i64 1, .int .i64 3, .int .i64 2, .int .i64 110, .int .i64 100, .int .i64 3000],lv] w (Ret w (.tuple #[.int .i64 44, .int .i64 0])) := by
 have h := Packs_any (bid := 1) (bwi := 3) (bde := 2) (bce := 110) (bhi := 100) (bbe := 3000) hr no_bodies hl (fun W v h => ex_spots (d := 2) (by decide) h)
 rw [ex_c2,ex_c3] at h
 exact h
theorem refuse_c1 {w : World} {sv lv : Value} (hr : RowsAt 11 w sv exRows) (hl : RowsAt 3 w lv (([⟨1,3,4⟩] : List It).map rowX)) : Calls Tryz.prog 26 #[.agg #[sv, .slice none 0 0], .agg #[.int .i64 1, .int .i64 3, .int .i64 2, .int .i64 110, .int .i64 100, .int .i64 3000],lv] w (fun e w' => ∃ v,e = .returned (.tuple #[.agg #[.int .i64 1,v], .int .i64 0]) ∧ Below w.heap.size w w' ∧ NumsAt w' v [0]) := by
 have h := Refuse_any (bid := 1) (bwi := 3) (bde := 2) (bce := 110) (bhi := 100) (bbe := 3000) hr no_bodies hl
 rw [ex_c4] at h
 exact h
theorem refuse_c2 {w : World} {sv lv : Value} (hr : RowsAt 11 w sv exRows) (hl : RowsAt 3 w lv (([⟨1,1,5⟩,⟨1,1,5⟩] : List It).map rowX)) : Calls Tryz.prog 26 #[.agg #[sv, .slice none 0 0], .agg #[.int .i64 1, .int .i64 3, .int .i64 3, .int .i64 110, .int .i64 100, .int .i64 3000],lv] w (fun e w' => ∃ v,e = .returned (.tuple #[.agg #[.int .i64 5,v], .int .i64 0]) ∧ Below w.heap.size w w' ∧ NumsAt w' v [0,1]) := by
 have h := Refuse_any (bid := 1) (bwi := 3) (bde := 3) (bce := 110) (bhi := 100) (bbe := 3000) hr no_bodies hl
 rw [ex_c5] at h
 exact h
theorem groups_c {w : World} {sv lv : Value} (hr : RowsAt 11 w sv exRows) (hl : RowsAt 3 w lv (([⟨1,1,5⟩,⟨1,1,5⟩,⟨1,2,4⟩] : List It).map rowX)) : Calls Tryz.prog 27 #[.agg #[sv, .slice none 0 0], .agg #[.int .i64 1, .int .i64 3, .int .i64 2, .int .i64 110, .int .i64 100, .int .i64 3000],lv] w (fun e w' => ∃ v,e = .returned (.tuple #[v, .int .i64 0]) ∧ Below w.heap.size w w' ∧ ListsAt v [[0,2], [1]] w') := by
 have h := Groups_any (bid := 1) (bwi := 3) (bde := 2) (bce := 110) (bhi := 100) (bbe := 3000) hr no_bodies hl
 rw [ex_c6] at h
 refine h.mono ?_
 rintro e w1 ⟨v,rfl,hb,hg⟩
 refine ⟨v,rfl,hb,groupsAt_lists hg ?_⟩
 have h2 : ∀ g ∈ ([[0,2], [1]] : List (List Int)), ∀ z ∈ g, -100000 ≤ z ∧ z ≤ 100000 := by decide
 exact fun g hg z hz => i64_small (h2 g hg z hz).1 (h2 g hg z hz).2
end Go.Proofs.YthdfnkdifjajlaaGreatDoor