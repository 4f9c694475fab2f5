/- Part of a claim. -/
import Derived.Test.YtodmidchpbcnpaaGreatKG32Y
import Derived.Test.YtodmidchpbcnpaaGreatG79Y
import Derived.Test.YtodmidchpbcnpaaGreatKG83Y
import Derived.Test.YtodmidchpbcnpaaGreatG34Y
import Derived.Test.YtodmidchpbcnpaaGreatG31Y
set_option linter.unusedVariables false
set_option linter.unusedSimpArgs false
namespace Go.Proofs.YtodmidchpbcnpaaGreat
open Go.RowKit Go.Pb Go.Pb.Ware Go.Pb.Sag


def toIt (r : List Int) : It := ⟨r.getD 0 0,r.getD 1 0,r.getD 2 0⟩
theorem rows_it {w : World} {v : Value} {rows : List (List Int)} (h : RowsAt 3 w v rows) : ∃ xs : List It,rows = xs.map rowX := by
 refine ⟨rows.map toIt, ?_⟩
 rw [List.map_map]
 have key : ∀ r ∈ rows,r.length = 3 := by
  rcases h with ⟨_,rfl⟩ | ⟨a,cap,_,_,_,h⟩
  ·intro r hr;cases hr
  ·intro r hr
   obtain ⟨k,hk⟩ := List.getElem?_of_mem hr
   exact (h k r hk).1
 have key2 : ∀ r ∈ rows,(rowX ∘ toIt) r = r := by
  intro r hr
  match r,key r hr with
  | [a,b,c],_ => rfl
 exact (List.map_id rows).symm.trans (List.map_congr_left fun r hr => (key2 r hr).symm)
def takeX (xs : List It) (i c : Int) : List It := if c = 0 then xs.eraseIdx i.toNat else []
def takeQ (qs : List Sq) (i c : Int) : List Sq := if c = 0 then qs.eraseIdx i.toNat else []
theorem take_at {ss bs : List (List Int)} {s : Bx} {xs : List It} {qs : List Sq} {i c : Int} {W w' : World} {e : Ending} {iv : Value} (hl : RowsAt 3 W iv (xs.map rowX)) (hc : takeC ss bs s xs qs i = c) (h : TakeRes xs qs i c W e w') :
  ∃ lv pv,e = .returned (.tuple #[lv,pv, .int .i64 c]) ∧ Below W.heap.size W w' ∧ RowsAt 3 w' lv ((takeX xs i c).map rowX) ∧ StAt w' pv (takeQ qs i c) := by
 obtain ⟨lv,pv,he,hb,hcase⟩ := h
 refine ⟨lv,pv,he,hb, ?_⟩
 rcases hcase with ⟨h0,rfl,rfl⟩ | ⟨h0,h1,h2,h3,h4⟩
 ·unfold takeX takeQ
  rw [if_neg h0,if_neg h0]
  exact ⟨.inl ⟨rfl,rfl⟩, .inl ⟨rfl,rfl⟩⟩
 ·subst h0
  unfold takeX takeQ
  rw [if_pos rfl,if_pos rfl]
  have hk : ckK ss bs s xs qs = 0 := by
   unfold takeC at hc
   by_cases h : ckK ss bs s xs qs = 0
   ·exact h
   ·rw [if_neg h] at hc;exact absurd hc h
  obtain ⟨k0,kp⟩ := ckK_0 hk
  have hql : qs.length = xs.length := by rw [pack_long kp,feetV_0 k0];exact List.length_map ..
  refine ⟨it_rows (by rw [List.length_eraseIdx_of_lt h2];exact h3) (fun x hx => ?_),stAt_of_owns (by rw [List.length_eraseIdx_of_lt (by rw [hql];exact h2),hql];exact h4)⟩
  obtain ⟨j,hj⟩ := List.getElem?_of_mem (List.mem_of_mem_eraseIdx hx)
  exact it_i64 hl hj
theorem takeX_small {ss bs : List (List Int)} {s : Bx} {xs : List It} {qs : List Sq} {i c : Int} (hc : takeC ss bs s xs qs i = c) : (takeX xs i c).length ≤ 1000 ∧ (takeQ qs i c).length ≤ 1000 := by
 unfold takeX takeQ
 by_cases h0 : c = 0
 ·rw [if_pos h0,if_pos h0]
  subst h0
  have hk : ckK ss bs s xs qs = 0 := by
   unfold takeC at hc
   by_cases h : ckK ss bs s xs qs = 0
   ·exact h
   ·rw [if_neg h] at hc;exact absurd hc h
  obtain ⟨k0,kp⟩ := ckK_0 hk
  have hql : qs.length = xs.length := by rw [pack_long kp,feetV_0 k0];exact List.length_map ..
  obtain ⟨-, -,h5, -⟩ := ckL_0 k0
  have e1 := (List.eraseIdx_sublist xs i.toNat).length_le
  have e2 := (List.eraseIdx_sublist qs i.toNat).length_le
  omega
 ·rw [if_neg h0,if_neg h0];simp
theorem gridA_small {ss bs : List (List Int)} {s : Bx} {xs : List It} {qs : List Sq} : (gridA ss bs s xs qs).length ≤ 1000 ∧ ∀ z ∈ gridA ss bs s xs qs,z.length ≤ 1000 := by
 unfold gridA
 split
 ·rename_i h
  obtain ⟨k0,kp⟩ := ckK_0 h
  obtain ⟨-,hX, -, -⟩ := ckL_0 k0
  have hX2 := boxOk_iff.1 hX
  refine ⟨by rw [gridL_len];omega,fun z hz => ?_⟩
  unfold gridL at hz
  obtain ⟨y, -,rfl⟩ := List.mem_map.1 hz
  rw [gridRow_len];omega
 ·exact ⟨by simp,fun z hz => by cases hz⟩
set_option maxRecDepth 100000 in
set_option maxHeartbeats 4000000 in
theorem saggarGrids_walk {w : World} {vs vb lv pv : Value} {ss bs : List (List Int)} {xs : List It} {qs : List Sq} {bid bwi bde bce bhi bbe ish imn icl ix : Int} (h1 : RowsAt 11 w vs ss) (h2 : RowsAt 7 w vb bs) (hl : RowsAt 3 w lv (xs.map rowX)) (hp : StAt w pv qs) (hi6 : I64X ⟨ish,imn,icl⟩) :
  Calls Tryz.prog 5 #[.agg #[vs,vb, .int .i64 bid, .int .i64 bwi, .int .i64 bde, .int .i64 bce, .int .i64 bhi, .int .i64 bbe,lv],pv, .agg #[.int .i64 ish, .int .i64 imn, .int .i64 icl, .int .i64 ix]] w (Ret w (.bool true)) := by
 unfold Ret
 obtain ⟨la,lc,rfl,hll⟩ := hl.shape
 rw [List.length_map] at hl hll ⊢
 obtain ⟨pa,pc,rfl,hpl,hpc⟩ := hp.shape
 obtain ⟨c,hc⟩ : ∃ c,ckK ss bs ⟨bid,bwi,bde,bce,bhi,bbe⟩ xs qs = c := ⟨_,rfl⟩
 obtain ⟨rows,hr⟩ : ∃ r,gridA ss bs ⟨bid,bwi,bde,bce,bhi,bbe⟩ xs qs = r := ⟨_,rfl⟩
 obtain ⟨fr,hf⟩ : ∃ n,freeA ss bs ⟨bid,bwi,bde,bce,bhi,bbe⟩ xs qs = n := ⟨_,rfl⟩
 obtain ⟨⟨⟨ry,rx,rt⟩,rc⟩,ha⟩ : ∃ r,addA ss bs ⟨bid,bwi,bde,bce,bhi,bbe⟩ xs qs ⟨ish,imn,icl⟩ = r := ⟨_,rfl⟩
 obtain ⟨tc,ht⟩ : ∃ c,takeC ss bs ⟨bid,bwi,bde,bce,bhi,bbe⟩ xs qs ix = c := ⟨_,rfl⟩
 have hsm := gridA_small (ss := ss) (bs := bs) (s := ⟨bid,bwi,bde,bce,bhi,bbe⟩) (xs := xs) (qs := qs)
 rw [hr] at hsm
 have hts := takeX_small ht
 obtain ⟨tx,htx⟩ : ∃ l,takeX xs ix tc = l := ⟨_,rfl⟩
 obtain ⟨tq,htq⟩ : ∃ l,takeQ qs ix tc = l := ⟨_,rfl⟩
 rw [htx,htq] at hts
 obtain ⟨hsm1,hsm2⟩ := hsm
 obtain ⟨hts1,hts2⟩ := hts
 have HC := hid hc;have HR := hid hr;have HF := hid hf;have HA := hid ha;have HT := hid ht;have HTX := hid htx;have HTQ := hid htq;have HSM := hid hsm2;clear hc hr hf ha ht htx htq hsm2
 go_enter Tryz.func5,Tryz.ntmps5
 go_upto_region 1 with fail
 generalize hW : World.alloc (World.alloc w _) _ = v1
 have q0 : v1.cell? ⟨w.heap.size,0,none⟩ = some (vs) := by rw [← hW];simp [go_sem]
 have q1 : v1.cell? ⟨w.heap.size,1,none⟩ = some (vb) := by rw [← hW];simp [go_sem]
 have q2 : v1.cell? ⟨w.heap.size,2,none⟩ = some (.int .i64 bid) := by rw [← hW];simp [go_sem]
 have q3 : v1.cell? ⟨w.heap.size,3,none⟩ = some (.int .i64 bwi) := by rw [← hW];simp [go_sem]
 have q4 : v1.cell? ⟨w.heap.size,4,none⟩ = some (.int .i64 bde) := by rw [← hW];simp [go_sem]
 have q5 : v1.cell? ⟨w.heap.size,5,none⟩ = some (.int .i64 bce) := by rw [← hW];simp [go_sem]
 have q6 : v1.cell? ⟨w.heap.size,6,none⟩ = some (.int .i64 bhi) := by rw [← hW];simp [go_sem]
 have q7 : v1.cell? ⟨w.heap.size,7,none⟩ = some (.int .i64 bbe) := by rw [← hW];simp [go_sem]
 have q8 : v1.cell? ⟨w.heap.size,8,none⟩ = some (.slice la xs.length lc) := by rw [← hW];simp [go_sem]
 have q9 : v1.cell? ⟨w.heap.size + 1,0,none⟩ = some (.int .i64 ish) := by rw [← hW];simp [go_sem]
 have q10 : v1.cell? ⟨w.heap.size + 1,1,none⟩ = some (.int .i64 imn) := by rw [← hW];simp [go_sem]
 have q11 : v1.cell? ⟨w.heap.size + 1,2,none⟩ = some (.int .i64 icl) := by rw [← hW];simp [go_sem]
 have q12 : v1.cell? ⟨w.heap.size + 1,3,none⟩ = some (.int .i64 ix) := by rw [← hW];simp [go_sem]
 have hb : Below w.heap.size w v1 := by rw [← hW];go_grown
 have hb0 := hb
 replace h1 := h1.below hb
 replace h2 := h2.below hb
 replace hl := hl.below hb
 replace hp := hp.below hb
 clear hb hW
 go_wp2_with fail
 refine (Grid_any h1 h2 hl hp HC.out HR.out).mono ?_
 rintro e w1 ⟨gv1,rfl,hb,g1⟩
 replace hb0 := bnext (w := w) (by go_grown) hb
 have hz := hb.size
 (try simp only [World.size_alloc,World.size_setCell] at hz)
 replace q0 := bkeep hb q0
 replace q1 := bkeep hb q1
 replace q2 := bkeep hb q2
 replace q3 := bkeep hb q3
 replace q4 := bkeep hb q4
 replace q5 := bkeep hb q5
 replace q6 := bkeep hb q6
 replace q7 := bkeep hb q7
 replace q8 := bkeep hb q8
 replace q9 := bkeep hb q9
 replace q10 := bkeep hb q10
 replace q11 := bkeep hb q11
 replace q12 := bkeep hb q12
 replace h1 := h1.below hb
 replace h2 := h2.below hb
 replace hl := hl.below hb
 replace hp := hp.below hb
 clear hb
 obtain ⟨ga1,gc1,rfl⟩ : ∃ a cap,gv1 = .slice a rows.length cap := by obtain ⟨a,cap,e,_⟩ := g1;exact ⟨a,cap,e⟩
 go_wp2_with fail
 refine (rGrid h1 h2 hl hp HC.out HR.out).mono ?_
 rintro e w1 ⟨gv2,rfl,hb,g2⟩
 replace hb0 := bnext (w := w) (by go_grown) hb
 have hz := hb.size
 (try simp only [World.size_alloc,World.size_setCell] at hz)
 replace q0 := bkeep hb q0
 replace q1 := bkeep hb q1
 replace q2 := bkeep hb q2
 replace q3 := bkeep hb q3
 replace q4 := bkeep hb q4
 replace q5 := bkeep hb q5
 replace q6 := bkeep hb q6
 replace q7 := bkeep hb q7
 replace q8 := bkeep hb q8
 replace q9 := bkeep hb q9
 replace q10 := bkeep hb q10
 replace q11 := bkeep hb q11
 replace q12 := bkeep hb q12
 replace h1 := h1.below hb
 replace h2 := h2.below hb
 replace hl := hl.below hb
 replace hp := hp.below hb
 replace g1 := g1.below hb
 clear hb
 obtain ⟨ga2,gc2,rfl⟩ : ∃ a cap,gv2 = .slice a rows.length cap := by obtain ⟨a,cap,e,_⟩ := g2;exact ⟨a,cap,e⟩
 go_wp2_with fail
 refine (Free_any h1 h2 hl hp HC.out HF.out).mono ?_
 rintro e w1 ⟨rfl,hb⟩
 replace hb0 := bnext (w := w) (by go_grown) hb
 have hz := hb.size
 (try simp only [World.size_alloc,World.size_setCell] at hz)
 replace q0 := bkeep hb q0
 replace q1 := bkeep hb q1
 replace q2 := bkeep hb q2
 replace q3 := bkeep hb q3
 replace q4 := bkeep hb q4
 replace q5 := bkeep hb q5
 replace q6 := bkeep hb q6
 replace q7 := bkeep hb q7
 replace q8 := bkeep hb q8
 replace q9 := bkeep hb q9
 replace q10 := bkeep hb q10
 replace q11 := bkeep hb q11
 replace q12 := bkeep hb q12
 replace h1 := h1.below hb
 replace h2 := h2.below hb
 replace hl := hl.below hb
 replace hp := hp.below hb
 replace g1 := g1.below hb
 replace g2 := g2.below hb
 clear hb
 go_wp2_with fail
 refine (rFree h1 h2 hl hp HC.out HF.out).mono ?_
 rintro e w1 ⟨rfl,hb⟩
 replace hb0 := bnext (w := w) (by go_grown) hb
 have hz := hb.size
 (try simp only [World.size_alloc,World.size_setCell] at hz)
 replace q0 := bkeep hb q0
 replace q1 := bkeep hb q1
 replace q2 := bkeep hb q2
 replace q3 := bkeep hb q3
 replace q4 := bkeep hb q4
 replace q5 := bkeep hb q5
 replace q6 := bkeep hb q6
 replace q7 := bkeep hb q7
 replace q8 := bkeep hb q8
 replace q9 := bkeep hb q9
 replace q10 := bkeep hb q10
 replace q11 := bkeep hb q11
 replace q12 := bkeep hb q12
 replace h1 := h1.below hb
 replace h2 := h2.below hb
 replace hl := hl.below hb
 replace hp := hp.below hb
 replace g1 := g1.below hb
 replace g2 := g2.below hb
 clear hb
 go_wp2_with fail
 refine (Add_any h1 h2 hl hp HA.out).mono ?_
 rintro e w1 ⟨rfl,hb⟩
 replace hb0 := bnext (w := w) (by go_grown) hb
 have hz := hb.size
 (try simp only [World.size_alloc,World.size_setCell] at hz)
 replace q0 := bkeep hb q0
 replace q1 := bkeep hb q1
 replace q2 := bkeep hb q2
 replace q3 := bkeep hb q3
 replace q4 := bkeep hb q4
 replace q5 := bkeep hb q5
 replace q6 := bkeep hb q6
 replace q7 := bkeep hb q7
 replace q8 := bkeep hb q8
 replace q9 := bkeep hb q9
 replace q10 := bkeep hb q10
 replace q11 := bkeep hb q11
 replace q12 := bkeep hb q12
 replace h1 := h1.below hb
 replace h2 := h2.below hb
 replace hl := hl.below hb
 replace hp := hp.below hb
 replace g1 := g1.below hb
 replace g2 := g2.below hb
 clear hb
 obtain ⟨v2,hv2⟩ : ∃ v,v = w1 := ⟨_,rfl⟩
 subst hv2
 go_upto_region 6 with fail
 generalize hW : World.alloc v2 _ = v3
 have d0 : v3.cell? ⟨v2.heap.size,0,none⟩ = some (.int .i64 (ry : Nat)) := by rw [← hW];simp [go_sem]
 have d1 : v3.cell? ⟨v2.heap.size,1,none⟩ = some (.int .i64 (rx : Nat)) := by rw [← hW];simp [go_sem]
 have d2 : v3.cell? ⟨v2.heap.size,2,none⟩ = some (.bool rt) := by rw [← hW];simp [go_sem]
 have hb : Below v2.heap.size v2 v3 := by rw [← hW];exact (Below.refl _ _).alloc (Nat.le_refl _) _
 replace hb0 := bnext (w := w) (by go_grown) hb
 have hz := hb.size
 (try simp only [World.size_alloc,World.size_setCell] at hz)
 replace q0 := bkeep hb q0
 replace q1 := bkeep hb q1
 replace q2 := bkeep hb q2
 replace q3 := bkeep hb q3
 replace q4 := bkeep hb q4
 replace q5 := bkeep hb q5
 replace q6 := bkeep hb q6
 replace q7 := bkeep hb q7
 replace q8 := bkeep hb q8
 replace q9 := bkeep hb q9
 replace q10 := bkeep hb q10
 replace q11 := bkeep hb q11
 replace q12 := bkeep hb q12
 replace h1 := h1.below hb
 replace h2 := h2.below hb
 replace hl := hl.below hb
 replace hp := hp.below hb
 replace g1 := g1.below hb
 replace g2 := g2.below hb
 clear hb
 clear hW
 go_wp2_with fail
 refine (rAdd h1 h2 hl hp hi6 HA.out).mono ?_
 rintro e w1 ⟨rfl,hb⟩
 replace hb0 := bnext (w := w) (by go_grown) hb
 have hz := hb.size
 (try simp only [World.size_alloc,World.size_setCell] at hz)
 replace q0 := bkeep hb q0
 replace q1 := bkeep hb q1
 replace q2 := bkeep hb q2
 replace q3 := bkeep hb q3
 replace q4 := bkeep hb q4
 replace q5 := bkeep hb q5
 replace q6 := bkeep hb q6
 replace q7 := bkeep hb q7
 replace q8 := bkeep hb q8
 replace q9 := bkeep hb q9
 replace q10 := bkeep hb q10
 replace q11 := bkeep hb q11
 replace q12 := bkeep hb q12
 replace d0 := bkeep hb d0
 replace d1 := bkeep hb d1
 replace d2 := bkeep hb d2
 replace h1 := h1.below hb
 replace h2 := h2.below hb
 replace hl := hl.below hb
 replace hp := hp.below hb
 replace g1 := g1.below hb
 replace g2 := g2.below hb
 clear hb
 obtain ⟨v4,hv4⟩ : ∃ v,v = w1 := ⟨_,rfl⟩
 subst hv4
 go_upto_region 7 with fail
 generalize hW : World.alloc v4 _ = v5
 have e0 : v5.cell? ⟨v4.heap.size,0,none⟩ = some (.int .i64 (ry : Nat)) := by rw [← hW];simp [go_sem]
 have e1 : v5.cell? ⟨v4.heap.size,1,none⟩ = some (.int .i64 (rx : Nat)) := by rw [← hW];simp [go_sem]
 have e2 : v5.cell? ⟨v4.heap.size,2,none⟩ = some (.bool rt) := by rw [← hW];simp [go_sem]
 have hb : Below v4.heap.size v4 v5 := by rw [← hW];exact (Below.refl _ _).alloc (Nat.le_refl _) _
 replace hb0 := bnext (w := w) (by go_grown) hb
 have hz := hb.size
 (try simp only [World.size_alloc,World.size_setCell] at hz)
 replace q0 := bkeep hb q0
 replace q1 := bkeep hb q1
 replace q2 := bkeep hb q2
 replace q3 := bkeep hb q3
 replace q4 := bkeep hb q4
 replace q5 := bkeep hb q5
 replace q6 := bkeep hb q6
 replace q7 := bkeep hb q7
 replace q8 := bkeep hb q8
 replace q9 := bkeep hb q9
 replace q10 := bkeep hb q10
 replace q11 := bkeep hb q11
 replace q12 := bkeep hb q12
 replace d0 := bkeep hb d0
 replace d1 := bkeep hb d1
 replace d2 := bkeep hb d2
 replace h1 := h1.below hb
 replace h2 := h2.below hb
 replace hl := hl.below hb
 replace hp := hp.below hb
 replace g1 := g1.below hb
 replace g2 := g2.below hb
 clear hb
 clear hW
 have hc0 : (c == c) = true := by simp
 have hc1 : (fr == fr) = true := by simp
 have hc2 : (rc == rc) = true := by simp
 go_wp2_with fail
 refine (sameRows_any (b := true) g1 g2 hsm1 HSM.out (decide_eq_true rfl)).mono ?_
 rintro e w1 ⟨rfl,hb⟩
 replace hb0 := bnext (w := w) (by go_grown) hb
 have hz := hb.size
 (try simp only [World.size_alloc,World.size_setCell] at hz)
 replace q0 := bkeep hb q0
 replace q1 := bkeep hb q1
 replace q2 := bkeep hb q2
 replace q3 := bkeep hb q3
 replace q4 := bkeep hb q4
 replace q5 := bkeep hb q5
 replace q6 := bkeep hb q6
 replace q7 := bkeep hb q7
 replace q8 := bkeep hb q8
 replace q9 := bkeep hb q9
 replace q10 := bkeep hb q10
 replace q11 := bkeep hb q11
 replace q12 := bkeep hb q12
 replace d0 := bkeep hb d0
 replace d1 := bkeep hb d1
 replace d2 := bkeep hb d2
 replace e0 := bkeep hb e0
 replace e1 := bkeep hb e1
 replace e2 := bkeep hb e2
 replace h1 := h1.below hb
 replace h2 := h2.below hb
 replace hl := hl.below hb
 replace hp := hp.below hb
 clear hb
 go_wp2_with fail
 refine ((Take_any h1 h2 hl hp HT.out)).mono ?_
 rintro e w1 hres
 obtain ⟨tv1,uv1,rfl,hb,t1,u1⟩ := take_at hl HT.out hres
 rw [HTX.out] at t1;rw [HTQ.out] at u1
 obtain ⟨ta1,tb1,rfl, -⟩ := t1.shape
 rw [List.length_map] at t1 ⊢
 obtain ⟨ua1,ub1,rfl, -, -⟩ := u1.shape
 clear hres
 replace hb0 := bnext (w := w) (by go_grown) hb
 have hz := hb.size
 (try simp only [World.size_alloc,World.size_setCell] at hz)
 replace q0 := bkeep hb q0
 replace q1 := bkeep hb q1
 replace q2 := bkeep hb q2
 replace q3 := bkeep hb q3
 replace q4 := bkeep hb q4
 replace q5 := bkeep hb q5
 replace q6 := bkeep hb q6
 replace q7 := bkeep hb q7
 replace q8 := bkeep hb q8
 replace q9 := bkeep hb q9
 replace q10 := bkeep hb q10
 replace q11 := bkeep hb q11
 replace q12 := bkeep hb q12
 replace h1 := h1.below hb
 replace h2 := h2.below hb
 replace hl := hl.below hb
 replace hp := hp.below hb
 clear hb
 go_wp2_with fail
 refine ((rTake h1 h2 hl hp HT.out)).mono ?_
 rintro e w1 hres
 obtain ⟨tv2,uv2,rfl,hb,t2,u2⟩ := take_at hl HT.out hres
 rw [HTX.out] at t2;rw [HTQ.out] at u2
 obtain ⟨ta2,tb2,rfl, -⟩ := t2.shape
 rw [List.length_map] at t2 ⊢
 obtain ⟨ua2,ub2,rfl, -, -⟩ := u2.shape
 clear hres
 replace hb0 := bnext (w := w) (by go_grown) hb
 have hz := hb.size
 (try simp only [World.size_alloc,World.size_setCell] at hz)
 replace q0 := bkeep hb q0
 replace q1 := bkeep hb q1
 replace q2 := bkeep hb q2
 replace q3 := bkeep hb q3
 replace q4 := bkeep hb q4
 replace q5 := bkeep hb q5
 replace q6 := bkeep hb q6
 replace q7 := bkeep hb q7
 replace q8 := bkeep hb q8
 replace q9 := bkeep hb q9
 replace q10 := bkeep hb q10
 replace q11 := bkeep hb q11
 replace q12 := bkeep hb q12
 replace h1 := h1.below hb
 replace h2 := h2.below hb
 replace hl := hl.below hb
 replace hp := hp.below hb
 replace t1 := t1.below hb
 replace u1 := u1.below hb
 clear hb
 have hc4 : (tc == tc) = true := by simp
 go_upto_region 11 with fail
 have s0 := fun x : BW w1 => bkeep x.below q0
 have s1 := fun x : BW w1 => bkeep x.below q1
 have s2 := fun x : BW w1 => bkeep x.below q2
 have s3 := fun x : BW w1 => bkeep x.below q3
 have s4 := fun x : BW w1 => bkeep x.below q4
 have s5 := fun x : BW w1 => bkeep x.below q5
 have s6 := fun x : BW w1 => bkeep x.below q6
 have s7 := fun x : BW w1 => bkeep x.below q7
 have s8 := fun x : BW w1 => bkeep x.below q8
 have s9 := fun x : BW w1 => bkeep x.below q9
 have s10 := fun x : BW w1 => bkeep x.below q10
 have s11 := fun x : BW w1 => bkeep x.below q11
 have s12 := fun x : BW w1 => bkeep x.below q12
 refine wp_region_qb (by kernel_rfl) (by kernel_rfl) fun hc => ?_
 repeat (go_big_quiet_step ((first | (go_at_call 40;exact BW.call _ (sameItems_eq (t1.below (BW.below _)) (t2.below (BW.below _)) hts1)) | (go_at_call 19;exact BW.call _ (sameStands_any (b := true) (u1.below (BW.below _)) (u2.below (BW.below _)) hts2 (decide_eq_true rfl))) | (go_at_call 41;exact BW.call _ (CheckPack_any (h1.below (BW.below _)) (h2.below (BW.below _)) (hl.below (BW.below _)) (hp.below (BW.below _)) HC.out)) | (go_at_call 42;exact BW.call _ (rCheckPack (h1.below (BW.below _)) (h2.below (BW.below _)) (hl.below (BW.below _)) (hp.below (BW.below _)) HC.out)) | (go_at_call 24;exact BW.call _ (sane_any)))))
 refine wpQuiet_nil ?_
 intro w9 hb
 replace hb0 := bnext (w := w) hb0 hb
 go_wp2_with fail
 go_ret
 exact ⟨rfl,hb0⟩
end Go.Proofs.YtodmidchpbcnpaaGreat