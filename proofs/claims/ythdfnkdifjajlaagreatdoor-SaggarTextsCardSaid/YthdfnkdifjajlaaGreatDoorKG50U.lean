/- Part of a claim. -/
import Derived.Test.YthdfnkdifjajlaaGreatDoorG4U
import Derived.Test.YthdfnkdifjajlaaGreatDoorW16U
import Derived.Test.YthdfnkdifjajlaaGreatDoorW5U
import Derived.Test.YthdfnkdifjajlaaGreatDoorKSdU
import Derived.Deep.LoopGhost
import Derived.Test.YthdfnkdifjajlaaGreatDoorG1U
import Derived.Test.YthdfnkdifjajlaaGreatDoorKXaU
import Derived.Test.YthdfnkdifjajlaaGreatDoorKLibU
import Derived.Lib.ConvBytes
import Derived.Sort.CutIn
import Derived.RangeFuncNested
import Derived.RangeFuncBound
import Derived.RangeFuncCalls
import Derived.RangeFuncLeaves
import Derived.Shelf.Abstract
import Derived.Shelf.RegionOpen
import Derived.OwnWalkIn
import Derived.TacticsInMore
import Derived.LoopNIn
import Derived.LoopIn
import Derived.Deep.DeepMust
import Derived.RangeFuncBox
import Derived.WalkMore
import Derived.Laws.IdiomStrings
import Derived.Laws.AppendOwn
import Derived.OwnWalk
set_option linter.unusedVariables false
set_option linter.unusedSimpArgs false
namespace Go.Proofs.YthdfnkdifjajlaaGreatDoor
open Go.RowKit Go.Pb Go.Pb.Ware Go.Pb.Sag


set_option maxRecDepth 100000 in
set_option maxHeartbeats 1000000 in
theorem rWithin_any {w : World} {n lo hi : Int} :
  Calls Tryz.prog 33 #[.int .i64 n, .int .i64 lo, .int .i64 hi] w (Ret w (.bool (btw n lo hi))) := by
 unfold Ret
 unfold btw
 go_enter Tryz.func33,Tryz.ntmps33
 go_wp2
 all_goals (go_ret;exact ⟨ret_bool (by rw [Bool.eq_iff_iff];simp;omega),by go_grown⟩)
theorem rWithin {w : World} {n lo hi : Int} {b : Bool} (hx : btw n lo hi = b) :
  Calls Tryz.prog 33 #[.int .i64 n, .int .i64 lo, .int .i64 hi] w (Ret w (.bool b)) := by subst hx;exact rWithin_any
end Go.Proofs.YthdfnkdifjajlaaGreatDoor
namespace Go.Proofs.YthdfnkdifjajlaaGreatDoor
open Go.RowKit Go.Pb Go.Pb.Ware Go.Pb.Sag


open Go.Pb.Txt
set_option maxRecDepth 100000 in
set_option maxHeartbeats 1000000 in
theorem printed_any {w : World} {v : Value} {qs : List Sq} (h : StAt w v qs) {b : Bool} (hb : textB qs = b) :
  Calls Tryz.prog 10 #[v] w (Ret w (.bool b)) := by
 unfold Ret
 obtain ⟨pa,pc,rfl,hpl,hpc⟩ := h.shape
 have HB := hid hb;clear hb
 obtain ⟨n,hn⟩ : ∃ n,qs.length = n := ⟨_,rfl⟩
 have HN := hid hn
 rw [hn] at h hpl ⊢
 clear hn
 by_cases h5 : n ≤ 5
 ·have h5i : ¬ (5 : Int) < (n : Int) := by omega
  go_enter Tryz.func10,Tryz.ntmps10
  go_wp2_with fail
  go_loopg [10] n (fun gk iv wr => ∃ k : Nat,k ≤ n ∧ gk = n - k ∧ iv = .int .i64 k ∧ Hid ((qs.take k).all inB = true) ∧ Below w.heap.size w wr)
  case atStart => exact ⟨0,Nat.zero_le _,rfl,rfl,hid (by simp),Below.refl _ _⟩
  case round =>
   obtain ⟨k,hk,hgk,rfl,HA,hB⟩ := hrel
   have HGK := hid hgk;clear hgk
   by_cases hlt : k < n
   ·have hki : (k : Int) < (n : Int) := by omega
    have hkq : k < qs.length := by rw [HN.out];exact hlt
    obtain ⟨a',ha,e0,e1,e2⟩ := (show StAt wr (.slice pa qs.length pc) qs by rw [HN.out];exact h.below hB).row hkq
    subst ha
    obtain ⟨q,hq⟩ : ∃ q,qs[k] = q := ⟨_,rfl⟩
    rw [hq] at e0 e1 e2
    have HQ := hid hq;clear hq
    obtain ⟨qy,qx,qt⟩ := q
    dsimp only at e0 e1 e2
    obtain ⟨v1,hv1⟩ : ∃ v,v = wr := ⟨_,rfl⟩
    subst hv1
    go_upto_region 6 with fail
    generalize hW : World.alloc v1 _ = v5
    have c0 : v5.cell? ⟨v1.heap.size,0,none⟩ = some (.int .i64 qy) := by rw [← hW];simp [go_sem]
    have c1 : v5.cell? ⟨v1.heap.size,1,none⟩ = some (.int .i64 qx) := by rw [← hW];simp [go_sem]
    have c2 : v5.cell? ⟨v1.heap.size,2,none⟩ = some (.bool qt) := by rw [← hW];simp [go_sem]
    have hb5 : Below v1.heap.size v1 v5 := by rw [← hW];exact (Below.refl _ _).alloc (Nat.le_refl _) _
    replace hB := bnext (w := w) hB hb5
    clear hb5 hW e0 e1 e2
    obtain ⟨b1,hb1⟩ : ∃ b,btw qy 0 5 = b := ⟨_,rfl⟩
    obtain ⟨b2,hb2⟩ : ∃ b,btw qx 0 5 = b := ⟨_,rfl⟩
    have HB1 := hid hb1;have HB2 := hid hb2;clear hb1 hb2
    go_wp2_with fail
    refine (sBetween HB1.out).mono ?_
    rintro e w2 ⟨rfl,hb⟩
    replace hB := bnext (w := w) hB hb
    replace c0 := bkeep hb c0
    replace c1 := bkeep hb c1
    replace c2 := bkeep hb c2
    clear hb
    cases b1
    ·have hin : inB qs[k] = false := by rw [HQ.out];unfold inB;simp [HB1.out,HB2.out]
     have hbf : b = false := by rw [← HB.out];unfold textB;rw [all_out hkq hin,Bool.and_false]
     subst hbf
     clear hin
     go_wp2_with fail
     go_ret
     exact ⟨rfl,hB⟩
    ·go_wp2_with fail
     refine (sBetween HB2.out).mono ?_
     rintro e w3 ⟨rfl,hb⟩
     replace hB := bnext (w := w) hB hb
     replace c0 := bkeep hb c0
     replace c1 := bkeep hb c1
     replace c2 := bkeep hb c2
     clear hb
     cases b2
     ·have hin : inB qs[k] = false := by rw [HQ.out];unfold inB;simp [HB1.out,HB2.out]
      have hbf : b = false := by rw [← HB.out];unfold textB;rw [all_out hkq hin,Bool.and_false]
      subst hbf
      clear hin
      go_wp2_with fail
      go_ret
      exact ⟨rfl,hB⟩
     ·have hin : inB qs[k] = true := by rw [HQ.out];unfold inB;simp [HB1.out,HB2.out]
      have HA2 := hid (all_in hkq HA.out hin)
      clear hin HA
      go_wp2_with fail
      go_roundg (n - (k + 1))
      case measure => have h := HGK.out;omega
      case rel => exact ⟨k + 1,by omega,rfl,by go_num,HA2,hB⟩
   ·obtain rfl : k = n := by omega
    have hbt : b = true := by rw [← HB.out];unfold textB;rw [HN.out,decide_eq_true h5,Bool.true_and];have h := HA.out;rwa [List.take_of_length_le (by rw [HN.out];exact Nat.le_refl _)] at h
    subst hbt
    go_wp2_with fail
    go_ret
    exact ⟨rfl,hB⟩
 ·have h5i : (5 : Int) < (n : Int) := by omega
  have hbf : b = false := by rw [← HB.out];unfold textB;rw [HN.out,decide_eq_false h5,Bool.false_and]
  subst hbf
  go_enter Tryz.func10,Tryz.ntmps10
  go_wp2_with fail
  go_ret
  exact ⟨rfl,Below.refl _ _⟩
set_option maxRecDepth 100000 in
set_option maxHeartbeats 1000000 in
theorem rText_any {w : World} {v : Value} {qs : List Sq} (h : StAt w v qs) {b : Bool} (hb : textB qs = b) :
  Calls Tryz.prog 15 #[v] w (Ret w (.bool b)) := by
 unfold Ret
 obtain ⟨pa,pc,rfl,hpl,hpc⟩ := h.shape
 have HB := hid hb;clear hb
 obtain ⟨n,hn⟩ : ∃ n,qs.length = n := ⟨_,rfl⟩
 have HN := hid hn
 rw [hn] at h hpl ⊢
 clear hn
 by_cases h5 : n ≤ 5
 ·have h5i : ¬ (5 : Int) < (n : Int) := by omega
  go_enter Tryz.func15,Tryz.ntmps15
  go_wp2_with fail
  go_loopg [10] n (fun gk iv wr => ∃ k : Nat,k ≤ n ∧ gk = n - k ∧ iv = .int .i64 k ∧ Hid ((qs.take k).all inB = true) ∧ Below w.heap.size w wr)
  case atStart => exact ⟨0,Nat.zero_le _,rfl,rfl,hid (by simp),Below.refl _ _⟩
  case round =>
   obtain ⟨k,hk,hgk,rfl,HA,hB⟩ := hrel
   have HGK := hid hgk;clear hgk
   by_cases hlt : k < n
   ·have hki : (k : Int) < (n : Int) := by omega
    have hkq : k < qs.length := by rw [HN.out];exact hlt
    obtain ⟨a',ha,e0,e1,e2⟩ := (show StAt wr (.slice pa qs.length pc) qs by rw [HN.out];exact h.below hB).row hkq
    subst ha
    obtain ⟨q,hq⟩ : ∃ q,qs[k] = q := ⟨_,rfl⟩
    rw [hq] at e0 e1 e2
    have HQ := hid hq;clear hq
    obtain ⟨qy,qx,qt⟩ := q
    dsimp only at e0 e1 e2
    obtain ⟨v1,hv1⟩ : ∃ v,v = wr := ⟨_,rfl⟩
    subst hv1
    go_upto_region 6 with fail
    generalize hW : World.alloc v1 _ = v5
    have c0 : v5.cell? ⟨v1.heap.size,0,none⟩ = some (.int .i64 qy) := by rw [← hW];simp [go_sem]
    have c1 : v5.cell? ⟨v1.heap.size,1,none⟩ = some (.int .i64 qx) := by rw [← hW];simp [go_sem]
    have c2 : v5.cell? ⟨v1.heap.size,2,none⟩ = some (.bool qt) := by rw [← hW];simp [go_sem]
    have hb5 : Below v1.heap.size v1 v5 := by rw [← hW];exact (Below.refl _ _).alloc (Nat.le_refl _) _
    replace hB := bnext (w := w) hB hb5
    clear hb5 hW e0 e1 e2
    obtain ⟨b1,hb1⟩ : ∃ b,btw qy 0 5 = b := ⟨_,rfl⟩
    obtain ⟨b2,hb2⟩ : ∃ b,btw qx 0 5 = b := ⟨_,rfl⟩
    have HB1 := hid hb1;have HB2 := hid hb2;clear hb1 hb2
    go_wp2_with fail
    refine (rWithin HB1.out).mono ?_
    rintro e w2 ⟨rfl,hb⟩
    replace hB := bnext (w := w) hB hb
    replace c0 := bkeep hb c0
    replace c1 := bkeep hb c1
    replace c2 := bkeep hb c2
    clear hb
    cases b1
    ·have hin : inB qs[k] = false := by rw [HQ.out];unfold inB;simp [HB1.out,HB2.out]
     have hbf : b = false := by rw [← HB.out];unfold textB;rw [all_out hkq hin,Bool.and_false]
     subst hbf
     clear hin
     go_wp2_with fail
     go_ret
     exact ⟨rfl,hB⟩
    ·go_wp2_with fail
     refine (rWithin HB2.out).mono ?_
     rintro e w3 ⟨rfl,hb⟩
     replace hB := bnext (w := w) hB hb
     replace c0 := bkeep hb c0
     replace c1 := bkeep hb c1
     replace c2 := bkeep hb c2
     clear hb
     cases b2
     ·have hin : inB qs[k] = false := by rw [HQ.out];unfold inB;simp [HB1.out,HB2.out]
      have hbf : b = false := by rw [← HB.out];unfold textB;rw [all_out hkq hin,Bool.and_false]
      subst hbf
      clear hin
      go_wp2_with fail
      go_ret
      exact ⟨rfl,hB⟩
     ·have hin : inB qs[k] = true := by rw [HQ.out];unfold inB;simp [HB1.out,HB2.out]
      have HA2 := hid (all_in hkq HA.out hin)
      clear hin HA
      go_wp2_with fail
      go_roundg (n - (k + 1))
      case measure => have h := HGK.out;omega
      case rel => exact ⟨k + 1,by omega,rfl,by go_num,HA2,hB⟩
   ·obtain rfl : k = n := by omega
    have hbt : b = true := by rw [← HB.out];unfold textB;rw [HN.out,decide_eq_true h5,Bool.true_and];have h := HA.out;rwa [List.take_of_length_le (by rw [HN.out];exact Nat.le_refl _)] at h
    subst hbt
    go_wp2_with fail
    go_ret
    exact ⟨rfl,hB⟩
 ·have h5i : (5 : Int) < (n : Int) := by omega
  have hbf : b = false := by rw [← HB.out];unfold textB;rw [HN.out,decide_eq_false h5,Bool.false_and]
  subst hbf
  go_enter Tryz.func15,Tryz.ntmps15
  go_wp2_with fail
  go_ret
  exact ⟨rfl,Below.refl _ _⟩
theorem isSpace_at {w : World} : PredAtRunes Tryz.prog 54 #[] isSp w := fun W x hx _ => by
 unfold FnGives
 show Calls Tryz.prog 54 #[.int .i32 (x : Nat)] W _
 go_enter Tryz.func54,Tryz.ntmps54
 go_wp2
 go_ret
 refine ⟨?_,0,rfl⟩
 refine ret_bool ?_
 unfold isSp
 rw [Bool.eq_iff_iff]
 simp
 omega
theorem hash_prefix {l : Bs} : Lib.hasPrefix l [35] = decide (l.head? = some 35) := by
 cases l with
 | nil => rfl
 | cons b l =>
  unfold Lib.hasPrefix
  by_cases h : b = 35
  ·subst h;simp
  ·have h2 : ((35 : UInt8) == b) = false := beq_eq_false_iff_ne.mpr (Ne.symm h)
   simp [h,h2,List.isPrefixOf]
set_option maxRecDepth 100000 in
set_option maxHeartbeats 1000000 in
theorem wordsOf_any {w : World} {s : ByteArray} (hs : s.size ≤ 100000) :
  Calls Tryz.prog 36 #[.string s] w (fun e w' => ∃ v,e = .returned v ∧ Below w.heap.size w w' ∧ StrsAt w.heap.size 9 v (sayW s.data.toList) w') := by
 obtain ⟨b,hb⟩ : ∃ b,Lib.hasPrefix s.data.toList (⟨#[35]⟩ : ByteArray).data.toList = b := ⟨_,rfl⟩
 have hb2 : decide (s.data.toList.head? = some 35) = b := by rw [← hb];exact hash_prefix.symm
 have HB := hid hb2
 have HB0 := hid hb
 clear hb hb2
 go_enter Tryz.func36,Tryz.ntmps36
 go_wp2_with fail
 refine (Tryz.strings_HasPrefix s ⟨#[35]⟩ w).mono ?_
 rintro e w1 ⟨rfl,rfl⟩
 rw [HB0.out]
 cases b
 ·go_wp2_with fail
  refine (Tryz.strings_FieldsFunc_runes 54 #[] (enters_of Tryz.func54 (by kernel_rfl) rfl) isSp s _ (by omega) isSpace_at).mono ?_
  rintro e w2 ⟨ad,rfl,hA,ho,hB⟩
  go_wp2_with fail
  go_ret
  have hw : sayW s.data.toList = wordsL s.data.toList := by unfold sayW;rw [if_neg (of_decide_eq_false HB.out)]
  refine ⟨_,rfl,hB, ?_⟩
  rw [hw]
  unfold StrsAt
  rw [← map_str fields_words, ← fields_words,List.length_map]
  exact ho
 ·go_wp2_with fail
  go_ret
  have hw : sayW s.data.toList = [] := by unfold sayW;rw [if_pos (of_decide_eq_true HB.out)]
  refine ⟨_,rfl,Below.refl _ _, ?_⟩
  rw [hw]
  exact World.ownsRow_nil _ _ _ _
theorem below_bytes {w : World} {e : TypeId} {s : ByteArray} : Below w.heap.size w (Lib.bytesWorld w e s) := ⟨rfl,rfl,rfl,by rw [Lib.bytesWorld_size];omega,fun j hj => Lib.bytesWorld_at_old w e s j hj⟩
theorem empty_no {s : ByteArray} (h : s.size ≠ 0) : s.toList.isEmpty = false := by
 rw [Lib.toList_data]
 cases hl : s.data.toList with
 | nil => exact absurd (by have := congrArg List.length hl;simpa using this) h
 | cons a l => rfl
theorem empty_yes {s : ByteArray} (h : s.size = 0) : s.toList.isEmpty = true := by
 rw [Lib.toList_data]
 cases hl : s.data.toList with
 | nil => rfl
 | cons a l => exact absurd (by have := congrArg List.length hl;simpa using this) (show ¬ s.size = l.length + 1 by omega)
set_option maxRecDepth 100000 in
set_option maxHeartbeats 1000000 in
theorem number1 {w : World} {s : ByteArray} (hs : s.size ≤ 100000) :
  Calls Tryz.prog 37 #[.string s, .int .i64 1] w (Ret w (.tuple #[.int .i64 (((digitW s.data.toList).getD 0 : Nat) : Int), .bool (digitW s.data.toList).isSome])) := by
 unfold Ret
 obtain ⟨r,hr⟩ : ∃ r,digitW s.data.toList = r := ⟨_,rfl⟩
 rw [hr]
 have hmn : min (1 : Int) 18 = 1 := by decide
 by_cases h1 : s.size = 1
 ·obtain ⟨c,rfl⟩ := Lib.one_byte s h1
  have hc := c.toNat_lt
  have HR := hid hr;clear hr h1
  by_cases hd : 48 ≤ c.toNat ∧ c.toNat ≤ 57
  ·have hrs : r = some (c.toNat - 48) := by rw [← HR.out];unfold digitW;exact if_pos hd
   subst hrs
   obtain ⟨h48,h57⟩ := hd
   have hc1 : ¬ (c.toNat : Int) < 48 := by omega
   have hc2 : ¬ (57 : Int) < (c.toNat : Int) := by omega
   go_enter Tryz.func37,Tryz.ntmps37
   go_wp2_with fail
   rw [Lib.run_convert_string_bytes _ 9 33 5 _ Tryz.underlying9 Tryz.underlying33 Tryz.underlying5]
   simp only [Result.andThen]
   rw [Oper.upon_value]
   generalize hW : Lib.bytesWorld w 5 _ = v1
   have r0 : v1.cell? ⟨w.heap.size,0,none⟩ = some (.int .u8 (c.toNat : Nat)) := by rw [← hW];exact Lib.bytesWorld_cell w 5 ⟨#[c]⟩ 0 (by show 0 < 1;exact Nat.zero_lt_one)
   have hB : Below w.heap.size w v1 := by rw [← hW];exact below_bytes
   clear hW
   go_wp2_with fail
   go_loopg [6,31] 1 (fun gk nv iv wr => ∃ k : Nat,k ≤ 1 ∧ gk = 1 - k ∧ nv = .int .i64 (if k = 0 then 0 else (c.toNat : Int) - 48) ∧ iv = .int .i64 k ∧ v1 = wr)
   case atStart => exact ⟨0,Nat.zero_le _,rfl,rfl,rfl,rfl⟩
   case round =>
    obtain ⟨k,hk,hgk,rfl,rfl,hw⟩ := hrel
    subst hw
    have HGK := hid hgk;clear hgk
    by_cases hk0 : k = 0
    ·subst hk0
     go_wp2_with fail
     go_roundg 0
     case measure => have h := HGK.out;omega
     case rel => exact ⟨1,by omega,rfl,by first | rfl | (congr 1;simp;omega),by go_num,rfl⟩
    ·obtain rfl : k = 1 := by omega
     go_wp2_with fail
     go_ret2
     refine ⟨?_,hB⟩
     simp
     omega
  ·have hrs : r = none := by rw [← HR.out];unfold digitW;exact if_neg hd
   subst hrs
   go_enter Tryz.func37,Tryz.ntmps37
   go_wp2_with fail
   rw [Lib.run_convert_string_bytes _ 9 33 5 _ Tryz.underlying9 Tryz.underlying33 Tryz.underlying5]
   simp only [Result.andThen]
   rw [Oper.upon_value]
   generalize hW : Lib.bytesWorld w 5 _ = v1
   have r0 : v1.cell? ⟨w.heap.size,0,none⟩ = some (.int .u8 (c.toNat : Nat)) := by rw [← hW];exact Lib.bytesWorld_cell w 5 ⟨#[c]⟩ 0 (by show 0 < 1;exact Nat.zero_lt_one)
   have hB : Below w.heap.size w v1 := by rw [← hW];exact below_bytes
   clear hW
   go_wp2_with fail
   go_loopg [6,31] 1 (fun gk nv iv wr => gk = 1 ∧ nv = .int .i64 0 ∧ iv = .int .i64 0 ∧ v1 = wr)
   case atStart => exact ⟨rfl,rfl,rfl,rfl⟩
   case round =>
    obtain ⟨hgk,rfl,rfl,hw⟩ := hrel
    subst hw
    by_cases hc1 : (c.toNat : Int) < 48
    ·go_wp2_with fail
     go_ret2
     exact ⟨rfl,hB⟩
    ·have hc2 : (57 : Int) < (c.toNat : Int) := by omega
     go_wp2_with fail
     go_ret2
     exact ⟨rfl,hB⟩
 ·have hrs : r = none := by rw [← hr];unfold digitW;split <;> first | rfl | (rename_i heq;exact absurd (by have := congrArg List.length heq;simpa using this) h1)
  subst hrs
  clear hr
  by_cases h0 : s.size = 0
  ·have hem := empty_yes h0
   go_enter Tryz.func37,Tryz.ntmps37
   go_wp2_with fail
   go_ret2
   exact ⟨rfl,Below.refl _ _⟩
  ·have hem := empty_no h0
   have hsz : (1 : Int) < (s.size : Int) := by omega
   go_enter Tryz.func37,Tryz.ntmps37
   go_wp2_with fail
   go_ret2
   exact ⟨rfl,Below.refl _ _⟩
end Go.Proofs.YthdfnkdifjajlaaGreatDoor
namespace Go.Proofs.YthdfnkdifjajlaaGreatDoor
open Go.RowKit Go.Pb Go.Pb.Ware Go.Pb.Sag


open Go.Pb.Txt
theorem number1' {w : World} {l : Bs} {r : Option Nat} (hs : l.length ≤ 100000) (hr : digitW l = r) : Calls Tryz.prog 37 #[.string ⟨l.toArray⟩, .int .i64 1] w (Ret w (.tuple #[.int .i64 ((r.getD 0 : Nat) : Int), .bool r.isSome])) := by
 subst hr
 exact number1 (s := ⟨l.toArray⟩) hs
theorem elem_at {ws : List Bs} {k : Nat} {l : Bs} (hk : k < ws.length) (h : ws[k] = l) : ws[k]? = some l ∧ ws.getD k [] = l := by
 have h1 : ws[k]? = some l := by rw [List.getElem?_eq_getElem hk,h]
 exact ⟨h1,by rw [List.getD_eq_getElem?_getD,h1];rfl⟩
theorem form_no {ws : List Bs} (h : formB ws = false) : standW ws = none := by unfold standW;rw [if_neg (by rw [h];simp)]
theorem form_yes {ws : List Bs} {a b : Option Nat} (h : formB ws = true) (h1 : digitW (ws.getD 1 []) = a) (h2 : digitW (ws.getD 2 []) = b) : standW ws = a.bind (fun y : Nat => b.map fun x : Nat => (⟨(y : Int),(x : Int),turnedB ws⟩ : Sq)) := by unfold standW;rw [if_pos h,h1,h2]
set_option maxRecDepth 100000 in
set_option maxHeartbeats 1000000 in
theorem readStand_any {w : World} {B : Nat} {v : Value} {ws : List Bs} (h : StrsAt B 9 v ws w) (hne : ws ≠ []) (hsm : ∀ x ∈ ws,x.length ≤ 100000) {r : Option Sq} (hr : standW ws = r) :
  Calls Tryz.prog 17 #[v] w (fun e w' => e = .returned (.tuple #[.agg #[.int .i64 (r.getD ⟨0,0,false⟩).y, .int .i64 (r.getD ⟨0,0,false⟩).x, .bool (r.getD ⟨0,0,false⟩).turned], .bool r.isSome]) ∧ Below w.heap.size w w') := by
 obtain ⟨va,vc,rfl,hll⟩ := h.shape
 have h0 : 0 < ws.length := by cases ws with | nil => exact absurd rfl hne | cons a l => simp
 obtain ⟨g,rfl, -⟩ := h.elem h0
 obtain ⟨g',hg',e0⟩ := h.elem (k := 0) (by omega)
 obtain rfl : g = g' := by (injection hg' with hg';injection hg')
 obtain ⟨l0,hl0⟩ : ∃ l,ws[0]'(by omega) = l := ⟨_,rfl⟩
 rw [hl0] at e0
 have hs0 : l0.length ≤ 100000 := hl0 ▸ hsm _ (List.getElem_mem _)
 obtain ⟨hq0,hd0⟩ := elem_at _ hl0
 unfold strV at e0
 clear hg' hl0
 by_cases h4 : ws.length = 4
 ·have hlen := h4
  obtain ⟨g',hg',e1⟩ := h.elem (k := 1) (by omega)
  obtain rfl : g = g' := by (injection hg' with hg';injection hg')
  obtain ⟨l1,hl1⟩ : ∃ l,ws[1]'(by omega) = l := ⟨_,rfl⟩
  rw [hl1] at e1
  have hs1 : l1.length ≤ 100000 := hl1 ▸ hsm _ (List.getElem_mem _)
  obtain ⟨hq1,hd1⟩ := elem_at _ hl1
  unfold strV at e1
  clear hg' hl1
  obtain ⟨g',hg',e2⟩ := h.elem (k := 2) (by omega)
  obtain rfl : g = g' := by (injection hg' with hg';injection hg')
  obtain ⟨l2,hl2⟩ : ∃ l,ws[2]'(by omega) = l := ⟨_,rfl⟩
  rw [hl2] at e2
  have hs2 : l2.length ≤ 100000 := hl2 ▸ hsm _ (List.getElem_mem _)
  obtain ⟨hq2,hd2⟩ := elem_at _ hl2
  unfold strV at e2
  clear hg' hl2
  obtain ⟨g',hg',e3⟩ := h.elem (k := 3) (by omega)
  obtain rfl : g = g' := by (injection hg' with hg';injection hg')
  obtain ⟨l3,hl3⟩ : ∃ l,ws[3]'(by omega) = l := ⟨_,rfl⟩
  rw [hl3] at e3
  have hs3 : l3.length ≤ 100000 := hl3 ▸ hsm _ (List.getElem_mem _)
  obtain ⟨hq3,hd3⟩ := elem_at _ hl3
  unfold strV at e3
  clear hg' hl3
  rw [h4]
  clear h4 h0 hll
  cases t3 : (l3 == [116,117,114,110,101,100])
  ·have hf : formB ws = false := by unfold formB turnedB;rw [hlen,hq3];simp [turnedWord];intro _ e;subst e;simp at t3
   rw [form_no hf] at hr
   have hr2 := hr.symm
   subst hr2
   clear hr
   cases t0 : (l0 == [115,116,97,110,100])
   ·go_enter Tryz.func17,Tryz.ntmps17
    go_wp2_with fail
    exact bodyPost_ret (v := .tuple #[.agg #[.int .i64 0, .int .i64 0, .bool false], .bool false]) (by simp [results,Tryz.results17,go_sem, *]) rfl ⟨rfl,by first | exact hB | go_grown⟩
   ·go_enter Tryz.func17,Tryz.ntmps17
    go_wp2_with fail
    exact bodyPost_ret (v := .tuple #[.agg #[.int .i64 0, .int .i64 0, .bool false], .bool false]) (by simp [results,Tryz.results17,go_sem, *]) rfl ⟨rfl,by first | exact hB | go_grown⟩
  ·have hl3e : l3 = [116,117,114,110,101,100] := by simpa using t3
   cases t0 : (l0 == [115,116,97,110,100])
   ·have hf : formB ws = false := by unfold formB;rw [hq0];simp [standWord];intro e;subst e;simp at t0
    rw [form_no hf] at hr
    have hr2 := hr.symm
    subst hr2
    clear hr
    go_enter Tryz.func17,Tryz.ntmps17
    go_wp2_with fail
    exact bodyPost_ret (v := .tuple #[.agg #[.int .i64 0, .int .i64 0, .bool false], .bool false]) (by simp [results,Tryz.results17,go_sem, *]) rfl ⟨rfl,by first | exact hB | go_grown⟩
   ·have hl0e : l0 = [115,116,97,110,100] := by simpa using t0
    go_enter Tryz.func17,Tryz.ntmps17
    subst hl0e
    have hform : formB ws = true := by unfold formB turnedB;rw [hq0,hlen];simp [hq3,hl3e,standWord,turnedWord]
    have htb : turnedB ws = true := by unfold turnedB;rw [hlen];simp [hq3,hl3e,turnedWord]
    have HF := hid (form_yes hform rfl rfl)
    rw [htb,hd1,hd2] at HF
    go_upto_region 4 with fail
    generalize hW : World.alloc w _ = v1
    have r0 : v1.cell? ⟨w.heap.size,0,none⟩ = some (.int .i64 0) := by rw [← hW];simp [go_sem]
    have r1 : v1.cell? ⟨w.heap.size,1,none⟩ = some (.int .i64 0) := by rw [← hW];simp [go_sem]
    have r2 : v1.cell? ⟨w.heap.size,2,none⟩ = some (.bool false) := by rw [← hW];simp [go_sem]
    have f0 : v1.frozen? ⟨w.heap.size,0,none⟩ = false := by rw [← hW];simp [go_sem]
    have f1 : v1.frozen? ⟨w.heap.size,1,none⟩ = false := by rw [← hW];simp [go_sem]
    have f2 : v1.frozen? ⟨w.heap.size,2,none⟩ = false := by rw [← hW];simp [go_sem]
    have hB : Below w.heap.size w v1 := by rw [← hW];exact (Below.refl _ _).alloc (Nat.le_refl _) _
    replace e0 := bkeep hB e0;replace e1 := bkeep hB e1;replace e2 := bkeep hB e2
    clear hW
    obtain ⟨a1,ha1⟩ : ∃ a,digitW l1 = a := ⟨_,rfl⟩
    go_wp2_with fail
    refine (number1' hs1 ha1).mono ?_
    rintro e w2 ⟨rfl,hb⟩
    replace f0 := bfree hb r0 f0
    replace f1 := bfree hb r1 f1
    replace f2 := bfree hb r2 f2
    replace e2 := bkeep hb e2
    replace r0 := bkeep hb r0
    replace r1 := bkeep hb r1
    replace r2 := bkeep hb r2
    replace hB := bnext (w := w) hB hb
    have hz1 := hB.size
    clear hb
    obtain ⟨a2,ha2⟩ : ∃ a,digitW l2 = a := ⟨_,rfl⟩
    go_wp2_with fail
    refine (number1' hs2 ha2).mono ?_
    rintro e w3 ⟨rfl,hb⟩
    replace f0 := bfree hb r0 f0
    replace f1 := bfree hb r1 f1
    replace f2 := bfree hb r2 f2
    replace r0 := bkeep hb r0
    replace r1 := bkeep hb r1
    replace r2 := bkeep hb r2
    replace hB := bnext (w := w) hB hb
    have hz2 := hB.size
    clear hb
    have HR := hid (hr.symm.trans HF.out)
    clear hr HF
    rw [ha1,ha2] at HR
    cases a1 with
    | none =>
     have hr2 := HR.out
     subst hr2
     go_wp2_with fail
     exact bodyPost_ret (v := .tuple #[.agg #[.int .i64 0, .int .i64 0, .bool false], .bool false]) (by simp [results,Tryz.results17,go_sem, *]) rfl ⟨rfl,by first | exact hB | go_grown⟩
    | some y =>
     cases a2 with
     | none =>
      have hr2 := HR.out
      subst hr2
      go_wp2_with fail
      exact bodyPost_ret (v := .tuple #[.agg #[.int .i64 0, .int .i64 0, .bool false], .bool false]) (by simp [results,Tryz.results17,go_sem, *]) rfl ⟨rfl,by first | exact hB | go_grown⟩
     | some x =>
      have hr2 := HR.out
      subst hr2
      go_wp2_with fail
      exact bodyPost_ret (v := .tuple #[.agg #[.int .i64 (y : Int), .int .i64 (x : Int), .bool true], .bool true]) (by simp [results,Tryz.results17,go_sem, *]) rfl ⟨rfl,by first | exact hB | go_grown⟩
 ·by_cases h3 : ws.length = 3
  ·have hlen := h3
   have hq3 : ws[3]? = none := List.getElem?_eq_none (by omega)
   obtain ⟨g',hg',e1⟩ := h.elem (k := 1) (by omega)
   obtain rfl : g = g' := by (injection hg' with hg';injection hg')
   obtain ⟨l1,hl1⟩ : ∃ l,ws[1]'(by omega) = l := ⟨_,rfl⟩
   rw [hl1] at e1
   have hs1 : l1.length ≤ 100000 := hl1 ▸ hsm _ (List.getElem_mem _)
   obtain ⟨hq1,hd1⟩ := elem_at _ hl1
   unfold strV at e1
   clear hg' hl1
   obtain ⟨g',hg',e2⟩ := h.elem (k := 2) (by omega)
   obtain rfl : g = g' := by (injection hg' with hg';injection hg')
   obtain ⟨l2,hl2⟩ : ∃ l,ws[2]'(by omega) = l := ⟨_,rfl⟩
   rw [hl2] at e2
   have hs2 : l2.length ≤ 100000 := hl2 ▸ hsm _ (List.getElem_mem _)
   obtain ⟨hq2,hd2⟩ := elem_at _ hl2
   unfold strV at e2
   clear hg' hl2
   rw [h3]
   clear h4 h3 h0 hll
   cases t0 : (l0 == [115,116,97,110,100])
   ·have hf : formB ws = false := by unfold formB;rw [hq0];simp [standWord];intro e;subst e;simp at t0
    rw [form_no hf] at hr
    have hr2 := hr.symm
    subst hr2
    clear hr
    go_enter Tryz.func17,Tryz.ntmps17
    go_wp2_with fail
    exact bodyPost_ret (v := .tuple #[.agg #[.int .i64 0, .int .i64 0, .bool false], .bool false]) (by simp [results,Tryz.results17,go_sem, *]) rfl ⟨rfl,by first | exact hB | go_grown⟩
   ·have hl0e : l0 = [115,116,97,110,100] := by simpa using t0
    go_enter Tryz.func17,Tryz.ntmps17
    subst hl0e
    have hform : formB ws = true := by unfold formB turnedB;rw [hq0,hlen];simp [hq3,standWord,turnedWord]
    have htb : turnedB ws = false := by unfold turnedB;rw [hlen];simp [hq3,turnedWord]
    have HF := hid (form_yes hform rfl rfl)
    rw [htb,hd1,hd2] at HF
    go_upto_region 4 with fail
    generalize hW : World.alloc w _ = v1
    have r0 : v1.cell? ⟨w.heap.size,0,none⟩ = some (.int .i64 0) := by rw [← hW];simp [go_sem]
    have r1 : v1.cell? ⟨w.heap.size,1,none⟩ = some (.int .i64 0) := by rw [← hW];simp [go_sem]
    have r2 : v1.cell? ⟨w.heap.size,2,none⟩ = some (.bool false) := by rw [← hW];simp [go_sem]
    have f0 : v1.frozen? ⟨w.heap.size,0,none⟩ = false := by rw [← hW];simp [go_sem]
    have f1 : v1.frozen? ⟨w.heap.size,1,none⟩ = false := by rw [← hW];simp [go_sem]
    have f2 : v1.frozen? ⟨w.heap.size,2,none⟩ = false := by rw [← hW];simp [go_sem]
    have hB : Below w.heap.size w v1 := by rw [← hW];exact (Below.refl _ _).alloc (Nat.le_refl _) _
    replace e0 := bkeep hB e0;replace e1 := bkeep hB e1;replace e2 := bkeep hB e2
    clear hW
    obtain ⟨a1,ha1⟩ : ∃ a,digitW l1 = a := ⟨_,rfl⟩
    go_wp2_with fail
    refine (number1' hs1 ha1).mono ?_
    rintro e w2 ⟨rfl,hb⟩
    replace f0 := bfree hb r0 f0
    replace f1 := bfree hb r1 f1
    replace f2 := bfree hb r2 f2
    replace e2 := bkeep hb e2
    replace r0 := bkeep hb r0
    replace r1 := bkeep hb r1
    replace r2 := bkeep hb r2
    replace hB := bnext (w := w) hB hb
    have hz1 := hB.size
    clear hb
    obtain ⟨a2,ha2⟩ : ∃ a,digitW l2 = a := ⟨_,rfl⟩
    go_wp2_with fail
    refine (number1' hs2 ha2).mono ?_
    rintro e w3 ⟨rfl,hb⟩
    replace f0 := bfree hb r0 f0
    replace f1 := bfree hb r1 f1
    replace f2 := bfree hb r2 f2
    replace r0 := bkeep hb r0
    replace r1 := bkeep hb r1
    replace r2 := bkeep hb r2
    replace hB := bnext (w := w) hB hb
    have hz2 := hB.size
    clear hb
    have HR := hid (hr.symm.trans HF.out)
    clear hr HF
    rw [ha1,ha2] at HR
    cases a1 with
    | none =>
     have hr2 := HR.out
     subst hr2
     go_wp2_with fail
     exact bodyPost_ret (v := .tuple #[.agg #[.int .i64 0, .int .i64 0, .bool false], .bool false]) (by simp [results,Tryz.results17,go_sem, *]) rfl ⟨rfl,by first | exact hB | go_grown⟩
    | some y =>
     cases a2 with
     | none =>
      have hr2 := HR.out
      subst hr2
      go_wp2_with fail
      exact bodyPost_ret (v := .tuple #[.agg #[.int .i64 0, .int .i64 0, .bool false], .bool false]) (by simp [results,Tryz.results17,go_sem, *]) rfl ⟨rfl,by first | exact hB | go_grown⟩
     | some x =>
      have hr2 := HR.out
      subst hr2
      go_wp2_with fail
      exact bodyPost_ret (v := .tuple #[.agg #[.int .i64 (y : Int), .int .i64 (x : Int), .bool false], .bool true]) (by simp [results,Tryz.results17,go_sem, *]) rfl ⟨rfl,by first | exact hB | go_grown⟩
  ·have hq3 : True := trivial
   have hf : formB ws = false := by unfold formB turnedB;simp [h3,h4]
   rw [form_no hf] at hr
   have hr2 := hr.symm
   subst hr2
   clear hr
   have h4i : ((ws.length : Int) == 4) = false := beq_eq_false_iff_ne.mpr (by omega)
   have h3i : ((ws.length : Int) == 3) = false := beq_eq_false_iff_ne.mpr (by omega)
   cases t0 : (l0 == [115,116,97,110,100])
   ·go_enter Tryz.func17,Tryz.ntmps17
    go_wp2_with fail
    exact bodyPost_ret (v := .tuple #[.agg #[.int .i64 0, .int .i64 0, .bool false], .bool false]) (by simp [results,Tryz.results17,go_sem, *]) rfl ⟨rfl,by first | exact hB | go_grown⟩
   ·go_enter Tryz.func17,Tryz.ntmps17
    go_wp2_with fail
    exact bodyPost_ret (v := .tuple #[.agg #[.int .i64 0, .int .i64 0, .bool false], .bool false]) (by simp [results,Tryz.results17,go_sem, *]) rfl ⟨rfl,by first | exact hB | go_grown⟩
end Go.Proofs.YthdfnkdifjajlaaGreatDoor
namespace Go.Proofs.YthdfnkdifjajlaaGreatDoor
open Go.RowKit Go.Pb Go.Pb.Ware Go.Pb.Sag


open Go.Shelf Go.Pb.Txt
attribute [local go_sem] Oper.semAt_some
theorem split_any {w : World} {s : ByteArray} {m : Int} (hs : s.size < 4294967281) (hm : w.cell? ⟨1,0,none⟩ = some (.int .i64 m)) :
  Calls Tryz.prog 35 #[.string s, .string ⟨#[10]⟩] w (fun e w' => ∃ ps : List ByteArray,e = .returned (.slice (some ⟨w.heap.size,0,none⟩) ps.length ps.length) ∧ ps.map (·.data.toList) = piecesL 10 s.data.toList ∧ w'.heap[w.heap.size]? = some (.cells (ps.map Value.string).toArray 9 (0,0)) ∧ Below w.heap.size w w' ∧ ps.length ≤ s.size + 1) := by
 refine (Tryz.strings_Split s ⟨#[10]⟩ m w hs hm (by decide)).mono ?_
 rintro e w1 ⟨rfl,rfl⟩
 exact ⟨_,by rw [Lib.splitB_all ⟨#[10]⟩ (by decide) 0 _ s rfl],splitB_pieces,World.alloc_heap_new w _,(Below.refl _ _).alloc (Nat.le_refl _) _,by rw [Lib.splitB_all ⟨#[10]⟩ (by decide) 0 _ s rfl];have := Lib.countB_le ⟨#[10]⟩ (by decide) s.size s (Nat.le_refl _);omega⟩
set_option maxRecDepth 100000 in
set_option maxHeartbeats 2000000 in
theorem saying_mem {n : Nat} (hn : 1 ≤ n) {w : World} {s : ByteArray} {b : Nat} {m : Int} {PS : List Bs} (c0 : w.cell? ⟨b,0,none⟩ = some (.string s)) (hm : w.cell? ⟨1,0,none⟩ = some (.int .i64 m)) (hs : s.size ≤ 100000) (hPS : piecesL 10 s.data.toList = PS) :
  SeqMem Fence.wide n Tryz.prog 34 #[.pointer (some ⟨b,0,none⟩)] encY (KeepT w.heap.size 9) (MemY w.heap.size 9) (NextY PS) (fun xs => xs.map projY = saysUp PS PS.length) (fun _ => True) w := fun l J Jx W hW hJ hJx hY hj0 => by
 have hWs := hW.size
 have c1 := bkeep hW c0
 have hm1 := bkeep hW hm
 clear c0 hm
 refine callsIn_of_wp Tryz.func34 rfl trivial ?_ rfl
 simp only [Tryz.ntmps34,List.size_toArray,List.length_cons,List.length_nil,Nat.reduceAdd,Nat.reduceSub,Array.replicate_succ,Array.replicate_zero,List.push_toArray,List.append_toArray,List.nil_append,List.cons_append]
 gi_wp2_with (refine ⟨trivial, ?_⟩;gi_at_call 35;refine (callsIn_wide.2 (split_any (by omega) hm1)).mono ?_;rintro e w1 ⟨ps,rfl,hpd,hA,hB1,hps⟩)
 rw [hPS] at hpd
 have hz1 := hB1.size
 have hJ1 : J [] w1 := hJ _ _ _ none hj0 (grown_belowT hB1) (fun r e => by cases e)
 clear c1 hm1 hB1 hj0
 have hpl : ps.length = PS.length := by rw [← hpd,List.length_map]
 obtain ⟨N,hN⟩ : ∃ N,ps.length = N := ⟨_,rfl⟩
 rw [hN] at hpl hps ⊢
 have HN := hid hN;have HPL := hid hpl;have HPD := hid hpd;have HPS := hid hPS;clear hN hpl hpd hPS
 gi_loopw [9] (fun i wr => ∃ k : Nat,k ≤ N ∧ i = .int .i64 k ∧ (∃ pre : List Ln,pre.map projY = saysUp PS k ∧ J pre wr) ∧ wr.heap[W.heap.size]? = some (.cells (ps.map Value.string).toArray 9 (0,0)) ∧ W.heap.size ≤ wr.heap.size) (fun i _ => N - (intOf i).toNat)
 case atStart => exact ⟨0,Nat.zero_le _,rfl,⟨[],rfl,hJ1⟩,hA,hz1⟩
 case round =>
  clear hJ1 hA hz1
  obtain ⟨k,hk,rfl,⟨pre,hpre,hJk⟩,hA,hz1⟩ := hrel
  by_cases hlt : k < N
  ·have hkl : k < ps.length := by rw [HN.out];exact hlt
   have hki : (k : Int) < (N : Int) := by omega
   have hwr : wrap64 ((k : Int) + 1) = (k : Int) + 1 := IntWalk.wrap64_in _ (by omega)
   have e0 := heap_cell (k := k) hA (by rw [List.getElem?_map,List.getElem?_eq_getElem hkl];rfl)
   obtain ⟨p,hp⟩ : ∃ p,ps[k] = p := ⟨_,rfl⟩
   rw [hp] at e0
   obtain ⟨hsz,hsk⟩ := piece_facts HPD.out HPS.out (k := k) (p := p) (by rw [List.getElem?_eq_getElem hkl,hp])
   replace hsz : p.size ≤ 100000 := by simp at hsz;omega
   have HSK := hid hsk
   clear hp hkl hsk
   gi_upto_region 4 with (refine ⟨trivial, ?_⟩;gi_at_call 36;refine (callsIn_wide.2 (wordsOf_any (s := p) hsz)).mono ?_;rintro e w2 ⟨v,rfl,hB2,hS⟩;obtain ⟨va,vc,rfl, -⟩ := hS.shape)
   have hA2 := (hB2.block _ (by have := (Array.getElem?_eq_some_iff.1 hA).1;omega)).trans hA
   have hJ2 := hJ _ _ _ none hJk (grown_belowT hB2) (fun r e => by cases e)
   have hz2 := Nat.le_trans hz1 hB2.size
   have hS2 := hS.base (B2 := w.heap.size) (by omega)
   clear hS hA hJk hz1 hB2 e0 hsz
   obtain ⟨ws,hws⟩ : ∃ ws,sayW p.data.toList = ws := ⟨_,rfl⟩
   rw [hws] at hS2 ⊢
   rw [← HSK.out] at hws
   have HWS := hid hws;clear hws HSK
   by_cases h0 : ws = []
   ·subst h0
    have HUP := hid (show saysUp PS (k + 1) = saysUp PS k from by rw [saysUp,HWS.out,if_pos rfl,List.append_nil])
    gi_wp2
    (try (refine ⟨fun f h => (by cases h), ?_⟩;gi_wp2))
    go_roundw
    case rel => exact ⟨k + 1,by omega,by go_num,⟨pre,by rw [HUP.out];exact hpre,hJ2⟩,hA2,hz2⟩
    case measure => first | (simp [intOf];done) | (simp [intOf];omega)
   ·have hl0 : (0 : Int) < (ws.length : Int) := by cases ws with | nil => exact absurd rfl h0 | cons a l => simp
    have HUP := hid (show saysUp PS (k + 1) = saysUp PS k ++ [(k,ws)] from by rw [saysUp,HWS.out,if_neg h0])
    have hd0 : decide ((0 : Int) < (ws.length : Int)) = true := decide_eq_true hl0
    obtain ⟨fn,tmps,assign,body,hyy,hR⟩ := hY pre (k,ws, .slice va ws.length vc) _ hJ2 hS2 ⟨by rw [← HPL.out];exact hlt,hpre,HWS.out.symm,h0⟩
    simp only [encY] at hyy hR
    gi_wp2
    refine RoundIn.mono hR ?_
    rintro e W3 (⟨rfl,hJ5,hk5⟩ | ⟨rfl,hJx5⟩)
    ·gi_wp2
     go_roundw
     case rel => exact ⟨k + 1,by omega,by go_num,⟨pre ++ [(k,ws, .slice va ws.length vc)],by rw [HUP.out,List.map_append,hpre];rfl,hJ5⟩,hk5.2 _ (by omega) _ _ hA2,Nat.le_trans hz2 hk5.1⟩
     case measure => first | (simp [intOf];done) | (simp [intOf];omega)
    ·gi_wp2
     refine bodyPost_ret (results_none rfl _ _ _) rfl ?_
     exact ⟨⟨_,rfl⟩, .inr ⟨_,trivial,hJx5⟩⟩
  ·obtain rfl : k = N := by omega
   gi_wp2
   go_end0
   exact ⟨⟨_,rfl⟩, .inl ⟨pre,by rw [← HPL.out];exact hpre,hJk⟩⟩
set_option maxRecDepth 100000 in
set_option maxHeartbeats 400000 in
theorem saying_any {w : World} {s : ByteArray} :
  Calls Tryz.prog 16 #[.string s] w (fun e w' => e = .returned (.func (.func 34) #[] #[.pointer (some ⟨w.heap.size,0,none⟩)]) ∧ w'.cell? ⟨w.heap.size,0,none⟩ = some (.string s) ∧ Below w.heap.size w w' ∧ w.heap.size < w'.heap.size) := by
 go_enter Tryz.func16,Tryz.ntmps16
 go_wp2
 go_ret
 exact ⟨rfl,by simp [go_sem],by go_grown,by simp⟩
end Go.Proofs.YthdfnkdifjajlaaGreatDoor
namespace Go.Proofs.YthdfnkdifjajlaaGreatDoor
open Go.RowKit Go.Pb Go.Pb.Ware Go.Pb.Sag


theorem Tryz.infoS : (Tryz.prog.info? 37).map (fun i => (i.zero,i.size,i.bytes)) = some (some (.agg #[.int .i64 0, .int .i64 0, .bool false]),3,24) := by kernel_rfl
set_option maxRecDepth 100000 in
set_option maxHeartbeats 600000 in
theorem cloneS {w : World} {v : Value} {xs : List Sq} (hr : StAt w v xs) (hn : xs.length ≤ 1000) :
  Calls Tryz.prog 63 #[v] w (NewSts 37 xs w) := by
 obtain ⟨i0,hi,hz0,hz1,hz2⟩ := info_parts Tryz.infoS
 unfold NewSts
 obtain ⟨aa,cap,rfl,hl1,hl2⟩ := hr.shape
 cases aa with
 | none =>
  have hx : xs = [] := by rcases hr with ⟨_,h⟩ | ⟨a,_,h,_⟩ <;> first | exact h | exact List.map_eq_nil_iff.1 h | (simp at h;done) | cases h
  subst hx
  have hc : cap = 0 := by rcases hr with ⟨h,_⟩ | ⟨a,_,h,_⟩ <;> first | (injection h;done) | (injection h with _ _ h;exact h) | cases h
  subst hc
  have hnil : ∀ w' : World,(binOp BinOp.eql 22 (.slice none 0 0) (.slice none 0 0)).run Tryz.prog w' = .ok (.bool true) w' := fun w' => rfl
  go_enter Tryz.func63,Tryz.ntmps63
  go_wp2_with fail
  go_ret
  exact ⟨_,rfl,by go_grown,World.ownsRow_nil _ _ _ _⟩
 | some a =>
  have hnil : ∀ w' : World,(binOp BinOp.eql 22 (.slice (some a) xs.length cap) (.slice none 0 0)).run Tryz.prog w' = .ok (.bool false) w' := fun w' => rfl
  go_enter Tryz.func63,Tryz.ntmps63
  go_wp2_with (at_builtin;go_must (refine wpList_append_own _ rfl _ _ 22 rfl w.heap.size 37 i0 (.agg #[.int .i64 0, .int .i64 0, .bool false]) 3 24 Tryz.underlying22 hi hz0 hz1 hz2 rfl (by decide) _ _ _ rfl (owns_empty w 37 3) a xs.length cap (xs.flatMap cellsQ) rfl (flat_len cellsQ lenQ xs) ?c1 one_Q (by unfold maxLen;omega) (by omega) (by simp) ?_;(case c1 => exact fun j u h => akeep (stAt_cells hr j u h));intro v' w4 ho4 hg4 hnil;have hb0 := Pb.below_grown ((Below.refl _ w).alloc (Nat.le_refl _) _) hg4 (owns_empty w 37 3) (by simp) (Nat.le_refl _)))
  go_ret
  exact ⟨_,rfl,hb0,by simpa using ho4⟩
set_option maxRecDepth 100000 in
set_option maxHeartbeats 600000 in
theorem cloneF {w : World} {v : Value} {xs : List Ft} (hr : FeetAt w v xs) (hn : xs.length ≤ 1000) :
  Calls Tryz.prog 98 #[v] w (NewFeet 66 xs w) := by
 obtain ⟨i0,hi,hz0,hz1,hz2⟩ := info_parts Tryz.infoF
 unfold NewFeet
 obtain ⟨aa,cap,rfl,hl1⟩ := hr.shape
 rw [List.length_map] at hr hl1 ⊢
 cases aa with
 | none =>
  have hx : xs = [] := by rcases hr with ⟨_,h⟩ | ⟨a,_,h,_⟩ <;> first | exact h | exact List.map_eq_nil_iff.1 h | (simp at h;done) | cases h
  subst hx
  have hc : cap = 0 := by rcases hr with ⟨h,_⟩ | ⟨a,_,h,_⟩ <;> first | (injection h;done) | (injection h with _ _ h;exact h) | cases h
  subst hc
  have hnil : ∀ w' : World,(binOp BinOp.eql 95 (.slice none 0 0) (.slice none 0 0)).run Tryz.prog w' = .ok (.bool true) w' := fun w' => rfl
  go_enter Tryz.func98,Tryz.ntmps98
  go_wp2_with fail
  go_ret
  exact ⟨_,rfl,by go_grown,World.ownsRow_nil _ _ _ _⟩
 | some a =>
  have hnil : ∀ w' : World,(binOp BinOp.eql 95 (.slice (some a) xs.length cap) (.slice none 0 0)).run Tryz.prog w' = .ok (.bool false) w' := fun w' => rfl
  go_enter Tryz.func98,Tryz.ntmps98
  go_wp2_with (at_builtin;go_must (refine wpList_append_own _ rfl _ _ 95 rfl w.heap.size 66 i0 (.agg #[.int .i64 0, .int .i64 0, .int .i64 0, .int .i64 0]) 4 32 Tryz.underlying95 hi hz0 hz1 hz2 rfl (by decide) _ _ _ rfl (owns_empty w 66 4) a xs.length cap (xs.flatMap cellsF) rfl (flat_len cellsF lenF xs) ?c1 one_F (by unfold maxLen;omega) (by omega) (by simp) ?_;(case c1 => exact fun j u h => akeep (feetAt_cells hr j u h));intro v' w4 ho4 hg4 hnil;have hb0 := Pb.below_grown ((Below.refl _ w).alloc (Nat.le_refl _) _) hg4 (owns_empty w 66 4) (by simp) (Nat.le_refl _)))
  go_ret
  exact ⟨_,rfl,hb0,by simpa using ho4⟩
end Go.Proofs.YthdfnkdifjajlaaGreatDoor
namespace Go.Proofs.YthdfnkdifjajlaaGreatDoor
open Go.RowKit Go.Pb Go.Pb.Ware Go.Pb.Sag


open Go.Shelf Go.Pb.Txt
attribute [local go_sem] Oper.semAt_some
def ParseRes (r : List Sq × Int × Int) (W : World) (e : Ending) (w' : World) : Prop := ∃ v,e = .returned (.tuple #[v, .int .i64 r.2.1, .int .i64 r.2.2]) ∧ Below W.heap.size W w' ∧ StAt w' v r.1
theorem three_put {n0 T1 T2 T3 D : Nat} {w0 W : World} {x1 x2 x3 v0 v1 v2 : Value} {o : Obj} (h1 : Below n0 w0 W) (h2 : Boxed W n0 T1 x1) (h3 : Boxed W (n0 + 1) T2 x2) (h4 : Boxed W (n0 + 2) T3 x3) (hD : W.heap[D]? = some o) (hc : o.isCells = false) :
  Boxed (((W.setCell ⟨n0,0,none⟩ v0).setCell ⟨n0 + 1,0,none⟩ v1).setCell ⟨n0 + 2,0,none⟩ v2) n0 T1 v0 ∧ Boxed (((W.setCell ⟨n0,0,none⟩ v0).setCell ⟨n0 + 1,0,none⟩ v1).setCell ⟨n0 + 2,0,none⟩ v2) (n0 + 1) T2 v1 ∧ Boxed (((W.setCell ⟨n0,0,none⟩ v0).setCell ⟨n0 + 1,0,none⟩ v1).setCell ⟨n0 + 2,0,none⟩ v2) (n0 + 2) T3 v2 ∧
   Below n0 w0 (((W.setCell ⟨n0,0,none⟩ v0).setCell ⟨n0 + 1,0,none⟩ v1).setCell ⟨n0 + 2,0,none⟩ v2) ∧ (((W.setCell ⟨n0,0,none⟩ v0).setCell ⟨n0 + 1,0,none⟩ v1).setCell ⟨n0 + 2,0,none⟩ v2).heap[D]? = some o :=
 ⟨box_off (box_off (Boxed.set _ h2) (by omega) _) (by omega) _,box_off (Boxed.set _ (box_off h3 (by omega) _)) (by omega) _,Boxed.set _ (box_off (box_off h4 (by omega) _) (by omega) _),
  ((h1.setCell (p := ⟨n0,0,none⟩) (Nat.le_refl _) _).setCell (p := ⟨n0 + 1,0,none⟩) (Nat.le_succ _) _).setCell (p := ⟨n0 + 2,0,none⟩) (by show n0 ≤ n0 + 2;omega) _,keeps3.same D _ hD hc⟩
theorem owns_off {W : World} {B T s n b t : Nat} {v u : Value} {x : Value} {xs : List Value} (h : W.ownsRow B T s v n xs) (hb : Boxed W b t x) (hT : t ≠ T) : (W.setCell ⟨b,0,none⟩ u).ownsRow B T s v n xs := h.kept (grownBy_setCell' W b u) (.inr (hb.not_row hT h).symm)
set_option maxRecDepth 100000 in
set_option maxHeartbeats 2000000 in
theorem parse_any {w : World} {s : ByteArray} {m : Int} (hm : w.cell? ⟨1,0,none⟩ = some (.int .i64 m)) {r : List Sq × Int × Int} (hr : parseA s.data.toList = r) :
  Calls Tryz.prog 6 #[.string s] w (ParseRes r w) := by
 obtain ⟨i0,hif,hz0,hz1,hz2⟩ := info_parts Tryz.infoS
 unfold ParseRes
 have HRR := hid hr;clear hr
 refine (callsIn_wide (n := 8)).1 ?_
 refine callsIn_of_wp_marks Tryz.func6 rfl trivial ?_ rfl
 simp only [Tryz.ntmps6,List.size_toArray,List.length_cons,List.length_nil,Nat.reduceAdd,Nat.reduceSub,Array.replicate_succ,Array.replicate_zero,List.push_toArray,List.append_toArray,List.nil_append,List.cons_append]
 refine (wpIn_wide (n := 8)).2 ?_
 by_cases hs : s.size ≤ 400
 ·have hsi : ¬ (400 : Int) < (s.size : Int) := by omega
  go_upto_region 4 with fail
  generalize hW : World.alloc _ _ = v1
  have b0 : Boxed v1 w.heap.size 22 (.slice none 0 0) := by rw [← hW];exact (((Boxed.new w 22 _).alloc _).alloc _).alloc _
  have b1 : Boxed v1 (w.heap.size + 1) 3 (.int .i64 0) := by rw [← hW];have h := ((Boxed.new (w.alloc (.cells #[.slice none 0 0] 22)) 3 (.int .i64 0)).alloc (.cells #[.int .i64 0] 23)).alloc (.cells #[.slice none 0 0] 22);rwa [World.size_alloc] at h
  have b2 : Boxed v1 (w.heap.size + 2) 23 (.int .i64 0) := by rw [← hW];have h := (Boxed.new ((w.alloc (.cells #[.slice none 0 0] 22)).alloc (.cells #[.int .i64 0] 3)) 23 (.int .i64 0)).alloc (.cells #[.slice none 0 0] 22);rwa [World.size_alloc,World.size_alloc] at h
  have b3 : Boxed v1 (w.heap.size + 3) 22 (.slice none 0 0) := by rw [← hW];have h := Boxed.new (((w.alloc (.cells #[.slice none 0 0] 22)).alloc (.cells #[.int .i64 0] 3)).alloc (.cells #[.int .i64 0] 23)) 22 (.slice none 0 0);rwa [World.size_alloc,World.size_alloc,World.size_alloc] at h
  have hB1 : Below w.heap.size w v1 := by rw [← hW];exact ((((Below.refl _ w).alloc (Nat.le_refl _) _).alloc (by simp) _).alloc (by simp;omega) _).alloc (by simp;omega) _
  have hz1 : v1.heap.size = w.heap.size + 4 := by rw [← hW];simp
  have hm1 := bkeep hB1 hm
  clear hW
  go_wp2_with fail
  refine (saying_any (s := s)).mono ?_
  rintro e w4 ⟨rfl,c4,hb,hz4⟩
  have b0' := box_below b0 hb;have b1' := box_below b1 hb;have b2' := box_below b2 hb;have b3' := box_below b3 hb
  have hB4 := hB1.trans (hb.mono (by omega))
  have hm4 := bkeep hb hm1
  replace hz4 : w.heap.size + 4 < w4.heap.size := by omega
  clear b0 b1 b2 b3 hb hm1 hz1
  obtain ⟨PS,hPS⟩ : ∃ PS,piecesL 10 s.data.toList = PS := ⟨_,rfl⟩
  have hsl : s.data.toList.length ≤ 400 := by simpa using hs
  have hPl : PS.length ≤ 401 := by rw [← hPS];have := pieces_len (c := 10) _ s.data.toList (Nat.le_refl _);omega
  have HPS := hid hPS;have HPL := hid hPl;have HSL := hid hsl;clear hPS hPl hsl
  go_wp2_with fail
  refine (wpIn_wide (n := 8)).1 ?_
  refine wpIn_rangeFunc_mem (F := Fence.wide) (n := 8) rfl (by omega) (gf := 34) (lb := #[.pointer (some ⟨v1.heap.size,0,none⟩)]) rfl trivial (enters_of Tryz.func34 (by kernel_rfl) rfl) (saying_mem (n := 7) (by omega) c4 hm4 (by omega) HPS.out) (fun h k => h.trans k) (fun W l o o' _ h hc _ => keepT_b W l o o' h hc) (Below.refl _ _) (fun _ => rfl)
   (ParI w.heap.size w 22 3 23 37) (ParX w.heap.size w 22 3 23 s.data.toList) (parI_own (Nat.le_refl _) hB4.size) (fun c => parX_own (Nat.le_refl _) hB4.size) memY_own
   ⟨hB4,b0',b1',b2', [],AccOf.nil,_,b3',World.ownsRow_nil _ _ _ _,trivial⟩
   (fun x => { tmps := #[.string s,undef, .pointer (some ⟨w.heap.size,0,none⟩), .pointer (some ⟨w.heap.size + 1,0,none⟩), .pointer (some ⟨w.heap.size + 1 + 1,0,none⟩), .pointer (some ⟨w.heap.size + 1 + 1 + 1,0,none⟩), .int .i64 ((x.1 : Int) + 1),x.2.2,undef,undef, .string s, .int .i64 s.size, .bool false, .string s, .func (.func 34) #[] #[.pointer (some ⟨v1.heap.size,0,none⟩)], .int .i64 ((x.1 : Int) + 1),x.2.2,undef,undef,undef,undef,undef,undef,undef,undef,undef,undef,undef,undef,undef,undef,undef,undef],defers := [] })
   ?assign ?body ?done ?stop
  case assign =>
   rintro l x W K2 hK2
   simp only [encY]
   gi_wp2
   exact hK2
  case body =>
   rintro l pre ⟨k,ws,v⟩ Wb hl2 ⟨hB,h0,h1,h2,acc,hA,pv,hp,ho, -⟩ hM hN
   dsimp only
   have HN := hid hN
   obtain ⟨hk,hpre,hws,hne⟩ := hN
   dsimp only at hk hpre hws hne
   have HSM := hid (show ∀ x ∈ ws,x.length ≤ 100000 from (fun x hx => by rw [hws] at hx;have h1 := say_le hx;have h2 := getD_le HPS.out hk;have h3 := HSL.out;omega))
   unfold MemY at hM
   dsimp only at hM
   clear hpre hws
   obtain ⟨r,hr⟩ : ∃ r,standW ws = r := ⟨_,rfl⟩
   cases r with
   | none =>
    have HR := hid hr;clear hr
    have HM := hid hM;clear hM
    gi_upto_region 8 with (refine ⟨trivial, ?_⟩;gi_at_call 17;refine (callsIn_wide.2 (readStand_any HM.out hne HSM.out (r := none) HR.out)).mono ?_;rintro e w5 ⟨rfl,hb5⟩;dsimp only [Option.getD,Option.isSome])
    generalize hW : World.alloc w5 _ = w6
    have hb6 : Below Wb.heap.size Wb w6 := by rw [← hW];exact hb5.alloc hb5.size _
    have d0 := box_below h0 hb6;have d1 := box_below h1 hb6;have d2 := box_below h2 hb6;have d3 := box_below hp hb6
    have do_ := owns_below ho hb6
    have hB6 := hB.trans (hb6.mono hB.size)
    have hs6 := hb6.size
    have hsB := hB.size
    clear hW hb5
    have c0 := d0.cell;have f0 := d0.frozen
    have c1 := d1.cell;have f1 := d1.frozen
    have c2 := d2.cell;have f2 := d2.frozen
    have c3 := d3.cell;have f3 := d3.frozen
    gi_wp2
    exact ⟨((keeps_of_below hb6).trans keeps3).from _,parX_put (Nat.le_refl _) hB6 d0 d1 d2 (parse_stop HSL.out HPS.out HN.out hA HR.out)⟩
   | some q =>
    have HR := hid hr;clear hr
    obtain ⟨qy,qx,qt⟩ := q
    have HM := hid hM;clear hM
    gi_upto_region 8 with (refine ⟨trivial, ?_⟩;gi_at_call 17;refine (callsIn_wide.2 (readStand_any HM.out hne HSM.out (r := some (⟨qy,qx,qt⟩ : Sq)) HR.out)).mono ?_;rintro e w5 ⟨rfl,hb5⟩;dsimp only [Option.getD,Option.isSome])
    generalize hW5 : w5 = w5'
    subst hW5
    generalize hW : World.alloc w5 _ = w6
    have hb6 : Below Wb.heap.size Wb w6 := by rw [← hW];exact hb5.alloc hb5.size _
    have d0 := box_below h0 hb6;have d1 := box_below h1 hb6;have d2 := box_below h2 hb6;have d3 := box_below hp hb6
    have do_ := owns_below ho hb6
    have hB6 := hB.trans (hb6.mono hB.size)
    have hs6 := hb6.size
    have hsB := hB.size
    have e0 : w6.cell? ⟨w5.heap.size,0,none⟩ = some (.int .i64 qy) := by rw [← hW];simp [go_sem]
    have e1 : w6.cell? ⟨w5.heap.size,1,none⟩ = some (.int .i64 qx) := by rw [← hW];simp [go_sem]
    have e2 : w6.cell? ⟨w5.heap.size,2,none⟩ = some (.bool qt) := by rw [← hW];simp [go_sem]
    clear hW hb5
    have c0 := d0.cell;have f0 := d0.frozen
    have c1 := d1.cell;have f1 := d1.frozen
    have c2 := d2.cell;have f2 := d2.frozen
    have c3 := d3.cell;have f3 := d3.frozen
    have hal : acc.length ≤ 401 := by have h1 := acc_len HN.out.2.1 hA;have h2 := HN.out.1;have h3 := HPL.out;dsimp only at h1 h2;omega
    have hcg : ∀ i u,(cellsQ (⟨qy,qx,qt⟩ : Sq))[i]? = some u → (w6.alloc (.cells #[.int .i64 qy, .int .i64 qx, .bool qt] 37)).cell? ((⟨w6.heap.size,0,none⟩ : Addr).add i) = some u := fun i u h => by
     rw [Go.WideShapes.add_plain,Nat.zero_add]
     exact (CellsAt.new w6 (cellsQ (⟨qy,qx,qt⟩ : Sq)) 37 i u h).1
    have HCG := hid hcg;clear hcg
    have HZ := hid (show w.heap.size + 3 < w4.heap.size by omega)
    obtain ⟨pa,pc,rfl,hpl⟩ := owns_shape do_
    gi_wp2_with (gi_at_builtin;go_must (refine wpListIn_append_own _ rfl _ _ 22 rfl w.heap.size 37 i0 (.agg #[.int .i64 0, .int .i64 0, .bool false]) 3 24 Tryz.underlying22 hif hz0 hz1 hz2 rfl (by decide) _ _ _ rfl (do_.alloc _) ⟨w6.heap.size,0,none⟩ 1 1 (cellsQ (⟨qy,qx,qt⟩ : Sq)) rfl rfl HCG.out (fun u h => by simp only [cellsQ,List.mem_cons,List.not_mem_nil,or_false] at h;rcases h with rfl | rfl | rfl <;> rfl) (by unfold maxLen;omega) (by omega) (by simp;omega) ?_;intro v' w7 ho7 hg7 hnil;obtain ⟨p1,p2,p3,p4⟩ := ParI.push (T := 9) (B := w4.heap.size) (x := (k,ws,v)) (by decide) (Nat.le_refl _) hB6 d0 d1 d2 hA HR.out d3 do_ HZ.out ho7 hg7;obtain ⟨xa,xc,rfl, -⟩ := owns_shape ho7;have p1c := p1.cell;have p1f := p1.frozen))
    exact ⟨((keeps_of_below hb6).trans p3).from _,(KeepT.of_below hb6).trans p4,p2⟩
  case done =>
   rintro D xs W hD hS ⟨hB,h0,h1,h2,acc,hA,pv,hp,ho, -⟩ hK2
   obtain ⟨pa,pc,rfl,hpl⟩ := owns_shape ho
   have hSt := stAt_of_owns ho
   have hres := parse_done HSL.out HPS.out hS hA
   obtain ⟨b,hb⟩ : ∃ b,textB acc = b := ⟨_,rfl⟩
   have HB := hid hb;have HST := hid hSt;have HRES := hid hres;have HO := hid ho;clear hb hSt hS hres ho
   have c0 := h0.cell;have f0 := h0.frozen;have c1 := h1.cell;have f1 := h1.frozen;have c2 := h2.cell;have f2 := h2.frozen;have c3 := hp.cell
   have hD2 : w.heap.size ≤ D := by have := hB4.size;omega
   go_wp2_with fail
   refine (printed_any HST.out HB.out).mono ?_
   rintro e W5 ⟨rfl,hb5⟩
   replace h0 := box_below h0 hb5;replace h1 := box_below h1 hb5;replace h2 := box_below h2 hb5;replace hp := box_below hp hb5
   have HO5 := hid (owns_below HO.out hb5)
   replace hB := hB.trans (hb5.mono hB.size)
   replace hK2 := (hb5.block D (Array.getElem?_eq_some_iff.1 hK2).1).trans hK2
   clear hb5 HO
   replace c0 := h0.cell;replace f0 := h0.frozen;replace c1 := h1.cell;replace f1 := h1.frozen;replace c2 := h2.cell;replace f2 := h2.frozen;replace c3 := hp.cell
   cases b
   ·obtain rfl : r = ([],0,23) := HRR.out.symm.trans (by rw [HRES.out,endR,if_neg (by rw [HB.out];simp)])
    go_wp2_with fail
    obtain ⟨g0,g1,g2,hBE,hKE⟩ := three_put (v0 := .slice none 0 0) (v1 := .int .i64 0) (v2 := .int .i64 23) hB h0 h1 h2 hK2 rfl
    replace hK2 := hKE
    refine ⟨by simp, .inl ⟨_,_,rfl,run_takeDeferred hK2, ?_⟩⟩
    have y0 := (box_put (o' := .deferred none) g0 hK2 rfl).cell
    have y1 := (box_put (o' := .deferred none) g1 hK2 rfl).cell
    have y2 := (box_put (o' := .deferred none) g2 hK2 rfl).cell
    have e3 := Below.trans hBE (belowK_b (w := w) (Nat.le_refl _) _ D _ (.deferred none) hD2 hK2 rfl rfl)
    exact ⟨_,by simp [results,Tryz.results6,y0,y1,y2,go_sem], .slice none 0 0,rfl,e3, .inl ⟨rfl,rfl⟩⟩
   ·obtain rfl : r = (acc,0,0) := HRR.out.symm.trans (by rw [HRES.out,endR,if_pos HB.out])
    go_wp2_with fail
    obtain ⟨g0,g1,g2,hBE,hKE⟩ := three_put (v0 := .slice pa acc.length pc) (v1 := .int .i64 0) (v2 := .int .i64 0) hB h0 h1 h2 hK2 rfl
    have o2 := owns_off (u := .int .i64 0) (owns_off (u := .int .i64 0) (owns_off (u := .slice pa acc.length pc) HO5.out h0 (by decide)) (box_off h1 (by omega) _) (by decide)) (box_off (box_off h2 (by omega) _) (by omega) _) (by decide)
    replace hK2 := hKE
    refine ⟨by simp, .inl ⟨_,_,rfl,run_takeDeferred hK2, ?_⟩⟩
    have y0 := (box_put (o' := .deferred none) g0 hK2 rfl).cell
    have y1 := (box_put (o' := .deferred none) g1 hK2 rfl).cell
    have y2 := (box_put (o' := .deferred none) g2 hK2 rfl).cell
    have e3 := Below.trans hBE (belowK_b (w := w) (Nat.le_refl _) _ D _ (.deferred none) hD2 hK2 rfl rfl)
    have o3 := ownsRow_putObj o2 (.deferred none) hK2 rfl
    exact ⟨_,by simp [results,Tryz.results6,y0,y1,y2,go_sem], .slice pa acc.length pc,rfl,e3,stAt_of_owns o3⟩
  case stop =>
   rintro D j pre W hD hpre ⟨rfl,hBE,h0,k,hk,h1,h2⟩ hK2
   have hD2 : w.heap.size ≤ D := by have := hB4.size;omega
   obtain rfl : r = ([],(k : Int) + 1,5) := HRR.out.symm.trans hk
   gi_wp2
   refine ⟨by simp, .inl ⟨_,_,rfl,run_takeDeferred hK2, ?_⟩⟩
   have y0 := (box_put (o' := .deferred none) h0 hK2 rfl).cell
   have y1 := (box_put (o' := .deferred none) h1 hK2 rfl).cell
   have y2 := (box_put (o' := .deferred none) h2 hK2 rfl).cell
   have e3 := Below.trans hBE (belowK_b (w := w) (Nat.le_refl _) _ D _ (.deferred none) hD2 hK2 rfl rfl)
   exact ⟨_,by simp [results,Tryz.results6,y0,y1,y2,go_sem], .slice none 0 0,rfl,e3, .inl ⟨rfl,rfl⟩⟩
 ·have hsi : (400 : Int) < (s.size : Int) := by omega
  obtain rfl : r = ([],0,2) := HRR.out.symm.trans (by unfold parseA;rw [if_pos (by simp;omega)])
  go_wp2_with fail
  exact ⟨_,by simp [results,Tryz.results6,go_sem], .slice none 0 0,rfl,by go_grown, .inl ⟨rfl,rfl⟩⟩
end Go.Proofs.YthdfnkdifjajlaaGreatDoor
namespace Go.Proofs.YthdfnkdifjajlaaGreatDoor
open Go.RowKit Go.Pb Go.Pb.Ware Go.Pb.Sag


open Go.Pb.Txt
def printR (qs : List Sq) : Bs × Int := if textB qs = true then (printA qs,0) else ([],23)
def cy (y : Nat) : UInt8 := UInt8.ofNat (48 + y)
def headQ (y x : Nat) : Bs := standWord ++ [32,cy y,32,cy x]
def tailQ (t : Bool) : Bs := if t = true then 32 :: turnedWord else []
theorem lineQ_parts (y x : Nat) (t : Bool) : lineQ ⟨(y : Int),(x : Int),t⟩ = headQ y x ++ tailQ t ++ [10] := rfl
theorem printA_step {qs : List Sq} {k : Nat} {q : Sq} (hk : qs[k]? = some q) : printA (qs.take (k + 1)) = printA (qs.take k) ++ lineQ q := by
 unfold printA
 rw [List.take_add_one,hk,List.flatMap_append]
 simp
theorem printA_le {qs : List Sq} {k : Nat} (h : qs.all inB = true) (h5 : qs.length ≤ 5) : (printA (qs.take k)).length ≤ 85 := by
 have h1 : (qs.take k).all inB = true := by
  rw [List.all_eq_true] at h ⊢
  exact fun x hx => h x (List.mem_of_mem_take hx)
 have h2 := print_len h1
 have h3 : (qs.take k).length ≤ 5 := by rw [List.length_take];omega
 omega
theorem nat_of_in {qs : List Sq} {k : Nat} (h : qs.all inB = true) (hk : k < qs.length) : ∃ (y x : Nat) (t : Bool),qs[k]? = some ⟨(y : Int),(x : Int),t⟩ ∧ y < 6 ∧ x < 6 := by
 rw [List.all_eq_true] at h
 have h1 := h _ (List.getElem_mem hk)
 obtain ⟨y,x,e⟩ := in_fin h1
 exact ⟨y.val,x.val,_,by rw [List.getElem?_eq_getElem hk, ← e],y.isLt,x.isLt⟩
theorem isB_below {T e B b : Nat} {bs : List Value} {w w' : World} (h : Lib.IsBuilder T e B b bs w) (hb : Below w.heap.size w w') : Lib.IsBuilder T e B b bs w' := by
 have key : ∀ p,Lib.BuilderAt T e B b p bs w → Lib.BuilderAt T e B b p bs w' := by
  rintro p ⟨h1,v,h2,h3,h4⟩
  exact ⟨h1,v,(hb.block b (Array.getElem?_eq_some_iff.1 h2).1).trans h2,owns_below h3 hb,h4⟩
 exact h.imp (key _) (key _)
theorem isB_lt {T e B b : Nat} {bs : List Value} {w : World} (h : Lib.IsBuilder T e B b bs w) : b < w.heap.size := h.elim Lib.BuilderAt.lt Lib.BuilderAt.lt
theorem itoa_any {w : World} {y : Nat} (hy : y < 6) : Calls Tryz.prog 12 #[.int .i64 (y : Int)] w (Ret w (.string ⟨[cy y].toArray⟩)) := by
 refine (Tryz.strconv_Itoa_small y (by omega) w).mono ?_
 rintro e w1 ⟨rfl,rfl⟩
 exact ⟨by rw [Lib.decDigits_one (by omega)];rfl,Below.refl _ _⟩
theorem head_str (y x : Nat) : (({ data := #[115,116,97,110,100,32] } : ByteArray) ++ (⟨[cy y].toArray⟩ : ByteArray) ++ ({ data := #[32] } : ByteArray)) ++ (⟨[cy x].toArray⟩ : ByteArray) = (⟨(headQ y x).toArray⟩ : ByteArray) := by
 refine ByteArray.ext ?_
 simp only [ByteArray.data_append]
 rfl
theorem str_bytes (l : Bs) : Lib.strCells ⟨l.toArray⟩ = Lib.byteCells l := rfl
theorem cells_done (l h t : Bs) : Lib.byteCells l ++ Lib.strCells ⟨h.toArray⟩ ++ Lib.strCells ⟨t.toArray⟩ ++ [Value.int .u8 10] = Lib.byteCells (l ++ (h ++ t ++ [10])) := by
 rw [str_bytes,str_bytes]
 simp [Lib.byteCells]
theorem cells_done0 (l h : Bs) : Lib.byteCells l ++ Lib.strCells ⟨h.toArray⟩ ++ [Value.int .u8 10] = Lib.byteCells (l ++ (h ++ [] ++ [10])) := by
 rw [str_bytes]
 simp [Lib.byteCells]
set_option maxRecDepth 100000 in
set_option maxHeartbeats 2000000 in
theorem print_any {w : World} {v : Value} {qs : List Sq} (h : StAt w v qs) {r : Bs × Int} (hr : printR qs = r) :
  Calls Tryz.prog 4 #[v] w (Ret w (.tuple #[.string ⟨r.1.toArray⟩, .int .i64 r.2])) := by
 unfold Ret
 obtain ⟨pa,pc,rfl,hpl,hpc⟩ := h.shape
 obtain ⟨n,hn⟩ : ∃ n,qs.length = n := ⟨_,rfl⟩
 have HN := hid hn
 rw [hn] at h hpl ⊢
 clear hn
 obtain ⟨b,hb⟩ : ∃ b,textB qs = b := ⟨_,rfl⟩
 unfold printR at hr
 rw [hb] at hr
 have HB := hid hb;clear hb
 cases b
 ·rw [if_neg (by simp)] at hr
  subst hr
  go_enter Tryz.func4,Tryz.ntmps4
  go_wp2_with fail
  refine (printed_any h HB.out).mono ?_
  rintro e w1 ⟨rfl,hb⟩
  go_wp2_with fail
  go_ret2
  exact ⟨rfl,by go_grown⟩
 ·rw [if_pos rfl] at hr
  subst hr
  obtain ⟨hlen,hall0⟩ : n ≤ 5 ∧ qs.all inB = true := by have h1 := HB.out;unfold textB at h1;rw [Bool.and_eq_true,decide_eq_true_eq,HN.out] at h1;exact h1
  have HALL := hid hall0;clear hall0
  go_enter Tryz.func4,Tryz.ntmps4
  go_wp2_with fail
  refine (printed_any h HB.out).mono ?_
  rintro e w1 ⟨rfl,hb⟩
  obtain ⟨v1,hv1⟩ : ∃ v,v = w1 := ⟨_,rfl⟩
  subst hv1
  go_upto_region 4 with fail
  have hI : Lib.IsBuilder 35 5 v1.heap.size v1.heap.size [] (v1.alloc (.cells #[.pointer none, .slice none 0 0] 35)) := Lib.fresh_isBuilder 35 5 v1
  generalize hW : World.alloc v1 _ = v2 at hI ⊢
  have hB2 : Below v1.heap.size v1 v2 := by rw [← hW];exact (Below.refl _ _).alloc (Nat.le_refl _) _
  replace hB2 : Below w.heap.size w v2 := hb.trans (hB2.mono hb.size)
  have hz1 := hb.size
  have hz2 : v1.heap.size ≤ v2.heap.size := by rw [← hW];simp
  clear hW hb
  go_wp2_with fail
  go_loopg [12] n (fun gk iv wr => ∃ k : Nat,k ≤ n ∧ gk = n - k ∧ iv = .int .i64 k ∧ Lib.IsBuilder 35 5 v1.heap.size v1.heap.size (Lib.byteCells (printA (qs.take k))) wr ∧ Below w.heap.size w wr ∧ v1.heap.size ≤ wr.heap.size)
  case atStart => exact ⟨0,Nat.zero_le _,rfl,rfl,hI,hB2,hz2⟩
  case round =>
   clear hI hB2 hz2
   obtain ⟨k,hk,hgk,rfl,hI,hB,hz⟩ := hrel
   have HGK := hid hgk;clear hgk
   by_cases hlt : k < n
   ·have hki : (k : Int) < (n : Int) := by omega
    have hkq : k < qs.length := by rw [HN.out];exact hlt
    obtain ⟨y,x,t,hq,hy,hx⟩ := nat_of_in HALL.out hkq
    have HQ := hid hq;clear hq
    obtain ⟨a',ha,e0,e1,e2⟩ := (show StAt wr (.slice pa qs.length pc) qs by rw [HN.out];exact h.below hB).row hkq
    subst ha
    have hqe : qs[k] = (⟨(y : Int),(x : Int),t⟩ : Sq) := by have h1 := HQ.out;rw [List.getElem?_eq_getElem hkq] at h1;exact Option.some.inj h1
    rw [hqe] at e0 e1 e2
    clear hqe
    dsimp only at e0 e1 e2
    obtain ⟨l,hl⟩ : ∃ l,printA (qs.take k) = l := ⟨_,rfl⟩
    have hll : l.length ≤ 85 := by rw [← hl];exact printA_le HALL.out (by rw [HN.out];exact hlen)
    have HS := hid (show printA (qs.take (k + 1)) = l ++ lineQ ⟨(y : Int),(x : Int),t⟩ by rw [printA_step HQ.out,hl])
    have HNX := hid (lineQ_parts y x t)
    rw [hl] at hI
    clear hl
    obtain ⟨v3,hv3⟩ : ∃ v,v = wr := ⟨_,rfl⟩
    subst hv3
    go_upto_region 7 with fail
    have hX : (v3.alloc (.cells #[.int .i64 (y : Int), .int .i64 (x : Int), .bool t] 37)).heap[v3.heap.size]? = some (.cells #[.int .i64 (y : Int), .int .i64 (x : Int), .bool t] 37 (0,0)) := World.alloc_heap_new v3 _
    have hb5 : Below v3.heap.size v3 (v3.alloc (.cells #[.int .i64 (y : Int), .int .i64 (x : Int), .bool t] 37)) := (Below.refl _ _).alloc (Nat.le_refl _) _
    generalize hW : World.alloc v3 _ = v5 at hX hb5 ⊢
    have hbx : ¬ v3.heap.size = v1.heap.size := by have := isB_lt hI;omega
    replace hI := isB_below hI hb5
    replace hB := hB.trans (hb5.mono hB.size)
    have hz5 := hb5.size
    clear hW e0 e1 e2 hb5
    have c0 : v5.cell? ⟨v3.heap.size,0,none⟩ = some (.int .i64 (y : Int)) := heap_cell hX rfl
    have c1 : v5.cell? ⟨v3.heap.size,1,none⟩ = some (.int .i64 (x : Int)) := heap_cell hX rfl
    refine wp_region_Rs [(2,fun v _ => v = .string ⟨([cy y]).toArray⟩),(7,fun v _ => v = .string ⟨([cy x]).toArray⟩),(8,fun v _ => v = .string ⟨(headQ y x).toArray⟩)] [0,1,2,3,4,5,6,7,8] 1 (by kernel_rfl) rfl (by simp only [List.forall_mem_cons];exact ⟨keeps_eq,keeps_eq,keeps_eq,fun _ h => by cases h⟩) (by kernel_rfl) ?_
    simp only [numbered,List.filterMap_cons,List.filterMap_nil,List.getElem?_toArray,List.getElem?_cons_succ,List.getElem?_cons_zero,Option.map_some]
    show wpS _ _ _ _ _ _ _ [(_,_),(_,_),(_,_),(_,_),(_,_),(_,_),(_,_),(_,_),(_,_)] _ _
    (refine wpS_quiet rfl rfl ?_;intro K hK inst hx;have s0 := fun x => (fun _ => bkeep (BQ.below x) c0) (hx x);have s1 := fun x => (fun _ => bkeep (BQ.below x) c1) (hx x);go_big_quiet_op;(first | go_big_quiet_on | (refine ⟨_,fun _ => rfl, ?_⟩;go_big_quiet_on));clear hx inst)
    (refine wpS_quiet rfl rfl ?_;intro K hK inst hx;have s0 := fun x => (fun _ => bkeep (BQ.below x) c0) (hx x);have s1 := fun x => (fun _ => bkeep (BQ.below x) c1) (hx x);go_big_quiet_op;(first | go_big_quiet_on | (refine ⟨_,fun _ => rfl, ?_⟩;go_big_quiet_on));clear hx inst)
    refine wpS_fresh rfl rfl (fun w' hb hF => ?_) ?_
    ·change freshAt _ _ _ (fun v _ => v = .string ⟨([cy y]).toArray⟩) _;unfold freshAt;go_simp;exact itoa_any hy
    intro v W hv;simp only [pOf,List.lookup_cons,Nat.reduceBEq,beq_self_eq_true] at hv;subst hv
    simp only [Act.put,List.setIfInBounds_toArray,List.set_cons_succ,List.set_cons_zero]
    (refine wpS_quiet rfl rfl ?_;intro K hK inst hx;have s0 := fun x => (fun _ => bkeep (BQ.below x) c0) (hx x);have s1 := fun x => (fun _ => bkeep (BQ.below x) c1) (hx x);go_big_quiet_op;(first | go_big_quiet_on | (refine ⟨_,fun _ => rfl, ?_⟩;go_big_quiet_on));clear hx inst)
    (refine wpS_quiet rfl rfl ?_;intro K hK inst hx;have s0 := fun x => (fun _ => bkeep (BQ.below x) c0) (hx x);have s1 := fun x => (fun _ => bkeep (BQ.below x) c1) (hx x);go_big_quiet_op;(first | go_big_quiet_on | (refine ⟨_,fun _ => rfl, ?_⟩;go_big_quiet_on));clear hx inst)
    (refine wpS_quiet rfl rfl ?_;intro K hK inst hx;have s0 := fun x => (fun _ => bkeep (BQ.below x) c0) (hx x);have s1 := fun x => (fun _ => bkeep (BQ.below x) c1) (hx x);go_big_quiet_op;(first | go_big_quiet_on | (refine ⟨_,fun _ => rfl, ?_⟩;go_big_quiet_on));clear hx inst)
    (refine wpS_quiet rfl rfl ?_;intro K hK inst hx;have s0 := fun x => (fun _ => bkeep (BQ.below x) c0) (hx x);have s1 := fun x => (fun _ => bkeep (BQ.below x) c1) (hx x);go_big_quiet_op;(first | go_big_quiet_on | (refine ⟨_,fun _ => rfl, ?_⟩;go_big_quiet_on));clear hx inst)
    refine wpS_fresh rfl rfl (fun w' hb hF => ?_) ?_
    ·change freshAt _ _ _ (fun v _ => v = .string ⟨([cy x]).toArray⟩) _;unfold freshAt;go_simp;exact itoa_any hx
    intro v W hv;simp only [pOf,List.lookup_cons,Nat.reduceBEq,beq_self_eq_true] at hv;subst hv
    simp only [Act.put,List.setIfInBounds_toArray,List.set_cons_succ,List.set_cons_zero]
    refine wpS_fresh rfl rfl (fun w' hb hF => ?_) ?_
    ·change freshAt _ _ _ (fun v _ => v = .string ⟨(headQ y x).toArray⟩) _;unfold freshAt;go_simp;exact ⟨Below.refl _ _,head_str y x⟩
    intro v W hv;simp only [pOf,List.lookup_cons,Nat.reduceBEq,beq_self_eq_true] at hv;subst hv
    simp only [Act.put,List.setIfInBounds_toArray,List.set_cons_succ,List.set_cons_zero]
    refine wpS_nil ?_
    intro v6 hall
    have hb6 := hall.1
    clear hall
    replace hI := isB_below hI hb6
    replace hX := (hb6.block _ (Array.getElem?_eq_some_iff.1 hX).1).trans hX
    replace hB := hB.trans (hb6.mono hB.size)
    have hz6 := hb6.size
    clear hb6
    refine wpAny_ready (rs := [9]) (by kernel_rfl) (by simp) ?_
    refine AllReady.cons rfl (fun K hK => ?_) AllReady.nil
    go_simp
    refine (writeString_any hI (by omega) (s := ⟨(headQ y x).toArray⟩) (by simp [Lib.byteCells,headQ,standWord,ByteArray.size];omega)).mono ?_
    rintro e v7 ⟨rfl,hI7,hb7,hk7⟩
    dsimp only
    refine hK _ _ ?_
    clear hK K
    refine wpAny_done (by kernel_rfl) ?_ _
    replace hX := hk7 _ _ hX (by simpa using hbx) (fun c fz e => by injection e with _ e;exact absurd e (by decide))
    replace hB := hB.trans (hb7.mono (by omega))
    have hz7 := hb7.size
    clear hI hb7 hk7
    have c2 : v7.cell? ⟨v3.heap.size,2,none⟩ = some (.bool t) := heap_cell hX rfl
    cases t
    ·go_wp2_with (go_at_call 13;refine (writeByte_any hI7 (by omega) (by simp [Lib.byteCells,Lib.strCells,headQ,standWord,turnedWord];omega)).mono ?_;rintro e v9 ⟨rfl,hI9,hb9,hk9⟩;replace hB := hB.trans (hb9.mono (by omega));have hz9 := hb9.size)
     go_roundg (n - (k + 1))
     case measure => have h := HGK.out;omega
     case rel => exact ⟨k + 1,by omega,rfl,by go_num,by rw [HS.out,HNX.out];rw [cells_done0] at hI9;exact hI9,hB,by omega⟩
    ·go_wp2_with (first | (go_at_call 11;refine (writeString_any hI7 (by omega) (s := ⟨(32 :: turnedWord).toArray⟩) (by simp [Lib.byteCells,Lib.strCells,headQ,standWord,turnedWord,ByteArray.size];omega)).mono ?_;rintro e v8 ⟨rfl,hI8,hb8,hk8⟩;replace hB := hB.trans (hb8.mono (by omega));have hz8 := hb8.size) | (go_at_call 13;refine (writeByte_any hI8 (by omega) (by simp [Lib.byteCells,Lib.strCells,headQ,standWord,turnedWord];omega)).mono ?_;rintro e v9 ⟨rfl,hI9,hb9,hk9⟩;replace hB := hB.trans (hb9.mono (by omega));have hz9 := hb9.size))
     go_roundg (n - (k + 1))
     case measure => have h := HGK.out;omega
     case rel => exact ⟨k + 1,by omega,rfl,by go_num,by rw [HS.out,HNX.out];rw [cells_done] at hI9;exact hI9,hB,by omega⟩
   ·obtain rfl : k = n := by omega
    rw [show qs.take k = qs from List.take_of_length_le (by rw [HN.out];exact Nat.le_refl _)] at hI
    go_wp2_with (go_at_call 14;refine (Tryz.Builder_String_any _ _ (printA qs) _ hI hz).mono ?_;rintro e v9 ⟨rfl,hb9⟩)
    go_ret2
    exact ⟨rfl,hB.trans (hb9.mono hz1)⟩
end Go.Proofs.YthdfnkdifjajlaaGreatDoor
namespace Go.Proofs.YthdfnkdifjajlaaGreatDoor
open Go.RowKit Go.Pb Go.Pb.Ware Go.Pb.Sag


open Go.Pb.Txt
theorem line_no (l : Bs) (y x : Nat) : (((((⟨l.toArray⟩ : ByteArray) ++ ({ data := #[115,116,97,110,100,32] } : ByteArray)) ++ (⟨[cy y].toArray⟩ : ByteArray)) ++ ({ data := #[32] } : ByteArray)) ++ (⟨[cy x].toArray⟩ : ByteArray)) ++ ({ data := #[10] } : ByteArray) = (⟨(l ++ (headQ y x ++ tailQ false ++ [10])).toArray⟩ : ByteArray) := by
 refine ByteArray.ext ?_
 simp only [ByteArray.data_append]
 simp [headQ,standWord,tailQ,turnedWord]
theorem line_yes (l : Bs) (y x : Nat) : ((((((⟨l.toArray⟩ : ByteArray) ++ ({ data := #[115,116,97,110,100,32] } : ByteArray)) ++ (⟨[cy y].toArray⟩ : ByteArray)) ++ ({ data := #[32] } : ByteArray)) ++ (⟨[cy x].toArray⟩ : ByteArray)) ++ ({ data := #[32,116,117,114,110,101,100] } : ByteArray)) ++ ({ data := #[10] } : ByteArray) = (⟨(l ++ (headQ y x ++ tailQ true ++ [10])).toArray⟩ : ByteArray) := by
 refine ByteArray.ext ?_
 simp only [ByteArray.data_append]
 simp [headQ,standWord,tailQ,turnedWord]
theorem cy_nat {y : Nat} (hy : y < 6) : ((cy y).toNat : Int) = 48 + (y : Int) := by
 unfold cy
 rw [UInt8.toNat_ofNat']
 omega
theorem conv_back {w : World} {B C y : Nat} (hy : y < 6) (h : w.cell? ⟨B,0,none⟩ = some (.int .u8 (48 + (y : Int)))) : (convert 33 9 (.slice (some ⟨B,0,none⟩) 1 C)).run Tryz.prog w = .ok (.string ⟨[cy y].toArray⟩) w :=
 run_convert_bytes_back w 33 9 5 ⟨B,0,none⟩ C [cy y] Tryz.underlying33 Tryz.underlying5 Tryz.underlying9 (fun j hj => by
  have : j = 0 := by simp at hj;omega
  subst this
  rw [Go.WideShapes.add_plain]
  refine h.trans ?_
  rw [← cy_nat hy];rfl)
set_option maxRecDepth 100000 in
set_option maxHeartbeats 2000000 in
theorem rPrint_any {w : World} {v : Value} {qs : List Sq} (h : StAt w v qs) {r : Bs × Int} (hr : printR qs = r) :
  Calls Tryz.prog 5 #[v] w (Ret w (.tuple #[.string ⟨r.1.toArray⟩, .int .i64 r.2])) := by
 unfold Ret
 obtain ⟨pa,pc,rfl,hpl,hpc⟩ := h.shape
 obtain ⟨n,hn⟩ : ∃ n,qs.length = n := ⟨_,rfl⟩
 have HN := hid hn
 rw [hn] at h hpl ⊢
 clear hn
 obtain ⟨b,hb⟩ : ∃ b,textB qs = b := ⟨_,rfl⟩
 unfold printR at hr
 rw [hb] at hr
 have HB := hid hb;clear hb
 cases b
 ·rw [if_neg (by simp)] at hr
  subst hr
  go_enter Tryz.func5,Tryz.ntmps5
  go_wp2_with fail
  refine (rText_any h HB.out).mono ?_
  rintro e w1 ⟨rfl,hb⟩
  go_wp2_with fail
  go_ret2
  exact ⟨rfl,by go_grown⟩
 ·rw [if_pos rfl] at hr
  subst hr
  obtain ⟨hlen,hall0⟩ : n ≤ 5 ∧ qs.all inB = true := by have h1 := HB.out;unfold textB at h1;rw [Bool.and_eq_true,decide_eq_true_eq,HN.out] at h1;exact h1
  have HALL := hid hall0;clear hall0
  go_enter Tryz.func5,Tryz.ntmps5
  go_wp2_with fail
  refine (rText_any h HB.out).mono ?_
  rintro e w1 ⟨rfl,hb⟩
  go_wp2_with fail
  go_loopg [4,12] n (fun gk sv iv wr => ∃ k : Nat,k ≤ n ∧ gk = n - k ∧ sv = .string ⟨(printA (qs.take k)).toArray⟩ ∧ iv = .int .i64 k ∧ Below w.heap.size w wr)
  case atStart => exact ⟨0,Nat.zero_le _,rfl,rfl,rfl,hb⟩
  case round =>
   clear hb
   obtain ⟨k,hk,hgk,rfl,rfl,hB⟩ := hrel
   have HGK := hid hgk;clear hgk
   by_cases hlt : k < n
   ·have hki : (k : Int) < (n : Int) := by omega
    have hkq : k < qs.length := by rw [HN.out];exact hlt
    obtain ⟨y,x,t,hq,hy,hx⟩ := nat_of_in HALL.out hkq
    have HQ := hid hq;clear hq
    obtain ⟨a',ha,e0,e1,e2⟩ := (show StAt wr (.slice pa qs.length pc) qs by rw [HN.out];exact h.below hB).row hkq
    subst ha
    have hqe : qs[k] = (⟨(y : Int),(x : Int),t⟩ : Sq) := by have h1 := HQ.out;rw [List.getElem?_eq_getElem hkq] at h1;exact Option.some.inj h1
    rw [hqe] at e0 e1 e2
    clear hqe
    dsimp only at e0 e1 e2
    obtain ⟨l,hl⟩ : ∃ l,printA (qs.take k) = l := ⟨_,rfl⟩
    have hll : l.length ≤ 85 := by rw [← hl];exact printA_le HALL.out (by rw [HN.out];exact hlen)
    have HS := hid (show printA (qs.take (k + 1)) = l ++ lineQ ⟨(y : Int),(x : Int),t⟩ by rw [printA_step HQ.out,hl])
    have HNX := hid (lineQ_parts y x t)
    rw [hl]
    clear hl
    obtain ⟨v3,hv3⟩ : ∃ v,v = wr := ⟨_,rfl⟩
    subst hv3
    go_upto_region 7 with fail
    have hX : (v3.alloc (.cells #[.int .i64 (y : Int), .int .i64 (x : Int), .bool t] 37)).heap[v3.heap.size]? = some (.cells #[.int .i64 (y : Int), .int .i64 (x : Int), .bool t] 37 (0,0)) := World.alloc_heap_new v3 _
    have hb5 : Below v3.heap.size v3 (v3.alloc (.cells #[.int .i64 (y : Int), .int .i64 (x : Int), .bool t] 37)) := (Below.refl _ _).alloc (Nat.le_refl _) _
    generalize hW : World.alloc v3 _ = v5 at hX hb5 ⊢
    replace hB := hB.trans (hb5.mono hB.size)
    clear hW e0 e1 e2 hb5
    have c0 : v5.cell? ⟨v3.heap.size,0,none⟩ = some (.int .i64 (y : Int)) := heap_cell hX rfl
    have c1 : v5.cell? ⟨v3.heap.size,1,none⟩ = some (.int .i64 (x : Int)) := heap_cell hX rfl
    have c2 : v5.cell? ⟨v3.heap.size,2,none⟩ = some (.bool t) := heap_cell hX rfl
    clear hX
    cases t
    ·go_wp2_with fail
     rw [conv_back (y := y) hy (by simp [go_sem])]
     simp only [Result.andThen]
     rw [Oper.upon_value]
     go_wp2_with fail
     rw [conv_back (y := x) hx (by simp [go_sem])]
     simp only [Result.andThen]
     rw [Oper.upon_value]
     go_wp2_with fail
     go_roundg (n - (k + 1))
     case measure => have h := HGK.out;omega
     case rel => exact ⟨k + 1,by omega,rfl,by rw [HS.out,HNX.out];exact congrArg Value.string (line_no l y x),by go_num,((hB.alloc hB.size _).alloc (by have := hB.size;simp;omega) _)⟩
    ·go_wp2_with fail
     rw [conv_back (y := y) hy (by simp [go_sem])]
     simp only [Result.andThen]
     rw [Oper.upon_value]
     go_wp2_with fail
     rw [conv_back (y := x) hx (by simp [go_sem])]
     simp only [Result.andThen]
     rw [Oper.upon_value]
     go_wp2_with fail
     go_roundg (n - (k + 1))
     case measure => have h := HGK.out;omega
     case rel => exact ⟨k + 1,by omega,rfl,by rw [HS.out,HNX.out];exact congrArg Value.string (line_yes l y x),by go_num,((hB.alloc hB.size _).alloc (by have := hB.size;simp;omega) _)⟩
   ·obtain rfl : k = n := by omega
    rw [show qs.take k = qs from List.take_of_length_le (by rw [HN.out];exact Nat.le_refl _)]
    go_wp2_with fail
    go_ret2
    exact ⟨rfl,hB⟩
end Go.Proofs.YthdfnkdifjajlaaGreatDoor
namespace Go.Proofs.YthdfnkdifjajlaaGreatDoor
open Go.RowKit Go.Pb Go.Pb.Ware Go.Pb.Sag


open Go.Pb.Txt
theorem Tryz.infoStr : (Tryz.prog.info? 9).map (fun i => (i.zero,i.size,i.bytes)) = some (some (.string ⟨#[]⟩),1,16) := by kernel_rfl
theorem digit_one {s : ByteArray} (h : s.size = 1) : digitW s.data.toList = if 48 ≤ (s[0]'(by omega)).toNat ∧ (s[0]'(by omega)).toNat ≤ 57 then some ((s[0]'(by omega)).toNat - 48) else none := by
 obtain ⟨c,rfl⟩ := Lib.one_byte s h
 rfl
theorem digit_no {s : ByteArray} (h : s.size ≠ 1) : digitW s.data.toList = none := by
 unfold digitW
 split <;> first | rfl | (rename_i heq;exact absurd (by have := congrArg List.length heq;simpa using this) h)
set_option maxRecDepth 100000 in
set_option maxHeartbeats 400000 in
theorem rDigit_any {w : World} {s : ByteArray} :
  Calls Tryz.prog 21 #[.string s] w (Ret w (.tuple #[.int .i64 (((digitW s.data.toList).getD 0 : Nat) : Int), .bool (digitW s.data.toList).isSome])) := by
 unfold Ret
 obtain ⟨r,hr⟩ : ∃ r,digitW s.data.toList = r := ⟨_,rfl⟩
 rw [hr]
 by_cases h1 : s.size = 1
 ·rw [digit_one h1] at hr
  have h0 : 0 < s.size := by omega
  obtain ⟨c,hc⟩ : ∃ c,s[0] = c := ⟨_,rfl⟩
  have hcl := c.toNat_lt
  rw [hc] at hr
  have h1i : (s.size : Int) = 1 := by omega
  have HC := hid hc
  by_cases h48 : (c.toNat : Int) < 48
  ·rw [if_neg (by omega)] at hr
   subst hr
   have h48' :  ((s[0].toNat : Int) < 48) := by rw [hc];exact h48
   clear h48
   clear hc
   go_enter Tryz.func21,Tryz.ntmps21
   go_wp2_with fail
   go_ret2
   exact ⟨rfl,Below.refl _ _⟩
  ·by_cases h57 : (57 : Int) < (c.toNat : Int)
   ·rw [if_neg (by omega)] at hr
    subst hr
    have h48' : ¬ ((s[0].toNat : Int) < 48) := by rw [hc];exact h48
    clear h48
    have h57' :  ((57 : Int) < (s[0].toNat : Int)) := by rw [hc];exact h57
    clear h57
    clear hc
    go_enter Tryz.func21,Tryz.ntmps21
    go_wp2_with fail
    go_ret2
    exact ⟨rfl,Below.refl _ _⟩
   ·rw [if_pos (by omega)] at hr
    subst hr
    have h48' : ¬ ((s[0].toNat : Int) < 48) := by rw [hc];exact h48
    clear h48
    have h57' : ¬ ((57 : Int) < (s[0].toNat : Int)) := by rw [hc];exact h57
    clear h57
    clear hc
    go_enter Tryz.func21,Tryz.ntmps21
    go_wp2_with fail
    go_ret2
    refine ⟨?_,Below.refl _ _⟩
    have hce := HC.out
    have hn : s[0].toNat = c.toNat := by rw [hce]
    simp [hce]
    omega
 ·rw [digit_no h1] at hr
  subst hr
  have h1i : ((s.size : Int) == 1) = false := beq_eq_false_iff_ne.mpr (by omega)
  go_enter Tryz.func21,Tryz.ntmps21
  go_wp2_with fail
  go_ret2
  exact ⟨rfl,Below.refl _ _⟩
set_option maxRecDepth 100000 in
set_option maxHeartbeats 1000000 in
theorem rWords_any {w : World} {s : ByteArray} (hs : s.size ≤ 100000) :
  Calls Tryz.prog 20 #[.string s] w (fun e w' => ∃ v,e = .returned v ∧ Below w.heap.size w w' ∧ StrsAt w.heap.size 9 v (wordsL s.data.toList) w') := by
 obtain ⟨i0,hi,hz0,hz1,hz2⟩ := info_parts Tryz.infoStr
 go_enter Tryz.func20,Tryz.ntmps20
 go_wp2_with fail
 go_loopg [3,4,5] s.size (fun gk ov wv iv wr => ∃ k : Nat,k ≤ s.size ∧ gk = s.size - k ∧ StrsAt w.heap.size 9 ov (full (pfold 32 (s.data.toList.take k)).1) wr ∧ wv = .string ⟨(pfold 32 (s.data.toList.take k)).2.toArray⟩ ∧ iv = .int .i64 k ∧ Below w.heap.size w wr)
 case atStart => exact ⟨0,Nat.zero_le _,rfl,World.ownsRow_nil _ _ _ _,rfl,rfl,Below.refl _ _⟩
 case round =>
  obtain ⟨k,hk,hgk,ho,rfl,rfl,hB⟩ := hrel
  have HGK := hid hgk;clear hgk
  obtain ⟨⟨ps,cur⟩,hpf⟩ : ∃ p,pfold 32 (s.data.toList.take k) = p := ⟨_,rfl⟩
  rw [hpf] at ho ⊢
  dsimp only at ho ⊢
  unfold StrsAt at ho
  obtain ⟨hp1,hp2, -⟩ := pf_bounds hpf
  have HPF := hid hpf;clear hpf
  by_cases hlt : k < s.size
  ·have hki : (k : Int) < (s.size : Int) := by omega
   have hcl := s[k].toNat_lt
   by_cases hc : s[k] = 32
   ·have HC := hid hc
    have hc0 : ((s[k].toNat : Int) != 32) = false := by rw [hc];rfl
    clear hc
    by_cases h0 : cur = []
    ·subst h0
     go_wp2_with fail
     go_roundg (s.size - (k + 1))
     case measure => have h := HGK.out;omega
     case rel => exact ⟨k + 1,by omega,rfl,by rw [pf_hit hlt HC.out,HPF.out];exact (by rw [full_snoc,if_pos rfl,List.append_nil];exact ho),by rw [pf_hit hlt HC.out,HPF.out],by go_num,hB⟩
    ·have hem : cur.isEmpty = false := by cases cur with | nil => exact absurd rfl h0 | cons a l => rfl
     go_wp2_with (at_builtin;go_must (refine wpList_append_own _ rfl _ _ 48 rfl w.heap.size 9 i0 (.string ⟨#[]⟩) 1 16 Tryz.underlying48 hi hz0 hz1 hz2 rfl (by decide) _ _ _ rfl (ho.alloc _) ⟨wr.heap.size,0,none⟩ 1 1 [strV cur] rfl rfl (one_cell _ _ _ _ rfl) (by simp [strV,Value.oneCell']) (by unfold maxLen;omega) (by omega) (by simp;have := hB.size;omega) ?_;intro v' w4 ho4 hg4 hnil;replace hB := Pb.below_grown (hB.alloc hB.size _) hg4 (ho.alloc _) (by simp;have := hB.size;omega) (Nat.le_refl _)))
     go_roundg (s.size - (k + 1))
     case measure => have h := HGK.out;omega
     case rel => exact ⟨k + 1,by omega,rfl,by rw [pf_hit hlt HC.out,HPF.out];exact (by unfold StrsAt;rw [full_snoc,if_neg h0,List.map_append,List.length_append];exact ho4),by rw [pf_hit hlt HC.out,HPF.out],by go_num,hB⟩
   ·have HC := hid hc
    have hc0 : ((s[k].toNat : Int) != 32) = true := by rw [bne_iff_ne];intro e;exact hc (UInt8.toNat_inj.1 (by have h32 : (32 : UInt8).toNat = 32 := rfl;omega))
    clear hc
    go_wp2_with fail
    go_roundg (s.size - (k + 1))
    case measure => have h := HGK.out;omega
    case rel => exact ⟨k + 1,by omega,rfl,by rw [pf_other hlt HC.out,HPF.out];exact ho,by rw [pf_other hlt HC.out,HPF.out,ext_one hlt],by go_num,hB⟩
  ·obtain rfl : k = s.size := by omega
   have hw : wordsL s.data.toList = full ps ++ (if cur = [] then [] else [cur]) := by unfold wordsL;rw [← pf_all,HPF.out]
   by_cases h0 : cur = []
   ·subst h0
    rw [if_pos rfl,List.append_nil] at hw
    have HW := hid hw;clear hw
    go_wp2_with fail
    go_ret
    exact ⟨_,rfl,hB,by rw [HW.out];exact ho⟩
   ·have hem : cur.isEmpty = false := by cases cur with | nil => exact absurd rfl h0 | cons a l => rfl
    rw [if_neg h0] at hw
    have HW := hid hw;clear hw
    go_wp2_with (at_builtin;go_must (refine wpList_append_own _ rfl _ _ 48 rfl w.heap.size 9 i0 (.string ⟨#[]⟩) 1 16 Tryz.underlying48 hi hz0 hz1 hz2 rfl (by decide) _ _ _ rfl (ho.alloc _) ⟨wr.heap.size,0,none⟩ 1 1 [strV cur] rfl rfl (one_cell _ _ _ _ rfl) (by simp [strV,Value.oneCell']) (by unfold maxLen;omega) (by omega) (by simp;have := hB.size;omega) ?_;intro v' w4 ho4 hg4 hnil;replace hB := Pb.below_grown (hB.alloc hB.size _) hg4 (ho.alloc _) (by simp;have := hB.size;omega) (Nat.le_refl _)))
    go_ret
    exact ⟨_,rfl,hB,by rw [HW.out];unfold StrsAt;rw [List.map_append,List.length_append];exact ho4⟩
end Go.Proofs.YthdfnkdifjajlaaGreatDoor
namespace Go.Proofs.YthdfnkdifjajlaaGreatDoor
open Go.RowKit Go.Pb Go.Pb.Ware Go.Pb.Sag


open Go.Pb.Txt
theorem take_drop {s : ByteArray} {k a : Nat} (hk : k < s.size) (ha : a ≤ k) : (s.data.toList.take (k + 1)).drop a = (s.data.toList.take k).drop a ++ [s[k]] := by
 have hk2 : k < s.data.toList.length := by simpa using hk
 have e : s.data.toList[k]'hk2 = s[k] := by simp;rfl
 rw [List.take_succ_eq_append_getElem hk2,List.drop_append_of_le_length (by rw [List.length_take];omega),e]
set_option maxRecDepth 100000 in
set_option maxHeartbeats 1000000 in
theorem rLines_any {w : World} {s : ByteArray} (hs : s.size ≤ 100000) :
  Calls Tryz.prog 18 #[.string s] w (fun e w' => ∃ v,e = .returned v ∧ Below w.heap.size w w' ∧ StrsAt w.heap.size 9 v (linesR s.data.toList) w') := by
 obtain ⟨i0,hi,hz0,hz1,hz2⟩ := info_parts Tryz.infoStr
 go_enter Tryz.func18,Tryz.ntmps18
 go_wp2_with fail
 go_loopg [3,4,5] s.size (fun gk ov av iv wr => ∃ k a : Nat,k ≤ s.size ∧ a ≤ k ∧ gk = s.size - k ∧ StrsAt w.heap.size 9 ov (pfold 10 (s.data.toList.take k)).1 wr ∧ (pfold 10 (s.data.toList.take k)).2 = (s.data.toList.take k).drop a ∧ av = .int .i64 a ∧ iv = .int .i64 k ∧ Below w.heap.size w wr)
 case atStart => exact ⟨0,0,Nat.zero_le _,Nat.le_refl _,rfl,World.ownsRow_nil _ _ _ _,rfl,rfl,rfl,Below.refl _ _⟩
 case round =>
  obtain ⟨k,a,hk,hak,hgk,ho,hcur,rfl,rfl,hB⟩ := hrel
  have HGK := hid hgk;clear hgk
  obtain ⟨⟨ps,cur⟩,hpf⟩ : ∃ p,pfold 10 (s.data.toList.take k) = p := ⟨_,rfl⟩
  rw [hpf] at ho hcur
  dsimp only at ho hcur
  unfold StrsAt at ho
  obtain ⟨-,hp2,hp1⟩ := pf_bounds hpf
  have HPF := hid hpf;clear hpf
  have HCU := hid hcur;clear hcur
  by_cases hlt : k < s.size
  ·have hki : (k : Int) < (s.size : Int) := by omega
   have hcl := s[k].toNat_lt
   by_cases hc : s[k] = 10
   ·have HC := hid hc
    have hc0 : ((s[k].toNat : Int) == 10) = true := by rw [hc];rfl
    clear hc
    have hcu : (Value.string (s.extract a k)) = strV cur := by rw [HCU.out,ext_to];rfl
    have HCV := hid hcu;clear hcu
    have hle : (a : Int) ≤ (k : Int) := by omega
    have hle2 : (k : Int) ≤ (s.size : Int) := by omega
    go_wp2_with (at_builtin;go_must (refine wpList_append_own _ rfl _ _ 48 rfl w.heap.size 9 i0 (.string ⟨#[]⟩) 1 16 Tryz.underlying48 hi hz0 hz1 hz2 rfl (by decide) _ _ _ rfl (ho.alloc _) ⟨wr.heap.size,0,none⟩ 1 1 [.string (s.extract a k)] rfl rfl (one_cell _ _ _ _ rfl) (by simp [Value.oneCell']) (by unfold maxLen;omega) (by omega) (by simp;have := hB.size;omega) ?_;intro v' w4 ho4 hg4 hnil;replace hB := Pb.below_grown (hB.alloc hB.size _) hg4 (ho.alloc _) (by simp;have := hB.size;omega) (Nat.le_refl _)))
    go_roundg (s.size - (k + 1))
    case measure => have h := HGK.out;omega
    case rel => exact ⟨k + 1,(k + 1),by omega,by omega,rfl,by rw [pf_hit hlt HC.out,HPF.out];exact (by unfold StrsAt;rw [List.map_append,List.length_append];rw [HCV.out] at ho4;exact ho4),by rw [pf_hit hlt HC.out,HPF.out];exact (by rw [List.drop_eq_nil_of_le];rw [List.length_take];omega),by go_num,by go_num,hB⟩
   ·have HC := hid hc
    have hc0 : ((s[k].toNat : Int) == 10) = false := by rw [beq_eq_false_iff_ne];intro e;exact hc (UInt8.toNat_inj.1 (by have h32 : (10 : UInt8).toNat = 10 := rfl;omega))
    clear hc
    go_wp2_with fail
    go_roundg (s.size - (k + 1))
    case measure => have h := HGK.out;omega
    case rel => exact ⟨k + 1,a,by omega,by omega,rfl,by rw [pf_other hlt HC.out,HPF.out];exact ho,by rw [pf_other hlt HC.out,HPF.out];exact (by rw [HCU.out];exact (take_drop hlt hak).symm),rfl,by go_num,hB⟩
  ·obtain rfl : k = s.size := by omega
   have hw : linesR s.data.toList = ps ++ (if cur = [] then [] else [cur]) := by unfold linesR;rw [← pf_all,HPF.out]
   have hcl : cur.length = s.size - a := by rw [HCU.out,List.length_drop,List.length_take];simp
   by_cases h0 : a < s.size
   ·have hne : cur ≠ [] := by intro e;rw [e] at hcl;simp at hcl;omega
    have h0i : (a : Int) < (s.size : Int) := by omega
    have hcu : (Value.string (s.extract a s.size)) = strV cur := by rw [HCU.out,ext_to];rfl
    have HCV := hid hcu;clear hcu
    clear hcl
    rw [if_neg hne] at hw
    have HW := hid hw;clear hw
    go_wp2_with (at_builtin;go_must (refine wpList_append_own _ rfl _ _ 48 rfl w.heap.size 9 i0 (.string ⟨#[]⟩) 1 16 Tryz.underlying48 hi hz0 hz1 hz2 rfl (by decide) _ _ _ rfl (ho.alloc _) ⟨wr.heap.size,0,none⟩ 1 1 [.string (s.extract a s.size)] rfl rfl (one_cell _ _ _ _ rfl) (by simp [Value.oneCell']) (by unfold maxLen;omega) (by omega) (by simp;have := hB.size;omega) ?_;intro v' w4 ho4 hg4 hnil;replace hB := Pb.below_grown (hB.alloc hB.size _) hg4 (ho.alloc _) (by simp;have := hB.size;omega) (Nat.le_refl _)))
    go_ret
    exact ⟨_,rfl,hB,by rw [HW.out];unfold StrsAt;rw [List.map_append,List.length_append];rw [HCV.out] at ho4;exact ho4⟩
   ·have hne : cur = [] := List.eq_nil_of_length_eq_zero (by omega)
    have h0i : ¬ (a : Int) < (s.size : Int) := by omega
    clear hcl
    rw [if_pos hne,List.append_nil] at hw
    have HW := hid hw;clear hw
    go_wp2_with fail
    go_ret
    exact ⟨_,rfl,hB,by rw [HW.out];exact ho⟩
theorem head_at {s : ByteArray} (h : 0 < s.size) : s.data.toList.head? = some s[0] := by
 have hk2 : 0 < s.data.toList.length := by simpa using h
 rw [List.head?_eq_getElem?,List.getElem?_eq_getElem hk2]
 simp;rfl
set_option maxRecDepth 100000 in
set_option maxHeartbeats 1000000 in
theorem rSays_any {w : World} {s : ByteArray} (hs : s.size ≤ 100000) :
  Calls Tryz.prog 19 #[.string s] w (Ret w (.bool (decide (sayW s.data.toList ≠ [])))) := by
 unfold Ret
 obtain ⟨b,hb⟩ : ∃ b,decide (sayW s.data.toList ≠ []) = b := ⟨_,rfl⟩
 rw [hb]
 have HB := hid hb;clear hb
 by_cases h0 : 0 < s.size
 ·have h0i : (0 : Int) < (s.size : Int) := by omega
  have hh := head_at h0
  have hcl := s[0].toNat_lt
  by_cases hc : s[0] = 35
  ·have hbf : b = false := by rw [← HB.out];unfold sayW;rw [hh,hc];rfl
   subst hbf
   have hc0 : ((s[0].toNat : Int) == 35) = true := by rw [hc];rfl
   clear hh hc
   go_enter Tryz.func19,Tryz.ntmps19
   go_wp2_with fail
   go_ret
   exact ⟨rfl,Below.refl _ _⟩
  ·have HSW := hid (show sayW s.data.toList = wordsL s.data.toList by unfold sayW;rw [hh,if_neg (by simpa using hc)])
   have hc0 : ((s[0].toNat : Int) == 35) = false := by rw [beq_eq_false_iff_ne];intro e;exact hc (UInt8.toNat_inj.1 (by have h32 : (35 : UInt8).toNat = 35 := rfl;omega))
   clear hh hc
   go_enter Tryz.func19,Tryz.ntmps19
   go_wp2_with fail
   refine (rWords_any hs).mono ?_
   rintro e w1 ⟨v,rfl,hB,ho⟩
   obtain ⟨va,vc,rfl, -⟩ := ho.shape
   rw [← HSW.out]
   obtain ⟨ws,hws⟩ : ∃ ws,sayW s.data.toList = ws := ⟨_,rfl⟩
   rw [hws]
   have HWS := hid hws;clear hws ho
   by_cases hn : ws = []
   ·subst hn
    have hbf : b = false := by rw [← HB.out,HWS.out];rfl
    subst hbf
    go_wp2_with fail
    go_ret
    exact ⟨rfl,hB⟩
   ·have hbt : b = true := by rw [← HB.out,HWS.out];exact decide_eq_true hn
    subst hbt
    have hl0 : (0 : Int) < (ws.length : Int) := by cases ws with | nil => exact absurd rfl hn | cons a l => simp
    have hld : decide (0 < ws.length) = true := decide_eq_true (by omega)
    go_wp2_with fail
    go_ret
    refine ⟨?_,hB⟩
    simp [hld]
 ·have h0i : ¬ (0 : Int) < (s.size : Int) := by omega
  have HSW := hid (show sayW s.data.toList = wordsL s.data.toList by unfold sayW;rw [show s.data.toList = [] from List.eq_nil_of_length_eq_zero (by have e : s.data.toList.length = s.size := (by simp);omega)];rfl)
  go_enter Tryz.func19,Tryz.ntmps19
  go_wp2_with fail
  refine (rWords_any hs).mono ?_
  rintro e w1 ⟨v,rfl,hB,ho⟩
  obtain ⟨va,vc,rfl, -⟩ := ho.shape
  rw [← HSW.out]
  obtain ⟨ws,hws⟩ : ∃ ws,sayW s.data.toList = ws := ⟨_,rfl⟩
  rw [hws]
  have HWS := hid hws;clear hws ho
  by_cases hn : ws = []
  ·subst hn
   have hbf : b = false := by rw [← HB.out,HWS.out];rfl
   subst hbf
   go_wp2_with fail
   go_ret
   exact ⟨rfl,hB⟩
  ·have hbt : b = true := by rw [← HB.out,HWS.out];exact decide_eq_true hn
   subst hbt
   have hl0 : (0 : Int) < (ws.length : Int) := by cases ws with | nil => exact absurd rfl hn | cons a l => simp
   have hld : decide (0 < ws.length) = true := decide_eq_true (by omega)
   go_wp2_with fail
   go_ret
   refine ⟨?_,hB⟩
   simp [hld]
end Go.Proofs.YthdfnkdifjajlaaGreatDoor
namespace Go.Proofs.YthdfnkdifjajlaaGreatDoor
open Go.RowKit Go.Pb Go.Pb.Ware Go.Pb.Sag


open Go.Pb.Txt
theorem rSays' {w : World} {l : Bs} (hs : l.length ≤ 100000) {b : Bool} (hb : decide (sayW l ≠ []) = b) : Calls Tryz.prog 19 #[.string ⟨l.toArray⟩] w (Ret w (.bool b)) := by
 subst hb
 exact rSays_any (s := ⟨l.toArray⟩) hs
theorem rWordsN {w : World} {l : Bs} (hs : l.length ≤ 100000) {ws : List Bs} (hw : wordsL l = ws) {N : Nat} (hN : ws.length = N) : Calls Tryz.prog 20 #[.string ⟨l.toArray⟩] w (fun e w' => ∃ (va : Option Addr) (vc : Nat),e = .returned (.slice va N vc) ∧ Below w.heap.size w w' ∧ StrsAt w.heap.size 9 (.slice va ws.length vc) ws w') := by
 subst hN;subst hw
 refine (rWords_any (s := ⟨l.toArray⟩) hs).mono ?_
 rintro e w1 ⟨v,rfl,hb,ho⟩
 obtain ⟨va,vc,rfl, -⟩ := ho.shape
 exact ⟨va,vc,rfl,hb,ho⟩
theorem rDigit' {w : World} {l : Bs} {r : Option Nat} (hr : digitW l = r) : Calls Tryz.prog 21 #[.string ⟨l.toArray⟩] w (Ret w (.tuple #[.int .i64 ((r.getD 0 : Nat) : Int), .bool r.isSome])) := by
 subst hr
 exact rDigit_any (s := ⟨l.toArray⟩)
theorem say_words {l : Bs} {ws : List Bs} (h : sayW l = ws) (h0 : ws ≠ []) : wordsL l = ws := by
 unfold sayW at h
 split at h
 ·exact absurd h.symm h0
 ·exact h
set_option maxRecDepth 100000 in
set_option maxHeartbeats 2000000 in
theorem rParse_any {w : World} {s : ByteArray} {r : List Sq × Int × Int} (hr : parseA s.data.toList = r) :
  Calls Tryz.prog 7 #[.string s] w (ParseRes r w) := by
 unfold ParseRes
 by_cases hs : s.size ≤ 400
 ·have HI0 := hid (rd_start (by simpa using hs) hr)
  clear hr
  have hsi : ¬ (400 : Int) < (s.size : Int) := by omega
  obtain ⟨i0,hi,hz0,hz1,hz2⟩ := info_parts Tryz.infoS
  go_enter Tryz.func7,Tryz.ntmps7
  go_wp2_with fail
  refine (rLines_any (s := s) (by omega)).mono ?_
  rintro e w1 ⟨v,rfl,hB1,ho1⟩
  obtain ⟨la,lc,rfl, -⟩ := ho1.shape
  have hln := linesR_len s.data.toList
  have hs2 : s.data.toList.length = s.size := (by simp)
  obtain ⟨LS,hLS⟩ : ∃ LS,linesR s.data.toList = LS := ⟨_,rfl⟩
  rw [hLS] at ho1 hln HI0 ⊢
  have HLS := hid hLS;clear hLS
  have hLn : LS.length ≤ 401 := by omega
  clear hln hs2
  go_wp2_with fail
  go_loopg [5,7] LS.length (fun gk ov iv wr => ∃ (k : Nat) (acc : List Sq),k ≤ LS.length ∧ gk = LS.length - k ∧ iv = .int .i64 k ∧ wr.ownsRow w1.heap.size 37 3 ov acc.length (acc.flatMap cellsQ) ∧ acc.length ≤ k ∧ Hid (r = readL k (LS.drop k) acc) ∧ Below w1.heap.size w1 wr)
  case atStart => exact ⟨0, [],Nat.zero_le _,rfl,rfl,World.ownsRow_nil _ _ _ _,Nat.le_refl _,HI0,Below.refl _ _⟩
  case round =>
   obtain ⟨k,acc,hk,hgk,rfl,ho,hacc,HI,hB⟩ := hrel
   have HGK := hid hgk;clear hgk
   by_cases hlt : k < LS.length
   ·have hki : (k : Int) < (LS.length : Int) := by omega
    obtain ⟨g,rfl,c0⟩ := (ho1.below hB).elem hlt
    obtain ⟨l,hl⟩ : ∃ l,LS[k] = l := ⟨_,rfl⟩
    rw [hl] at c0
    have HLK := hid (show LS[k]? = some l by rw [List.getElem?_eq_getElem hlt,hl])
    have hll : l.length ≤ 100000 := by have h1 := linesR_le (l := s.data.toList) (x := l) (by rw [HLS.out, ← hl];exact List.getElem_mem hlt);have h2 : s.data.toList.length = s.size := (by simp);omega
    clear hl
    unfold strV at c0
    obtain ⟨ws,hsw⟩ : ∃ ws,sayW l = ws := ⟨_,rfl⟩
    by_cases h0 : ws = []
    ·have hbf : decide (sayW l ≠ []) = false := by rw [hsw,h0];rfl
     rw [h0] at hsw
     have HSW := hid hsw;clear hsw
     go_wp2_with fail
     refine (rSays' hll hbf).mono ?_
     rintro e w2 ⟨rfl,hb⟩
     replace ho := owns_below ho hb
     replace hB := hB.trans (hb.mono hB.size)
     clear hb
     clear hbf
     go_wp2_with fail
     go_roundg (LS.length - (k + 1))
     case measure => have h := HGK.out;omega
     case rel => exact ⟨k + 1,acc,by omega,rfl,by go_num,ho,by omega,hid (rd_skip HI.out HLK.out HSW.out),hB⟩
    ·have hbt : decide (sayW l ≠ []) = true := by rw [hsw];exact decide_eq_true h0
     have HSW := hid hsw;have HNE := hid h0;clear hsw h0
     go_wp2_with fail
     refine (rSays' hll hbt).mono ?_
     rintro e w2 ⟨rfl,hb⟩
     replace ho := owns_below ho hb
     replace hB := hB.trans (hb.mono hB.size)
     replace c0 := bkeep hb c0
     clear hb
     clear hbt
     by_cases h4 : ws.length = 4
     ·have hlen := h4
      go_wp2_with fail
      refine (rWordsN hll (say_words HSW.out HNE.out) h4).mono ?_
      rintro e w3 ⟨va,vc,rfl,hb,hS⟩
      replace ho := owns_below ho hb
      replace hB := hB.trans (hb.mono hB.size)
      clear hb
      obtain ⟨gw,rfl, -⟩ := hS.elem (k := 0) (by omega)
      obtain ⟨g',hg',e0⟩ := hS.elem (k := 0) (by omega)
      obtain rfl : gw = g' := by (injection hg' with hg';injection hg')
      obtain ⟨l0,hl0⟩ : ∃ l,ws[0]'(by omega) = l := ⟨_,rfl⟩
      rw [hl0] at e0
      obtain ⟨hq0,hd0⟩ := elem_at _ hl0
      unfold strV at e0
      clear hg' hl0
      obtain ⟨g',hg',e1⟩ := hS.elem (k := 1) (by omega)
      obtain rfl : gw = g' := by (injection hg' with hg';injection hg')
      obtain ⟨l1,hl1⟩ : ∃ l,ws[1]'(by omega) = l := ⟨_,rfl⟩
      rw [hl1] at e1
      obtain ⟨hq1,hd1⟩ := elem_at _ hl1
      unfold strV at e1
      clear hg' hl1
      obtain ⟨g',hg',e2⟩ := hS.elem (k := 2) (by omega)
      obtain rfl : gw = g' := by (injection hg' with hg';injection hg')
      obtain ⟨l2,hl2⟩ : ∃ l,ws[2]'(by omega) = l := ⟨_,rfl⟩
      rw [hl2] at e2
      obtain ⟨hq2,hd2⟩ := elem_at _ hl2
      unfold strV at e2
      clear hg' hl2
      obtain ⟨g',hg',e3⟩ := hS.elem (k := 3) (by omega)
      obtain rfl : gw = g' := by (injection hg' with hg';injection hg')
      obtain ⟨l3,hl3⟩ : ∃ l,ws[3]'(by omega) = l := ⟨_,rfl⟩
      rw [hl3] at e3
      obtain ⟨hq3,hd3⟩ := elem_at _ hl3
      unfold strV at e3
      clear hg' hl3
      clear hS h4
      cases t3 : (l3 == [116,117,114,110,101,100])
      ·have hf0 : ∀ b : Bool,(l0 == [115,116,97,110,100]) = b → formB ws = false := fun _ _ => by unfold formB turnedB;rw [hlen,hq3];simp [turnedWord];intro _ e;subst e;simp at t3
       cases t0 : (l0 == [115,116,97,110,100])
       ·have hf := hf0 _ t0
        obtain rfl : r = ([],(k : Int) + 1,5) := rd_bad HI.out HLK.out (by rw [HSW.out];exact HNE.out) (by rw [HSW.out];exact form_no hf)
        have hBW := hB1.trans (hB.mono hB1.size)
        clear hf hf0
        go_wp2_with fail
        exact bodyPost_ret (v := .tuple #[.slice none 0 0, .int .i64 ((k : Int) + 1), .int .i64 5]) (by simp [results,Tryz.results7,go_sem, *]) rfl ⟨_,rfl,by first | exact hBW | go_grown, .inl ⟨rfl,rfl⟩⟩
       ·have hf := hf0 _ t0
        obtain rfl : r = ([],(k : Int) + 1,5) := rd_bad HI.out HLK.out (by rw [HSW.out];exact HNE.out) (by rw [HSW.out];exact form_no hf)
        have hBW := hB1.trans (hB.mono hB1.size)
        clear hf hf0
        go_wp2_with fail
        exact bodyPost_ret (v := .tuple #[.slice none 0 0, .int .i64 ((k : Int) + 1), .int .i64 5]) (by simp [results,Tryz.results7,go_sem, *]) rfl ⟨_,rfl,by first | exact hBW | go_grown, .inl ⟨rfl,rfl⟩⟩
      ·have hl3e : l3 = [116,117,114,110,101,100] := by simpa using t3
       cases t0 : (l0 == [115,116,97,110,100])
       ·have hf : formB ws = false := by unfold formB;rw [hq0];simp [standWord];intro e;subst e;simp at t0
        obtain rfl : r = ([],(k : Int) + 1,5) := rd_bad HI.out HLK.out (by rw [HSW.out];exact HNE.out) (by rw [HSW.out];exact form_no hf)
        have hBW := hB1.trans (hB.mono hB1.size)
        clear hf
        go_wp2_with fail
        exact bodyPost_ret (v := .tuple #[.slice none 0 0, .int .i64 ((k : Int) + 1), .int .i64 5]) (by simp [results,Tryz.results7,go_sem, *]) rfl ⟨_,rfl,by first | exact hBW | go_grown, .inl ⟨rfl,rfl⟩⟩
       ·have hl0e : l0 = [115,116,97,110,100] := by simpa using t0
        subst hl0e
        have hform : formB ws = true := by unfold formB turnedB;rw [hq0,hlen];simp [hq3,hl3e,standWord,turnedWord]
        have htb : turnedB ws = true := by unfold turnedB;rw [hlen];simp [hq3,hl3e,turnedWord]
        have HF := hid (form_yes hform rfl rfl)
        rw [htb,hd1,hd2] at HF
        clear hform htb
        obtain ⟨a1,ha1⟩ : ∃ a,digitW l1 = a := ⟨_,rfl⟩
        go_wp2_with fail
        refine (rDigit' ha1).mono ?_
        rintro e w4 ⟨rfl,hb⟩
        replace ho := owns_below ho hb
        replace hB := hB.trans (hb.mono hB.size)
        replace e2 := bkeep hb e2
        clear hb
        obtain ⟨a2,ha2⟩ : ∃ a,digitW l2 = a := ⟨_,rfl⟩
        go_wp2_with fail
        refine (rDigit' ha2).mono ?_
        rintro e w5 ⟨rfl,hb⟩
        replace ho := owns_below ho hb
        replace hB := hB.trans (hb.mono hB.size)
        clear hb
        have HR := hid HF.out
        clear HF
        rw [ha1,ha2] at HR
        cases a1 with
        | none =>
         obtain rfl : r = ([],(k : Int) + 1,5) := rd_bad HI.out HLK.out (by rw [HSW.out];exact HNE.out) (by rw [HSW.out];exact HR.out)
         have hBW := hB1.trans (hB.mono hB1.size)
         go_wp2_with fail
         exact bodyPost_ret (v := .tuple #[.slice none 0 0, .int .i64 ((k : Int) + 1), .int .i64 5]) (by simp [results,Tryz.results7,go_sem, *]) rfl ⟨_,rfl,by first | exact hBW | go_grown, .inl ⟨rfl,rfl⟩⟩
        | some y =>
         cases a2 with
         | none =>
          obtain rfl : r = ([],(k : Int) + 1,5) := rd_bad HI.out HLK.out (by rw [HSW.out];exact HNE.out) (by rw [HSW.out];exact HR.out)
          have hBW := hB1.trans (hB.mono hB1.size)
          go_wp2_with fail
          exact bodyPost_ret (v := .tuple #[.slice none 0 0, .int .i64 ((k : Int) + 1), .int .i64 5]) (by simp [results,Tryz.results7,go_sem, *]) rfl ⟨_,rfl,by first | exact hBW | go_grown, .inl ⟨rfl,rfl⟩⟩
         | some x =>
          have hcg : ∀ i u,(cellsQ (⟨(y : Int),(x : Int),true⟩ : Sq))[i]? = some u → (w5.alloc (.cells #[.int .i64 (y : Int), .int .i64 (x : Int), .bool true] 37)).cell? ((⟨w5.heap.size,0,none⟩ : Addr).add i) = some u := fun i u h => by
           rw [Go.WideShapes.add_plain,Nat.zero_add]
           exact (CellsAt.new w5 (cellsQ (⟨(y : Int),(x : Int),true⟩ : Sq)) 37 i u h).1
          have HCG := hid hcg;clear hcg
          go_wp2_with (at_builtin;go_must (refine wpList_append_own _ rfl _ _ 22 rfl w1.heap.size 37 i0 (.agg #[.int .i64 0, .int .i64 0, .bool false]) 3 24 Tryz.underlying22 hi hz0 hz1 hz2 rfl (by decide) _ _ _ rfl (ho.alloc _) ⟨w5.heap.size,0,none⟩ 1 1 (cellsQ (⟨(y : Int),(x : Int),true⟩ : Sq)) rfl rfl HCG.out (fun u h => by simp only [cellsQ,List.mem_cons,List.not_mem_nil,or_false] at h;rcases h with rfl | rfl | rfl <;> rfl) (by unfold maxLen;omega) (by omega) (by simp;have := hB.size;omega) ?_;intro v' w7 ho7 hg7 hnil;replace hB := Pb.below_grown (hB.alloc hB.size _) hg7 (ho.alloc _) (by simp;have := hB.size;omega) (Nat.le_refl _)))
          go_roundg (LS.length - (k + 1))
          case measure => have h := HGK.out;omega
          case rel => exact ⟨k + 1,acc ++ [(⟨(y : Int),(x : Int),true⟩ : Sq)],by omega,rfl,by go_num,by rw [List.length_append,List.flatMap_append];simpa using ho7,by rw [List.length_append,List.length_singleton];omega,hid (rd_good HI.out HLK.out (by rw [HSW.out];exact HNE.out) (by rw [HSW.out];exact HR.out)),hB⟩
     ·by_cases h3 : ws.length = 3
      ·have hlen := h3
       have hq3 : ws[3]? = none := List.getElem?_eq_none (by omega)
       go_wp2_with fail
       refine (rWordsN hll (say_words HSW.out HNE.out) h3).mono ?_
       rintro e w3 ⟨va,vc,rfl,hb,hS⟩
       replace ho := owns_below ho hb
       replace hB := hB.trans (hb.mono hB.size)
       clear hb
       obtain ⟨gw,rfl, -⟩ := hS.elem (k := 0) (by omega)
       obtain ⟨g',hg',e0⟩ := hS.elem (k := 0) (by omega)
       obtain rfl : gw = g' := by (injection hg' with hg';injection hg')
       obtain ⟨l0,hl0⟩ : ∃ l,ws[0]'(by omega) = l := ⟨_,rfl⟩
       rw [hl0] at e0
       obtain ⟨hq0,hd0⟩ := elem_at _ hl0
       unfold strV at e0
       clear hg' hl0
       obtain ⟨g',hg',e1⟩ := hS.elem (k := 1) (by omega)
       obtain rfl : gw = g' := by (injection hg' with hg';injection hg')
       obtain ⟨l1,hl1⟩ : ∃ l,ws[1]'(by omega) = l := ⟨_,rfl⟩
       rw [hl1] at e1
       obtain ⟨hq1,hd1⟩ := elem_at _ hl1
       unfold strV at e1
       clear hg' hl1
       obtain ⟨g',hg',e2⟩ := hS.elem (k := 2) (by omega)
       obtain rfl : gw = g' := by (injection hg' with hg';injection hg')
       obtain ⟨l2,hl2⟩ : ∃ l,ws[2]'(by omega) = l := ⟨_,rfl⟩
       rw [hl2] at e2
       obtain ⟨hq2,hd2⟩ := elem_at _ hl2
       unfold strV at e2
       clear hg' hl2
       clear hS h3 h4
       cases t0 : (l0 == [115,116,97,110,100])
       ·have hf : formB ws = false := by unfold formB;rw [hq0];simp [standWord];intro e;subst e;simp at t0
        obtain rfl : r = ([],(k : Int) + 1,5) := rd_bad HI.out HLK.out (by rw [HSW.out];exact HNE.out) (by rw [HSW.out];exact form_no hf)
        have hBW := hB1.trans (hB.mono hB1.size)
        clear hf
        go_wp2_with fail
        exact bodyPost_ret (v := .tuple #[.slice none 0 0, .int .i64 ((k : Int) + 1), .int .i64 5]) (by simp [results,Tryz.results7,go_sem, *]) rfl ⟨_,rfl,by first | exact hBW | go_grown, .inl ⟨rfl,rfl⟩⟩
       ·have hl0e : l0 = [115,116,97,110,100] := by simpa using t0
        subst hl0e
        have hform : formB ws = true := by unfold formB turnedB;rw [hq0,hlen];simp [hq3,standWord,turnedWord]
        have htb : turnedB ws = false := by unfold turnedB;rw [hlen];simp [hq3,turnedWord]
        have HF := hid (form_yes hform rfl rfl)
        rw [htb,hd1,hd2] at HF
        clear hform htb
        obtain ⟨a1,ha1⟩ : ∃ a,digitW l1 = a := ⟨_,rfl⟩
        go_wp2_with fail
        refine (rDigit' ha1).mono ?_
        rintro e w4 ⟨rfl,hb⟩
        replace ho := owns_below ho hb
        replace hB := hB.trans (hb.mono hB.size)
        replace e2 := bkeep hb e2
        clear hb
        obtain ⟨a2,ha2⟩ : ∃ a,digitW l2 = a := ⟨_,rfl⟩
        go_wp2_with fail
        refine (rDigit' ha2).mono ?_
        rintro e w5 ⟨rfl,hb⟩
        replace ho := owns_below ho hb
        replace hB := hB.trans (hb.mono hB.size)
        clear hb
        have HR := hid HF.out
        clear HF
        rw [ha1,ha2] at HR
        cases a1 with
        | none =>
         obtain rfl : r = ([],(k : Int) + 1,5) := rd_bad HI.out HLK.out (by rw [HSW.out];exact HNE.out) (by rw [HSW.out];exact HR.out)
         have hBW := hB1.trans (hB.mono hB1.size)
         go_wp2_with fail
         exact bodyPost_ret (v := .tuple #[.slice none 0 0, .int .i64 ((k : Int) + 1), .int .i64 5]) (by simp [results,Tryz.results7,go_sem, *]) rfl ⟨_,rfl,by first | exact hBW | go_grown, .inl ⟨rfl,rfl⟩⟩
        | some y =>
         cases a2 with
         | none =>
          obtain rfl : r = ([],(k : Int) + 1,5) := rd_bad HI.out HLK.out (by rw [HSW.out];exact HNE.out) (by rw [HSW.out];exact HR.out)
          have hBW := hB1.trans (hB.mono hB1.size)
          go_wp2_with fail
          exact bodyPost_ret (v := .tuple #[.slice none 0 0, .int .i64 ((k : Int) + 1), .int .i64 5]) (by simp [results,Tryz.results7,go_sem, *]) rfl ⟨_,rfl,by first | exact hBW | go_grown, .inl ⟨rfl,rfl⟩⟩
         | some x =>
          have hcg : ∀ i u,(cellsQ (⟨(y : Int),(x : Int),false⟩ : Sq))[i]? = some u → (w5.alloc (.cells #[.int .i64 (y : Int), .int .i64 (x : Int), .bool false] 37)).cell? ((⟨w5.heap.size,0,none⟩ : Addr).add i) = some u := fun i u h => by
           rw [Go.WideShapes.add_plain,Nat.zero_add]
           exact (CellsAt.new w5 (cellsQ (⟨(y : Int),(x : Int),false⟩ : Sq)) 37 i u h).1
          have HCG := hid hcg;clear hcg
          go_wp2_with (at_builtin;go_must (refine wpList_append_own _ rfl _ _ 22 rfl w1.heap.size 37 i0 (.agg #[.int .i64 0, .int .i64 0, .bool false]) 3 24 Tryz.underlying22 hi hz0 hz1 hz2 rfl (by decide) _ _ _ rfl (ho.alloc _) ⟨w5.heap.size,0,none⟩ 1 1 (cellsQ (⟨(y : Int),(x : Int),false⟩ : Sq)) rfl rfl HCG.out (fun u h => by simp only [cellsQ,List.mem_cons,List.not_mem_nil,or_false] at h;rcases h with rfl | rfl | rfl <;> rfl) (by unfold maxLen;omega) (by omega) (by simp;have := hB.size;omega) ?_;intro v' w7 ho7 hg7 hnil;replace hB := Pb.below_grown (hB.alloc hB.size _) hg7 (ho.alloc _) (by simp;have := hB.size;omega) (Nat.le_refl _)))
          go_roundg (LS.length - (k + 1))
          case measure => have h := HGK.out;omega
          case rel => exact ⟨k + 1,acc ++ [(⟨(y : Int),(x : Int),false⟩ : Sq)],by omega,rfl,by go_num,by rw [List.length_append,List.flatMap_append];simpa using ho7,by rw [List.length_append,List.length_singleton];omega,hid (rd_good HI.out HLK.out (by rw [HSW.out];exact HNE.out) (by rw [HSW.out];exact HR.out)),hB⟩
      ·have hf : formB ws = false := by unfold formB turnedB;simp [h3,h4]
       obtain rfl : r = ([],(k : Int) + 1,5) := rd_bad HI.out HLK.out (by rw [HSW.out];exact HNE.out) (by rw [HSW.out];exact form_no hf)
       have hBW := hB1.trans (hB.mono hB1.size)
       clear hf
       obtain ⟨N,hN⟩ : ∃ N,ws.length = N := ⟨_,rfl⟩
       have h4i : ((N : Int) == 4) = false := beq_eq_false_iff_ne.mpr (by omega)
       have h3i : ((N : Int) == 3) = false := beq_eq_false_iff_ne.mpr (by omega)
       have h3b : ((N : Int) != 3) = true := bne_iff_ne.mpr (by omega)
       have h4b : ((N : Int) != 4) = true := bne_iff_ne.mpr (by omega)
       have h3p : ¬ (N : Int) = 3 := by omega
       have h4p : ¬ (N : Int) = 4 := by omega
       clear h3 h4
       go_wp2_with fail
       refine (rWordsN hll (say_words HSW.out HNE.out) hN).mono ?_
       rintro e w3 ⟨va,vc,rfl,hb,hS⟩
       replace ho := owns_below ho hb
       replace hB := hB.trans (hb.mono hB.size)
       clear hb
       replace hBW := hB1.trans (hB.mono hB1.size)
       go_wp2_with fail
       exact bodyPost_ret (v := .tuple #[.slice none 0 0, .int .i64 ((k : Int) + 1), .int .i64 5]) (by simp [results,Tryz.results7,go_sem, *]) rfl ⟨_,rfl,by first | exact hBW | go_grown, .inl ⟨rfl,rfl⟩⟩
   ·obtain rfl : k = LS.length := by omega
    have hre := rd_end HI.out
    obtain ⟨b,hb0⟩ : ∃ b,textB acc = b := ⟨_,rfl⟩
    have HB := hid hb0;have HRE := hid hre;clear hb0 hre
    go_wp2_with fail
    refine (rText_any (stAt_of_owns ho) HB.out).mono ?_
    rintro e w2 ⟨rfl,hb⟩
    replace ho := owns_below ho hb
    replace hB := hB.trans (hb.mono hB.size)
    clear hb
    have hBW := hB1.trans (hB.mono hB1.size)
    cases b
    ·obtain rfl : r = ([],0,23) := by rw [HRE.out,endR,if_neg (by rw [HB.out];simp)]
     go_wp2_with fail
     exact bodyPost_ret (v := .tuple #[.slice none 0 0, .int .i64 0, .int .i64 23]) (by simp [results,Tryz.results7,go_sem, *]) rfl ⟨_,rfl,by first | exact hBW | go_grown, .inl ⟨rfl,rfl⟩⟩
    ·obtain rfl : r = (acc,0,0) := by rw [HRE.out,endR,if_pos HB.out]
     go_wp2_with fail
     exact bodyPost_ret (v := .tuple #[_, .int .i64 0, .int .i64 0]) (by simp [results,Tryz.results7,go_sem, *]) rfl ⟨_,rfl,by first | exact hBW | go_grown,stAt_of_owns ho⟩
 ·have hsi : (400 : Int) < (s.size : Int) := by omega
  obtain rfl : r = ([],0,2) := by rw [← hr];unfold parseA;rw [if_pos (by simp;omega)]
  clear hr
  go_enter Tryz.func7,Tryz.ntmps7
  go_wp2_with fail
  have hBW := Below.refl w.heap.size w
  exact bodyPost_ret (v := .tuple #[.slice none 0 0, .int .i64 0, .int .i64 2]) (by simp [results,Tryz.results7,go_sem, *]) rfl ⟨_,rfl,by first | exact hBW | go_grown, .inl ⟨rfl,rfl⟩⟩
end Go.Proofs.YthdfnkdifjajlaaGreatDoor
namespace Go.Proofs.YthdfnkdifjajlaaGreatDoor
open Go.RowKit Go.Pb Go.Pb.Ware Go.Pb.Sag


set_option maxRecDepth 100000 in
set_option maxHeartbeats 600000 in
theorem count_more {w : World} {pv : Value} {M : Nat} {m : Int} (h0 : 0 ≤ m) (h1 : m ≤ 2000) (hl : m + 1 < 1000) (q0 : w.cell? ⟨M,0,none⟩ = some (.int .i64 m)) (f0 : w.frozen? ⟨M,0,none⟩ = false) :
  Calls Tryz.prog 44 #[pv, .pointer (some ⟨M,0,none⟩)] w (fun e w' => e = .returned (.bool true) ∧ w' = w.setCell ⟨M,0,none⟩ (.int .i64 (m + 1))) := by
 go_enter Tryz.func44,Tryz.ntmps44
 go_wp2
 all_goals go_ret
 all_goals exact ⟨ret_bool (by first | rfl | exact decide_eq_true (by omega) | exact decide_eq_false (by omega)),rfl⟩
set_option maxRecDepth 100000 in
set_option maxHeartbeats 600000 in
theorem count_full {w : World} {pv : Value} {M : Nat} {m : Int} (h0 : 0 ≤ m) (h1 : m ≤ 2000) (hl : 1000 ≤ m + 1) (q0 : w.cell? ⟨M,0,none⟩ = some (.int .i64 m)) (f0 : w.frozen? ⟨M,0,none⟩ = false) :
  Calls Tryz.prog 44 #[pv, .pointer (some ⟨M,0,none⟩)] w (fun e w' => e = .returned (.bool false) ∧ w' = w.setCell ⟨M,0,none⟩ (.int .i64 (m + 1))) := by
 go_enter Tryz.func44,Tryz.ntmps44
 go_wp2
 all_goals go_ret
 all_goals exact ⟨ret_bool (by first | rfl | exact decide_eq_true (by omega) | exact decide_eq_false (by omega)),rfl⟩
set_option maxRecDepth 100000 in
set_option maxHeartbeats 600000 in
theorem nth_past {w : World} {pv fv : Value} {xs : List Sq} {A N F I : Nat} {m n : Int} (h0 : 0 ≤ m) (h1 : m ≤ 1000000) (q0 : w.cell? ⟨A,0,none⟩ = some (.int .i64 m)) (f0 : w.frozen? ⟨A,0,none⟩ = false) (q1 : w.cell? ⟨N,0,none⟩ = some (.int .i64 n)) (q2 : w.cell? ⟨F,0,none⟩ = some (.slice none 0 0)) (f2 : w.frozen? ⟨F,0,none⟩ = false) (q3 : w.cell? ⟨I,0,none⟩ = some (.bool false)) (f3 : w.frozen? ⟨I,0,none⟩ = false) (hp : StAt w pv xs) (hn : xs.length ≤ 1000) (hFI : F ≠ I) (hl : m ≠ n) :
  Calls Tryz.prog 62 #[pv, .pointer (some ⟨A,0,none⟩), .pointer (some ⟨N,0,none⟩), .pointer (some ⟨F,0,none⟩), .pointer (some ⟨I,0,none⟩)] w (fun e w' => e = .returned (.bool true) ∧ w' = w.setCell ⟨A,0,none⟩ (.int .i64 (m + 1))) := by
 obtain ⟨aa,cap,rfl,hl1,hl2⟩ := hp.shape
 go_enter Tryz.func62,Tryz.ntmps62
 go_wp2
 all_goals go_ret
 all_goals exact ⟨rfl,rfl⟩
set_option maxRecDepth 100000 in
set_option maxHeartbeats 600000 in
theorem nth_here {w : World} {pv fv : Value} {xs : List Sq} {A N F I : Nat} {m n : Int} (h0 : 0 ≤ m) (h1 : m ≤ 1000000) (q0 : w.cell? ⟨A,0,none⟩ = some (.int .i64 m)) (f0 : w.frozen? ⟨A,0,none⟩ = false) (q1 : w.cell? ⟨N,0,none⟩ = some (.int .i64 n)) (q2 : w.cell? ⟨F,0,none⟩ = some (.slice none 0 0)) (f2 : w.frozen? ⟨F,0,none⟩ = false) (q3 : w.cell? ⟨I,0,none⟩ = some (.bool false)) (f3 : w.frozen? ⟨I,0,none⟩ = false) (hp : StAt w pv xs) (hn : xs.length ≤ 1000) (hFI : F ≠ I) (hl : m = n) :
  Calls Tryz.prog 62 #[pv, .pointer (some ⟨A,0,none⟩), .pointer (some ⟨N,0,none⟩), .pointer (some ⟨F,0,none⟩), .pointer (some ⟨I,0,none⟩)] w (fun e w' => e = .returned (.bool false) ∧ ∃ w1 v,Below w.heap.size w w1 ∧ w1.ownsRow w.heap.size 37 3 v xs.length (xs.flatMap cellsQ) ∧ w' = (w1.setCell ⟨F,0,none⟩ v).setCell ⟨I,0,none⟩ (.bool true)) := by
 obtain ⟨aa,cap,rfl,hl1,hl2⟩ := hp.shape
 subst hl
 go_enter Tryz.func62,Tryz.ntmps62
 go_wp2_with fail
 refine (cloneS hp hn).mono ?_
 rintro e w1 ⟨v,rfl,hb,ho⟩
 have p2 := bkeep hb q2
 have g2 := bfree hb q2 f2
 have p3 := bkeep hb q3
 have g3 := bfree hb q3 f3
 obtain ⟨va,vc,rfl,hvl⟩ := owns_shape ho
 go_wp2_with fail
 go_ret
 exact ⟨rfl,w1,_,hb,ho,rfl⟩
end Go.Proofs.YthdfnkdifjajlaaGreatDoor
namespace Go.Proofs.YthdfnkdifjajlaaGreatDoor
open Go.RowKit Go.Pb Go.Pb.Ware Go.Pb.Sag


set_option maxRecDepth 100000 in
set_option maxHeartbeats 800000 in
theorem chosen_any {w : World} {lv v : Value} {fs : List Ft} {zs : List Int} (hl : FeetAt w lv fs) (hn : fs.length ≤ 1000) (hi : NumsAt w v zs) (hzn : zs.length ≤ 1000) (hz : ∀ z ∈ zs,0 ≤ z ∧ z < (fs.length : Int)) :
  Calls Tryz.prog 76 #[lv,v] w (NewFeet 66 (chosenL fs zs) w) := by
 obtain ⟨i0,hi0,hz0,hz1,hz2⟩ := info_parts Tryz.infoF
 obtain ⟨a,cap,rfl,hl1,hl2⟩ := hi.shape
 obtain ⟨la,lc,rfl,hll⟩ := hl.shape
 rw [List.length_map] at hl hll ⊢
 unfold NewFeet
 go_enter Tryz.func76,Tryz.ntmps76
 go_wp2_with (at_make;refine wpList_make_own _ rfl _ _ 95 rfl w.heap.size 66 i0 (.agg #[.int .i64 0, .int .i64 0, .int .i64 0, .int .i64 0]) 4 Tryz.underlying95 hi0 hz0 hz1 .i64 .i64 _ zs.length rfl rfl rfl (by rw [hz2];omega) (by unfold maxLen;omega) (Nat.le_refl _) ?_;intro w2 ho hg;have hb0 : Below w.heap.size w w2 := (Below.refl _ w).grown hg (Nat.le_refl _) (fun k h => by cases h);have hz3 := hg.size;clear hg)
 go_loopw [5,13] (fun fv iv wr => ∃ k : Nat,k ≤ zs.length ∧ iv = .int .i64 k ∧ wr.ownsRow w.heap.size 66 4 fv k ((chosenL fs (zs.take k)).flatMap cellsF) ∧ Below w.heap.size w wr) (fun _ iv _ => zs.length - (intOf iv).toNat)
 case atStart => exact ⟨0,Nat.zero_le _,rfl,by simpa [chosenL] using ho,hb0⟩
 case round =>
  clear hb0 hz3 ho
  obtain ⟨k,hk,rfl,ho,hb0⟩ := hrel
  have hzr := hb0.size
  obtain ⟨ua,uc,rfl,hul⟩ := owns_shape ho
  by_cases hlt : k < zs.length
  ·obtain ⟨a',ha,r0⟩ := (hi.below hb0).elem hlt
   subst ha
   obtain ⟨m,hm⟩ : ∃ m : Nat,zs[k] = (m : Int) := ⟨zs[k].toNat,by have := hz zs[k] (List.getElem_mem hlt);omega⟩
   have hmb : m < fs.length := by have := hz zs[k] (List.getElem_mem hlt);omega
   rw [hm] at r0
   obtain ⟨b',hb',hrl,hc0,hcc⟩ := (show RowsAt 4 wr (.slice la (fs.map rowF).length lc) (fs.map rowF) by rw [List.length_map];exact hl.below hb0).row (k := m) (by rw [List.length_map];exact hmb)
   subst hb'
   obtain ⟨f,hf⟩ : ∃ f,f = fs[m] := ⟨_,rfl⟩
   have hfs : fs[m]? = some f := by rw [hf];exact List.getElem?_eq_getElem hmb
   obtain ⟨fw,fd,fh,fg⟩ := f
   have hat : (fs.map rowF)[m]'(by rw [List.length_map];exact hmb) = [fw,fd,fh,fg] := by rw [List.getElem_map, ← hf];rfl
   rw [hat] at hc0 hcc
   have p0 := hc0 _ rfl
   have p1 := hcc 1 _ (by decide) rfl
   have p2 := hcc 2 _ (by decide) rfl
   have p3 := hcc 3 _ (by decide) rfl
   clear hc0 hcc hat hrl hf
   have HE := hid (chosen_snoc (fs := fs) hlt hm hfs)
   clear hm hfs
   have hkl : (k : Int) < (zs.length : Int) := by omega
   have hmi : (m : Int) < (fs.length : Int) := by omega
   go_wp2_with (at_builtin;go_must (refine wpList_append_own _ rfl _ _ 95 rfl w.heap.size 66 i0 (.agg #[.int .i64 0, .int .i64 0, .int .i64 0, .int .i64 0]) 4 32 Tryz.underlying95 hi0 hz0 hz1 hz2 rfl (by decide) _ _ _ rfl (ho.alloc _) ⟨wr.heap.size,0,none⟩ 1 1 (cellsF (⟨fw,fd,fh,fg⟩ : Ft)) rfl rfl ?c1 one_cellsF (by unfold maxLen;omega) (by omega) (by simp;omega) ?_;(case c1 => exact new_cellsF wr (⟨fw,fd,fh,fg⟩ : Ft) 66);intro v' w4 ho4 hg4 hnil;replace hb0 := Pb.below_grown (hb0.alloc (by omega) _) hg4 (ho.alloc _) (by simp;omega) (by omega);clear hg4 hnil ho))
   rw [HE.out] at ho4
   go_roundw
   case rel => exact ⟨k + 1,by omega,by go_num,ho4,hb0⟩
   case measure => first | (simp [intOf];done) | (simp [intOf];omega)
  ·obtain rfl : k = zs.length := by omega
   rw [List.take_length] at ho
   go_wp2_with fail
   go_ret
   exact ⟨_,rfl,hb0,by rw [show (chosenL fs zs).length = zs.length from List.length_map ..];exact ho⟩
end Go.Proofs.YthdfnkdifjajlaaGreatDoor