/- Part of a claim. -/
import Derived.Test.YthdfnkdifjajlaaGreatDoorKG50U
import Derived.Test.YthdfnkdifjajlaaGreatDoorG31U
import Derived.Test.YthdfnkdifjajlaaGreatDoorG34U
set_option linter.unusedVariables false
set_option linter.unusedSimpArgs false
namespace Go.Proofs.YthdfnkdifjajlaaGreatDoor
open Go.RowKit Go.Pb Go.Pb.Ware Go.Pb.Sag


open Go.Pb.Txt
theorem endR_len {qs : List Sq} : (endR qs).1.length ≤ 5 := by
 unfold endR
 split
 ·rename_i h
  unfold textB at h
  rw [Bool.and_eq_true,decide_eq_true_eq] at h
  exact h.1
 ·simp
theorem readL_len : ∀ (ls : List Bs) (i : Nat) (acc : List Sq),(readL i ls acc).1.length ≤ 5
 | [],_,acc => endR_len
 | l :: ls,i,acc => by
  rw [readL]
  split
  ·exact readL_len ls _ _
  ·cases standW (sayW l) with
   | none => simp
   | some q => exact readL_len ls _ _
theorem parseA_len (s : Bs) : (parseA s).1.length ≤ 5 := by
 unfold parseA
 split
 ·simp
 ·exact readL_len _ _ _
set_option maxRecDepth 100000 in
set_option maxHeartbeats 2000000 in
theorem saggarTexts_walk {w : World} {v : Value} {qs : List Sq} {s : ByteArray} {m : Int} (h : StAt w v qs) (hm : w.cell? ⟨1,0,none⟩ = some (.int .i64 m)) :
  Calls Tryz.prog 3 #[v, .string s] w (Ret w (.bool true)) := by
 unfold Ret
 obtain ⟨⟨pl,pe⟩,hpr⟩ : ∃ r,printR qs = r := ⟨_,rfl⟩
 obtain ⟨⟨al,an,ae⟩,hpa⟩ : ∃ r,parseA s.data.toList = r := ⟨_,rfl⟩
 have hal : al.length ≤ 1000 := by have h1 := parseA_len s.data.toList;rw [hpa] at h1;dsimp only at h1;omega
 have HP := hid hpr;have HA := hid hpa;clear hpr hpa
 have hb0 := Below.refl w.heap.size w
 go_enter Tryz.func3,Tryz.ntmps3
 go_wp2_with fail
 refine (print_any h HP.out).mono ?_
 rintro e w1 ⟨rfl,hb⟩
 replace hb0 := hb0.trans (hb.mono hb0.size)
 replace hm := bkeep hb hm
 replace h := h.below hb
 clear hb
 obtain ⟨w2,hw2⟩ : ∃ v,v = w1 := ⟨_,rfl⟩
 subst hw2
 go_wp2_with fail
 refine (rPrint_any h HP.out).mono ?_
 rintro e w1 ⟨rfl,hb⟩
 replace hb0 := hb0.trans (hb.mono hb0.size)
 replace hm := bkeep hb hm
 replace h := h.below hb
 clear hb
 obtain ⟨w3,hw3⟩ : ∃ v,v = w1 := ⟨_,rfl⟩
 subst hw3
 go_wp2_with fail
 refine (parse_any hm HA.out).mono ?_
 rintro e w1 ⟨v1,rfl,hb,hs1⟩
 replace hb0 := hb0.trans (hb.mono hb0.size)
 replace hm := bkeep hb hm
 replace h := h.below hb
 clear hb
 obtain ⟨w4,hw4⟩ : ∃ v,v = w1 := ⟨_,rfl⟩
 subst hw4
 go_wp2_with fail
 refine (rParse_any HA.out).mono ?_
 rintro e w1 ⟨v2,rfl,hb,hs2⟩
 replace hb0 := hb0.trans (hb.mono hb0.size)
 replace hm := bkeep hb hm
 replace h := h.below hb
 replace hs1 := hs1.below hb
 clear hb
 obtain ⟨w5,hw5⟩ : ∃ v,v = w1 := ⟨_,rfl⟩
 subst hw5
 dsimp only at hs1 hs2
 by_cases he : pe = 0
 ·subst he
  obtain ⟨htb,rfl⟩ : textB qs = true ∧ pl = printA qs := by have h1 := HP.out;unfold printR at h1;split at h1;exact ⟨by assumption,by injection h1 with h2 _;exact h2.symm⟩;injection h1 with _ h3;cases h3
  have HQ := hid (parse_print htb)
  have hql : qs.length ≤ 1000 := by unfold textB at htb;rw [Bool.and_eq_true,decide_eq_true_eq] at htb;omega
  clear htb
  go_wp2_with (first | (go_at_call 8;refine (sameStands_any (b := true) hs1 hs2 hal (decide_eq_true rfl)).mono ?_;rintro e w6 ⟨rfl,hb⟩;replace hb0 := hb0.trans (hb.mono hb0.size);replace hm := bkeep hb hm;replace h := h.below hb;clear hb) | (go_at_call 6;refine (parse_any (s := ⟨(printA qs).toArray⟩) hm HQ.out).mono ?_;rintro e w7 ⟨v3,rfl,hb,hs3⟩;replace hb0 := hb0.trans (hb.mono hb0.size);replace h := h.below hb;clear hb hs1 hs2;dsimp only at hs3))
  go_wp2_with (first | (go_at_call 8;refine (sameStands_any (b := true) h hs3 hql (decide_eq_true rfl)).mono ?_;rintro e w6 ⟨rfl,hb⟩;replace hb0 := hb0.trans (hb.mono hb0.size);replace h := h.below hb;clear hb) | (go_at_call 9;refine sane_any.mono ?_;rintro e w9 ⟨rfl,hb⟩;replace hb0 := hb0.trans (hb.mono hb0.size)))
  go_ret
  exact ⟨rfl,hb0⟩
 ·have hen : (pe != 0) = true := by simpa using he
  go_wp2_with (first | (go_at_call 8;refine (sameStands_any (b := true) hs1 hs2 hal (decide_eq_true rfl)).mono ?_;rintro e w6 ⟨rfl,hb⟩;replace hb0 := hb0.trans (hb.mono hb0.size);replace hm := bkeep hb hm;replace h := h.below hb;clear hb) | (go_at_call 9;refine sane_any.mono ?_;rintro e w9 ⟨rfl,hb⟩;replace hb0 := hb0.trans (hb.mono hb0.size)))
  go_ret
  exact ⟨rfl,hb0⟩
end Go.Proofs.YthdfnkdifjajlaaGreatDoor