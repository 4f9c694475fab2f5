/- The law BungCounted: the bungs of Fewest do, no others that do are fewer, and each of them is no higher than the crown whatever its saggars and wads measure, for all numbers that make saggars, wad and spot and choose other bungs and sizes. No condition. -/
import Derived.Test.YtnchhleokdkejaaKScc
import Derived.Test.YtnchhleokdkejaaKB46c
import Derived.Test.YtnchhleokdkejaaKLibc
namespace Go.Proofs.Ytnchhleokdkejaa
open Go.Pb.Bung
open Go.ChangeShapes Go.WideShapes Go.ChangeAt Go.RowKit Go.Pb
set_option linter.unusedVariables false
namespace bungCounted
theorem own : ownKnob Try.prog.godebug = none := by kernel_rfl
theorem laidOut : laidOutB Try.prog = true := by kernel_rfl
set_option maxRecDepth 100000 in
theorem contract (H : Type) (enc : TypeId × Value → H) (W : World) (base : Nat) (args : Array Value) (ds gs : List (DataW H)) (before : List MemPlace)
    (hval : ∀ (j : Nat) t v, Try.f17.params[j]? = some t → args[j]? = some v → Value.okWide Try.prog W .any base t v)
    (hW : DataW.Whole enc Try.prog Try.f17.params.toList Rows.bungCountedSpec.vars false W args.toList ds gs before) :
    Calls Try.prog 17 args W fun e W' => ∃ v, e = .returned v ∧ Rows.bungCountedSpec.post enc Try.prog Try.f17 false true false false W args v W' := by
  have hW' := hW
  obtain ⟨p, q, hA0, hV, rfl, hfz, hnd⟩ := hW
  have hA : DataW.TrodAll enc Try.prog W 0 (fun _ => true) true Try.f17.params.toList args.toList ds p := hA0
  rw [Try.params17] at hA hval
  obtain ⟨v0, vs0, d0, ds0, p0, q0, hargs0, rfl, rfl, h0, r0⟩ := trodAll_cons hA
  obtain ⟨v1, vs1, d1, ds1, p1, q1, hargs1, rfl, rfl, h1, r1⟩ := trodAll_cons r0
  obtain ⟨v2, vs2, d2, ds2, p2, q2, hargs2, rfl, rfl, h2, r2⟩ := trodAll_cons r1
  obtain ⟨rfl, rfl, rfl⟩ := trodAll_nil r2
  obtain rfl : args = #[v0, v1, v2] := by cases args; simp_all
  obtain ⟨kv0, ov0, y00, y01, rw0, zs0, rfl, hs0, ho0⟩ := open_kiln (m := 6) (n := 7) Try.underlying92 (by kernel_rfl) rfl rfl rfl rfl rfl rfl (by kernel_rfl) (by kernel_rfl) (by kernel_rfl) (by kernel_rfl) Try.underlying89 (by kernel_rfl) (by kernel_rfl) Try.underlying41 (by kernel_rfl) (by kernel_rfl) (hval 0 92 v0 rfl rfl) h0
  obtain ⟨z1, hz1, rfl, hw1⟩ := open_flat_array (n := 6) Try.underlying90 (by kernel_rfl) (hval 1 90 v1 rfl rfl) h1
  have hc1 : Try.prog.cellsOf 90 = 2 := by kernel_rfl
  rw [hc1] at hz1
  obtain ⟨x1v0, x1v1, rfl⟩ : ∃ x1v0 x1v1 : Int, z1 = [x1v0, x1v1] := by
    match z1, hz1 with
    | [x1v0, x1v1], _ => exact ⟨_, _, rfl⟩
  obtain ⟨rb2, hq2⟩ := open_rowsT (m := 6) (n := 1) Try.underlying41 (by kernel_rfl) (by kernel_rfl) (hval 2 41 v2 rfl rfl) h2
  obtain ⟨zs2, hs2⟩ := rows1_nums hq2
  refine (show Calls Try.prog 17 _ W (Ret W (.bool true)) from (bungCounted_walk hs0 ho0 hs2)).mono fun e W' ⟨he, hb⟩ => ?_
  exact ⟨_, he, law_post laidOut (by kernel_rfl) rfl (fun ds hds => by
    match ds, hds with
    | [_, _, _], _ => rfl) (by kernel_rfl) Try.underlying4 hW' hb⟩

set_option maxRecDepth 100000 in
theorem lifted (os : Os) (started : os.Started) (H : Type) (enc : TypeId × Value → H) :
    ReturnsInHanded {} Try.checked os 17 .any (Rows.bungCountedSpec.pre6 enc Try.prog Try.f17 Rows.bungCountedRow.domain false) (Rows.bungCountedSpec.post enc Try.prog Try.f17 false true false false) := by
  refine returnsInHanded_of_change (C := Try.checked) own started (by kernel_rfl) Try.func17
    (ChangeSpec.witness6 (enc := enc) (C := Try.checked) false ⟨#[], #[.agg #[.slice none 0 0, .slice none 0 0, .int .i64 0, .int .i64 0], .agg #[.int .i64 0, .int .i64 0], .slice none 0 0], []⟩ 8 (by kernel_rfl) (by kernel_rfl) (by kernel_rfl) (by kernel_rfl)) ?_
  intro W base args ds gs before hval hW _  _
  exact contract H enc W base args ds gs before hval hW

theorem proved : Rows.BungCountedSaid :=
  OpenClaim.holds_of_wide 17 Try.f17 rfl rfl rfl rfl rfl rfl rfl ⟨rfl, rfl, rfl, rfl, rfl⟩ rfl rfl rfl rfl rfl (by kernel_rfl) Try.func17 (by kernel_rfl)
    (of_decide_eq_true (by kernel_rfl)) (by unfold Func.isWrapper; first | (rw [if_pos (by decide +kernel)]; kernel_rfl) | (rw [if_neg (by decide +kernel)]; exact ⟨rfl, rfl⟩))
    (fun os started H enc _ => lifted os started H enc)
end bungCounted
end Go.Proofs.Ytnchhleokdkejaa
