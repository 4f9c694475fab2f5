/- The law SaggarMore: what Take leaves of a packing is a packing, with the stand of Add there is one again, and what has a packing has one in a box with more cells that is higher and bears more, for all numbers that make wares, box and items, choose the item, and say how much more. No condition. -/
import Derived.Test.YtodmidchpbcnpaaGreatG36X
import Derived.Test.YtodmidchpbcnpaaGreatKG79X
import Derived.Test.YtodmidchpbcnpaaGreatKTgX
set_option linter.unusedVariables false
set_option linter.unusedSimpArgs false
namespace Go.Proofs.YtodmidchpbcnpaaGreat
open Go.ChangeShapes Go.WideShapes Go.ChangeAt Go.RowKit Go.Pb
set_option linter.unusedVariables false
namespace saggarMore
theorem own : ownKnob Tryz.prog.godebug = none := by kernel_rfl
theorem laidOut : laidOutB Tryz.prog = true := by kernel_rfl
set_option maxRecDepth 100000 in
theorem contract (H : Type) (enc : TypeId × Value → H) (W : World) (base : Nat) (args : Array Value) (ds gs : List (DataW H)) (before : List MemPlace)
    (hval : ∀ (j : Nat) t v, Tryz.f10.params[j]? = some t → args[j]? = some v → Value.okWide Tryz.prog W .any base t v)
    (hW : DataW.Whole enc Tryz.prog Tryz.f10.params.toList Rows.saggarMoreSpec.vars false W args.toList ds gs before) :
    Calls Tryz.prog 10 args W fun e W' => ∃ v, e = .returned v ∧ Rows.saggarMoreSpec.post enc Tryz.prog Tryz.f10 false true false false W args v W' := by
  have hW' := hW
  obtain ⟨p, q, hA0, hV, rfl, hfz, hnd⟩ := hW
  have hA : DataW.TrodAll enc Tryz.prog W 0 (fun _ => true) true Tryz.f10.params.toList args.toList ds p := hA0
  rw [Tryz.params10] at hA hval
  obtain ⟨v0, vs0, d0, ds0, p0, q0, hargs0, rfl, rfl, h0, r0⟩ := trodAll_cons hA
  obtain ⟨v1, vs1, d1, ds1, p1, q1, hargs1, rfl, rfl, h1, r1⟩ := trodAll_cons r0
  obtain ⟨v2, vs2, d2, ds2, p2, q2, hargs2, rfl, rfl, h2, r2⟩ := trodAll_cons r1
  obtain ⟨rfl, rfl, rfl⟩ := trodAll_nil r2
  obtain rfl : args = #[v0, v1, v2] := by cases args; simp_all
  obtain ⟨sl0, il0, ss0, is0, y00, y01, y02, y03, rfl, hs0, hr0, -⟩ := open_raw (m := 6) (n1 := 5) (n3 := 3) Tryz.underlying87 (by kernel_rfl) rfl rfl rfl rfl rfl rfl (by kernel_rfl) (by kernel_rfl) (by kernel_rfl) Tryz.underlying83 Tryz.underlying85 (by kernel_rfl) (by kernel_rfl) (by kernel_rfl) (by kernel_rfl) (by kernel_rfl) (hval 0 87 v0 rfl rfl) h0
  obtain ⟨x1, rfl, rfl, rfl, hw1⟩ := open_int Tryz.underlying3 (hval 1 3 v1 rfl rfl) h1
  obtain ⟨z2, hz2, rfl, hw2⟩ := open_flat_array (n := 6) Tryz.underlying84 (by kernel_rfl) (hval 2 84 v2 rfl rfl) h2
  have hc2 : Tryz.prog.cellsOf 84 = 4 := by kernel_rfl
  rw [hc2] at hz2
  obtain ⟨x2v0, x2v1, x2v2, x2v3, rfl⟩ : ∃ x2v0 x2v1 x2v2 x2v3 : Int, z2 = [x2v0, x2v1, x2v2, x2v3] := by
    match z2, hz2 with
    | [x2v0, x2v1, x2v2, x2v3], _ => exact ⟨_, _, _, _, rfl⟩
  refine (show Calls Tryz.prog 10 _ W (Ret W (.bool true)) from (saggarMore_walk (fun W rv iv z0 z1 z2 z3 rows its h1 h2 => made_any h1 h2) hs0 hr0)).mono fun e W' ⟨he, hb⟩ => ?_
  exact ⟨_, he, law_post laidOut (by kernel_rfl) rfl (fun ds hds => by
    match ds, hds with
    | [_, _, _], _ => rfl) (by kernel_rfl) Tryz.underlying4 hW' hb⟩

set_option maxRecDepth 100000 in
theorem lifted (os : Os) (started : os.Started) (H : Type) (enc : TypeId × Value → H) :
    ReturnsInHanded {} Tryz.checked os 10 .any (Rows.saggarMoreSpec.pre6 enc Tryz.prog Tryz.f10 Rows.saggarMoreRow.domain false) (Rows.saggarMoreSpec.post enc Tryz.prog Tryz.f10 false true false false) := by
  refine returnsInHanded_of_change (C := Tryz.checked) own started (by kernel_rfl) Tryz.func10
    (ChangeSpec.witness6 (enc := enc) (C := Tryz.checked) false ⟨#[], #[.agg #[.slice none 0 0, .int .i64 0, .int .i64 0, .int .i64 0, .int .i64 0, .slice none 0 0], .int .i64 0, .agg #[.int .i64 0, .int .i64 0, .int .i64 0, .int .i64 0]], []⟩ 8 (by kernel_rfl) (by kernel_rfl) (by kernel_rfl) (by kernel_rfl)) ?_
  intro W base args ds gs before hval hW _  _
  exact contract H enc W base args ds gs before hval hW

theorem proved : Rows.SaggarMoreSaid :=
  OpenClaim.holds_of_wide 10 Tryz.f10 rfl rfl rfl rfl rfl rfl rfl ⟨rfl, rfl, rfl, rfl, rfl⟩ rfl rfl rfl rfl rfl (by kernel_rfl) Tryz.func10 (by kernel_rfl)
    (of_decide_eq_true (by kernel_rfl)) (by unfold Func.isWrapper; first | (rw [if_pos (by decide +kernel)]; kernel_rfl) | (rw [if_neg (by decide +kernel)]; exact ⟨rfl, rfl⟩))
    (fun os started H enc _ => lifted os started H enc)
end saggarMore
end Go.Proofs.YtodmidchpbcnpaaGreat
