/- The law WarePiles: Height, Load, Stands and Most of the program return what the reference returns, for every shape and all numbers. No condition. -/
import Derived.Test.YtgnljgceddphfaaW9
import Derived.Test.YtgnljgceddphfaaRow
namespace Go.Proofs.Ytgnljgceddphfaa
open Go.ChangeShapes Go.WideShapes Go.ChangeAt Go.RowKit Go.Pb
set_option linter.unusedVariables false
namespace warePiles
theorem own : ownKnob Try.prog.godebug = none := by kernel_rfl
theorem laidOut : laidOutB Try.prog = true := by kernel_rfl
set_option maxRecDepth 100000 in
theorem contract (H : Type) (enc : TypeId × Value → H) (W : World) (base : Nat) (args : Array Value) (ds gs : List (DataW H)) (before : List MemPlace)
    (hval : ∀ (j : Nat) t v, Try.f5.params[j]? = some t → args[j]? = some v → Value.okWide Try.prog W .any base t v)
    (hW : DataW.Whole enc Try.prog Try.f5.params.toList Rows.warePilesSpec.vars false W args.toList ds gs before) :
    Calls Try.prog 5 args W fun e W' => ∃ v, e = .returned v ∧ Rows.warePilesSpec.post enc Try.prog Try.f5 false true false false W args v W' := by
  have hW' := hW
  obtain ⟨p, q, hA0, hV, rfl, hfz, hnd⟩ := hW
  have hA : DataW.TrodAll enc Try.prog W 0 (fun _ => true) true Try.f5.params.toList args.toList ds p := hA0
  rw [Try.params5] at hA hval
  obtain ⟨v0, vs0, d0, ds0, p0, q0, hargs0, rfl, rfl, h0, r0⟩ := trodAll_cons hA
  obtain ⟨v1, vs1, d1, ds1, p1, q1, hargs1, rfl, rfl, h1, r1⟩ := trodAll_cons r0
  obtain ⟨v2, vs2, d2, ds2, p2, q2, hargs2, rfl, rfl, h2, r2⟩ := trodAll_cons r1
  obtain ⟨rfl, rfl, rfl⟩ := trodAll_nil r2
  obtain rfl : args = #[v0, v1, v2] := by cases args; simp_all
  obtain ⟨z0, hz0, rfl, hw0⟩ := open_flat (n := 6) Try.underlying29 (by kernel_rfl) (hval 0 29 v0 rfl rfl) h0
  have hc0 : Try.prog.cellsOf 29 = 11 := by kernel_rfl
  rw [hc0] at hz0
  obtain ⟨x0v0, x0v1, x0v2, x0v3, x0v4, x0v5, x0v6, x0v7, x0v8, x0v9, x0v10, rfl⟩ : ∃ x0v0 x0v1 x0v2 x0v3 x0v4 x0v5 x0v6 x0v7 x0v8 x0v9 x0v10 : Int, z0 = [x0v0, x0v1, x0v2, x0v3, x0v4, x0v5, x0v6, x0v7, x0v8, x0v9, x0v10] := by
    match z0, hz0 with
    | [x0v0, x0v1, x0v2, x0v3, x0v4, x0v5, x0v6, x0v7, x0v8, x0v9, x0v10], _ => exact ⟨_, _, _, _, _, _, _, _, _, _, _, rfl⟩
  obtain ⟨z1, hz1, rfl, hw1⟩ := open_flat_array (n := 6) Try.underlying46 (by kernel_rfl) (hval 1 46 v1 rfl rfl) h1
  have hc1 : Try.prog.cellsOf 46 = 2 := by kernel_rfl
  rw [hc1] at hz1
  obtain ⟨x1v0, x1v1, rfl⟩ : ∃ x1v0 x1v1 : Int, z1 = [x1v0, x1v1] := by
    match z1, hz1 with
    | [x1v0, x1v1], _ => exact ⟨_, _, rfl⟩
  obtain ⟨x2, rfl, rfl, rfl, hw2⟩ := open_int Try.underlying3 (hval 2 3 v2 rfl rfl) h2
  refine (show Calls Try.prog 5 _ W (Ret W (.bool true)) from warePiles_walk).mono fun e W' ⟨he, hb⟩ => ?_
  exact ⟨_, he, law_post laidOut (by kernel_rfl) rfl (fun ds hds => by
    match ds, hds with
    | [_, _, _], _ => rfl) (by kernel_rfl) Try.underlying4 hW' hb⟩

set_option maxRecDepth 100000 in
theorem lifted (os : Os) (started : os.Started) (H : Type) (enc : TypeId × Value → H) :
    ReturnsInHanded {} Try.checked os 5 .any (Rows.warePilesSpec.pre6 enc Try.prog Try.f5 Rows.warePilesRow.domain false) (Rows.warePilesSpec.post enc Try.prog Try.f5 false true false false) := by
  refine returnsInHanded_of_change (C := Try.checked) own started (by kernel_rfl) Try.func5
    (ChangeSpec.witness6 (enc := enc) (C := Try.checked) false ⟨#[], #[.agg #[.int .i64 0, .int .i64 0, .int .i64 0, .int .i64 0, .int .i64 0, .int .i64 0, .int .i64 0, .int .i64 0, .int .i64 0, .int .i64 0, .int .i64 0], .agg #[.int .i64 0, .int .i64 0], .int .i64 0], []⟩ 8 (by kernel_rfl) (by kernel_rfl) (by kernel_rfl) (by kernel_rfl)) ?_
  intro W base args ds gs before hval hW _  _
  exact contract H enc W base args ds gs before hval hW

theorem proved : Rows.WarePilesSaid :=
  OpenClaim.holds_of_wide 5 Try.f5 rfl rfl rfl rfl rfl rfl rfl ⟨rfl, rfl, rfl, rfl, rfl⟩ rfl rfl rfl rfl rfl (by kernel_rfl) Try.func5 (by kernel_rfl)
    (of_decide_eq_true (by kernel_rfl)) (by unfold Func.isWrapper; first | (rw [if_pos (by decide +kernel)]; kernel_rfl) | (rw [if_neg (by decide +kernel)]; exact ⟨rfl, rfl⟩))
    (fun os started H enc _ => lifted os started H enc)
end warePiles
end Go.Proofs.Ytgnljgceddphfaa
