/- The law SaggarGrids: CheckPack, Grid, Free, Add and Take of the program return what the reference returns, for all wares, every box, all items, all stands, every item and every index, valid or not. No condition. -/
import Derived.Test.YtodmidchpbcnpaaGreatKScY
import Derived.Test.YtodmidchpbcnpaaGreatG85Y
import Derived.Test.YtodmidchpbcnpaaGreatKLibY
set_option linter.unusedVariables false
set_option linter.unusedSimpArgs false
namespace Go.Proofs.YtodmidchpbcnpaaGreat
open Go.ChangeShapes Go.WideShapes Go.ChangeAt Go.RowKit Go.Pb
set_option linter.unusedVariables false
namespace saggarGrids
theorem own : ownKnob Tryz.prog.godebug = none := by kernel_rfl
theorem laidOut : laidOutB Tryz.prog = true := by kernel_rfl
set_option maxRecDepth 100000 in
theorem contract (H : Type) (enc : TypeId × Value → H) (W : World) (base : Nat) (args : Array Value) (ds gs : List (DataW H)) (before : List MemPlace)
    (hval : ∀ (j : Nat) t v, Tryz.f5.params[j]? = some t → args[j]? = some v → Value.okWide Tryz.prog W .any base t v)
    (hW : DataW.Whole enc Tryz.prog Tryz.f5.params.toList Rows.saggarGridsSpec.vars false W args.toList ds gs before) :
    Calls Tryz.prog 5 args W fun e W' => ∃ v, e = .returned v ∧ Rows.saggarGridsSpec.post enc Tryz.prog Tryz.f5 false true false false W args v W' := by
  have hW' := hW
  obtain ⟨p, q, hA0, hV, rfl, hfz, hnd⟩ := hW
  have hA : DataW.TrodAll enc Tryz.prog W 0 (fun _ => true) true Tryz.f5.params.toList args.toList ds p := hA0
  rw [Tryz.params5] at hA hval
  obtain ⟨v0, vs0, d0, ds0, p0, q0, hargs0, rfl, rfl, h0, r0⟩ := trodAll_cons hA
  obtain ⟨v1, vs1, d1, ds1, p1, q1, hargs1, rfl, rfl, h1, r1⟩ := trodAll_cons r0
  obtain ⟨v2, vs2, d2, ds2, p2, q2, hargs2, rfl, rfl, h2, r2⟩ := trodAll_cons r1
  obtain ⟨rfl, rfl, rfl⟩ := trodAll_nil r2
  obtain rfl : args = #[v0, v1, v2] := by cases args; simp_all
  obtain ⟨sl0, bl0, il0, ss0, bs0, is0, y00, y01, y02, y03, y04, y05, rfl, ⟨hs0, hr0, hi0⟩, -⟩ := open_floor (m := 6) (n1 := 11) (n2 := 7) (n3 := 3) Tryz.underlying30 (by kernel_rfl) rfl rfl rfl rfl rfl rfl (by kernel_rfl) (by kernel_rfl) (by kernel_rfl) Tryz.underlying25 rfl rfl rfl rfl (by kernel_rfl) (by kernel_rfl) Tryz.underlying22 Tryz.underlying23 Tryz.underlying28 (by kernel_rfl) (by kernel_rfl) (by kernel_rfl) (by kernel_rfl) (by kernel_rfl) (by kernel_rfl) (by kernel_rfl) (hval 0 30 v0 rfl rfl) h0
  obtain ⟨xi0, rfl⟩ := rows_it hi0
  obtain ⟨st1, hs1, -⟩ := open_stands Tryz.underlying41 Tryz.underlying62 (by kernel_rfl) rfl rfl rfl rfl rfl rfl (by kernel_rfl) (by kernel_rfl) Tryz.underlying3 Tryz.underlying4 (hval 1 41 v1 rfl rfl) h1
  obtain ⟨z2, hz2, rfl, hw2⟩ := open_flat (n := 6) Tryz.underlying56 (by kernel_rfl) (hval 2 56 v2 rfl rfl) h2
  have hc2 : Tryz.prog.cellsOf 56 = 4 := by kernel_rfl
  rw [hc2] at hz2
  obtain ⟨x2v0, x2v1, x2v2, x2v3, rfl⟩ : ∃ x2v0 x2v1 x2v2 x2v3 : Int, z2 = [x2v0, x2v1, x2v2, x2v3] := by
    match z2, hz2 with
    | [x2v0, x2v1, x2v2, x2v3], _ => exact ⟨_, _, _, _, rfl⟩
  refine (show Calls Tryz.prog 5 _ W (Ret W (.bool true)) from (saggarGrids_walk hs0 hr0 hi0 hs1 ⟨hw2 _ (by simp), hw2 _ (by simp), hw2 _ (by simp)⟩)).mono fun e W' ⟨he, hb⟩ => ?_
  exact ⟨_, he, law_post laidOut (by kernel_rfl) rfl (fun ds hds => by
    match ds, hds with
    | [_, _, _], _ => rfl) (by kernel_rfl) Tryz.underlying4 hW' hb⟩

set_option maxRecDepth 100000 in
theorem lifted (os : Os) (started : os.Started) (H : Type) (enc : TypeId × Value → H) :
    ReturnsInHanded {} Tryz.checked os 5 .any (Rows.saggarGridsSpec.pre6 enc Tryz.prog Tryz.f5 Rows.saggarGridsRow.domain false) (Rows.saggarGridsSpec.post enc Tryz.prog Tryz.f5 false true false false) := by
  refine returnsInHanded_of_change (C := Tryz.checked) own started (by kernel_rfl) Tryz.func5
    (ChangeSpec.witness6 (enc := enc) (C := Tryz.checked) false ⟨#[], #[.agg #[.slice none 0 0, .slice none 0 0, .int .i64 0, .int .i64 0, .int .i64 0, .int .i64 0, .int .i64 0, .int .i64 0, .slice none 0 0], .slice none 0 0, .agg #[.int .i64 0, .int .i64 0, .int .i64 0, .int .i64 0]], []⟩ 8 (by kernel_rfl) (by kernel_rfl) (by kernel_rfl) (by kernel_rfl)) ?_
  intro W base args ds gs before hval hW _  _
  exact contract H enc W base args ds gs before hval hW

theorem proved : Rows.SaggarGridsSaid :=
  OpenClaim.holds_of_wide 5 Tryz.f5 rfl rfl rfl rfl rfl rfl rfl ⟨rfl, rfl, rfl, rfl, rfl⟩ rfl rfl rfl rfl rfl (by kernel_rfl) Tryz.func5 (by kernel_rfl)
    (of_decide_eq_true (by kernel_rfl)) (by unfold Func.isWrapper; first | (rw [if_pos (by decide +kernel)]; kernel_rfl) | (rw [if_neg (by decide +kernel)]; exact ⟨rfl, rfl⟩))
    (fun os started H enc _ => lifted os started H enc)
end saggarGrids
end Go.Proofs.YtodmidchpbcnpaaGreat
