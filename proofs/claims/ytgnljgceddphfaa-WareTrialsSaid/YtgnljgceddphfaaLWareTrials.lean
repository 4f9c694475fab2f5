/- The law WareTrials: CheckTrials, Told, Narrow, Clash, CheckClash and Bar of the program return what the reference returns, for every body, all trials and sources. No condition. -/
import Derived.Test.YtgnljgceddphfaaW35
import Derived.Test.YtgnljgceddphfaaRowT
namespace Go.Proofs.Ytgnljgceddphfaa
open Go.ChangeShapes Go.WideShapes Go.ChangeAt Go.RowKit Go.Pb
set_option linter.unusedVariables false
namespace wareTrials
theorem own : ownKnob Try.prog.godebug = none := by kernel_rfl
theorem laidOut : laidOutB Try.prog = true := by kernel_rfl
set_option maxRecDepth 100000 in
theorem contract (H : Type) (enc : TypeId × Value → H) (W : World) (base : Nat) (args : Array Value) (ds gs : List (DataW H)) (before : List MemPlace)
    (hval : ∀ (j : Nat) t v, Try.f6.params[j]? = some t → args[j]? = some v → Value.okWide Try.prog W .any base t v)
    (hW : DataW.Whole enc Try.prog Try.f6.params.toList Rows.wareTrialsSpec.vars false W args.toList ds gs before)
    (hz : (DataW.weightsEach Try.prog (Try.f6.params.toList ++ Rows.wareTrialsSpec.plain.varTypes Try.prog) (ds ++ gs)).all (· ≤ reachBytes) = true) :
    Calls Try.prog 6 args W fun e W' => ∃ v, e = .returned v ∧ Rows.wareTrialsSpec.post enc Try.prog Try.f6 false true false false W args v W' := by
  have hW' := hW
  obtain ⟨p, q, hA0, hV, rfl, hfz, hnd⟩ := hW
  have hA : DataW.TrodAll enc Try.prog W 0 (fun _ => true) true Try.f6.params.toList args.toList ds p := hA0
  rw [Try.params6] at hA hval hz
  obtain ⟨v0, vs0, d0, ds0, p0, q0, hargs0, rfl, rfl, h0, r0⟩ := trodAll_cons hA
  obtain ⟨v1, vs1, d1, ds1, p1, q1, hargs1, rfl, rfl, h1, r1⟩ := trodAll_cons r0
  obtain ⟨v2, vs2, d2, ds2, p2, q2, hargs2, rfl, rfl, h2, r2⟩ := trodAll_cons r1
  obtain ⟨rfl, rfl, rfl⟩ := trodAll_nil r2
  obtain rfl : args = #[v0, v1, v2] := by cases args; simp_all
  obtain ⟨z0, hz0, rfl, hw0⟩ := open_flat (n := 6) Try.underlying34 (by kernel_rfl) (hval 0 34 v0 rfl rfl) h0
  have hc0 : Try.prog.cellsOf 34 = 7 := by kernel_rfl
  rw [hc0] at hz0
  obtain ⟨x0v0, x0v1, x0v2, x0v3, x0v4, x0v5, x0v6, rfl⟩ : ∃ x0v0 x0v1 x0v2 x0v3 x0v4 x0v5 x0v6 : Int, z0 = [x0v0, x0v1, x0v2, x0v3, x0v4, x0v5, x0v6] := by
    match z0, hz0 with
    | [x0v0, x0v1, x0v2, x0v3, x0v4, x0v5, x0v6], _ => exact ⟨_, _, _, _, _, _, _, rfl⟩
  obtain ⟨rb1, hs1⟩ := open_rowsT (m := 6) (n := 5) Try.underlying54 (by kernel_rfl) (by kernel_rfl) (hval 1 54 v1 rfl rfl) h1
  have hl2 : ∀ el sp, d2 = .slice el sp → el.length + sp.length ≤ 140737488355328 := by
    intro el sp he
    subst he
    have h8 := sized_slice hz (j := 2) (t := 55) rfl rfl Try.underlying55
    have hb8 : Try.prog.bytesOf 3 = 8 := by kernel_rfl
    rw [hb8] at h8
    have := reachBytes_lt
    omega
  obtain ⟨zs2, hs2⟩ := open_slice Try.underlying55 Try.underlying3 (by kernel_rfl) (hval 2 55 v2 rfl rfl) h2 hl2 rfl
  refine (show Calls Try.prog 6 _ W (Ret W (.bool true)) from (wareTrials_walk hs1 (IntsAt.nums hs2))).mono fun e W' ⟨he, hb⟩ => ?_
  exact ⟨_, he, law_post laidOut (by kernel_rfl) rfl (fun ds hds => by
    match ds, hds with
    | [_, _, _], _ => rfl) (by kernel_rfl) Try.underlying4 hW' hb⟩

set_option maxRecDepth 100000 in
theorem lifted (os : Os) (started : os.Started) (H : Type) (enc : TypeId × Value → H) :
    ReturnsInHanded {} Try.checked os 6 .any (Rows.wareTrialsSpec.pre6 enc Try.prog Try.f6 Rows.wareTrialsRow.domain false) (Rows.wareTrialsSpec.post enc Try.prog Try.f6 false true false false) := by
  refine returnsInHanded_of_change_sized (C := Try.checked) own started (by kernel_rfl) Try.func6
    (ChangeSpec.witness6 (enc := enc) (C := Try.checked) false ⟨#[], #[.agg #[.int .i64 0, .int .i64 0, .int .i64 0, .int .i64 0, .int .i64 0, .int .i64 0, .int .i64 0], .slice none 0 0, .slice none 0 0], []⟩ 8 (by kernel_rfl) (by kernel_rfl) (by kernel_rfl) (by kernel_rfl)) ?_
  intro W base args ds gs before hval hW _ hz _
  exact contract H enc W base args ds gs before hval hW hz

theorem proved : Rows.WareTrialsSaid :=
  OpenClaim.holds_of_wide 6 Try.f6 rfl rfl rfl rfl rfl rfl rfl ⟨rfl, rfl, rfl, rfl, rfl⟩ rfl rfl rfl rfl rfl (by kernel_rfl) Try.func6 (by kernel_rfl)
    (of_decide_eq_true (by kernel_rfl)) (by unfold Func.isWrapper; first | (rw [if_pos (by decide +kernel)]; kernel_rfl) | (rw [if_neg (by decide +kernel)]; exact ⟨rfl, rfl⟩))
    (fun os started H enc _ => lifted os started H enc)
end wareTrials
end Go.Proofs.Ytgnljgceddphfaa
