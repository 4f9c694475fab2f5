/- What both sides answer of Narrow, Clash and CheckClash, valid or not. -/
import Derived.Test.YtgnljgceddphfaaW28
import Derived.Test.YtgnljgceddphfaaW33
namespace Go.Proofs.Ytgnljgceddphfaa
open Go.RowKit Go.Pb Go.Pb.Ware
set_option linter.unusedVariables false
set_option linter.unusedSimpArgs false

theorem open_in {id sl sh ll lh hl hh : Int} {rows : List (List Int)} (hl5 : ∀ r ∈ rows, r.length = 5) (h : ckA ⟨id, ⟨sl, sh⟩, ⟨ll, lh⟩, ⟨hl, hh⟩⟩ rows = 0) : ∃ ts : List TT, rows = ts.map rowT ∧ ts.length ≤ 30 ∧ 0 ≤ sl ∧ sh ≤ 200 := by
  obtain ⟨hB, hT⟩ := ckA_0 h
  obtain ⟨h1, h2⟩ := ckTs_0 hT
  obtain ⟨ts, hts⟩ := toTT hl5 h2
  have hb := boOk_iff.1 hB
  dsimp only at hb
  refine ⟨ts, hts, by rw [hts, List.length_map] at h1; exact h1, by omega, by omega⟩

theorem narrow_both {id sl sh ll lh hl hh : Int} (rows : List (List Int)) (hl5 : ∀ r ∈ rows, r.length = 5) : ∃ m0 m1 m2 m3 m4 m5 m6 c : Int, ∀ (w : World) (v : Value), RowsAt 5 w v rows → Calls Try.prog 39 #[.agg #[.int .i64 id, .int .i64 sl, .int .i64 sh, .int .i64 ll, .int .i64 lh, .int .i64 hl, .int .i64 hh], v] w (Ret w (.tuple #[.agg #[.int .i64 m0, .int .i64 m1, .int .i64 m2, .int .i64 m3, .int .i64 m4, .int .i64 m5, .int .i64 m6], .int .i64 c])) ∧ Calls Try.prog 40 #[.agg #[.int .i64 id, .int .i64 sl, .int .i64 sh, .int .i64 ll, .int .i64 lh, .int .i64 hl, .int .i64 hh], v] w (Ret w (.tuple #[.agg #[.int .i64 m0, .int .i64 m1, .int .i64 m2, .int .i64 m3, .int .i64 m4, .int .i64 m5, .int .i64 m6], .int .i64 c])) := by
  by_cases hc : ckA ⟨id, ⟨sl, sh⟩, ⟨ll, lh⟩, ⟨hl, hh⟩⟩ rows = 0
  · obtain ⟨ts, rfl, hm, h0, h1⟩ := open_in hl5 hc
    cases he : emptyB (accR ts ⟨sl, sh⟩)
    · exact ⟨id, (accR ts ⟨sl, sh⟩).lo, (accR ts ⟨sl, sh⟩).hi, ll, lh, hl, hh, 0, fun w v h => ⟨narrow_full h hc rfl he, rnarrow_full h (by omega) h0 h1 hc rfl he⟩⟩
    · exact ⟨0, 0, 0, 0, 0, 0, 0, 15, fun w v h => ⟨narrow_none h hc he, rnarrow_none h (by omega) h0 h1 hc rfl he⟩⟩
  · have hn : (ckA ⟨id, ⟨sl, sh⟩, ⟨ll, lh⟩, ⟨hl, hh⟩⟩ rows != 0) = true := by simpa using hc
    exact ⟨0, 0, 0, 0, 0, 0, 0, _, fun w v h => ⟨narrow_bad h rfl hn, rnarrow_bad h rfl hn⟩⟩
/-- A list of numbers and an error. -/
def IsClash (zs : List Int) (c : Int) (w : World) (e : Ending) (w' : World) : Prop := ∃ u, e = .returned (.tuple #[u, .int .i64 c]) ∧ Below w.heap.size w w' ∧ NumsAt w' u zs
theorem clash_of {zs : List Int} {c : Int} {w : World} {e : Ending} {w' : World} (h : Ret w (.tuple #[.slice none 0 0, .int .i64 c]) e w') : IsClash [] c w e w' := ⟨_, h.1, h.2, NumsAt.nil⟩

theorem clash_both {id sl sh ll lh hl hh : Int} (rows : List (List Int)) (hl5 : ∀ r ∈ rows, r.length = 5) : ∃ (zs : List Int) (c : Int), ∀ (w : World) (v : Value), RowsAt 5 w v rows → Calls Try.prog 41 #[.agg #[.int .i64 id, .int .i64 sl, .int .i64 sh, .int .i64 ll, .int .i64 lh, .int .i64 hl, .int .i64 hh], v] w (IsClash zs c w) ∧ Calls Try.prog 42 #[.agg #[.int .i64 id, .int .i64 sl, .int .i64 sh, .int .i64 ll, .int .i64 lh, .int .i64 hl, .int .i64 hh], v] w (IsClash zs c w) := by
  by_cases hc : ckA ⟨id, ⟨sl, sh⟩, ⟨ll, lh⟩, ⟨hl, hh⟩⟩ rows = 0
  · obtain ⟨ts, rfl, hm, h0, h1⟩ := open_in hl5 hc
    cases he : clashB ts (srcs ts) ⟨sl, sh⟩
    · exact ⟨[], 3, fun w v h => ⟨(clash_none h hm hc he).mono fun _ _ h => clash_of (zs := []) h, (rclash_none h hm h0 h1 hc he).mono fun _ _ h => clash_of (zs := []) h⟩⟩
    · exact ⟨leave (fun b => clashB ts b ⟨sl, sh⟩) (srcs ts).length (srcs ts), 0, fun w v h => ⟨clash_some h hm hc he, rclash_some h hm h0 h1 hc he⟩⟩
  · have hn : (ckA ⟨id, ⟨sl, sh⟩, ⟨ll, lh⟩, ⟨hl, hh⟩⟩ rows != 0) = true := by simpa using hc
    exact ⟨[], _, fun w v h => ⟨(clash_bad h rfl hn).mono fun _ _ h => clash_of (zs := []) h, (rclash_bad h rfl hn).mono fun _ _ h => clash_of (zs := []) h⟩⟩

theorem checkClash_both {id sl sh ll lh hl hh : Int} (rows : List (List Int)) (hl5 : ∀ r ∈ rows, r.length = 5) (b : List Int) : ∃ c : Int, ∀ (w : World) (v bv : Value), RowsAt 5 w v rows → NumsAt w bv b → Calls Try.prog 46 #[.agg #[.int .i64 id, .int .i64 sl, .int .i64 sh, .int .i64 ll, .int .i64 lh, .int .i64 hl, .int .i64 hh], v, bv] w (Ret w (.int .i64 c)) ∧ Calls Try.prog 47 #[.agg #[.int .i64 id, .int .i64 sl, .int .i64 sh, .int .i64 ll, .int .i64 lh, .int .i64 hl, .int .i64 hh], v, bv] w (Ret w (.int .i64 c)) := by
  by_cases hc : ckA ⟨id, ⟨sl, sh⟩, ⟨ll, lh⟩, ⟨hl, hh⟩⟩ rows = 0
  · obtain ⟨ts, rfl, hm, h0, h1⟩ := open_in hl5 hc
    exact ⟨_, fun w v bv h hi => ⟨checkClash_in h hi hm hc, rcheckClash_in h hi hm h0 h1 hc⟩⟩
  · have hn : (ckA ⟨id, ⟨sl, sh⟩, ⟨ll, lh⟩, ⟨hl, hh⟩⟩ rows != 0) = true := by simpa using hc
    exact ⟨_, fun w v bv h hi => ⟨checkClash_bad h hi rfl hn, rcheckClash_bad h hi rfl hn⟩⟩

end Go.Proofs.Ytgnljgceddphfaa
