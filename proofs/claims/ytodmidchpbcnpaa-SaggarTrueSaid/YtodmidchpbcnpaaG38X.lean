/- What the program answers on a floor that is valid. -/
import Derived.Test.YtodmidchpbcnpaaG34X
import Derived.Test.YtodmidchpbcnpaaG35X
import Derived.Test.YtodmidchpbcnpaaKG10X
namespace Go.Proofs.Ytodmidchpbcnpaa
open Go.RowKit Go.Pb Go.Pb.Ware Go.Pb.Sag
set_option linter.unusedVariables false
set_option linter.unusedSimpArgs false

theorem no_bodies8 {w : World} : RowsAt 7 w (.slice none 0 0) [] := .inl ⟨rfl, rfl⟩
theorem packs_f {w : World} {sv iv : Value} {ss : List (List Int)} {xs : List It} {b2 b3 b4 b5 b6 : Int} (hs : RowsAt 11 w sv ss) (hi : RowsAt 3 w iv (xs.map rowX)) (hX : boxOk ⟨1, b2, b3, b4, b5, b6⟩ = true) (hk : ckL ss [] ⟨1, b2, b3, b4, b5, b6⟩ xs = 0) {N : Nat} (hN : min (shownL ⟨1, b2, b3, b4, b5, b6⟩ (feetV ss [] ⟨1, b2, b3, b4, b5, b6⟩ xs)).length 1000 = N) : Calls Try.prog 5 #[.agg #[sv, .slice none 0 0], .agg #[.int .i64 1, .int .i64 b2, .int .i64 b3, .int .i64 b4, .int .i64 b5, .int .i64 b6], iv] w (Ret w (.tuple #[.int .i64 (N : Int), .int .i64 0])) := by
  have h := Packs_any (bid := 1) (bwi := b2) (bde := b3) (bce := b4) (bhi := b5) (bbe := b6) hs no_bodies8 hi (fun W v h => spots_any hX feet_ok feet_len h)
  rw [hk, show packsN ss [] ⟨1, b2, b3, b4, b5, b6⟩ xs = (N : Int) by unfold packsN; rw [if_pos hk, hN]] at h
  exact h

theorem nth_f {w : World} {sv iv : Value} {ss : List (List Int)} {xs : List It} {b2 b3 b4 b5 b6 : Int} (hs : RowsAt 11 w sv ss) (hi : RowsAt 3 w iv (xs.map rowX)) (hX : boxOk ⟨1, b2, b3, b4, b5, b6⟩ = true) (hk : ckL ss [] ⟨1, b2, b3, b4, b5, b6⟩ xs = 0) {i : Nat} {q : List St} (hi9 : i ≤ 999) (hq : (shownL ⟨1, b2, b3, b4, b5, b6⟩ (feetV ss [] ⟨1, b2, b3, b4, b5, b6⟩ xs))[i]? = some q) : Calls Try.prog 7 #[.agg #[sv, .slice none 0 0], .agg #[.int .i64 1, .int .i64 b2, .int .i64 b3, .int .i64 b4, .int .i64 b5, .int .i64 b6], iv, .int .i64 (i : Int)] w (fun e w' => ∃ v, e = .returned (.tuple #[v, .int .i64 0]) ∧ Below w.heap.size w w' ∧ StAt w' v (q.map toSq)) := by
  have h := Nth_any (bid := 1) (bwi := b2) (bde := b3) (bce := b4) (bhi := b5) (bbe := b6) (n := (i : Int)) hs no_bodies8 hi (fun W v h => spots_any hX feet_ok feet_len h)
  rw [show nthB ss [] ⟨1, b2, b3, b4, b5, b6⟩ xs (i : Int) = (q, 0) by unfold nthB nthA; rw [if_pos hk, if_pos (btw_iff.2 (by omega)), Int.toNat_natCast, if_pos hk, hq]] at h
  refine h.mono ?_
  rintro e w1 ⟨v, rfl, hb, ho⟩
  exact ⟨v, rfl, hb, stAt_of_owns (qs := q.map toSq) (by first | exact ho | (rw [List.length_map]; exact ho))⟩

end Go.Proofs.Ytodmidchpbcnpaa
