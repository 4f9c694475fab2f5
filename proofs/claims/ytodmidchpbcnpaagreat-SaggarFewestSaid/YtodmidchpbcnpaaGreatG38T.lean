/- What the program answers on a floor that is valid. -/
import Derived.Test.YtodmidchpbcnpaaGreatG34T
import Derived.Test.YtodmidchpbcnpaaGreatG35T
import Derived.Test.YtodmidchpbcnpaaGreatG12T
namespace Go.Proofs.YtodmidchpbcnpaaGreat
open Go.RowKit Go.Pb Go.Pb.Ware Go.Pb.Sag
set_option linter.unusedVariables false
set_option linter.unusedSimpArgs false

theorem no_bodies8 {w : World} : RowsAt 7 w (.slice none 0 0) [] := .inl ⟨rfl, rfl⟩
theorem packs_f {w : World} {sv iv : Value} {ss : List (List Int)} {xs : List It} {b2 b3 b4 b5 b6 : Int} (hs : RowsAt 11 w sv ss) (hi : RowsAt 3 w iv (xs.map rowX)) (hX : boxOk ⟨1, b2, b3, b4, b5, b6⟩ = true) (hk : ckL ss [] ⟨1, b2, b3, b4, b5, b6⟩ xs = 0) {N : Nat} (hN : min (shownL ⟨1, b2, b3, b4, b5, b6⟩ (feetV ss [] ⟨1, b2, b3, b4, b5, b6⟩ xs)).length 1000 = N) : Calls Tryz.prog 27 #[.agg #[sv, .slice none 0 0], .agg #[.int .i64 1, .int .i64 b2, .int .i64 b3, .int .i64 b4, .int .i64 b5, .int .i64 b6], iv] w (Ret w (.tuple #[.int .i64 (N : Int), .int .i64 0])) := by
  have h := Packs_any (bid := 1) (bwi := b2) (bde := b3) (bce := b4) (bhi := b5) (bbe := b6) hs no_bodies8 hi (fun W v h => spots_any hX feet_ok feet_len h)
  rw [hk, show packsN ss [] ⟨1, b2, b3, b4, b5, b6⟩ xs = (N : Int) by unfold packsN; rw [if_pos hk, hN]] at h
  exact h

theorem pack_f {w : World} {sv iv : Value} {ss : List (List Int)} {xs : List It} {b2 b3 b4 b5 b6 : Int} (hs : RowsAt 11 w sv ss) (hi : RowsAt 3 w iv (xs.map rowX)) (hX : boxOk ⟨1, b2, b3, b4, b5, b6⟩ = true) (hk : ckL ss [] ⟨1, b2, b3, b4, b5, b6⟩ xs = 0) {q : List St} (hq : (shownL ⟨1, b2, b3, b4, b5, b6⟩ (feetV ss [] ⟨1, b2, b3, b4, b5, b6⟩ xs))[0]? = some q) : Calls Tryz.prog 25 #[.agg #[sv, .slice none 0 0], .agg #[.int .i64 1, .int .i64 b2, .int .i64 b3, .int .i64 b4, .int .i64 b5, .int .i64 b6], iv] w (fun e w' => ∃ v, e = .returned (.tuple #[v, .int .i64 0]) ∧ Below w.heap.size w w' ∧ StAt w' v (q.map toSq)) := by
  have h := Pack_any (bid := 1) (bwi := b2) (bde := b3) (bce := b4) (bhi := b5) (bbe := b6) hs no_bodies8 hi (fun W v h => spots_any hX feet_ok feet_len h)
  rw [show nthA ss [] ⟨1, b2, b3, b4, b5, b6⟩ xs 0 24 = (q, 0) by unfold nthA; rw [if_pos hk, hq]] at h
  refine h.mono ?_
  rintro e w1 ⟨v, rfl, hb, ho⟩
  exact ⟨v, rfl, hb, stAt_of_owns (qs := q.map toSq) (by first | exact ho | (rw [List.length_map]; exact ho))⟩

theorem pack_n {w : World} {sv iv : Value} {ss : List (List Int)} {xs : List It} {b2 b3 b4 b5 b6 : Int} (hs : RowsAt 11 w sv ss) (hi : RowsAt 3 w iv (xs.map rowX)) (hX : boxOk ⟨1, b2, b3, b4, b5, b6⟩ = true) (hk : ckL ss [] ⟨1, b2, b3, b4, b5, b6⟩ xs = 0) (hq : (shownL ⟨1, b2, b3, b4, b5, b6⟩ (feetV ss [] ⟨1, b2, b3, b4, b5, b6⟩ xs))[0]? = none) : Calls Tryz.prog 25 #[.agg #[sv, .slice none 0 0], .agg #[.int .i64 1, .int .i64 b2, .int .i64 b3, .int .i64 b4, .int .i64 b5, .int .i64 b6], iv] w (fun e w' => ∃ v, e = .returned (.tuple #[v, .int .i64 24]) ∧ Below w.heap.size w w' ∧ StAt w' v []) := by
  have h := Pack_any (bid := 1) (bwi := b2) (bde := b3) (bce := b4) (bhi := b5) (bbe := b6) hs no_bodies8 hi (fun W v h => spots_any hX feet_ok feet_len h)
  rw [show nthA ss [] ⟨1, b2, b3, b4, b5, b6⟩ xs 0 24 = ([], 24) by unfold nthA; rw [if_pos hk, hq]] at h
  refine h.mono ?_
  rintro e w1 ⟨v, rfl, hb, ho⟩
  exact ⟨v, rfl, hb, stAt_of_owns (qs := ([] : List St).map toSq) (by first | exact ho | (rw [List.length_map]; exact ho))⟩

theorem nth_f {w : World} {sv iv : Value} {ss : List (List Int)} {xs : List It} {b2 b3 b4 b5 b6 : Int} (hs : RowsAt 11 w sv ss) (hi : RowsAt 3 w iv (xs.map rowX)) (hX : boxOk ⟨1, b2, b3, b4, b5, b6⟩ = true) (hk : ckL ss [] ⟨1, b2, b3, b4, b5, b6⟩ xs = 0) {i : Nat} {q : List St} (hi9 : i ≤ 999) (hq : (shownL ⟨1, b2, b3, b4, b5, b6⟩ (feetV ss [] ⟨1, b2, b3, b4, b5, b6⟩ xs))[i]? = some q) : Calls Tryz.prog 29 #[.agg #[sv, .slice none 0 0], .agg #[.int .i64 1, .int .i64 b2, .int .i64 b3, .int .i64 b4, .int .i64 b5, .int .i64 b6], iv, .int .i64 (i : Int)] w (fun e w' => ∃ v, e = .returned (.tuple #[v, .int .i64 0]) ∧ Below w.heap.size w w' ∧ StAt w' v (q.map toSq)) := by
  have h := Nth_any (bid := 1) (bwi := b2) (bde := b3) (bce := b4) (bhi := b5) (bbe := b6) (n := (i : Int)) hs no_bodies8 hi (fun W v h => spots_any hX feet_ok feet_len h)
  rw [show nthB ss [] ⟨1, b2, b3, b4, b5, b6⟩ xs (i : Int) = (q, 0) by unfold nthB nthA; rw [if_pos hk, if_pos (btw_iff.2 (by omega)), Int.toNat_natCast, if_pos hk, hq]] at h
  refine h.mono ?_
  rintro e w1 ⟨v, rfl, hb, ho⟩
  exact ⟨v, rfl, hb, stAt_of_owns (qs := q.map toSq) (by first | exact ho | (rw [List.length_map]; exact ho))⟩

theorem nth_n {w : World} {sv iv : Value} {ss : List (List Int)} {xs : List It} {b2 b3 b4 b5 b6 : Int} (hs : RowsAt 11 w sv ss) (hi : RowsAt 3 w iv (xs.map rowX)) (hX : boxOk ⟨1, b2, b3, b4, b5, b6⟩ = true) (hk : ckL ss [] ⟨1, b2, b3, b4, b5, b6⟩ xs = 0) {i : Nat} (hq : 999 < i ∨ (shownL ⟨1, b2, b3, b4, b5, b6⟩ (feetV ss [] ⟨1, b2, b3, b4, b5, b6⟩ xs))[i]? = none) : Calls Tryz.prog 29 #[.agg #[sv, .slice none 0 0], .agg #[.int .i64 1, .int .i64 b2, .int .i64 b3, .int .i64 b4, .int .i64 b5, .int .i64 b6], iv, .int .i64 (i : Int)] w (fun e w' => ∃ v, e = .returned (.tuple #[v, .int .i64 3]) ∧ Below w.heap.size w w' ∧ StAt w' v []) := by
  have h := Nth_any (bid := 1) (bwi := b2) (bde := b3) (bce := b4) (bhi := b5) (bbe := b6) (n := (i : Int)) hs no_bodies8 hi (fun W v h => spots_any hX feet_ok feet_len h)
  rw [show nthB ss [] ⟨1, b2, b3, b4, b5, b6⟩ xs (i : Int) = ([], 3) by unfold nthB nthA; rw [if_pos hk]; by_cases h9 : btw (i : Int) 0 999 = true; (rw [if_pos h9, Int.toNat_natCast, if_pos hk]; rcases hq with h | h; (exfalso; have := btw_iff.1 h9; omega); rw [h]); rw [if_neg h9]] at h
  refine h.mono ?_
  rintro e w1 ⟨v, rfl, hb, ho⟩
  exact ⟨v, rfl, hb, stAt_of_owns (qs := ([] : List St).map toSq) (by first | exact ho | (rw [List.length_map]; exact ho))⟩

theorem check_f {w : World} {sv iv : Value} {ss : List (List Int)} {xs : List It} {b2 b3 b4 b5 b6 : Int} (hs : RowsAt 11 w sv ss) (hi : RowsAt 3 w iv (xs.map rowX)) (hX : boxOk ⟨1, b2, b3, b4, b5, b6⟩ = true) (hk : ckL ss [] ⟨1, b2, b3, b4, b5, b6⟩ xs = 0) {pv : Value} {qs : List Sq} (hp : StAt w pv qs) {a : Bool} (ha : packB ⟨1, b2, b3, b4, b5, b6⟩ (feetV ss [] ⟨1, b2, b3, b4, b5, b6⟩ xs) qs = a) : Calls Tryz.prog 41 #[.agg #[sv, .slice none 0 0], .agg #[.int .i64 1, .int .i64 b2, .int .i64 b3, .int .i64 b4, .int .i64 b5, .int .i64 b6], iv, pv] w (Ret w (.int .i64 (if a = true then 0 else 23))) := by
  refine CheckPack_any (bid := 1) (bwi := b2) (bde := b3) (bce := b4) (bhi := b5) (bbe := b6) hs no_bodies8 hi hp ?_
  unfold ckK; rw [if_pos hk, ha]

end Go.Proofs.YtodmidchpbcnpaaGreat
