/- Slices of int64s by their elements; lists of sources. -/
import Derived.Test.YtcadbcmldlammaaP5
namespace Go.Pb
set_option linter.unusedVariables false
open Go.RowKit
/-- In the world w the slice v reads as the numbers zs. -/
def NumsAt (w : World) (v : Value) (zs : List Int) : Prop :=
  (v = .slice none 0 0 ∧ zs = []) ∨ ∃ (a : Addr) (cap : Nat), v = .slice (some a) zs.length cap ∧ zs.length ≤ cap ∧ cap ≤ 9223372036854775807 ∧
    ∀ k z, zs[k]? = some z → w.cell? (a.add k) = some (.int .i64 z) ∧ I64 z
theorem NumsAt.below {w w' : World} {v : Value} {zs : List Int} (h : NumsAt w v zs) (hb : Below w.heap.size w w') : NumsAt w' v zs := by
  rcases h with h | ⟨a, cap, h1, h2, h3, h4⟩
  · exact .inl h
  · exact .inr ⟨a, cap, h1, h2, h3, fun k z hz => ⟨bkeep hb (h4 k z hz).1, (h4 k z hz).2⟩⟩
theorem NumsAt.i64 {w : World} {v : Value} {zs : List Int} (h : NumsAt w v zs) : ∀ z ∈ zs, I64 z := by
  rcases h with ⟨_, rfl⟩ | ⟨a, cap, h1, h2, h3, h4⟩
  · simp
  · intro z hz
    obtain ⟨k, hk⟩ := List.getElem?_of_mem hz
    exact (h4 k z hk).2
theorem IntsAt.nums {w : World} {v : Value} {zs : List Int} (h : IntsAt w v zs) : NumsAt w v zs := by
  rcases h with h | ⟨a, cap, h1, h2, h3, h4⟩
  · exact .inl h
  · exact .inr ⟨a, cap, h1, h2, by omega, h4⟩
/-- A part of a slice, from its head on. -/
theorem NumsAt.head {w : World} {a : Option Addr} {cap : Nat} {zs : List Int} (h : NumsAt w (.slice a zs.length cap) zs) {k : Nat} (hk : k ≤ zs.length) : NumsAt w (.slice a k cap) (zs.take k) := by
  have hl : (zs.take k).length = k := by simp [hk]
  rcases h with ⟨h1, h2⟩ | ⟨a', cap', h1, h2, h3, h4⟩
  · subst h2; injection h1 with e1 _ e3; subst e1; subst e3
    simp at hk; subst hk; exact .inl ⟨rfl, rfl⟩
  · injection h1 with e1 _ e3; subst e1; subst e3
    refine .inr ⟨a', cap, by rw [hl], by omega, h3, fun j z hz => ?_⟩
    rw [List.getElem?_take] at hz
    split at hz
    · exact h4 j z hz
    · cases hz
/-- .. behind a place. -/
theorem NumsAt.tail {w : World} {a' : Addr} {cap : Nat} {zs : List Int} (h : NumsAt w (.slice (some a') zs.length cap) zs) {k : Nat} (hk : k ≤ zs.length) (q : Addr) (hq : k < zs.length → q = a'.add k) : NumsAt w (.slice (some q) (zs.length - k) (cap - k)) (zs.drop k) := by
  rcases h with ⟨h1, h2⟩ | ⟨a2, cap', h1, h2, h3, h4⟩
  · cases h1
  · injection h1 with e1 _ e3; injection e1 with e1; subst e1; subst e3
    refine .inr ⟨q, cap - k, by rw [List.length_drop], by rw [List.length_drop]; omega, by omega, fun j z hz => ?_⟩
    rw [List.getElem?_drop] at hz
    have hlt : k + j < zs.length := (List.getElem?_eq_some_iff.1 hz).1
    rw [hq (by omega), Go.Deep.add_add]
    exact h4 (k + j) z hz
theorem NumsAt.shape {w : World} {v : Value} {zs : List Int} (h : NumsAt w v zs) : ∃ (a : Option Addr) (cap : Nat), v = .slice a zs.length cap ∧ zs.length ≤ cap ∧ cap ≤ 9223372036854775807 := by
  rcases h with ⟨h, rfl⟩ | ⟨a, cap, h1, h2, h3, h4⟩
  · exact ⟨none, 0, h, by simp, by omega⟩
  · exact ⟨some a, cap, h1, h2, h3⟩
theorem NumsAt.elem {w : World} {a : Option Addr} {cap : Nat} {zs : List Int} (h : NumsAt w (.slice a zs.length cap) zs) {k : Nat} (hk : k < zs.length) : ∃ a', a = some a' ∧ w.cell? (a'.add k) = some (.int .i64 zs[k]) := by
  rcases h with ⟨h1, h2⟩ | ⟨a', cap', h1, h2, h3, h4⟩
  · subst h2; simp at hk
  · injection h1 with h1 _ _
    exact ⟨a', h1, (h4 k _ (List.getElem?_eq_getElem hk)).1⟩
/-- A slice of the call's own of int64s reads so. -/
theorem numsAt_of_owns {w : World} {base : Nat} {e : TypeId} {v : Value} {zs : List Int} (hi : ∀ z ∈ zs, I64 z) (h : w.ownsRow base e 1 v zs.length (zs.map (Value.int .i64))) : NumsAt w v zs := by
  obtain ⟨hl, h⟩ := h
  rcases h with ⟨h1, h2⟩ | ⟨g, cap, cur, h1, h2, h3, h4, h5, h6, h7⟩
  · exact .inl ⟨h1, List.length_eq_zero_iff.1 h2⟩
  · refine .inr ⟨_, cap, h1, h4, by unfold maxLen at h5; omega, fun k z hz => ⟨?_, hi z (List.mem_of_getElem? hz)⟩⟩
    have hk : k < zs.length := (List.getElem?_eq_some_iff.1 hz).1
    rw [Go.WideShapes.add_plain]
    have h9 : (cur.toList.take (zs.length * 1))[k]? = some (.int .i64 z) := by rw [h7, List.getElem?_map, hz]; rfl
    rw [List.getElem?_take, if_pos (by omega)] at h9
    simp only [World.cell?, h3, Nat.zero_add]
    simpa using h9
theorem grown_of_below {w w' : World} (hb : Below w.heap.size w w') : w.grownBy w' none := ⟨hb.os, hb.tape, hb.output, hb.size, fun k hk _ => hb.block k hk⟩
end Go.Pb
namespace Go.Pb.Ware
open Go.Pb
theorem has_no {x : Int} {zs : List Int} {k : Nat} (hk : k < zs.length) (h : (zs.take k).contains x = false) (hx : ¬ zs[k] = x) : (zs.take (k + 1)).contains x = false := by
  rw [List.take_succ_eq_append_getElem hk]
  simp only [List.contains_eq_mem, List.mem_append, List.mem_singleton, decide_eq_false_iff_not, not_or] at *
  exact ⟨h, fun e => hx e.symm⟩
theorem has_yes {x : Int} {zs : List Int} {k : Nat} (hk : k < zs.length) (hx : zs[k] = x) : zs.contains x = true := by
  rw [List.contains_eq_mem, decide_eq_true_eq, ← hx]; exact List.getElem_mem hk
theorem has_end {x : Int} {zs : List Int} {k : Nat} (hk : ¬ k < zs.length) (h : (zs.take k).contains x = false) : zs.contains x = false := by
  rwa [List.take_of_length_le (by omega)] at h
def src (t : TT) : Int := t.1.source
/-- The trials of some sources. -/
def only (by' : List Int) (ts : List TT) : List TT := ts.filter fun t => by'.contains (src t)
theorem only_snoc_yes {b : List Int} {ts : List TT} {k : Nat} (hk : k < ts.length) (h : b.contains (src ts[k]) = true) : only b (ts.take (k + 1)) = only b (ts.take k) ++ [ts[k]] := by
  rw [List.take_succ_eq_append_getElem hk]; simp only [only, List.filter_append, List.filter_cons, h, if_true, List.filter_nil]
theorem only_snoc_no {b : List Int} {ts : List TT} {k : Nat} (hk : k < ts.length) (h : b.contains (src ts[k]) = false) : only b (ts.take (k + 1)) = only b (ts.take k) := by
  rw [List.take_succ_eq_append_getElem hk]; simp only [only, List.filter_append, List.filter_cons, h, List.filter_nil]; simp
theorem only_part (b : List Int) (ts : List TT) (k : Nat) : only b (ts.take k) <+: only b ts := by
  have : ts = ts.take k ++ ts.drop k := (List.take_append_drop k ts).symm
  refine ⟨only b (ts.drop k), ?_⟩
  conv => rhs; rw [this]
  simp only [only, List.filter_append]
theorem only_lt {b : List Int} {ts : List TT} {k : Nat} (hk : k < ts.length) (h : b.contains (src ts[k]) = true) : (only b (ts.take k)).length < (only b ts).length := by
  have h1 := (only_part b ts (k + 1)).length_le
  rw [only_snoc_yes hk h] at h1
  simp at h1; omega
/-- The trials of the sources contradict the range. -/
def clashB (ts : List TT) (by' : List Int) (r : Rg) : Bool := emptyB (accR (only by' ts) r)
end Go.Pb.Ware
