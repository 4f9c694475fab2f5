/- A slice of int64s, read in a world; numbers modulo. -/
import Derived.Test.YtcadbcmldlammaaLib2
import Derived.Test.YtcadbcmldlammaaK1
import Derived.Test.YtcadbcmldlammaaRow
namespace Go.Pb
open Go.RowKit Go.ChangeShapes Go.WideShapes

/-- An int64. -/
def I64 (k : Int) : Prop := (Lit.int .i64 k).wf = true
theorem I64.bd {k : Int} (h : I64 k) : -9223372036854775808 ≤ k ∧ k ≤ 9223372036854775807 := by
  simpa [I64, Lit.wf, IntKind.min, IntKind.max, IntKind.signed, IntKind.bits] using h
theorem I64.mk {k : Int} (h0 : -9223372036854775808 ≤ k) (h1 : k ≤ 9223372036854775807) : I64 k := by
  simp [I64, Lit.wf, IntKind.min, IntKind.max, IntKind.signed, IntKind.bits]; omega

/-- In the world w the slice v reads as the numbers zs. -/
def IntsAt (w : World) (v : Value) (zs : List Int) : Prop :=
  (v = .slice none 0 0 ∧ zs = []) ∨ ∃ (a : Addr) (cap : Nat), v = .slice (some a) zs.length cap ∧ zs.length ≤ cap ∧ cap ≤ 140737488355328 ∧
    ∀ k z, zs[k]? = some z → w.cell? (a.add k) = some (.int .i64 z) ∧ I64 z
theorem IntsAt.below {w w' : World} {v : Value} {zs : List Int} (h : IntsAt w v zs) (hb : Below w.heap.size w w') : IntsAt w' v zs := by
  rcases h with h | ⟨a, cap, h1, h2, h3, h4⟩
  · exact .inl h
  · exact .inr ⟨a, cap, h1, h2, h3, fun k z hz => ⟨bkeep hb (h4 k z hz).1, (h4 k z hz).2⟩⟩
theorem IntsAt.i64 {w : World} {v : Value} {zs : List Int} (h : IntsAt w v zs) : ∀ z ∈ zs, I64 z := by
  rcases h with ⟨_, rfl⟩ | ⟨a, cap, h1, h2, h3, h4⟩
  · simp
  · intro z hz
    obtain ⟨k, hk⟩ := List.getElem?_of_mem hz
    exact (h4 k z hk).2

theorem mod_eq (n m : Int) (hm : 0 < m) : (n.tmod m + m).tmod m = n % m ∧ -m < n.tmod m ∧ n.tmod m < m := by
  have h1 : n.tmod m < m := Int.tmod_lt_of_pos n hm
  have h2 : -m < n.tmod m := by
    have := Int.tmod_lt_of_pos (-n) hm
    rw [Int.neg_tmod] at this; omega
  refine ⟨?_, h2, h1⟩
  rw [Int.tmod_eq_emod_of_nonneg (by omega)]
  have h3 := Int.mul_tdiv_add_tmod n m
  have h4 : n.tmod m + m = n + m * (1 - n.tdiv m) := by rw [Int.mul_sub]; omega
  rw [h4, Int.add_mul_emod_self_left]

/-- A post: some int64. -/
def SomeInt (W : World) (e : Ending) (w' : World) : Prop := ∃ k : Int, e = .returned (.int .i64 k) ∧ I64 k ∧ W = w'
end Go.Pb
