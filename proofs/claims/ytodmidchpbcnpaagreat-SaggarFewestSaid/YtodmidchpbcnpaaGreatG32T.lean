/- The wares of the chapter's examples. -/
import Derived.Test.YtodmidchpbcnpaaGreatG31T
import Derived.Test.YtodmidchpbcnpaaGreatG27T
import Derived.Test.YtodmidchpbcnpaaGreatG23T
import Derived.Test.YtodmidchpbcnpaaGreatG22T
import Derived.Test.YtodmidchpbcnpaaGreatG20T
import Derived.Test.YtodmidchpbcnpaaGreatKSqT
import Derived.Test.YtodmidchpbcnpaaGreatKP6T
namespace Go.Proofs.YtodmidchpbcnpaaGreat
open Go.RowKit Go.Pb Go.Pb.Ware Go.Pb.Sag
set_option linter.unusedVariables false
set_option linter.unusedSimpArgs false

/-- A new slice, by its cells. -/
theorem owns_new {w : World} {lo T n size : Nat} {xs : List Value} (hs : xs.length = n * size) (hn : n ≤ maxLen) (hlo : lo ≤ w.heap.size) : (w.alloc (.cells xs.toArray T)).ownsRow lo T size (.slice (some ⟨w.heap.size, 0, none⟩) n n) n xs := by
  refine ⟨by omega, .inr ⟨w.heap.size, n, xs.toArray, rfl, hlo, heap_alloc_new w _, Nat.le_refl _, hn, by rw [List.size_toArray]; omega, ?_⟩⟩
  show xs.take (n * size) = xs
  rw [← hs, List.take_length]
theorem groupsAt_lists {lo : Nat} {v : Value} {gs : List (List Int)} {W : World} (h : GroupsAt lo v gs W) (hi : ∀ g ∈ gs, ∀ z ∈ g, I64 z) : ListsAt v gs W := by
  obtain ⟨us, h1, h2⟩ := h
  obtain ⟨a, c, rfl, hc⟩ := owns_shape h1
  refine ⟨a, c, rfl, fun k g hg => ?_⟩
  have hk := (List.getElem?_eq_some_iff.1 hg).1
  have hl : us.length = gs.length := by have := h1.1; omega
  have hu : us[k]? = some (us[k]'(by omega)) := List.getElem?_eq_getElem _
  rcases h1.2 with ⟨_, hn⟩ | ⟨B, cap, cur, e, hr⟩
  · omega
  · injection e with e1 e2 e3
    subst e1
    exact ⟨_, rfl, us[k]'(by omega), h1.cells (g := B) rfl k _ hu, numsAt_of_owns (hi g (List.mem_of_getElem? hg)) (h2 k _ g hu hg)⟩
theorem i64_small {z : Int} (h1 : -100000 ≤ z) (h2 : z ≤ 100000) : I64 z := I64.mk (by omega) (by omega)
/-- What wares returns. -/
def WaresRes (W : World) (e : Ending) (w' : World) : Prop := ∃ sv, e = .returned (.agg #[sv, .slice none 0 0]) ∧ Below W.heap.size W w' ∧ RowsAt 11 w' sv exRows
theorem exRows_ok : ∀ r ∈ exRows, r.length = 11 ∧ ∀ z ∈ r, I64 z := by
  have h : ∀ r ∈ exRows, r.length = 11 ∧ ∀ z ∈ r, -100000 ≤ z ∧ z ≤ 100000 := by decide
  exact fun r hr => ⟨(h r hr).1, fun z hz => i64_small ((h r hr).2 z hz).1 ((h r hr).2 z hz).2⟩
theorem exRows_at {w : World} {lo T : Nat} {v : Value} (h : w.ownsRow lo T 11 v 2 (exRows.flatten.map (Value.int .i64))) : RowsAt 11 w v exRows :=
  rowsAt_of_owns (rows := exRows) (fun r hr => (exRows_ok r hr).1) h (fun r hr => (exRows_ok r hr).2)

/-- What wares returns: shapes that are the call's own. -/
def WaresOwn (W : World) (e : Ending) (w' : World) : Prop := ∃ sv, e = .returned (.agg #[sv, .slice none 0 0]) ∧ Below W.heap.size W w' ∧ w'.ownsRow W.heap.size 109 11 sv 2 (exRows.flatten.map (Value.int .i64))

set_option maxRecDepth 100000 in
set_option maxHeartbeats 1000000 in
theorem wares_own {w : World}  :
    Calls Tryz.prog 72 #[] w (WaresOwn w) := by
  unfold WaresOwn
  go_enter Tryz.func72, Tryz.ntmps72
  go_wp2_with fail
  refine bodyPost_ret (v := .agg #[.slice (some ⟨w.heap.size + 1, 0, none⟩) 2 2, .slice none 0 0]) (by simp [results, Tryz.results72, go_sem, *]) rfl ?_
  refine ⟨_, rfl, by go_grown, ?_⟩
  have h := owns_new (w := w.alloc (.cells #[.slice (some ⟨w.heap.size + 1, 0, none⟩) 2 2, .slice none 0 0] 25)) (lo := w.heap.size) (T := 109) (n := 2) (size := 11) (xs := exRows.flatten.map (Value.int .i64)) (by decide) (by decide) (by simp)
  simp only [World.size_alloc] at h
  exact h

theorem wares_any {w : World} : Calls Tryz.prog 72 #[] w (WaresRes w) := wares_own.mono fun e w' ⟨sv, e1, hb, ho⟩ => ⟨sv, e1, hb, exRows_at ho⟩
end Go.Proofs.YtodmidchpbcnpaaGreat
