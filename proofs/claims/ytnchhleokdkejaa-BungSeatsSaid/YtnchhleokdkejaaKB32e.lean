/- A bung of made saggars, in an order that numbers choose. -/
import Derived.Test.YtnchhleokdkejaaKW20e
import Derived.Test.YtnchhleokdkejaaKBee
import Derived.Test.YtnchhleokdkejaaKSue
import Derived.Laws.AppendOwn
import Derived.OwnWalk
import Derived.Test.YtnchhleokdkejaaKSce
import Derived.Test.YtnchhleokdkejaaKTge
import Derived.Deep.LoopGhost
import Derived.Test.YtnchhleokdkejaaKLibDe
import Derived.Test.YtnchhleokdkejaaKLibe
import Derived.Deep.DeepMust
namespace Go.Proofs.Ytnchhleokdkejaa
open Go.RowKit Go.Pb Go.Pb.Ware Go.Pb.Sag
set_option linter.unusedVariables false
set_option linter.unusedSimpArgs false

open Go.Proofs Go.Pb.Bung
theorem keepP_low {n : Nat} {p : Nat → Prop} {W W' : World} (h : Below n W W') (hp : ∀ k, p k → k < n) : KeepP p W W' := ⟨h.size, fun k h1 _ => h.block k (hp k h1)⟩
theorem inP_mono {p q : Nat → Prop} {v : Value} (h : InP p v) (hq : ∀ k, p k → q k) : InP q v := fun a n c e => hq _ (h a n c e)
end Go.Proofs.Ytnchhleokdkejaa

/- A job is checked, and whether all its bungs do, by the reference. -/
namespace Go.Proofs.Ytnchhleokdkejaa
open Go.RowKit Go.Pb Go.Pb.Ware Go.Pb.Sag
set_option linter.unusedVariables false
set_option linter.unusedSimpArgs false

open Go.Proofs Go.Pb.Bung
def allB (lo hi : Int) (l : List Sg) (cr le : Int) (gs : List (List Int)) : Bool := gs.all (doesB lo hi l cr le)
end Go.Proofs.Ytnchhleokdkejaa

/- Whether lists are parts of things. -/
namespace Go.Proofs.Ytnchhleokdkejaa
open Go.RowKit Go.Pb Go.Pb.Ware Go.Pb.Sag
set_option linter.unusedVariables false
set_option linter.unusedSimpArgs false

/-- Which numbers below n have been seen. -/
def SeenAt (B n : Nat) (seen : List Int) (W : World) : Prop := ∀ i : Nat, i < n → W.cell? ⟨B, i, none⟩ = some (.bool (seen.contains (i : Int))) ∧ W.frozen? ⟨B, i, none⟩ = false
theorem SeenAt.below {B n : Nat} {seen : List Int} {W W' : World} (h : SeenAt B n seen W) (hb : Below W.heap.size W W') : SeenAt B n seen W' := fun i hi => ⟨bkeep hb (h i hi).1, bfree hb (h i hi).1 (h i hi).2⟩
theorem SeenAt.set {B n m : Nat} {seen : List Int} {W : World} (h : SeenAt B n seen W) (hm : m < n) : SeenAt B n (seen ++ [(m : Int)]) (W.setCell ⟨B, m, none⟩ (.bool true)) := by
  intro i hi
  obtain ⟨h1, h2⟩ := h i hi
  refine ⟨?_, set_free h1 h2⟩
  by_cases e : i = m
  · subst e
    rw [setc_same h1]; simp
  · rw [setc_other h1 e]
    have : ¬ (i : Int) = (m : Int) := by omega
    simp [this]
end Go.Proofs.Ytnchhleokdkejaa

/- Valid lists of saggars that others make: exchanged, without one, with one narrower; chosen weights. -/
namespace Go.Pb.Bung
open Go Go.Pb Go.Pb.Ware Go.RowKit
set_option linter.unusedVariables false
set_option linter.unusedSimpArgs false
theorem bungOk_parts {lo hi : Int} {l : List Sg} (h : bungOk lo hi l = true) : wadOk lo hi = true ∧ l ≠ [] ∧ listOk l = true := by
  unfold bungOk at h
  simp only [Bool.and_eq_true, decide_eq_true_eq] at h
  exact ⟨h.1.1, h.1.2, h.2⟩
/-! Weights that numbers choose. -/
/-- Of the saggars above a course the k lower ones weigh ws. -/
def ChoseW (l : List Sg) (ws : List Int) : Prop := ws.length ≤ l.length ∧ ∀ (j : Nat) (z : Int) (s : Sg), ws[j]? = some z → l[j]? = some s → s.wl ≤ z ∧ z ≤ s.wh
theorem ChoseW.nil (l : List Sg) : ChoseW l [] := ⟨Nat.zero_le _, fun j z s h => by simp at h⟩
theorem ChoseW.snoc {l : List Sg} {ws : List Int} {z : Int} {s : Sg} (h : ChoseW l ws) (hs : l[ws.length]? = some s) (h1 : s.wl ≤ z) (h2 : z ≤ s.wh) : ChoseW l (ws ++ [z]) := by
  refine ⟨by have := (List.getElem?_eq_some_iff.1 hs).1; simp; omega, fun j y t hy ht => ?_⟩
  rcases Nat.lt_or_ge j ws.length with hj | hj
  · rw [List.getElem?_append_left hj] at hy; exact h.2 j y t hy ht
  · rw [List.getElem?_append_right hj] at hy
    obtain rfl : j = ws.length := by
      rcases Nat.lt_or_ge ws.length j with h3 | h3
      · rw [List.getElem?_eq_none (by simp; omega)] at hy; cases hy
      · omega
    simp at hy
    subst hy
    rw [hs] at ht
    obtain rfl := Option.some.inj ht
    exact ⟨h1, h2⟩
end Go.Pb.Bung
