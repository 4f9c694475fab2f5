/- In a region that draws: an operation that yields a fixed value may be waited for; reslicing is such a one. -/
import Derived.Test.YtcadbcmldlammaaLate
namespace Go.Pb
set_option linter.unusedVariables false
open Go Go.RowKit
section
variable {P : Program} {α β : Type}
/-- It never ends well. -/
def Fails (P : Program) (s : Sem α) : Prop := ∀ w v w', s.run P w ≠ .ok v w'
/-- It returns the same in every world, which it leaves as it is; or it never ends well. -/
def Steady (P : Program) (s : Sem α) : Prop := (∃ v, ∀ w, s.run P w = .ok v w) ∨ Fails P s
theorem Fails.bind_left {s : Sem α} (h : Fails P s) (f : α → Sem β) : Fails P (s >>= f) := fun w v w' e => by
  rw [Sem.run_bind] at e
  cases hs : s.run P w with
  | ok u w1 => exact h w u w1 hs
  | halt m w1 => rw [hs] at e; cases e
theorem Fails.bind_right {s : Sem α} {f : α → Sem β} (h : ∀ u, Fails P (f u)) : Fails P (s >>= f) := fun w v w' e => by
  rw [Sem.run_bind] at e
  cases hs : s.run P w with
  | ok u w1 => rw [hs] at e; exact h u w1 v w' e
  | halt m w1 => rw [hs] at e; cases e
theorem Steady.pure (v : α) : Steady P (Pure.pure v : Sem α) := .inl ⟨v, fun w => rfl⟩
theorem Steady.halt (m : Halt) : Steady P (.halt m : Sem α) := .inr fun w v w' e => by cases e
theorem Steady.bind {s : Sem α} {f : α → Sem β} (h : Steady P s) (h2 : ∀ u, Steady P (f u)) : Steady P (s >>= f) := by
  rcases h with ⟨u, hu⟩ | h
  · rcases h2 u with ⟨v, hv⟩ | h2
    · exact .inl ⟨v, fun w => by rw [Sem.run_bind, hu w]; exact hv w⟩
    · exact .inr fun w v w' e => by
        rw [Sem.run_bind, hu w] at e; exact h2 w v w' e
  · exact .inr (h.bind_left f)
theorem fails_panic (v : Value) : Fails P (goPanic v : Sem α) := fun w u w' e => by cases e
theorem fails_rt (x y : Int) (b : Bool) (c : BoundsCode) : Fails P (runtimePanic (.bounds x y b c) : Sem α) := by
  unfold runtimePanic
  exact Fails.bind_right fun p => fails_panic _
theorem fails_bounds (k : IntKind) (x y : Int) (c : BoundsCode) : Fails P (boundsPanic k x y c : Sem α) := by
  unfold boundsPanic
  dsimp only
  split
  · exact Fails.bind_right fun u => fails_rt _ _ _ _
  · exact Fails.bind_right fun u => fails_rt _ _ _ _
theorem steady_int (x : Value) : Steady P (asIntOf x) := by
  unfold asIntOf
  split
  · exact Steady.pure _
  · exact Steady.halt _
  · exact Steady.halt _
theorem steady_bound (x : Value) (y : Nat) (c : BoundsCode) : Steady P (Instr.sliceBound x y c) := by
  unfold Instr.sliceBound
  refine (steady_int x).bind fun u => ?_
  dsimp only
  split
  · exact Steady.pure _
  · exact .inr (fails_bounds _ _ _ _)
theorem steady_bounds (b : Bool) (n c : Nat) (lo hi mx : Option Value) : Steady P (Instr.sliceBounds b n c lo hi mx) := by
  unfold Instr.sliceBounds
  cases lo <;> cases hi <;> cases mx <;> dsimp only <;>
    repeat (first | exact Steady.pure _ | exact Steady.halt _ | exact steady_bound _ _ _ | refine Steady.bind ?_ fun _ => ?_)
theorem steady_under (t : TypeId) : Steady P (underlying t) := by
  unfold underlying
  refine Steady.bind (.inl ⟨P, fun w => rfl⟩) fun p => ?_
  split
  · exact Steady.pure _
  · exact Steady.halt _
theorem steady_size (t : TypeId) : Steady P (sizeOf t) := by
  unfold sizeOf typeInfo
  refine Steady.bind (Steady.bind (.inl ⟨P, fun w => rfl⟩) fun p => ?_) fun i => Steady.pure _
  split
  · exact Steady.pure _
  · exact Steady.halt _
theorem steady_slice {t e : TypeId} (ht : P.underlying t = some (.slice e)) (x : Value) (lo hi mx : Option Value) : Steady P (Instr.sliceAt t x lo hi mx) := by
  have hu : ∀ w, (underlying t).run P w = .ok (.slice e) w := fun w => by unfold underlying; simp [ht, go_sem]
  have key : Steady P (Instr.slice t x lo hi mx) := by
    unfold Instr.slice
    have hs : ∀ f : TypeDesc → Sem Value, Steady P (f (.slice e)) → Steady P (underlying t >>= f) := fun f h => by
      rcases h with ⟨v, hv⟩ | h
      · exact .inl ⟨v, fun w => by rw [Sem.run_bind, hu w]; exact hv w⟩
      · exact .inr fun w v w' e => by rw [Sem.run_bind, hu w] at e; exact h w v w' e
    refine hs _ ?_
    cases x with
    | slice a n c => exact (steady_bounds _ _ _ _ _ _).bind fun u => (steady_size _).bind fun s => Steady.pure _
    | _ => exact Steady.halt _
  unfold Instr.sliceAt
  rcases key with ⟨v, hv⟩ | h
  · exact .inl ⟨v, fun w => by rw [Sem.run_bind, hu w]; exact hv w⟩
  · exact .inr fun w v w' e => by rw [Sem.run_bind, hu w] at e; exact h w v w' e
theorem slice_yields {ops : Array Oper} {Q : Exit → Act → World → Prop} {oe : Oper} {t e : TypeId} {x : Operand} {lo hi mx : Option Operand} (ht : P.underlying t = some (.slice e)) (hop : oe.op = .slice t x lo hi mx) (hg : oe.guard = none) {i : Nat} (he : ops[i]? = some oe) (a : Act) (w : World) (K : Act → World → Prop)
    (h : wpOp P ops (Only Q) i K a w) : ∃ v, Yields P ops oe v a ∧ K (a.put oe.dst v) w := by
  have hw : Region.wanted oe (yielded ops a.tmps) = true := by unfold Region.wanted; rw [hg]
  unfold wpOp at h
  simp only [he, hw, if_true] at h
  have h1 : oe.wp P a w K (Only Q) := h.resolve_right fun h => only_lets h.2
  have hr : (∃ v, ∀ w, (execOp a.eval oe).run P w = .ok (.value v) w) ∨ ∀ w, ∃ m w', (execOp a.eval oe).run P w = .halt m w' := by
    have h0 : ∀ w, (execOp a.eval oe).run P w = (do let v ← Instr.sliceAt t (a.eval x) (lo.map a.eval) (hi.map a.eval) (mx.map a.eval); pure (Next.value v) : Sem Next).run P w := fun w => by unfold execOp; rw [hop]
    simp only [h0]
    rcases steady_slice ht (a.eval x) (lo.map a.eval) (hi.map a.eval) (mx.map a.eval) with ⟨v, hv⟩ | hf
    · exact .inl ⟨v, fun w => by rw [Sem.run_bind, hv w]; rfl⟩
    · refine .inr fun w => ?_
      rw [Sem.run_bind]
      cases hs : (Instr.sliceAt t (a.eval x) (lo.map a.eval) (hi.map a.eval) (mx.map a.eval)).run P w with
      | ok u w1 => exact absurd hs (hf w u w1)
      | halt m w1 => exact ⟨m, w1, rfl⟩
  rcases hr with ⟨v, hv⟩ | hr
  · refine ⟨v, .inl ⟨hw, hv⟩, ?_⟩
    unfold Oper.wp at h1
    rw [hv w] at h1; exact h1
  · obtain ⟨m, w', hm⟩ := hr w
    unfold Oper.wp at h1
    rw [hm] at h1
    cases m with
    | panic v => exact absurd h1.1 (by simp)
    | _ => exact h1.elim
end
/-- A region that draws in which an operation that yields a fixed value may wait, and another wait for it. -/
theorem wp_region_Ry {P : Program} {id : Nat} {Q : Exit → Act → World → Prop} {a : Act} {w : World} {l l' : List Oper} (s e : Nat) {os oe : Oper} (hos : l[s]? = some os) (hoe : l[e]? = some oe) (hl : l' = l.set s (bound os e)) 
    (hy : ∀ (a : Act) (w : World) (K : Act → World → Prop), wpOp P l.toArray (Only Q) e K a w → ∃ v, Yields P l.toArray oe v a ∧ K (a.put oe.dst v) w)
    (hC : ((e != s) && Region.noSelect l.toArray && freeB .any l.toArray e oe && (oe.after.all fun x => !Region.binds .any x || os.after.any fun y => Region.binds .any y && y.on == x.on)) = true)
    (ps : List (Nat × (Value → World → Prop))) (hs : List Nat) (g : Nat) (hm : P.follows .mixedOrders = true)
    (hn : hs.length + g = l'.length) (hkeep : ∀ x ∈ ps, Keeps x.2)
    (hB : (groupB .any l'.toArray (Array.replicate l'.length false) hs && pairsB .any l'.toArray ((ps.map (·.1)).contains ·) hs && plainsB l'.toArray ((ps.map (·.1)).contains ·) hs) = true)
    (h : wpS P .any l'.toArray w ((ps.map (·.1)).contains ·) (pOf ps) (fun Γ' a' => ∀ w', All w (pOf ps) Γ' w' → wpAny P .any l'.toArray (Only Q) g (mark hs (Array.replicate l'.length false)) a' w') (numbered l'.toArray hs) (fun _ => none) a) :
    (Code.region id l.toArray true).wp P Q a w := by
  have hl2 : late l.toArray s os e = l'.toArray := by rw [hl]; unfold late; simp
  have hlen : l'.length = l.length := by rw [hl]; simp
  simp only [Bool.and_eq_true, bne_iff_ne] at hC
  obtain ⟨⟨⟨hse, hsel⟩, hfree⟩, hdeps⟩ := hC
  refine wp_region_any hm (wpAny_only ?_)
  refine wpAny_late (ops := l.toArray) (s := s) (e := e) (os := os) (oe := oe) (by simpa using hos) (by simpa using hoe) hse hsel (fun x hx hb => ?_) (by simpa using hfree) hy (by simp) ?_
  · have h1 := Array.all_eq_true'.1 hdeps x hx
    simp only [hb, Bool.not_true, Bool.false_or] at h1
    obtain ⟨y, hy, hb2⟩ := Array.any_eq_true'.1 h1
    simp only [Bool.and_eq_true, beq_iff_eq] at hb2
    exact ⟨y, hy, hb2.1, hb2.2⟩
  · rw [hl2]
    have h2 := wpR_of_wpS (fun k hk => by
      simp only [groupB, Bool.and_eq_true] at hB
      obtain ⟨_, hmem, _⟩ := orderB_spec hB.1.1.2
      exact (hmem k hk).2.2) h
    have := wpAny_R (P := P) (Q := Only Q) (w0 := w) (w := w.drew) (a := a) (ps.map (·.1)) hs g (pOf_keeps hkeep) hB (Below.refl _ w).drew h2
    rw [hn, hlen] at this
    simpa using this
end Go.Pb
