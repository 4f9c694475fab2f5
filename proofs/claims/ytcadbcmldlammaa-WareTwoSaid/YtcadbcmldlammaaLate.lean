/- In a region that draws: an operation that yields a fixed value may be bound ahead of another. -/
import Derived.Test.YtcadbcmldlammaaLib2
namespace Go.Pb
set_option linter.unusedVariables false
open Go Go.RowKit
section
variable {P : Program} {ops : Array Oper} {Q : Exit → Act → World → Prop}
/-- Only the normal end. -/
def Only (Q : Exit → Act → World → Prop) : Exit → Act → World → Prop := fun e a w => e = .normal ∧ Q .normal a w
theorem only_lets (h : LetsOut (Only Q)) : False := by obtain ⟨a, w, h, _⟩ := h; cases h
theorem upon_only {o : Oper} {a : Act} {K : Act → World → Prop} {r : Result Next} (h : o.upon P a K (Only Q) r) : o.upon P a K Q r := by
  rcases r with ⟨n, w'⟩ | ⟨hh, w'⟩
  · cases n with
    | value v => exact h
    | skip => exact h
    | defer d => exact h
    | enter f args =>
      refine Calls.mono (show Calls P f args w' _ from h) fun e w'' h2 => ?_
      cases e with
      | returned v => exact h2
      | panicked c => exact absurd h2.1 (by simp)
      | outgrown => exact (only_lets h2).elim
    | row row args => exact h
    | _ => exact h
  · cases hh with
    | panic v => exact absurd h.1 (by simp)
    | _ => exact h
theorem wpOp_only {i : Nat} {K : Act → World → Prop} {a : Act} {w : World} (h : wpOp P ops (Only Q) i K a w) : wpOp P ops Q i K a w := by
  unfold wpOp at *
  cases ho : ops[i]? with
  | none => simpa [ho] using h
  | some o =>
    simp only [ho] at h ⊢
    split at h
    · rename_i hw
      rw [if_pos hw]
      rcases h with h | ⟨_, h⟩
      · exact .inl (upon_only h)
      · exact (only_lets h).elim
    · rename_i hw
      rw [if_neg hw]; exact h
theorem wpAny_only {md : Region.Mode} : ∀ {n : Nat} {L : Array Bool} {a : Act} {w : World}, wpAny P md ops (Only Q) n L a w → wpAny P md ops Q n L a w
  | 0, _, _, _, h => ⟨h.1, h.2.2⟩
  | n + 1, _, _, _, h => ⟨fun hr => (h.1 hr).2, fun i hi => wpOp_only (wpOp_mono (fun _ _ h => wpAny_only h) (h.2 i hi))⟩
/-- The operation waits for one more. -/
def bound (o : Oper) (e : Nat) : Oper := { o with after := o.after.push { on := e, ground := .data } }
def late (ops : Array Oper) (s : Nat) (os : Oper) (e : Nat) : Array Oper := ops.setIfInBounds s (bound os e)
theorem late_ne {s e i : Nat} {os : Oper} (h : i ≠ s) : (late ops s os e)[i]? = ops[i]? := by unfold late; rw [Array.getElem?_setIfInBounds_ne (Ne.symm h)]
theorem late_at {s e : Nat} {os : Oper} (h : ops[s]? = some os) : (late ops s os e)[s]? = some (bound os e) := by
  have : s < ops.size := (Array.getElem?_eq_some_iff.1 h).1
  unfold late; rw [Array.getElem?_setIfInBounds_self_of_lt this]
theorem late_yielded {s e : Nat} {os : Oper} (h : ops[s]? = some os) (t : Array Value) : yielded (late ops s os e) t = yielded ops t := by
  funext j
  unfold yielded
  by_cases hj : j = s
  · subst hj; rw [late_at h, h]; rfl
  · rw [late_ne hj]
theorem late_op {s e i : Nat} {os : Oper} (h : ops[s]? = some os) {K : Act → World → Prop} {a : Act} {w : World} (hh : wpOp P (late ops s os e) Q i K a w) : wpOp P ops Q i K a w := by
  unfold wpOp at *
  rw [late_yielded h] at hh
  by_cases hi : i = s
  · subst hi
    rw [late_at h] at hh
    rw [h]
    exact hh
  · rw [late_ne hi] at hh; exact hh
theorem late_ready {md : Region.Mode} {s e i : Nat} {os : Oper} (h : ops[s]? = some os) {L : Array Bool} (hi : i ∈ Region.ready md (late ops s os e) L) : i ∈ Region.ready md ops L := by
  obtain ⟨h1, o, ho, h2⟩ := mem_ready.1 hi
  by_cases hs : i = s
  · subst hs
    rw [late_at h] at ho
    obtain rfl : bound os e = o := by simpa using ho
    exact mem_ready.2 ⟨h1, os, h, fun x hx => h2 x (by unfold bound; exact Array.mem_push.2 (.inl hx))⟩
  · rw [late_ne hs] at ho
    exact mem_ready.2 ⟨h1, o, ho, h2⟩
theorem ready_late {md : Region.Mode} {s e i : Nat} {os : Oper} (h : ops[s]? = some os) {L : Array Bool} (hi : i ∈ Region.ready md ops L) (hse : i ≠ s ∨ L.getD e false = true) : i ∈ Region.ready md (late ops s os e) L := by
  obtain ⟨h1, o, ho, h2⟩ := mem_ready.1 hi
  by_cases hs : i = s
  · subst hs
    rw [h] at ho
    obtain rfl : os = o := by simpa using ho
    refine mem_ready.2 ⟨h1, bound os e, late_at h, fun x hx hb => ?_⟩
    unfold bound at hx
    rcases Array.mem_push.1 hx with hx | rfl
    · exact h2 x hx hb
    · exact hse.resolve_left (fun h => h rfl)
  · exact mem_ready.2 ⟨h1, o, by rw [late_ne hs]; exact ho, h2⟩
/-- Whatever is still open when e may come up waits for it or is apart from it. -/
def freeB (md : Region.Mode) (ops : Array Oper) (e : Nat) (oe : Oper) : Bool := (List.range ops.size).all fun j => j == e || oe.after.any (fun x => Region.binds md x && x.on == j) || match ops[j]? with
  | some oj => oj.after.any (fun x => Region.binds md x && x.on == e) || oe.apart ops oj
  | none => true
theorem freeB_spec {md : Region.Mode} {e : Nat} {oe : Oper} {L : Array Bool} (he : ops[e]? = some oe) (h : freeB md ops e oe = true) (hr : e ∈ Region.ready md ops L) (j : Nat) (oj : Oper) (hj : ops[j]? = some oj) (hne : j ≠ e) (hun : L.getD j true = false)
    (hno : ∀ x ∈ oj.after, Region.binds md x = true → x.on ≠ e) : oe.apart ops oj = true := by
  obtain ⟨_, o, ho, h2⟩ := mem_ready.1 hr
  rw [he] at ho
  obtain rfl : oe = o := by simpa using ho
  have h1 := List.all_eq_true.1 h j (List.mem_range.2 (Array.getElem?_eq_some_iff.1 hj).1)
  simp only [hj, Bool.or_eq_true, beq_iff_eq, hne, false_or] at h1
  rcases h1 with h1 | h1 | h1
  · obtain ⟨x, hx, hb⟩ := Array.any_eq_true'.1 h1
    simp only [Bool.and_eq_true, beq_iff_eq] at hb
    have h3 := h2 x hx hb.1
    rw [hb.2] at h3
    rcases Nat.lt_or_ge j L.size with h' | h'
    · simp [h'] at hun h3; rw [hun] at h3; cases h3
    · simp [Array.getElem?_eq_none h'] at h3
  · obtain ⟨x, hx, hb⟩ := Array.any_eq_true'.1 h1
    simp only [Bool.and_eq_true, beq_iff_eq] at hb
    exact absurd hb.2 (hno x hx hb.1)
  · exact h1
theorem wpAny_late {md : Region.Mode} {s e : Nat} {os oe : Oper} (hs : ops[s]? = some os) (he : ops[e]? = some oe) (hse : e ≠ s) (hsel : Region.noSelect ops = true)
    (hdeps : ∀ x ∈ oe.after, Region.binds md x = true → ∃ y ∈ os.after, Region.binds md y = true ∧ y.on = x.on)
    (hfree : freeB md ops e oe = true)
    (hy : ∀ (a : Act) (w : World) (K : Act → World → Prop), wpOp P ops (Only Q) e K a w → ∃ v, Yields P ops oe v a ∧ K (a.put oe.dst v) w) :
    ∀ {n : Nat} {L : Array Bool} {a : Act} {w : World}, L.size = ops.size → wpAny P md (late ops s os e) (Only Q) n L a w → wpAny P md ops (Only Q) n L a w := by
  have hes : e < ops.size := (Array.getElem?_eq_some_iff.1 he).1
  have key : ∀ {L : Array Bool}, L.size = ops.size → s ∈ Region.ready md ops L → L.getD e false = true ∨ e ∈ Region.ready md ops L := by
    intro L hL h
    obtain ⟨h1, o, ho, h2⟩ := mem_ready.1 h
    rw [hs] at ho
    obtain rfl : os = o := by simpa using ho
    cases hle : L.getD e false
    · refine .inr (mem_ready.2 ⟨?_, oe, he, fun x hx hb => ?_⟩)
      · have hlt : e < L.size := by omega
        simp [hlt] at hle ⊢; exact hle
      · obtain ⟨y, hy1, hy2, hy3⟩ := hdeps x hx hb
        rw [← hy3]; exact h2 y hy1 hy2
    · exact .inl rfl
  intro n
  induction n with
  | zero =>
    intro L a w hL h
    refine ⟨?_, h.2⟩
    refine List.eq_nil_iff_forall_not_mem.2 fun i hi => ?_
    have hno : ∀ i, i ∉ Region.ready md (late ops s os e) L := fun i => by rw [h.1]; simp
    by_cases his : i = s
    · subst his
      rcases key hL hi with h3 | h3
      · exact hno i (ready_late hs hi (.inr h3))
      · exact hno e (ready_late hs h3 (.inl hse))
    · exact hno i (ready_late hs hi (.inl his))
  | succ n ih =>
    intro L a w hL h
    by_cases hr : e ∈ Region.ready md ops L
    · have h1 := late_op hs (h.2 e (ready_late hs hr (.inl hse)))
      obtain ⟨v, hv, hk⟩ := hy a w _ h1
      refine wpAny_first he (Region.noSelect_spec hsel) (fun c a w h => by cases h.1) n L a w (fun j oj hj hne hun hno => ?_) hr hv (ih (by simpa using hL) hk)
      exact freeB_spec he hfree hr j oj hj hne hun hno
    · refine ⟨fun h0 => h.1 (List.eq_nil_iff_forall_not_mem.2 fun i hi => by have := late_ready hs hi; rw [h0] at this; cases this), fun i hi => ?_⟩
      have hi2 : i ∈ Region.ready md (late ops s os e) L := by
        by_cases his : i = s
        · subst his
          rcases key hL hi with h3 | h3
          · exact ready_late hs hi (.inr h3)
          · exact absurd h3 hr
        · exact ready_late hs hi (.inl his)
      exact wpOp_mono (fun a' w' h => ih (by simpa using hL) h) (late_op hs (h.2 i hi2))
theorem extract_yields {oe : Oper} {t : Operand} {ix : Nat} (hop : oe.op = .extract t ix) (hg : oe.guard = none) {e : Nat} (he : ops[e]? = some oe) (a : Act) (w : World) (K : Act → World → Prop)
    (h : wpOp P ops (Only Q) e K a w) : ∃ v, Yields P ops oe v a ∧ K (a.put oe.dst v) w := by
  have hw : Region.wanted oe (yielded ops a.tmps) = true := by unfold Region.wanted; rw [hg]
  unfold wpOp at h
  simp only [he, hw, if_true] at h
  have h1 : oe.wp P a w K (Only Q) := h.resolve_right fun h => only_lets h.2
  have hr : (∃ v, ∀ w, (execOp a.eval oe).run P w = .ok (.value v) w) ∨ ∀ w, ∃ m, (execOp a.eval oe).run P w = .halt m w ∧ ∀ v, m ≠ .panic v := by
    have h0 : ∀ w, (execOp a.eval oe).run P w = (do let v ← Instr.extract (a.eval t) ix; pure (Next.value v) : Sem Next).run P w := fun w => by unfold execOp; rw [hop]
    simp only [h0]
    generalize a.eval t = x
    unfold Instr.extract
    cases x with
    | tuple vs =>
      cases hx : vs[ix]? with
      | some v => exact .inl ⟨v, fun w => by simp [hx, go_sem]⟩
      | none => exact .inr fun w => ⟨.stuck "Extract: no such component", by simp [hx, go_sem], fun v h => by cases h⟩
    | _ => exact .inr fun w => ⟨.stuck "Extract: tuple expected", by simp [go_sem], fun v h => by cases h⟩
  rcases hr with ⟨v, hv⟩ | hr
  · refine ⟨v, .inl ⟨hw, hv⟩, ?_⟩
    unfold Oper.wp at h1
    rw [hv w] at h1; exact h1
  · obtain ⟨m, hm, hne⟩ := hr w
    unfold Oper.wp at h1
    rw [hm] at h1
    cases m with
    | panic v => exact absurd rfl (hne v)
    | _ => exact h1.elim
end
/-- A region that draws and stores what a call returned, with a second result that is taken out at any time. -/
theorem wp_region_Rl {P : Program} {id : Nat} {Q : Exit → Act → World → Prop} {a : Act} {w : World} {l l' : List Oper} (s e : Nat) {os oe : Oper} {t : Operand} {ix : Nat} (hos : l[s]? = some os) (hoe : l[e]? = some oe) (hl : l' = l.set s (bound os e)) (hop : oe.op = .extract t ix) (hg : oe.guard = none)
    (hC : ((e != s) && Region.noSelect l.toArray && freeB .any l.toArray e oe && (oe.after.all fun x => !Region.binds .any x || os.after.any fun y => Region.binds .any y && y.on == x.on)) = true)
    (ps : List (Nat × (Value → World → Prop))) (hs : List Nat) (g : Nat) (hm : P.follows .mixedOrders = true)
    (hn : hs.length + g = l'.length) (hkeep : ∀ x ∈ ps, Keeps x.2)
    (hB : (groupB .any l'.toArray (Array.replicate l'.length false) hs && pairsB .any l'.toArray ((ps.map (·.1)).contains ·) hs && plainsB l'.toArray ((ps.map (·.1)).contains ·) hs) = true)
    (h : wpS P .any l'.toArray w ((ps.map (·.1)).contains ·) (pOf ps) (fun Γ' a' => ∀ w', All w (pOf ps) Γ' w' → wpAny P .any l'.toArray (Only Q) g (mark hs (Array.replicate l'.length false)) a' w') (numbered l'.toArray hs) (fun _ => none) a) :
    (Code.region id l.toArray true).wp P Q a w := by
  have hl2 : late l.toArray s os e = l'.toArray := by rw [hl]; unfold late; simp
  have hlen : l'.length = l.length := by rw [hl]; simp
  simp only [Bool.and_eq_true, bne_iff_ne] at hC
  obtain ⟨⟨⟨hse, hsel⟩, hfree⟩, hdeps⟩ := hC
  refine wp_region_any hm (wpAny_only ?_)
  refine wpAny_late (ops := l.toArray) (s := s) (e := e) (os := os) (oe := oe) (by simpa using hos) (by simpa using hoe) hse hsel (fun x hx hb => ?_) (by simpa using hfree) (fun a w K h => extract_yields hop hg (by simpa using hoe) a w K h) (by simp) ?_
  · have h1 := Array.all_eq_true'.1 hdeps x hx
    simp only [hb, Bool.not_true, Bool.false_or] at h1
    obtain ⟨y, hy, hb2⟩ := Array.any_eq_true'.1 h1
    simp only [Bool.and_eq_true, beq_iff_eq] at hb2
    exact ⟨y, hy, hb2.1, hb2.2⟩
  · rw [hl2]
    have h2 := wpR_of_wpS (fun k hk => by
      simp only [groupB, Bool.and_eq_true] at hB
      obtain ⟨_, hmem, _⟩ := orderB_spec hB.1.1.2
      exact (hmem k hk).2.2) h
    have := wpAny_R (P := P) (Q := Only Q) (w0 := w) (w := w.drew) (a := a) (ps.map (·.1)) hs g (pOf_keeps hkeep) hB (Below.refl _ w).drew h2
    rw [hn, hlen] at this
    simpa using this
end Go.Pb
