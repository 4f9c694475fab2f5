/- From a walk to a law's row: arguments that are all int64 cells are opened; a law that leaves what was there as it was meets its row. -/
import Derived.Test.YtcadbcmldlammaaLib
import Derived.ProofKit
import Derived.OpenShut
namespace Go.Pb
open Go.RowKit Go.ChangeShapes Go.WideShapes Go.ChangeAt

/-- A type all of whose cells are int64s. -/
def flatI (P : Program) : Nat → TypeId → Bool
  | 0, _ => false
  | n + 1, t => match P.underlying t with
    | some (.int .i64) => P.cellsOf t == 1
    | some (.struct fs) => (List.range (P.cellsOf t)).all fun i => (List.range fs.size).any fun j => match fs[j]? with
      | some f => decide (f.offset ≤ i) && decide (i < f.offset + P.cellsOf f.type) && flatI P n f.type
      | none => false
    | some (.array m e) => flatI P n e && (List.range (P.cellsOf t)).all fun i => (List.range m).any fun j => decide (j * P.cellsOf e ≤ i) && decide (i < j * P.cellsOf e + P.cellsOf e)
    | _ => false

def IsInt (c : Value) : Prop := ∃ k : Int, c = .int .i64 k ∧ (Lit.int .i64 k).wf = true

section
variable {H : Type} {enc : TypeId × Value → H} {P : Program} {w : World} {base : Nat} {spare : Nat → Bool} {held : Bool}

theorem flat_cells : ∀ (n : Nat) {t : TypeId} {fuel : Nat} {cs : List Value} {x : DataW H × List MemPlace}, flatI P n t = true → DataW.trod enc P w base spare held fuel t cs = some x →
    cs.length = P.cellsOf t ∧ ∀ (i : Nat) (c : Value), cs[i]? = some c → IsInt c
  | 0, _, _, _, _, h, _ => by simp [flatI] at h
  | n + 1, t, fuel, cs, x, h, ht => by
    unfold flatI at h
    cases hu : P.underlying t with
    | none => simp [hu] at h
    | some u =>
      simp only [hu] at h
      split at h
      · rename_i heq
        cases heq
        obtain ⟨k, rfl, _, hw⟩ := DataW.trod_int hu ht
        refine ⟨by have := beq_iff_eq.1 h; simp [this], fun i c hc => ?_⟩
        cases i with
        | zero => simp at hc; exact ⟨k, hc.symm, hw⟩
        | succ i => simp at hc
      · rename_i fs heq
        cases heq
        obtain ⟨xs, m, _, _, hlen, hxl, hf⟩ := DataW.trod_struct hu ht
        refine ⟨hlen, fun i c hc => ?_⟩
        have hi : i < P.cellsOf t := by
          rw [← hlen]
          rcases Nat.lt_or_ge i cs.length with h' | h'
          · exact h'
          · simp [List.getElem?_eq_none h'] at hc
        obtain ⟨j, hj, hb⟩ := List.any_eq_true.1 (List.all_eq_true.1 h i (List.mem_range.2 hi))
        have hjs := List.mem_range.1 hj
        have hfj : fs[j]? = some fs[j] := Array.getElem?_eq_getElem hjs
        rw [hfj] at hb
        simp only [Bool.and_eq_true, decide_eq_true_eq] at hb
        obtain ⟨⟨h1, h2⟩, h3⟩ := hb
        have h4 := hf j fs[j] hfj
        have h5 : xs[j]? = some (xs[j]'(by omega)) := List.getElem?_eq_getElem (by omega)
        rw [h5] at h4
        obtain ⟨_, h6⟩ := flat_cells n h3 h4
        refine h6 (i - fs[j].offset) c ?_
        rw [List.getElem?_take, if_pos (by omega), List.getElem?_drop, show fs[j].offset + (i - fs[j].offset) = i by omega]
        exact hc
      · rename_i m e heq
        cases heq
        simp only [Bool.and_eq_true] at h
        obtain ⟨xs, m', _, _, hlen, hxl, hf⟩ := DataW.trod_array hu ht
        refine ⟨hlen, fun i c hc => ?_⟩
        have hi : i < P.cellsOf t := by
          rw [← hlen]
          rcases Nat.lt_or_ge i cs.length with h' | h'
          · exact h'
          · simp [List.getElem?_eq_none h'] at hc
        obtain ⟨j, hj, hb⟩ := List.any_eq_true.1 (List.all_eq_true.1 h.2 i (List.mem_range.2 hi))
        have hjs := List.mem_range.1 hj
        simp only [Bool.and_eq_true, decide_eq_true_eq] at hb
        have h4 := hf j hjs
        have h5 : xs[j]? = some (xs[j]'(by omega)) := List.getElem?_eq_getElem (by omega)
        rw [h5] at h4
        obtain ⟨_, h6⟩ := flat_cells n h.1 h4
        refine h6 (i - j * P.cellsOf e) c ?_
        rw [List.getElem?_take, if_pos (by omega), List.getElem?_drop, show j * P.cellsOf e + (i - j * P.cellsOf e) = i by omega]
        exact hc
      · cases h

theorem ints_of : ∀ (cs : List Value), (∀ (i : Nat) (c : Value), cs[i]? = some c → IsInt c) → ∃ zs : List Int, cs = zs.map (Value.int .i64) ∧ ∀ z ∈ zs, (Lit.int .i64 z).wf = true
  | [], _ => ⟨[], rfl, by simp⟩
  | c :: cs, h => by
    obtain ⟨k, hk, hw⟩ := h 0 c rfl
    obtain ⟨zs, hz, hzw⟩ := ints_of cs fun i c hc => h (i + 1) c (by simpa using hc)
    exact ⟨k :: zs, by simp [hk, hz], by simpa using ⟨hw, hzw⟩⟩

/-- An argument of a struct type all of whose cells are int64s. -/
theorem open_flat {r : Reach} {b0 : Nat} {n : Nat} {t : TypeId} {fs : Array Field} {v : Value} {d : DataW H} {p : List MemPlace} (hu : P.underlying t = some (.struct fs)) (hfl : flatI P n t = true)
    (hv : Value.okWide P w r b0 t v) (h : DataW.Trod enc P w base spare held t v d p) :
    ∃ zs : List Int, zs.length = P.cellsOf t ∧ v = .agg (zs.map (Value.int .i64)).toArray ∧ ∀ z ∈ zs, (Lit.int .i64 z).wf = true := by
  obtain ⟨cs, rfl, hsz⟩ := okWide_struct hu hv
  obtain ⟨fuel, hf⟩ := h
  obtain ⟨_, hc⟩ := flat_cells n hfl hf
  obtain ⟨zs, hz, hw⟩ := ints_of cs.toList (by simpa [Value.cells] using hc)
  refine ⟨zs, ?_, ?_, hw⟩
  · have := congrArg List.length hz; simp at this; omega
  · rw [← hz]
theorem okWide_array {r : Reach} {b0 : Nat} {t e : TypeId} {m : Nat} {v : Value} (ht : P.underlying t = some (.array m e)) (h : Value.okWide P w r b0 t v) : ∃ cs, v = .agg cs ∧ cs.size = P.cellsOf t := by
  simp only [Value.okWide, ht] at h
  obtain ⟨cs, h1, h2, _⟩ := h
  exact ⟨cs, h1, h2⟩
theorem open_flat_array {r : Reach} {b0 : Nat} {n m : Nat} {t e : TypeId} {v : Value} {d : DataW H} {p : List MemPlace} (hu : P.underlying t = some (.array m e)) (hfl : flatI P n t = true)
    (hv : Value.okWide P w r b0 t v) (h : DataW.Trod enc P w base spare held t v d p) :
    ∃ zs : List Int, zs.length = P.cellsOf t ∧ v = .agg (zs.map (Value.int .i64)).toArray ∧ ∀ z ∈ zs, (Lit.int .i64 z).wf = true := by
  obtain ⟨cs, rfl, hsz⟩ := okWide_array hu hv
  obtain ⟨fuel, hf⟩ := h
  obtain ⟨_, hc⟩ := flat_cells n hfl hf
  obtain ⟨zs, hz, hw⟩ := ints_of cs.toList (by simpa [Value.cells] using hc)
  refine ⟨zs, ?_, ?_, hw⟩
  · have := congrArg List.length hz; simp at this; omega
  · rw [← hz]

theorem trodAll_below (hl : laidOutB P = true) {W W' : World} (hb : Below W.heap.size W W') : ∀ {ts : List TypeId} {vs : List Value} {ds : List (DataW H)} {ps : List MemPlace},
    (ts.all fun t => P.readableRec t && decide (t < P.types.size)) = true → DataW.TrodAll enc P W 0 (fun _ => true) true ts vs ds ps → (∀ x ∈ ps, x.block < W.heap.size) →
    DataW.TrodAll enc P W' 0 (fun b => decide (b < W.heap.size)) true ts vs ds ps
  | [], [], [], _, _, h, _ => h
  | t :: ts, v :: vs, d :: ds, ps, hr, h, hlt => by
    obtain ⟨p, q, h1, h2, rfl⟩ := h
    simp only [List.all_cons, Bool.and_eq_true, decide_eq_true_eq] at hr
    exact ⟨p, q, Below.trod hl hr.1.1 hr.1.2 h1 hb (fun x hx => hlt x (by simp [hx])), trodAll_below hl hb hr.2 h2 (fun x hx => hlt x (by simp [hx])), rfl⟩
  | [], [], _ :: _, _, _, h, _ => h.elim
  | [], _ :: _, _, _, _, h, _ => by cases h
  | _ :: _, [], _, _, _, h, _ => by cases h
  | _ :: _, _ :: _, [], _, _, h, _ => by cases h

/-- A LAW's POST: true; what was there is as it was. -/
theorem law_post {f : Func} {s : ChangeSpec} {W W' : World} {args : Array Value} {ds gs : List (DataW H)} {before : List MemPlace} {tb : TypeId}
    (hl : laidOutB P = true) (hr : (f.params.toList.all fun t => P.readableRec t && decide (t < P.types.size)) = true) (hvars : s.vars = [])
    (hfn : ∀ ds : List (DataW H), ds.length = f.params.size → s.fn H ds = { results := [.lit (.bool true)], args := ds })
    (hres : f.resultTypes = #[tb]) (htb : P.underlying tb = some .bool)
    (hW : DataW.Whole enc P f.params.toList s.vars false W args.toList ds gs before) (hb : Below W.heap.size W W') :
    s.post enc P f false true false false W args (.bool true) W' := by
  have hW' := hW
  obtain ⟨p, q, hA, hV, rfl, hfz, hnd⟩ := hW
  rw [hvars] at hV
  obtain ⟨rfl, rfl⟩ := trodVars_none hV
  have hlen : ∀ {ts : List TypeId} {vs : List Value} {ds : List (DataW H)} {ps : List MemPlace}, DataW.TrodAll enc P W 0 (fun _ => true) true ts vs ds ps → ds.length = ts.length := by
    intro ts
    induction ts with
    | nil => intro vs ds ps h; cases vs <;> cases ds <;> first | rfl | exact h.elim
    | cons t ts ih =>
      intro vs ds ps h
      cases vs with
      | nil => cases ds <;> exact h.elim
      | cons v vs => cases ds with
        | nil => exact h.elim
        | cons d ds => obtain ⟨_, _, _, h2, _⟩ := h; simp [ih h2]
  have hfn' := hfn ds (by rw [hlen hA]; simp)
  have hlt : ∀ x ∈ p, x.block < W.heap.size := fun x hx => by simpa using hW'.lt x (by simpa using hx)
  refine ⟨ds, [], p ++ [], [], p, [], hW', ?_, ?_, ?_, hb.frame _, fun h => by cases h⟩
  · simp only [List.append_nil, hfn', hres]
    exact trodAll_mk1 (shut_bool htb _)
  · simp only [List.append_nil, hfn']
    exact trodAll_below hl hb hr hA hlt
  · simp only [List.append_nil, hfn', hvars]; rfl
end
end Go.Pb
