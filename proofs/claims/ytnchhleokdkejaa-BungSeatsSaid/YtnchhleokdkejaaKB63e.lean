/- BungWithout returns true. -/
import Derived.Test.YtnchhleokdkejaaKB32e
import Derived.Test.YtnchhleokdkejaaKW20e
import Derived.Test.YtnchhleokdkejaaKTge
import Derived.Deep.LoopGhost
import Derived.Deep.CutBlock
import Derived.Test.YtnchhleokdkejaaKBee
import Derived.Test.YtnchhleokdkejaaKSue
import Derived.Test.YtnchhleokdkejaaKSce
namespace Go.Proofs.Ytnchhleokdkejaa
open Go.RowKit Go.Pb Go.Pb.Ware Go.Pb.Sag
set_option linter.unusedVariables false
set_option linter.unusedSimpArgs false

open Go.Proofs Go.Pb.Bung
/-- A new block of these cells. -/
def NewObj (B0 : Nat) (cs : Array Value) (T : TypeId) (v : Value) (W : World) : Prop := ∃ B, B0 ≤ B ∧ v = .pointer (some ⟨B, 0, none⟩) ∧ W.heap[B]? = some (.cells cs T (0, 0))
theorem keeps_obj {B0 : Nat} {cs : Array Value} {T : TypeId} : Keeps (NewObj B0 cs T) := fun _ _ _ ⟨B, h1, h2, h3⟩ hb => ⟨B, h1, h2, (hb.block B (Array.getElem?_eq_some_iff.1 h3).1).trans h3⟩
theorem obj_of {w w' : World} {cs : Array Value} {T : TypeId} (hb : Below w.heap.size w w') : Below w'.heap.size w' (w'.alloc (.cells cs T)) ∧ NewObj w.heap.size cs T (.pointer (some ⟨w'.heap.size, 0, none⟩)) (w'.alloc (.cells cs T)) :=
  ⟨(Below.refl _ _).alloc (Nat.le_refl _) _, w'.heap.size, hb.size, rfl, heap_alloc_new w' _⟩
theorem obj_cells {W : World} {B : Nat} {cs : List Value} {T : TypeId} (h : W.heap[B]? = some (.cells cs.toArray T (0, 0))) : CellsAt W B cs := by
  intro o v hv
  refine ⟨?_, ?_⟩
  · simp only [World.cell?, h]
    simpa using hv
  · simp [World.frozen?, h, hv]
/-- A block of another type is not the row's. -/
theorem obj_off {W : World} {B lo T T2 s n : Nat} {cs : Array Value} {v : Value} {xs : List Value} (h : W.heap[B]? = some (.cells cs T (0, 0))) (ho : W.ownsRow lo T2 s v n xs) (hT : T ≠ T2) : v.ownBlock = none ∨ v.ownBlock ≠ some B := by
  rcases ho.2 with ⟨rfl, _⟩ | ⟨g, cap, cur, rfl, _, h3, _⟩
  · exact .inl rfl
  · refine .inr fun e => ?_
    have e2 : g = B := by simpa [Value.ownBlock] using e
    subst e2
    rw [h] at h3
    injection h3 with h3
    injection h3 with _ h4 _
    exact hT h4
theorem obj_grown {W W' : World} {B lo T T2 s n : Nat} {cs : Array Value} {v : Value} {xs : List Value} (h : W.heap[B]? = some (.cells cs T (0, 0))) (ho : W.ownsRow lo T2 s v n xs) (hT : T ≠ T2) (hg : W.grownBy W' v.ownBlock) : W'.heap[B]? = some (.cells cs T (0, 0)) := by
  have hlt := (Array.getElem?_eq_some_iff.1 h).1
  exact (hg.block B hlt (fun e => by rcases obj_off h ho hT with h2 | h2; (rw [h2] at e; cases e); exact h2 e.symm)).trans h
end Go.Proofs.Ytnchhleokdkejaa

/- Who sits where, by plain maths: the first seating in order, what it depends on, and what a mark of a failed try says. -/
namespace Go.Pb.Bung
open Go Go.Pb
set_option linter.unusedVariables false
set_option linter.unusedSimpArgs false
/-- The first seats, in order, of the `d` bungs that are left, those before having `out`. -/
def seatF (R : Nat → Nat → Bool) (m : Nat) : Nat → List Nat → Option (List Nat)
  | 0, out => some out
  | d + 1, out => (List.range' 0 m).findSome? (fun k => if R out.length k && !out.contains k then seatF R m d (out ++ [k]) else none)
/-- The same from the seat `j` on. -/
def seatL (R : Nat → Nat → Bool) (m d : Nat) (out : List Nat) (j : Nat) : Option (List Nat) :=
  (List.range' j (m - j)).findSome? (fun k => if R out.length k && !out.contains k then seatF R m d (out ++ [k]) else none)
theorem seatF_zero (R : Nat → Nat → Bool) (m : Nat) (out : List Nat) : seatF R m 0 out = some out := rfl
theorem seatF_succ (R : Nat → Nat → Bool) (m d : Nat) (out : List Nat) : seatF R m (d + 1) out = seatL R m d out 0 := rfl
theorem seatL_end (R : Nat → Nat → Bool) {m d j : Nat} (out : List Nat) (h : m ≤ j) : seatL R m d out j = none := by
  unfold seatL; rw [Nat.sub_eq_zero_of_le h]; rfl
theorem seatL_cons (R : Nat → Nat → Bool) {m d j : Nat} (out : List Nat) (h : j < m) :
    seatL R m d out j = ((if R out.length j && !out.contains j then seatF R m d (out ++ [j]) else none) <|> seatL R m d out (j + 1)) := by
  unfold seatL
  rw [show m - j = (m - (j + 1)) + 1 from by omega, List.range'_succ, List.findSome?_cons]
  cases (if (R out.length j && !out.contains j) = true then seatF R m d (out ++ [j]) else none) <;> rfl
theorem seatL_skip (R : Nat → Nat → Bool) {m d j : Nat} (out : List Nat) (h : j < m) (hn : (R out.length j && !out.contains j) = false) :
    seatL R m d out j = seatL R m d out (j + 1) := by
  rw [seatL_cons R out h, hn]; rfl
theorem seatL_none (R : Nat → Nat → Bool) {m d j : Nat} (out : List Nat) (h : j < m) (hn : (R out.length j && !out.contains j) = true)
    (hf : seatF R m d (out ++ [j]) = none) : seatL R m d out j = seatL R m d out (j + 1) := by
  rw [seatL_cons R out h, hn, if_pos rfl, hf]; rfl
theorem seatL_some (R : Nat → Nat → Bool) {m d j : Nat} (out : List Nat) {r : List Nat} (h : j < m) (hn : (R out.length j && !out.contains j) = true)
    (hf : seatF R m d (out ++ [j]) = some r) : seatL R m d out j = some r := by
  rw [seatL_cons R out h, hn, if_pos rfl, hf]; rfl
/-- Whether there is a seating depends on how many sit, and on which seats. -/
theorem seatF_same (R : Nat → Nat → Bool) (m : Nat) : ∀ (d : Nat) {out out' : List Nat}, out.length = out'.length → (∀ k, k ∈ out ↔ k ∈ out') →
    seatF R m d out = none → seatF R m d out' = none
  | 0, out, out', hl, hm, h => by rw [seatF_zero] at h; cases h
  | d + 1, out, out', hl, hm, h => by
    rw [seatF, List.findSome?_eq_none_iff] at h ⊢
    intro k hk
    have h1 := h k hk
    have hc : out'.contains k = out.contains k := by
      rw [Bool.eq_iff_iff, List.contains_iff_mem, List.contains_iff_mem]; exact (hm k).symm
    rw [← hl, hc]
    split at h1
    · rename_i h2
      rw [if_pos h2]
      refine seatF_same R m d (by rw [List.length_append, List.length_append, hl]) (fun q => ?_) h1
      rw [List.mem_append, List.mem_append, hm q]
    · rename_i h2
      rw [if_neg h2]
/-- What is found keeps the form: as long as the bungs, and each seat is one of the `m`, none twice. -/
def SeatOk (m : Nat) (out : List Nat) : Prop := out.Nodup ∧ ∀ k ∈ out, k < m
theorem seatOk_nil (m : Nat) : SeatOk m [] := ⟨List.nodup_nil, fun k h => by cases h⟩
theorem seatOk_snoc {m k : Nat} {out : List Nat} (h : SeatOk m out) (hk : k < m) (hn : out.contains k = false) : SeatOk m (out ++ [k]) := by
  have hn' : k ∉ out := by
    intro hm
    rw [List.contains_iff_mem.mpr hm] at hn; cases hn
  refine ⟨?_, fun q hq => ?_⟩
  · rw [List.nodup_append]
    refine ⟨h.1, (by rw [List.nodup_cons]; exact ⟨List.not_mem_nil, List.nodup_nil⟩), fun a ha b hb e => ?_⟩
    rw [List.mem_singleton] at hb
    subst hb; subst e
    exact hn' ha
  · rcases List.mem_append.mp hq with h1 | h1
    · exact h.2 q h1
    · rw [List.mem_singleton] at h1; subst h1; exact hk
/-- Which of the nine seats are taken. -/
def mask (out : List Nat) : List Bool := (List.range 9).map (fun k => out.contains k)
theorem mask_len (out : List Nat) : (mask out).length = 9 := by unfold mask; rw [List.length_map, List.length_range]
theorem mask_get (out : List Nat) {k : Nat} (hk : k < 9) : (mask out)[k]? = some (out.contains k) := by
  unfold mask
  rw [List.getElem?_map, List.getElem?_range hk]; rfl
theorem mask_nil : mask [] = List.replicate 9 false := by decide
theorem mask_snoc (out : List Nat) {k : Nat} (hk : k < 9) : mask (out ++ [k]) = (mask out).set k true := by
  apply List.ext_getElem?
  intro i
  by_cases hi : i < 9
  · rw [mask_get _ hi, List.getElem?_set]
    by_cases e : k = i
    · subst e
      rw [if_pos rfl, if_pos (by rw [mask_len]; exact hk)]
      congr 1
      rw [List.contains_iff_mem]
      exact List.mem_append_right _ (List.mem_singleton_self k)
    · rw [if_neg e, mask_get _ hi]
      congr 1
      rw [Bool.eq_iff_iff, List.contains_iff_mem, List.contains_iff_mem, List.mem_append, List.mem_singleton]
      exact ⟨fun h => h.elim id (fun h => absurd h.symm e), Or.inl⟩
  · rw [List.getElem?_eq_none (by rw [mask_len]; omega), List.getElem?_eq_none (by rw [List.length_set, mask_len]; omega)]
theorem mask_mem {m : Nat} (hm9 : m ≤ 9) {out out' : List Nat} (h : SeatOk m out) (h' : SeatOk m out') (e : mask out = mask out') (k : Nat) : k ∈ out ↔ k ∈ out' := by
  by_cases hk : k < 9
  · have h1 := mask_get out hk
    have h2 := mask_get out' hk
    rw [e, h2] at h1
    have h3 : out'.contains k = out.contains k := by simpa using h1
    rw [← List.contains_iff_mem, ← List.contains_iff_mem, h3]
  · exact ⟨fun q => absurd (h.2 k q) (by omega), fun q => absurd (h'.2 k q) (by omega)⟩
theorem mask_len_eq {m : Nat} (hm9 : m ≤ 9) {out out' : List Nat} (h : SeatOk m out) (h' : SeatOk m out') (e : mask out = mask out') : out.length = out'.length :=
  ((List.perm_ext_iff_of_nodup h.1 h'.1).mpr (mask_mem hm9 h h' e)).length_eq
/-- Each marked try of at least `c` seats has failed. -/
def MarkOk (R : Nat → Nat → Bool) (m n c : Nat) (M : List Bool → Prop) : Prop :=
  ∀ p, M p → ∀ out, SeatOk m out → mask out = p → c ≤ out.length → out.length ≤ n → seatF R m (n - out.length) out = none
/-- Each mark that is new has failed. -/
def MarkTo (R : Nat → Nat → Bool) (m n : Nat) (M M' : List Bool → Prop) : Prop :=
  ∀ p, M' p → M p ∨ ∀ out, SeatOk m out → mask out = p → out.length ≤ n → seatF R m (n - out.length) out = none
theorem markTo_rfl (R : Nat → Nat → Bool) (m n : Nat) (M : List Bool → Prop) : MarkTo R m n M M := fun p h => Or.inl h
theorem markTo_trans {R : Nat → Nat → Bool} {m n : Nat} {M M' M'' : List Bool → Prop} (h : MarkTo R m n M M') (h' : MarkTo R m n M' M'') : MarkTo R m n M M'' := by
  intro p hp
  rcases h' p hp with h1 | h1
  · exact h p h1
  · exact Or.inr h1
theorem markOk_to {R : Nat → Nat → Bool} {m n c : Nat} {M M' : List Bool → Prop} (h : MarkOk R m n c M) (h' : MarkTo R m n M M') : MarkOk R m n c M' := by
  intro p hp out ho he hc hn
  rcases h' p hp with h1 | h1
  · exact h p h1 out ho he hc hn
  · exact h1 out ho he hn
/-- A try that was marked at its own length has failed. -/
theorem markOk_hit {R : Nat → Nat → Bool} {m n : Nat} {M : List Bool → Prop} {out : List Nat} (h : MarkOk R m n out.length M) (ho : SeatOk m out) (hn : out.length ≤ n)
    (hp : M (mask out)) : seatF R m (n - out.length) out = none := h _ hp out ho rfl (Nat.le_refl _) hn
/-- The try that begins is marked: nothing longer is. -/
theorem markOk_add {R : Nat → Nat → Bool} {m n : Nat} (hm9 : m ≤ 9) {M : List Bool → Prop} {out : List Nat} (h : MarkOk R m n out.length M) (ho : SeatOk m out) :
    MarkOk R m n (out.length + 1) (fun p => M p ∨ p = mask out) := by
  intro p hp out' ho' he hc hn
  rcases hp with hp | hp
  · exact h p hp out' ho' he (by omega) hn
  · have := mask_len_eq hm9 ho' ho (he.trans hp)
    omega
/-- The try that failed: all new marks have. -/
theorem markTo_add {R : Nat → Nat → Bool} {m n : Nat} (hm9 : m ≤ 9) {M M' : List Bool → Prop} {out : List Nat} (ho : SeatOk m out)
    (h : MarkTo R m n (fun p => M p ∨ p = mask out) M') (hf : seatF R m (n - out.length) out = none) : MarkTo R m n M M' := by
  intro p hp
  rcases h p hp with (h1 | h1) | h1
  · exact Or.inl h1
  · refine Or.inr fun out' ho' he hn => ?_
    have e : mask out = mask out' := (he.trans h1).symm
    have hl := mask_len_eq hm9 ho ho' e
    rw [← hl]
    exact seatF_same R m _ hl (mask_mem hm9 ho ho' e) hf
  · exact Or.inr h1
theorem seatF_ok {R : Nat → Nat → Bool} {m : Nat} : ∀ (d : Nat) {out r : List Nat}, SeatOk m out → seatF R m d out = some r → SeatOk m r ∧ r.length = out.length + d
  | 0, out, r, ho, h => by rw [seatF_zero] at h; cases h; exact ⟨ho, rfl⟩
  | d + 1, out, r, ho, h => by
    rw [seatF, List.findSome?_eq_some_iff] at h
    obtain ⟨l1, k, l2, hl, hk, -⟩ := h
    have hkm : k ∈ List.range' 0 m := by rw [hl]; exact List.mem_append_right _ List.mem_cons_self
    have hk2 : k < m := by
      rw [List.mem_range'] at hkm
      obtain ⟨i, hi, e⟩ := hkm
      omega
    split at hk
    · rename_i h2
      rw [Bool.and_eq_true, Bool.not_eq_true'] at h2
      obtain ⟨h3, h4⟩ := seatF_ok d (seatOk_snoc ho hk2 h2.2) hk
      refine ⟨h3, ?_⟩
      rw [h4, List.length_append, List.length_singleton]
      omega
    · cases hk
end Go.Pb.Bung

/- The state of a seating: what a try keeps, and the map of its marks. -/
namespace Go.Pb.Bung
open Go Go.Pb Go.RowKit Go.Maps
set_option linter.unusedVariables false
set_option linter.unusedSimpArgs false
/-- A block that a try keeps: lower than its own, or of another kind than what it appends to. -/
def Guarded (T : TypeId) (lo b : Nat) (w : World) : Prop := b < lo ∨ ∀ c g, w.heap[b]? ≠ some (.cells c T g)
/-- What a try keeps: all but the blocks X and M, and rows of its own. -/
structure Keep1 (T : TypeId) (lo X M : Nat) (w w' : World) : Prop where
  os : w'.os = w.os
  tape : w'.tape = w.tape
  output : w'.output = w.output
  size : w.heap.size ≤ w'.heap.size
  block : ∀ b, b < w.heap.size → b ≠ X → b ≠ M → Guarded T lo b w → w'.heap[b]? = w.heap[b]?
theorem Keep1.refl {T : TypeId} {lo X M : Nat} {w : World} : Keep1 T lo X M w w := ⟨rfl, rfl, rfl, Nat.le_refl _, fun _ _ _ _ _ => rfl⟩
theorem Keep1.trans {T : TypeId} {lo X M : Nat} {w w1 w2 : World} (h : Keep1 T lo X M w w1) (h' : Keep1 T lo X M w1 w2) : Keep1 T lo X M w w2 := by
  refine ⟨h'.os.trans h.os, h'.tape.trans h.tape, h'.output.trans h.output, Nat.le_trans h.size h'.size, fun b hb hX hM hg => ?_⟩
  have e := h.block b hb hX hM hg
  rw [← e]
  refine h'.block b (Nat.lt_of_lt_of_le hb h.size) hX hM ?_
  rcases hg with hg | hg
  · exact Or.inl hg
  · exact Or.inr fun c g => by rw [e]; exact hg c g
theorem Keep1.of_below {T : TypeId} {lo X M : Nat} {w w' : World} (h : Below w.heap.size w w') : Keep1 T lo X M w w' :=
  ⟨h.os, h.tape, h.output, h.size, fun b hb _ _ _ => h.block b hb⟩
theorem Keep1.of_map {T : TypeId} {lo X M : Nat} {w w' : World} (h : w.grownBy w' (some M)) : Keep1 T lo X M w w' :=
  ⟨h.os, h.tape, h.output, h.size, fun b hb _ hM _ => h.block b hb (fun e => hM (by injection e))⟩
theorem Keep1.of_own {T : TypeId} {lo X M n s : Nat} {w w' : World} {v : Value} {xs : List Value} (ho : w.ownsRow lo T s v n xs) (h : w.grownBy w' v.ownBlock) : Keep1 T lo X M w w' := by
  refine ⟨h.os, h.tape, h.output, h.size, fun b hb _ _ hg => h.block b hb fun e => ?_⟩
  rcases ho.2 with ⟨h1, _⟩ | ⟨g, cap, cur, h1, h2, h3, _⟩
  · subst h1; simp [Value.ownBlock] at e
  · subst h1
    simp [Value.ownBlock] at e
    subst e
    rcases hg with hg | hg
    · omega
    · exact hg _ _ h3
theorem Keep1.set {T : TypeId} {lo X M o : Nat} {w : World} {u : Value} : Keep1 T lo X M w (w.setCell ⟨X, o, none⟩ u) :=
  ⟨rfl, rfl, rfl, by simp, fun b _ hX _ _ => Below.heap_setCell _ _ _ b hX⟩
theorem Keep1.keepP {T : TypeId} {lo X M : Nat} {w w' : World} (h : Keep1 T lo X M w w') : KeepP (fun b => b < lo ∧ b ≠ X ∧ b ≠ M) w w' :=
  ⟨h.size, fun b hb h1 => h.block b h1 hb.2.1 hb.2.2 (Or.inl hb.1)⟩
theorem Keep1.heap {T : TypeId} {lo X M b : Nat} {w w' : World} {o : Obj} (h : Keep1 T lo X M w w') (hb : w.heap[b]? = some o) (hX : b ≠ X) (hM : b ≠ M) (hT : ∀ c g, o ≠ .cells c T g) : w'.heap[b]? = some o :=
  (h.block b (Array.getElem?_eq_some_iff.1 hb).1 hX hM (Or.inr fun c g e => hT c g (by rw [hb] at e; injection e))).trans hb
/-- Down to a world where X, M and the rows are not yet. -/
theorem Keep1.below {T : TypeId} {lo X M : Nat} {w0 w w' : World} (h : Keep1 T lo X M w w') (hb : Below w0.heap.size w0 w) (h1 : w0.heap.size ≤ lo) (hX : w0.heap.size ≤ X) (hM : w0.heap.size ≤ M) : Below w0.heap.size w0 w' :=
  ⟨h.os.trans hb.os, h.tape.trans hb.tape, h.output.trans hb.output, Nat.le_trans hb.size h.size, fun k hk =>
    (h.block k (Nat.lt_of_lt_of_le hk hb.size) (by omega) (by omega) (Or.inl (by omega))).trans (hb.block k hk)⟩
/-- A block of plain cells that is never shrunk reads so. -/
theorem cellsAt_of_heap {w : World} {b : Nat} {vs : List Value} {t : TypeId} (h : w.heap[b]? = some (.cells vs.toArray t (0, 0))) : CellsAt w b vs := by
  intro o v hv
  refine ⟨?_, ?_⟩
  · rw [cell_of_row w b o vs.toArray t (0, 0) h]
    simpa using hv
  · simp [World.frozen?, h]
/-- The map in block M has the marks ks, all true. -/
def MapS (P : Program) (K E : TypeId) (M : Nat) (ks : List (List Bool)) (W : World) : Prop := ∃ D : DataW Unit, W.ownsMap P K (plainElem P E) M ks.length D ∧ ks.Nodup ∧ (∀ b ∈ ks, b.length = 9) ∧
  ∀ bs kl, bs.length = 9 → keyOf P K (keyV bs) = some kl → has D kl = decide (bs ∈ ks) ∧ (bs ∈ ks → D.atKey kl (.lit (.bool false)) = .lit (.bool true))
theorem MapS.start (P : Program) (K E : TypeId) (W : World) : MapS P K E W.heap.size [] (W.alloc (.map #[] 0)) :=
  ⟨.map [], World.ownsMap_made _ _ _ _, List.nodup_nil, fun b hb => by simp at hb, fun bs kl _ _ => ⟨rfl, fun h => by simp at h⟩⟩
theorem MapS.put {P : Program} {K E : TypeId} {M : Nat} {W W' : World} {ks : List (List Bool)} {D : DataW Unit} (KL : Keyed P K) (ho : W.ownsMap P K (plainElem P E) M ks.length D) (hn : ks.Nodup) (h9 : ∀ b ∈ ks, b.length = 9)
    (hk : ∀ bs kl, bs.length = 9 → keyOf P K (keyV bs) = some kl → has D kl = decide (bs ∈ ks) ∧ (bs ∈ ks → D.atKey kl (.lit (.bool false)) = .lit (.bool true)))
    {bs : List Bool} {kl : Lit} (hb : bs.length = 9) (hkey : keyOf P K (keyV bs) = some kl) (hno : ¬ bs ∈ ks) (ho' : W'.ownsMap P K (plainElem P E) M (ks.length + 1) (D.put kl (.lit (.bool true)))) : MapS P K E M (bs :: ks) W' := by
  have hm := (ho.tidy KL).isMap
  have hik := KL.key hkey
  refine ⟨_, ho', List.nodup_cons.2 ⟨hno, hn⟩, fun c hc => ?_, fun cs cl hc hcl => ?_⟩
  · rcases List.mem_cons.1 hc with rfl | hc
    · exact hb
    · exact h9 c hc
  · obtain ⟨h1, h2⟩ := hk cs cl hc hcl
    by_cases e : cs = bs
    · subst e
      have : cl = kl := by rw [hkey] at hcl; injection hcl with hcl; exact hcl.symm
      subst this
      refine ⟨?_, fun _ => ?_⟩
      · rw [has_put_same hm hik]; simp
      · rw [atKey_put_same hm hik]
    · have hne : cl ≠ kl := fun e2 => e (keyV_inj (KL.inj (e2 ▸ hcl) hkey))
      refine ⟨?_, fun hin => ?_⟩
      · rw [has_put_other hne, h1]; simp [e]
      · rw [atKey_put_other hne]
        rcases List.mem_cons.1 hin with h3 | h3
        · exact absurd h3 e
        · exact h2 h3
theorem MapS.block {P : Program} {K E : TypeId} {M : Nat} {ks : List (List Bool)} {W W' : World} (h : MapS P K E M ks W) (hb : W'.heap[M]? = W.heap[M]?) : MapS P K E M ks W' := by
  obtain ⟨D, h1, h2⟩ := h
  exact ⟨D, ownsMap_block h1 hb, h2⟩
theorem MapS.lt {P : Program} {K E : TypeId} {M : Nat} {ks : List (List Bool)} {W : World} (h : MapS P K E M ks W) : M < W.heap.size := by
  obtain ⟨D, h1, _⟩ := h
  exact h1.lt
theorem MapS.below {P : Program} {K E : TypeId} {M : Nat} {ks : List (List Bool)} {W W' : World} (h : MapS P K E M ks W) (hb : Below W.heap.size W W') : MapS P K E M ks W' := h.block (hb.block M h.lt)
/-- A map is no row. -/
theorem MapS.own {P : Program} {K E T : TypeId} {M lo n s : Nat} {ks : List (List Bool)} {W W' : World} {v : Value} {xs : List Value} (h : MapS P K E M ks W) (ho : W.ownsRow lo T s v n xs) (hg : W.grownBy W' v.ownBlock) : MapS P K E M ks W' := by
  refine h.block (hg.block M h.lt fun e => ?_)
  obtain ⟨D, ⟨es, clock, h1, h2⟩, _⟩ := h
  rcases ho.2 with ⟨h3, _⟩ | ⟨g, cap, cur, h3, h4, h5, _⟩
  · subst h3; simp [Value.ownBlock] at e
  · subst h3
    simp [Value.ownBlock] at e
    subst e
    rw [h1] at h5; cases h5
theorem MapS.set {P : Program} {K E : TypeId} {M X o : Nat} {ks : List (List Bool)} {W : World} {u : Value} (h : MapS P K E M ks W) (hX : X ≠ M) : MapS P K E M ks (W.setCell ⟨X, o, none⟩ u) :=
  h.block (Below.heap_setCell _ _ _ M (fun e => hX e.symm))
/-- The row of a try, cut by its last. -/
theorem own_cut {w : World} {lo T n cap : Nat} {a : Option Addr} {xs ys : List Value} (h : w.ownsRow lo T 1 (.slice a (n + 1) cap) (n + 1) (xs ++ ys)) (hx : xs.length = n) : w.ownsRow lo T 1 (.slice a n cap) n xs := by
  refine ⟨by omega, ?_⟩
  rcases h.2 with ⟨h1, h2⟩ | ⟨g, cap', cur, h1, h2, h3, h4, h5, h6, h7⟩
  · omega
  · injection h1 with e1 e2 e3
    subst e1; subst e3
    refine .inr ⟨g, cap, cur, rfl, h2, h3, by omega, h5, h6, ?_⟩
    have h8 := congrArg (List.take (n * 1)) h7
    rw [List.take_take, Nat.mul_one, Nat.mul_one, Nat.min_eq_left (by omega), List.take_left' hx] at h8
    rw [Nat.mul_one]
    exact h8
end Go.Pb.Bung

/- One try of a seating. -/
namespace Go.Proofs.Ytnchhleokdkejaa
open Go.RowKit Go.Pb Go.Pb.Ware Go.Pb.Sag
set_option linter.unusedVariables false
set_option linter.unusedSimpArgs false

open Go.Proofs Go.Maps Go.Pb.Bung
/-- Bungs, in blocks that p holds of. -/
def BnsIn (p : Nat → Prop) (w : World) (v : Value) (bs : List (Int × Int × List Sg)) : Prop := ∃ (a : Option Addr) (cap : Nat), v = .slice a bs.length cap ∧ bs.length ≤ 9223372036854775807 ∧ ∀ k b, bs[k]? = some b → ∃ (g : Addr) (u : Value), a = some g ∧ p g.block ∧
  w.cell? (g.add (k * 3)) = some (.int .i64 b.1) ∧ w.cell? ⟨(g.add (k * 3)).block, (g.add (k * 3)).off + 1, none⟩ = some (.int .i64 b.2.1) ∧ w.cell? ⟨(g.add (k * 3)).block, (g.add (k * 3)).off + 2, none⟩ = some u ∧ RowsAt 8 w u (b.2.2.map rowG) ∧ (b.2.2.map rowG ≠ [] → InP p u)
theorem BnsIn.keep {p : Nat → Prop} {w w' : World} {v : Value} {bs : List (Int × Int × List Sg)} (h : BnsIn p w v bs) (hk : KeepP p w w') : BnsIn p w' v bs := by
  obtain ⟨a, cap, h1, h2, h3⟩ := h
  refine ⟨a, cap, h1, h2, fun k b hb => ?_⟩
  obtain ⟨g, u, e1, e2, e3, e4, e5, e6, e7⟩ := h3 k b hb
  exact ⟨g, u, e1, e2, hk.cell (by rw [block_add]; exact e2) e3, hk.cell (by show p (g.add (k * 3)).block; rw [block_add]; exact e2) e4, hk.cell (by show p (g.add (k * 3)).block; rw [block_add]; exact e2) e5, rows_keepP e6 e7 hk, e7⟩
/-- Whether the bung i may stand in the spot j. -/
def fitsR (bs : List (Int × Int × List Sg)) (sps : List (Int × Int)) (i j : Nat) : Bool := match bs[i]?, sps[j]? with
  | some b, some s => decide (fitA b.1 b.2.1 b.2.2 s.1 s.2 = 1)
  | _, _ => false
def spR (s : Int × Int) : List Int := [s.1, s.2]
theorem sp_row {w : World} {a : Option Addr} {cap k m : Nat} {l : List (Int × Int)} {s : Int × Int} (h : RowsAt 2 w (.slice a m cap) (l.map spR)) (hm : l.length = m) (hk : l[k]? = some s) : ∃ a', a = some a' ∧ w.cell? (a'.add (k * 2)) = some (.int .i64 s.1) ∧ w.cell? ⟨(a'.add (k * 2)).block, (a'.add (k * 2)).off + 1, none⟩ = some (.int .i64 s.2) := by
  have hlt : k < l.length := (List.getElem?_eq_some_iff.1 hk).1
  have hm2 : k < (l.map spR).length := by rw [List.length_map]; exact hlt
  obtain ⟨a', ha, hr, h0, hc⟩ := RowsAt.row (show RowsAt 2 w (.slice a (l.map spR).length cap) (l.map spR) by rw [List.length_map, hm]; exact h) hm2
  have e : (l.map spR)[k] = spR s := by
    have h1 := List.getElem?_eq_getElem hm2
    rw [List.getElem?_map, hk] at h1
    exact (Option.some.inj h1).symm
  rw [e] at h0 hc
  exact ⟨a', ha, h0 _ rfl, hc 1 _ (by decide) rfl⟩
theorem wad_b {lo hi : Int} (h : wadOk lo hi = true) : (0 ≤ lo ∧ lo ≤ 200) ∧ 0 ≤ hi ∧ hi ≤ 200 := by
  unfold wadOk at h
  rw [rgOk_iff] at h
  dsimp only at h
  omega
def cellsN (l : List Nat) : List Value := l.map fun k : Nat => Value.int .i64 (k : Int)
/-- What a try leaves. -/
def SeatRes (lo X M : Nat) (bv sv : Value) (R : Nat → Nat → Bool) (m n d : Nat) (out : List Nat) (ks : List (List Bool)) (w : World) (e : Ending) (w' : World) : Prop := ∃ (v' : Value) (ks' : List (List Bool)), Keep1 3 lo X M w w' ∧ CellsAt w' X [bv, sv, v', .map (some M)] ∧
  ((∃ r, seatF R m d out = some r ∧ e = .returned (.bool true) ∧ w'.ownsRow lo 3 1 v' n (cellsN r)) ∨
   (seatF R m d out = none ∧ e = .returned (.bool false) ∧ w'.ownsRow lo 3 1 v' out.length (cellsN out) ∧ MapS Try.prog 152 4 M ks' w' ∧ MarkTo R m n (fun p => p ∈ ks) (fun p => p ∈ ks')))
theorem heap_below {w w' : World} {b : Nat} {o : Obj} (h : w.heap[b]? = some o) (hb : Below w.heap.size w w') : w'.heap[b]? = some o := (hb.block b (Array.getElem?_eq_some_iff.1 h).1).trans h
theorem obj_set {W : World} {B k : Nat} {cs : List Value} {T : TypeId} {u : Value} (h : W.heap[B]? = some (.cells cs.toArray T (0, 0))) (hk : k < cs.length) : (W.setCell ⟨B, k, none⟩ u).heap[B]? = some (.cells (cs.set k u).toArray T (0, 0)) := by
  have hlt := (Array.getElem?_eq_some_iff.1 h).1
  have he := (Array.getElem?_eq_some_iff.1 h).2
  simp [World.setCell, Array.getElem_modify, h, hlt, he]
theorem seat_put {lo X M B n : Nat} {w6 W w4 : World} {o : Obj} {v : Value} {cs xs : List Value} {ks : List (List Bool)} {dcs : Array Value} (hXl : X < lo) (hK : Keep1 3 lo X M w6 W) (y : CellsAt W X cs) (hm : MapS Try.prog 152 4 M ks W) (ho : W.ownsRow lo 3 1 v n xs) (t : W.heap[B]? = some (.cells dcs 152 (0, 0))) (hg : (W.alloc o).grownBy w4 v.ownBlock) :
    CellsAt w4 X cs ∧ w4.heap[B]? = some (.cells dcs 152 (0, 0)) ∧ MapS Try.prog 152 4 M ks w4 ∧ Keep1 3 lo X M w6 w4 := by
  have hba : Below W.heap.size W (W.alloc o) := (Below.refl W.heap.size W).alloc (Nat.le_refl _) o
  have y1 := y.below hba
  have ho1 := ho.alloc o
  exact ⟨fun o v hv => ⟨grown_kept hg (y1 o v hv).1 (owns_not ho1 hXl), grown_free hg (y1 o v hv).1 (y1 o v hv).2 (owns_not ho1 hXl)⟩, obj_grown (heap_below t hba) ho1 (by decide) hg, MapS.own (hm.below hba) ho1 hg, (hK.trans (Keep1.of_below hba)).trans (Keep1.of_own ho1 hg)⟩
theorem seat_cell {lo X M n : Nat} {w6 W : World} {a b c e u v : Value} {xs : List Value} {ks : List (List Bool)} (hXl : X < lo) (hXM : X ≠ M) (hK : Keep1 3 lo X M w6 W) (y : CellsAt W X [a, b, c, e]) (hm : MapS Try.prog 152 4 M ks W) (ho : W.ownsRow lo 3 1 v n xs) :
    CellsAt (W.setCell ⟨X, 2, none⟩ u) X [a, b, u, e] ∧ MapS Try.prog 152 4 M ks (W.setCell ⟨X, 2, none⟩ u) ∧ Keep1 3 lo X M w6 (W.setCell ⟨X, 2, none⟩ u) ∧ (W.setCell ⟨X, 2, none⟩ u).ownsRow lo 3 1 v n xs :=
  ⟨cells_store (o := 2) (u := u) y, MapS.set hm hXM, hK.trans Keep1.set, owns_set ho hXl u⟩
theorem seat_heap {X B k : Nat} {W : World} {u : Value} {o : Obj} (h : W.heap[B]? = some o) (hne : B ≠ X) : (W.setCell ⟨X, k, none⟩ u).heap[B]? = some o := (Below.heap_setCell _ _ _ B hne).trans h
set_option maxRecDepth 100000 in
theorem MapS.look {M : Nat} {ks : List (List Bool)} {W : World} (h : MapS Try.prog 152 4 M ks W) {bs : List Bool} (h9 : bs.length = 9) : (Instr.lookup 148 (.map (some M)) (keyV bs) false).run Try.prog W = .ok (.bool (decide (bs ∈ ks))) W := by
  obtain ⟨D, h1, h2, h3, h4⟩ := h
  obtain ⟨kl, hkl⟩ := key9 h9
  obtain ⟨v, ps, hrun, hv⟩ := h1.lookup Try.lawK Try.underlying148 (Try.zeroB W) (plainElem_bool Try.underlying4 false) hkl
  obtain ⟨x, rfl, hx⟩ := plainElem_bool_inv Try.underlying4 hv
  rw [hrun]
  obtain ⟨h5, h6⟩ := h4 bs kl h9 hkl
  by_cases hin : bs ∈ ks
  · rw [h6 hin] at hx
    rw [decide_eq_true hin]
    injection hx with hx _; injection hx with hx; injection hx with hx; rw [← hx]
  · rw [decide_eq_false hin] at h5
    rw [atKey_of_not_has h5] at hx
    rw [decide_eq_false hin]
    injection hx with hx _; injection hx with hx; injection hx with hx; rw [← hx]
set_option maxRecDepth 100000 in
theorem MapS.write {M : Nat} {ks : List (List Bool)} {W : World} (h : MapS Try.prog 152 4 M ks W) {bs : List Bool} (h9 : bs.length = 9) (hno : ¬ bs ∈ ks) : ∃ W', (Instr.mapUpdate 148 (.map (some M)) (keyV bs) (.bool true)).run Try.prog W = .ok () W' ∧ MapS Try.prog 152 4 M (bs :: ks) W' ∧ W.grownBy W' (some M) := by
  obtain ⟨D, h1, h2, h3, h4⟩ := h
  obtain ⟨kl, hkl⟩ := key9 h9
  have hk512 := few_bits h2 h3
  obtain ⟨W', hrun, r1, r2⟩ := h1.update Try.lawK Try.underlying148 (by unfold maxLen; omega) hkl (plainElem_bool Try.underlying4 true)
  exact ⟨W', hrun, MapS.put Try.lawK h1 h2 h3 h4 h9 hkl hno r1, r2⟩
theorem mask9 (out : List Nat) : ∃ b0 b1 b2 b3 b4 b5 b6 b7 b8, mask out = [b0, b1, b2, b3, b4, b5, b6, b7, b8] := ⟨_, _, _, _, _, _, _, _, _, rfl⟩

set_option maxRecDepth 100000 in
set_option maxHeartbeats 1000000 in
theorem seat_any {bs : List (Int × Int × List Sg)} {sps : List (Int × Int)} {n m lo X M : Nat} {ba sa : Option Addr} {bc sc : Nat} (hbok : ∀ b ∈ bs, bungOk b.1 b.2.1 b.2.2 = true) (hn : bs.length = n) (hm : sps.length = m) (hn9 : n ≤ 9) (hm9 : m ≤ 9) (hXM : X ≠ M) (hXl : X < lo) (hMl : M < lo) : ∀ (d : Nat) (w : World) (v : Value) (out : List Nat) (ks : List (List Bool)), out.length + d = n → CellsAt w X [.slice ba n bc, .slice sa m sc, v, .map (some M)] → BnsIn (fun b => b < lo ∧ b ≠ X ∧ b ≠ M) w (.slice ba n bc) bs → RowsAt 2 w (.slice sa m sc) (sps.map spR) → (sps.map spR ≠ [] → InP (fun b => b < lo ∧ b ≠ X ∧ b ≠ M) (.slice sa m sc)) → MapS Try.prog 152 4 M ks w → w.ownsRow lo 3 1 v out.length (cellsN out) → SeatOk m out → MarkOk (fitsR bs sps) m n out.length (fun p => p ∈ ks) → lo ≤ w.heap.size →
    Calls Try.prog 121 #[.pointer (some ⟨X, 0, none⟩), keyV (mask out)] w (SeatRes lo X M (.slice ba n bc) (.slice sa m sc) (fitsR bs sps) m n d out ks w) := by
  intro d
  induction d with
  | zero =>
    intro w v out ks hd hx hbn hsp hsi hkt ho hso hmk hlo
    obtain ⟨N, hN⟩ : ∃ N, out.length = N := ⟨_, rfl⟩
    rw [hN] at hd ho hmk
    have HN := hid hN; have HSO := hid hso; have HMK := hid hmk; have HKT := hid hkt
    clear hN hso hmk hkt
    obtain ⟨va, vc, rfl, hvl⟩ := owns_shape ho
    obtain ⟨b0, b1, b2, b3, b4, b5, b6, b7, b8, hbits⟩ := mask9 out
    have HBITS := hid hbits
    have hkv : keyV (mask out) = .agg #[.bool b0, .bool b1, .bool b2, .bool b3, .bool b4, .bool b5, .bool b6, .bool b7, .bool b8] := by rw [hbits]; rfl
    rw [hkv]
    clear hkv hbits
    have hXw : X < w.heap.size := by omega
    have hMw : M < w.heap.size := by omega
    go_enter Try.func121, Try.ntmps121
    go_upto_region 1 with fail
    generalize hW : World.alloc w _ = v1
    have hb : Below w.heap.size w v1 := by rw [← hW]; exact (Below.refl _ w).alloc (Nat.le_refl _) _
    have t3 : v1.heap[w.heap.size]? = some (.cells #[.bool b0, .bool b1, .bool b2, .bool b3, .bool b4, .bool b5, .bool b6, .bool b7, .bool b8] 152 (0, 0)) := by rw [← hW]; exact heap_alloc_new w _
    have hz1 : w.heap.size < v1.heap.size := by rw [← hW]; simp
    clear hW
    have yX := hx.below hb
    have hK1 : Keep1 3 lo X M w v1 := Keep1.of_below hb
    have hbn1 := hbn.keep hK1.keepP
    have hsp1 := hsp.below hb
    have HKT1 := hid (HKT.out.below hb)
    have ho1 := owns_below ho hb
    have q0 := (yX 0 _ rfl).1; have q1 := (yX 1 _ rfl).1; have q2 := (yX 2 _ rfl).1; have q3 := (yX 3 _ rfl).1
    obtain rfl : N = n := by omega
    go_region
    have hb : Below v1.heap.size v1 v1.drew := ⟨rfl, rfl, rfl, Nat.le_refl _, fun _ _ => rfl⟩
    generalize World.drew v1 = v2 at hb ⊢
    have hz2 := hb.size
    replace t3 := heap_below t3 hb
    replace yX := yX.below hb
    replace hK1 := hK1.trans (Keep1.of_below hb)
    replace HKT1 := hid (HKT1.out.below hb)
    replace ho1 := owns_below ho1 hb
    clear q0 q1 q2 q3
    have q0 := (yX 0 _ rfl).1; have q1 := (yX 1 _ rfl).1; have q2 := (yX 2 _ rfl).1; have q3 := (yX 3 _ rfl).1
    go_wp2_with fail
    exact bodyPost_ret (v := .bool true) (by simp [results, Try.results121, go_sem]) rfl ⟨_, ks, hK1, yX, .inl ⟨out, rfl, rfl, ho1⟩⟩
  | succ d ih =>
    intro w v out ks hd hx hbn hsp hsi hkt ho hso hmk hlo
    have IH := hid ih
    clear ih
    obtain ⟨N, hN⟩ : ∃ N, out.length = N := ⟨_, rfl⟩
    rw [hN] at hd ho hmk
    have HN := hid hN; have HSO := hid hso; have HMK := hid hmk; have HKT := hid hkt
    clear hN hso hmk hkt
    obtain ⟨va, vc, rfl, hvl⟩ := owns_shape ho
    obtain ⟨b0, b1, b2, b3, b4, b5, b6, b7, b8, hbits⟩ := mask9 out
    have HBITS := hid hbits
    have hkv : keyV (mask out) = .agg #[.bool b0, .bool b1, .bool b2, .bool b3, .bool b4, .bool b5, .bool b6, .bool b7, .bool b8] := by rw [hbits]; rfl
    rw [hkv]
    clear hkv hbits
    have hXw : X < w.heap.size := by omega
    have hMw : M < w.heap.size := by omega
    go_enter Try.func121, Try.ntmps121
    go_upto_region 1 with fail
    generalize hW : World.alloc w _ = v1
    have hb : Below w.heap.size w v1 := by rw [← hW]; exact (Below.refl _ w).alloc (Nat.le_refl _) _
    have t3 : v1.heap[w.heap.size]? = some (.cells #[.bool b0, .bool b1, .bool b2, .bool b3, .bool b4, .bool b5, .bool b6, .bool b7, .bool b8] 152 (0, 0)) := by rw [← hW]; exact heap_alloc_new w _
    have hz1 : w.heap.size < v1.heap.size := by rw [← hW]; simp
    clear hW
    have yX := hx.below hb
    have hK1 : Keep1 3 lo X M w v1 := Keep1.of_below hb
    have hbn1 := hbn.keep hK1.keepP
    have hsp1 := hsp.below hb
    have HKT1 := hid (HKT.out.below hb)
    have ho1 := owns_below ho hb
    have q0 := (yX 0 _ rfl).1; have q1 := (yX 1 _ rfl).1; have q2 := (yX 2 _ rfl).1; have q3 := (yX 3 _ rfl).1
    have hNn : N < n := by omega
    have hne : ((N : Int) == (n : Int)) = false := beq_eq_false_iff_ne.mpr (by omega)
    have hne' : ¬ (N : Int) = (n : Int) := by omega
    go_region
    have hb : Below v1.heap.size v1 v1.drew := ⟨rfl, rfl, rfl, Nat.le_refl _, fun _ _ => rfl⟩
    generalize World.drew v1 = v2 at hb ⊢
    have hz2 := hb.size
    replace t3 := heap_below t3 hb
    replace yX := yX.below hb
    replace hK1 := hK1.trans (Keep1.of_below hb)
    replace HKT1 := hid (HKT1.out.below hb)
    replace ho1 := owns_below ho1 hb
    clear q0 q1 q2 q3
    have q0 := (yX 0 _ rfl).1; have q1 := (yX 1 _ rfl).1; have q2 := (yX 2 _ rfl).1; have q3 := (yX 3 _ rfl).1
    go_upto_region 3 with fail
    have c0 := (cellsAt_of_heap (vs := [.bool b0, .bool b1, .bool b2, .bool b3, .bool b4, .bool b5, .bool b6, .bool b7, .bool b8]) t3 0 _ rfl).1
    have c1 := (cellsAt_of_heap (vs := [.bool b0, .bool b1, .bool b2, .bool b3, .bool b4, .bool b5, .bool b6, .bool b7, .bool b8]) t3 1 _ rfl).1
    have c2 := (cellsAt_of_heap (vs := [.bool b0, .bool b1, .bool b2, .bool b3, .bool b4, .bool b5, .bool b6, .bool b7, .bool b8]) t3 2 _ rfl).1
    have c3 := (cellsAt_of_heap (vs := [.bool b0, .bool b1, .bool b2, .bool b3, .bool b4, .bool b5, .bool b6, .bool b7, .bool b8]) t3 3 _ rfl).1
    have c4 := (cellsAt_of_heap (vs := [.bool b0, .bool b1, .bool b2, .bool b3, .bool b4, .bool b5, .bool b6, .bool b7, .bool b8]) t3 4 _ rfl).1
    have c5 := (cellsAt_of_heap (vs := [.bool b0, .bool b1, .bool b2, .bool b3, .bool b4, .bool b5, .bool b6, .bool b7, .bool b8]) t3 5 _ rfl).1
    have c6 := (cellsAt_of_heap (vs := [.bool b0, .bool b1, .bool b2, .bool b3, .bool b4, .bool b5, .bool b6, .bool b7, .bool b8]) t3 6 _ rfl).1
    have c7 := (cellsAt_of_heap (vs := [.bool b0, .bool b1, .bool b2, .bool b3, .bool b4, .bool b5, .bool b6, .bool b7, .bool b8]) t3 7 _ rfl).1
    have c8 := (cellsAt_of_heap (vs := [.bool b0, .bool b1, .bool b2, .bool b3, .bool b4, .bool b5, .bool b6, .bool b7, .bool b8]) t3 8 _ rfl).1
    obtain ⟨bk, hbk⟩ : ∃ b, decide (mask out ∈ ks) = b := ⟨_, rfl⟩
    have hlk : ∀ {W : World}, Below v2.heap.size v2 W → (Instr.lookup 148 (.map (some M)) (.agg #[.bool b0, .bool b1, .bool b2, .bool b3, .bool b4, .bool b5, .bool b6, .bool b7, .bool b8]) false).run Try.prog W = .ok (.bool bk) W := by
      intro W hb
      have h := MapS.look (HKT1.out.below hb) (mask_len out)
      rw [hbk, HBITS.out] at h
      exact h
    refine wp_region_Rs [(5, fun v _ => v = .bool bk)] [0, 1, 2, 3, 4, 5] 0 (by kernel_rfl) rfl (by simp only [List.forall_mem_cons]; exact ⟨keeps_eq, fun _ h => by cases h⟩) (by kernel_rfl) ?_
    simp only [numbered, List.filterMap_cons, List.filterMap_nil, List.getElem?_toArray, List.getElem?_cons_succ, List.getElem?_cons_zero, Option.map_some]
    show wpS _ _ _ _ _ _ _ [(_, _), (_, _), (_, _), (_, _), (_, _), (_, _)] _ _
    (refine wpS_quiet rfl rfl ?_; intro K2 hK inst hx; have s0 := fun x => (fun _ => bkeep (BQ.below x) q3) (hx x); have s1 := fun x => (fun _ => bkeep (BQ.below x) c0) (hx x); have s2 := fun x => (fun _ => bkeep (BQ.below x) c1) (hx x); have s3 := fun x => (fun _ => bkeep (BQ.below x) c2) (hx x); have s4 := fun x => (fun _ => bkeep (BQ.below x) c3) (hx x); have s5 := fun x => (fun _ => bkeep (BQ.below x) c4) (hx x); have s6 := fun x => (fun _ => bkeep (BQ.below x) c5) (hx x); have s7 := fun x => (fun _ => bkeep (BQ.below x) c6) (hx x); have s8 := fun x => (fun _ => bkeep (BQ.below x) c7) (hx x); have s9 := fun x => (fun _ => bkeep (BQ.below x) c8) (hx x); go_big_quiet_op; (first | go_big_quiet_on | (refine ⟨_, fun _ => rfl, ?_⟩; go_big_quiet_on)); clear hx inst)
    (refine wpS_quiet rfl rfl ?_; intro K2 hK inst hx; have s0 := fun x => (fun _ => bkeep (BQ.below x) q3) (hx x); have s1 := fun x => (fun _ => bkeep (BQ.below x) c0) (hx x); have s2 := fun x => (fun _ => bkeep (BQ.below x) c1) (hx x); have s3 := fun x => (fun _ => bkeep (BQ.below x) c2) (hx x); have s4 := fun x => (fun _ => bkeep (BQ.below x) c3) (hx x); have s5 := fun x => (fun _ => bkeep (BQ.below x) c4) (hx x); have s6 := fun x => (fun _ => bkeep (BQ.below x) c5) (hx x); have s7 := fun x => (fun _ => bkeep (BQ.below x) c6) (hx x); have s8 := fun x => (fun _ => bkeep (BQ.below x) c7) (hx x); have s9 := fun x => (fun _ => bkeep (BQ.below x) c8) (hx x); go_big_quiet_op; (first | go_big_quiet_on | (refine ⟨_, fun _ => rfl, ?_⟩; go_big_quiet_on)); clear hx inst)
    (refine wpS_quiet rfl rfl ?_; intro K2 hK inst hx; have s0 := fun x => (fun _ => bkeep (BQ.below x) q3) (hx x); have s1 := fun x => (fun _ => bkeep (BQ.below x) c0) (hx x); have s2 := fun x => (fun _ => bkeep (BQ.below x) c1) (hx x); have s3 := fun x => (fun _ => bkeep (BQ.below x) c2) (hx x); have s4 := fun x => (fun _ => bkeep (BQ.below x) c3) (hx x); have s5 := fun x => (fun _ => bkeep (BQ.below x) c4) (hx x); have s6 := fun x => (fun _ => bkeep (BQ.below x) c5) (hx x); have s7 := fun x => (fun _ => bkeep (BQ.below x) c6) (hx x); have s8 := fun x => (fun _ => bkeep (BQ.below x) c7) (hx x); have s9 := fun x => (fun _ => bkeep (BQ.below x) c8) (hx x); go_big_quiet_op; (first | go_big_quiet_on | (refine ⟨_, fun _ => rfl, ?_⟩; go_big_quiet_on)); clear hx inst)
    (refine wpS_quiet rfl rfl ?_; intro K2 hK inst hx; have s0 := fun x => (fun _ => bkeep (BQ.below x) q3) (hx x); have s1 := fun x => (fun _ => bkeep (BQ.below x) c0) (hx x); have s2 := fun x => (fun _ => bkeep (BQ.below x) c1) (hx x); have s3 := fun x => (fun _ => bkeep (BQ.below x) c2) (hx x); have s4 := fun x => (fun _ => bkeep (BQ.below x) c3) (hx x); have s5 := fun x => (fun _ => bkeep (BQ.below x) c4) (hx x); have s6 := fun x => (fun _ => bkeep (BQ.below x) c5) (hx x); have s7 := fun x => (fun _ => bkeep (BQ.below x) c6) (hx x); have s8 := fun x => (fun _ => bkeep (BQ.below x) c7) (hx x); have s9 := fun x => (fun _ => bkeep (BQ.below x) c8) (hx x); go_big_quiet_op; (first | go_big_quiet_on | (refine ⟨_, fun _ => rfl, ?_⟩; go_big_quiet_on)); clear hx inst)
    (refine wpS_quiet rfl rfl ?_; intro K2 hK inst hx; have s0 := fun x => (fun _ => bkeep (BQ.below x) q3) (hx x); have s1 := fun x => (fun _ => bkeep (BQ.below x) c0) (hx x); have s2 := fun x => (fun _ => bkeep (BQ.below x) c1) (hx x); have s3 := fun x => (fun _ => bkeep (BQ.below x) c2) (hx x); have s4 := fun x => (fun _ => bkeep (BQ.below x) c3) (hx x); have s5 := fun x => (fun _ => bkeep (BQ.below x) c4) (hx x); have s6 := fun x => (fun _ => bkeep (BQ.below x) c5) (hx x); have s7 := fun x => (fun _ => bkeep (BQ.below x) c6) (hx x); have s8 := fun x => (fun _ => bkeep (BQ.below x) c7) (hx x); have s9 := fun x => (fun _ => bkeep (BQ.below x) c8) (hx x); go_big_quiet_op; (first | go_big_quiet_on | (refine ⟨_, fun _ => rfl, ?_⟩; go_big_quiet_on)); clear hx inst)
    refine wpS_fresh rfl rfl (fun w' hb hF => ?_) ?_
    · change freshAt _ _ _ (fun v _ => v = .bool bk) _; unfold freshAt; go_simp; simp [hlk hb, Below.refl]
    intro v W hv; simp only [pOf, List.lookup_cons, Nat.reduceBEq, beq_self_eq_true] at hv; subst hv
    simp only [Act.put, List.setIfInBounds_toArray, List.set_cons_succ, List.set_cons_zero]
    refine wpS_nil ?_
    intro v3 hall
    have hb := hall.1
    clear hall
    refine wpAny_done (by kernel_rfl) ?_ _
    have hz3 := hb.size
    clear hlk c0 c1 c2 c3 c4 c5 c6 c7 c8
    replace t3 := heap_below t3 hb
    replace yX := yX.below hb
    replace hK1 := hK1.trans (Keep1.of_below hb)
    replace HKT1 := hid (HKT1.out.below hb)
    replace ho1 := owns_below ho1 hb
    clear q0 q1 q2 q3
    have q0 := (yX 0 _ rfl).1; have q1 := (yX 1 _ rfl).1; have q2 := (yX 2 _ rfl).1; have q3 := (yX 3 _ rfl).1
    cases bk
    case true =>
      have hin : mask out ∈ ks := of_decide_eq_true hbk
      have hno : seatF (fitsR bs sps) m (d + 1) out = none := by (have h := markOk_hit (out := out) (by rw [HN.out]; exact HMK.out) HSO.out (by rw [HN.out]; omega) hin; rwa [HN.out, show n - N = d + 1 by omega] at h)
      go_wp2_with fail
      exact bodyPost_ret (v := .bool false) (by simp [results, Try.results121, go_sem]) rfl ⟨_, ks, hK1, yX, .inr ⟨hno, rfl, by rw [HN.out]; exact ho1, HKT1.out, markTo_rfl _ _ _ _⟩⟩
    case false =>
      have hni : ¬ mask out ∈ ks := of_decide_eq_false hbk
      go_upto_region 5 with fail
      have c0 := (cellsAt_of_heap (vs := [.bool b0, .bool b1, .bool b2, .bool b3, .bool b4, .bool b5, .bool b6, .bool b7, .bool b8]) t3 0 _ rfl).1
      have c1 := (cellsAt_of_heap (vs := [.bool b0, .bool b1, .bool b2, .bool b3, .bool b4, .bool b5, .bool b6, .bool b7, .bool b8]) t3 1 _ rfl).1
      have c2 := (cellsAt_of_heap (vs := [.bool b0, .bool b1, .bool b2, .bool b3, .bool b4, .bool b5, .bool b6, .bool b7, .bool b8]) t3 2 _ rfl).1
      have c3 := (cellsAt_of_heap (vs := [.bool b0, .bool b1, .bool b2, .bool b3, .bool b4, .bool b5, .bool b6, .bool b7, .bool b8]) t3 3 _ rfl).1
      have c4 := (cellsAt_of_heap (vs := [.bool b0, .bool b1, .bool b2, .bool b3, .bool b4, .bool b5, .bool b6, .bool b7, .bool b8]) t3 4 _ rfl).1
      have c5 := (cellsAt_of_heap (vs := [.bool b0, .bool b1, .bool b2, .bool b3, .bool b4, .bool b5, .bool b6, .bool b7, .bool b8]) t3 5 _ rfl).1
      have c6 := (cellsAt_of_heap (vs := [.bool b0, .bool b1, .bool b2, .bool b3, .bool b4, .bool b5, .bool b6, .bool b7, .bool b8]) t3 6 _ rfl).1
      have c7 := (cellsAt_of_heap (vs := [.bool b0, .bool b1, .bool b2, .bool b3, .bool b4, .bool b5, .bool b6, .bool b7, .bool b8]) t3 7 _ rfl).1
      have c8 := (cellsAt_of_heap (vs := [.bool b0, .bool b1, .bool b2, .bool b3, .bool b4, .bool b5, .bool b6, .bool b7, .bool b8]) t3 8 _ rfl).1
      refine wp_region_Rs [] [0, 1, 2, 3, 4] 1 (by kernel_rfl) rfl (fun _ h => by cases h) (by kernel_rfl) ?_
      simp only [numbered, List.filterMap_cons, List.filterMap_nil, List.getElem?_toArray, List.getElem?_cons_succ, List.getElem?_cons_zero, Option.map_some]
      show wpS _ _ _ _ _ _ _ [(_, _), (_, _), (_, _), (_, _), (_, _)] _ _
      (refine wpS_quiet rfl rfl ?_; intro K2 hK inst hx; have s0 := fun x => (fun _ => bkeep (BQ.below x) q3) (hx x); have s1 := fun x => (fun _ => bkeep (BQ.below x) c0) (hx x); have s2 := fun x => (fun _ => bkeep (BQ.below x) c1) (hx x); have s3 := fun x => (fun _ => bkeep (BQ.below x) c2) (hx x); have s4 := fun x => (fun _ => bkeep (BQ.below x) c3) (hx x); have s5 := fun x => (fun _ => bkeep (BQ.below x) c4) (hx x); have s6 := fun x => (fun _ => bkeep (BQ.below x) c5) (hx x); have s7 := fun x => (fun _ => bkeep (BQ.below x) c6) (hx x); have s8 := fun x => (fun _ => bkeep (BQ.below x) c7) (hx x); have s9 := fun x => (fun _ => bkeep (BQ.below x) c8) (hx x); go_big_quiet_op; (first | go_big_quiet_on | (refine ⟨_, fun _ => rfl, ?_⟩; go_big_quiet_on)); clear hx inst)
      (refine wpS_quiet rfl rfl ?_; intro K2 hK inst hx; have s0 := fun x => (fun _ => bkeep (BQ.below x) q3) (hx x); have s1 := fun x => (fun _ => bkeep (BQ.below x) c0) (hx x); have s2 := fun x => (fun _ => bkeep (BQ.below x) c1) (hx x); have s3 := fun x => (fun _ => bkeep (BQ.below x) c2) (hx x); have s4 := fun x => (fun _ => bkeep (BQ.below x) c3) (hx x); have s5 := fun x => (fun _ => bkeep (BQ.below x) c4) (hx x); have s6 := fun x => (fun _ => bkeep (BQ.below x) c5) (hx x); have s7 := fun x => (fun _ => bkeep (BQ.below x) c6) (hx x); have s8 := fun x => (fun _ => bkeep (BQ.below x) c7) (hx x); have s9 := fun x => (fun _ => bkeep (BQ.below x) c8) (hx x); go_big_quiet_op; (first | go_big_quiet_on | (refine ⟨_, fun _ => rfl, ?_⟩; go_big_quiet_on)); clear hx inst)
      (refine wpS_quiet rfl rfl ?_; intro K2 hK inst hx; have s0 := fun x => (fun _ => bkeep (BQ.below x) q3) (hx x); have s1 := fun x => (fun _ => bkeep (BQ.below x) c0) (hx x); have s2 := fun x => (fun _ => bkeep (BQ.below x) c1) (hx x); have s3 := fun x => (fun _ => bkeep (BQ.below x) c2) (hx x); have s4 := fun x => (fun _ => bkeep (BQ.below x) c3) (hx x); have s5 := fun x => (fun _ => bkeep (BQ.below x) c4) (hx x); have s6 := fun x => (fun _ => bkeep (BQ.below x) c5) (hx x); have s7 := fun x => (fun _ => bkeep (BQ.below x) c6) (hx x); have s8 := fun x => (fun _ => bkeep (BQ.below x) c7) (hx x); have s9 := fun x => (fun _ => bkeep (BQ.below x) c8) (hx x); go_big_quiet_op; (first | go_big_quiet_on | (refine ⟨_, fun _ => rfl, ?_⟩; go_big_quiet_on)); clear hx inst)
      (refine wpS_quiet rfl rfl ?_; intro K2 hK inst hx; have s0 := fun x => (fun _ => bkeep (BQ.below x) q3) (hx x); have s1 := fun x => (fun _ => bkeep (BQ.below x) c0) (hx x); have s2 := fun x => (fun _ => bkeep (BQ.below x) c1) (hx x); have s3 := fun x => (fun _ => bkeep (BQ.below x) c2) (hx x); have s4 := fun x => (fun _ => bkeep (BQ.below x) c3) (hx x); have s5 := fun x => (fun _ => bkeep (BQ.below x) c4) (hx x); have s6 := fun x => (fun _ => bkeep (BQ.below x) c5) (hx x); have s7 := fun x => (fun _ => bkeep (BQ.below x) c6) (hx x); have s8 := fun x => (fun _ => bkeep (BQ.below x) c7) (hx x); have s9 := fun x => (fun _ => bkeep (BQ.below x) c8) (hx x); go_big_quiet_op; (first | go_big_quiet_on | (refine ⟨_, fun _ => rfl, ?_⟩; go_big_quiet_on)); clear hx inst)
      (refine wpS_quiet rfl rfl ?_; intro K2 hK inst hx; have s0 := fun x => (fun _ => bkeep (BQ.below x) q3) (hx x); have s1 := fun x => (fun _ => bkeep (BQ.below x) c0) (hx x); have s2 := fun x => (fun _ => bkeep (BQ.below x) c1) (hx x); have s3 := fun x => (fun _ => bkeep (BQ.below x) c2) (hx x); have s4 := fun x => (fun _ => bkeep (BQ.below x) c3) (hx x); have s5 := fun x => (fun _ => bkeep (BQ.below x) c4) (hx x); have s6 := fun x => (fun _ => bkeep (BQ.below x) c5) (hx x); have s7 := fun x => (fun _ => bkeep (BQ.below x) c6) (hx x); have s8 := fun x => (fun _ => bkeep (BQ.below x) c7) (hx x); have s9 := fun x => (fun _ => bkeep (BQ.below x) c8) (hx x); go_big_quiet_op; (first | go_big_quiet_on | (refine ⟨_, fun _ => rfl, ?_⟩; go_big_quiet_on)); clear hx inst)
      refine wpS_nil ?_
      intro v4 hall
      have hb := hall.1
      clear hall c0 c1 c2 c3 c4 c5 c6 c7 c8
      have hz4 := hb.size
      replace t3 := heap_below t3 hb
      replace yX := yX.below hb
      replace hK1 := hK1.trans (Keep1.of_below hb)
      replace HKT1 := hid (HKT1.out.below hb)
      replace ho1 := owns_below ho1 hb
      clear q0 q1 q2 q3
      have q0 := (yX 0 _ rfl).1; have q1 := (yX 1 _ rfl).1; have q2 := (yX 2 _ rfl).1; have q3 := (yX 3 _ rfl).1
      obtain ⟨v5, hwr, hkt5, hg5⟩ := MapS.write HKT1.out (mask_len out) hni
      rw [HBITS.out] at hwr
      change (Instr.mapUpdate _ _ (.agg #[.bool b0, .bool b1, .bool b2, .bool b3, .bool b4, .bool b5, .bool b6, .bool b7, .bool b8]) _).run _ _ = _ at hwr
      refine wpAny_ready (rs := [5]) (by kernel_rfl) (by simp) ?_
      refine AllReady.cons rfl (fun K hK => ?_) AllReady.nil
      go_simp
      refine hK _ _ ?_; clear hK K
      refine wpAny_done (by kernel_rfl) ?_ _
      replace t3 : v5.heap[w.heap.size]? = _ := (hg5.block _ (Array.getElem?_eq_some_iff.1 t3).1 (fun e => by injection e with e; omega)).trans t3
      replace yX : CellsAt v5 X [.slice ba n bc, .slice sa m sc, .slice va N vc, .map (some M)] := fun o v hv => ⟨grown_kept hg5 (yX o v hv).1 (fun e => hXM (by injection e)), grown_free hg5 (yX o v hv).1 (yX o v hv).2 (fun e => hXM (by injection e))⟩
      replace hK1 := hK1.trans (Keep1.of_map hg5)
      replace ho1 := ho1.kept hg5 (.inr (Ne.symm (owns_not ho1 hMl)))
      replace HKT1 := hid hkt5
      have hz5 := hg5.size
      clear hkt5 hg5 hwr hb q0 q1 q2 q3
      have q0 := (yX 0 _ rfl).1; have q1 := (yX 1 _ rfl).1; have q2 := (yX 2 _ rfl).1; have q3 := (yX 3 _ rfl).1
      obtain ⟨⟨lo1, hi1, l1⟩, hb1⟩ : ∃ b, bs[N]? = some b := ⟨_, List.getElem?_eq_getElem (by omega)⟩
      obtain ⟨ax, cx, eb, -, h3⟩ := hbn.keep hK1.keepP
      injection eb with ea eN ec
      subst ea
      clear eN ec
      obtain ⟨g, u1, e1, e2, e3, e4, e5, e6, e7⟩ := h3 N _ hb1
      subst e1
      clear h3
      have hNi : (N : Int) < (n : Int) := by omega
      dsimp only at e3 e4 e5 e6
      obtain ⟨ua1, uc1, rfl, -⟩ := e6.shape
      rw [List.length_map] at e5 e6 e7
      have HB1 := hid hb1; have HOK1 := hid (hbok _ (List.mem_of_getElem? hb1))
      clear hb1
      go_upto_region 6 with fail
      refine wp_region_Rs [(11, NewObj v5.heap.size #[.int .i64 0, .int .i64 0, .slice none 0 0] 26)] [0, 1, 2, 3, 4, 5, 6, 7, 8, 9, 10, 11] 1 (by kernel_rfl) rfl (by simp only [List.forall_mem_cons]; exact ⟨keeps_obj, fun _ h => by cases h⟩) (by kernel_rfl) ?_
      simp only [numbered, List.filterMap_cons, List.filterMap_nil, List.getElem?_toArray, List.getElem?_cons_succ, List.getElem?_cons_zero, Option.map_some]
      show wpS _ _ _ _ _ _ _ [(_, _), (_, _), (_, _), (_, _), (_, _), (_, _), (_, _), (_, _), (_, _), (_, _), (_, _), (_, _)] _ _
      (refine wpS_quiet rfl rfl ?_; intro K2 hK inst hx; have s0 := fun x => (fun _ => bkeep (BQ.below x) q0) (hx x); have s1 := fun x => (fun _ => bkeep (BQ.below x) q2) (hx x); have s2 := fun x => (fun _ => bkeep (BQ.below x) e3) (hx x); have s3 := fun x => (fun _ => bkeep (BQ.below x) e4) (hx x); have s4 := fun x => (fun _ => bkeep (BQ.below x) e5) (hx x); go_big_quiet_op; (first | go_big_quiet_on | (refine ⟨_, fun _ => rfl, ?_⟩; go_big_quiet_on)); clear hx inst)
      (refine wpS_quiet rfl rfl ?_; intro K2 hK inst hx; have s0 := fun x => (fun _ => bkeep (BQ.below x) q0) (hx x); have s1 := fun x => (fun _ => bkeep (BQ.below x) q2) (hx x); have s2 := fun x => (fun _ => bkeep (BQ.below x) e3) (hx x); have s3 := fun x => (fun _ => bkeep (BQ.below x) e4) (hx x); have s4 := fun x => (fun _ => bkeep (BQ.below x) e5) (hx x); go_big_quiet_op; (first | go_big_quiet_on | (refine ⟨_, fun _ => rfl, ?_⟩; go_big_quiet_on)); clear hx inst)
      (refine wpS_quiet rfl rfl ?_; intro K2 hK inst hx; have s0 := fun x => (fun _ => bkeep (BQ.below x) q0) (hx x); have s1 := fun x => (fun _ => bkeep (BQ.below x) q2) (hx x); have s2 := fun x => (fun _ => bkeep (BQ.below x) e3) (hx x); have s3 := fun x => (fun _ => bkeep (BQ.below x) e4) (hx x); have s4 := fun x => (fun _ => bkeep (BQ.below x) e5) (hx x); go_big_quiet_op; (first | go_big_quiet_on | (refine ⟨_, fun _ => rfl, ?_⟩; go_big_quiet_on)); clear hx inst)
      (refine wpS_quiet rfl rfl ?_; intro K2 hK inst hx; have s0 := fun x => (fun _ => bkeep (BQ.below x) q0) (hx x); have s1 := fun x => (fun _ => bkeep (BQ.below x) q2) (hx x); have s2 := fun x => (fun _ => bkeep (BQ.below x) e3) (hx x); have s3 := fun x => (fun _ => bkeep (BQ.below x) e4) (hx x); have s4 := fun x => (fun _ => bkeep (BQ.below x) e5) (hx x); go_big_quiet_op; (first | go_big_quiet_on | (refine ⟨_, fun _ => rfl, ?_⟩; go_big_quiet_on)); clear hx inst)
      (refine wpS_quiet rfl rfl ?_; intro K2 hK inst hx; have s0 := fun x => (fun _ => bkeep (BQ.below x) q0) (hx x); have s1 := fun x => (fun _ => bkeep (BQ.below x) q2) (hx x); have s2 := fun x => (fun _ => bkeep (BQ.below x) e3) (hx x); have s3 := fun x => (fun _ => bkeep (BQ.below x) e4) (hx x); have s4 := fun x => (fun _ => bkeep (BQ.below x) e5) (hx x); go_big_quiet_op; (first | go_big_quiet_on | (refine ⟨_, fun _ => rfl, ?_⟩; go_big_quiet_on)); clear hx inst)
      (refine wpS_quiet rfl rfl ?_; intro K2 hK inst hx; have s0 := fun x => (fun _ => bkeep (BQ.below x) q0) (hx x); have s1 := fun x => (fun _ => bkeep (BQ.below x) q2) (hx x); have s2 := fun x => (fun _ => bkeep (BQ.below x) e3) (hx x); have s3 := fun x => (fun _ => bkeep (BQ.below x) e4) (hx x); have s4 := fun x => (fun _ => bkeep (BQ.below x) e5) (hx x); go_big_quiet_op; (first | go_big_quiet_on | (refine ⟨_, fun _ => rfl, ?_⟩; go_big_quiet_on)); clear hx inst)
      (refine wpS_quiet rfl rfl ?_; intro K2 hK inst hx; have s0 := fun x => (fun _ => bkeep (BQ.below x) q0) (hx x); have s1 := fun x => (fun _ => bkeep (BQ.below x) q2) (hx x); have s2 := fun x => (fun _ => bkeep (BQ.below x) e3) (hx x); have s3 := fun x => (fun _ => bkeep (BQ.below x) e4) (hx x); have s4 := fun x => (fun _ => bkeep (BQ.below x) e5) (hx x); go_big_quiet_op; (first | go_big_quiet_on | (refine ⟨_, fun _ => rfl, ?_⟩; go_big_quiet_on)); clear hx inst)
      (refine wpS_quiet rfl rfl ?_; intro K2 hK inst hx; have s0 := fun x => (fun _ => bkeep (BQ.below x) q0) (hx x); have s1 := fun x => (fun _ => bkeep (BQ.below x) q2) (hx x); have s2 := fun x => (fun _ => bkeep (BQ.below x) e3) (hx x); have s3 := fun x => (fun _ => bkeep (BQ.below x) e4) (hx x); have s4 := fun x => (fun _ => bkeep (BQ.below x) e5) (hx x); go_big_quiet_op; (first | go_big_quiet_on | (refine ⟨_, fun _ => rfl, ?_⟩; go_big_quiet_on)); clear hx inst)
      (refine wpS_quiet rfl rfl ?_; intro K2 hK inst hx; have s0 := fun x => (fun _ => bkeep (BQ.below x) q0) (hx x); have s1 := fun x => (fun _ => bkeep (BQ.below x) q2) (hx x); have s2 := fun x => (fun _ => bkeep (BQ.below x) e3) (hx x); have s3 := fun x => (fun _ => bkeep (BQ.below x) e4) (hx x); have s4 := fun x => (fun _ => bkeep (BQ.below x) e5) (hx x); go_big_quiet_op; (first | go_big_quiet_on | (refine ⟨_, fun _ => rfl, ?_⟩; go_big_quiet_on)); clear hx inst)
      (refine wpS_quiet rfl rfl ?_; intro K2 hK inst hx; have s0 := fun x => (fun _ => bkeep (BQ.below x) q0) (hx x); have s1 := fun x => (fun _ => bkeep (BQ.below x) q2) (hx x); have s2 := fun x => (fun _ => bkeep (BQ.below x) e3) (hx x); have s3 := fun x => (fun _ => bkeep (BQ.below x) e4) (hx x); have s4 := fun x => (fun _ => bkeep (BQ.below x) e5) (hx x); go_big_quiet_op; (first | go_big_quiet_on | (refine ⟨_, fun _ => rfl, ?_⟩; go_big_quiet_on)); clear hx inst)
      (refine wpS_quiet rfl rfl ?_; intro K2 hK inst hx; have s0 := fun x => (fun _ => bkeep (BQ.below x) q0) (hx x); have s1 := fun x => (fun _ => bkeep (BQ.below x) q2) (hx x); have s2 := fun x => (fun _ => bkeep (BQ.below x) e3) (hx x); have s3 := fun x => (fun _ => bkeep (BQ.below x) e4) (hx x); have s4 := fun x => (fun _ => bkeep (BQ.below x) e5) (hx x); go_big_quiet_op; (first | go_big_quiet_on | (refine ⟨_, fun _ => rfl, ?_⟩; go_big_quiet_on)); clear hx inst)
      refine wpS_fresh rfl rfl (fun w' hb hF => ?_) ?_
      · change freshAt _ _ _ (NewObj v5.heap.size #[.int .i64 0, .int .i64 0, .slice none 0 0] 26) _; unfold freshAt; go_simp; exact obj_of hb
      intro v W hv; simp only [pOf, List.lookup_cons, Nat.reduceBEq, beq_self_eq_true] at hv; obtain ⟨B5, hB5, rfl, -⟩ := hv
      simp only [Act.put, List.setIfInBounds_toArray, List.set_cons_succ, List.set_cons_zero]
      refine wpS_nil ?_
      intro v6 hall
      have hb := hall.1
      have hN : NewObj v5.heap.size #[.int .i64 0, .int .i64 0, .slice none 0 0] 26 _ v6 := hall.2 11 _ rfl
      obtain ⟨B', hB', hv', hob⟩ := hN
      obtain rfl : B5 = B' := by simpa using hv'
      clear hall hv' hB'
      have yL := obj_cells (cs := [.int .i64 0, .int .i64 0, .slice none 0 0]) hob
      have c0 := (yL 0 _ rfl).1; have c1 := (yL 1 _ rfl).1; have c2 := (yL 2 _ rfl).1; have f0 := (yL 0 _ rfl).2; have f1 := (yL 1 _ rfl).2; have f2 := (yL 2 _ rfl).2
      refine wpAny_ready (rs := [12]) (by kernel_rfl) (by simp) ?_
      refine AllReady.cons rfl (fun K hK => ?_) AllReady.nil
      go_simp
      refine hK _ _ ?_; clear hK K
      refine wpAny_done (by kernel_rfl) ?_ _
      have t5 := obj_set (k := 2) (u := .slice ua1 l1.length uc1) (obj_set (k := 1) (u := .int .i64 hi1) (obj_set (cs := [.int .i64 0, .int .i64 0, .slice none 0 0]) (k := 0) (u := .int .i64 lo1) hob (by simp)) (by simp)) (by simp)
      replace hb := ((hb.setCell (p := ⟨B5, 0, none⟩) hB5 (.int .i64 lo1)).setCell (p := ⟨B5, 1, none⟩) hB5 (.int .i64 hi1)).setCell (p := ⟨B5, 2, none⟩) hB5 (.slice ua1 l1.length uc1)
      clear yL hob c0 c1 c2 f0 f1 f2
      generalize (World.setCell _ _ _ : World) = w6 at *
      dsimp only [List.set] at t5
      replace e6 := e6.below hb
      clear e3 e4 e5
      replace t3 := heap_below t3 hb
      replace yX := yX.below hb
      replace hK1 := hK1.trans (Keep1.of_below hb)
      replace HKT1 := hid (HKT1.out.below hb)
      replace ho1 := owns_below ho1 hb
      clear q0 q1 q2 q3
      have q0 := (yX 0 _ rfl).1; have q1 := (yX 1 _ rfl).1; have q2 := (yX 2 _ rfl).1; have q3 := (yX 3 _ rfl).1
      have hz6 := hb.size
      clear hb
      have hK6 := hK1
      have h6 := t3; have h65 := t5
      go_wp2_with fail
      go_loopg [47] m (fun gk iv wr => ∃ (k : Nat) (vv : Value) (ks2 : List (List Bool)), k ≤ m ∧ gk = m - k ∧ iv = .int .i64 k ∧ Keep1 3 lo X M w6 wr ∧ CellsAt wr X [.slice (some g) n bc, .slice sa m sc, vv, .map (some M)] ∧ Hid (MapS Try.prog 152 4 M ks2 wr) ∧ wr.ownsRow lo 3 1 vv N (cellsN out) ∧ Hid (MarkTo (fitsR bs sps) m n (fun p => p ∈ ks ∨ p = mask out) (fun p => p ∈ ks2)) ∧ Hid (seatF (fitsR bs sps) m (d + 1) out = seatL (fitsR bs sps) m d out k))
      case atStart => exact ⟨0, _, _, Nat.zero_le _, rfl, rfl, Keep1.refl, yX, HKT1, ho1, hid (fun p hp => .inl ((List.mem_cons.1 hp).elim .inr .inl)), hid (seatF_succ _ _ _ _)⟩
      case round =>
        clear yX HKT1 ho1 hK1 t3 t5 q0 q1 q2 q3
        obtain ⟨k, vv, ks2, hk, hgk, rfl, hKr, yr, HKr, hor, HMT, HSF⟩ := hrel
        have HGK := hid hgk
        clear hgk
        obtain ⟨vr, vrc, rfl, -⟩ := owns_shape hor
        have hzr := hKr.size
        have t3 := hKr.heap h6 (by omega) (by omega) (by intro c g e; injection e with _ e _; exact absurd e (by decide))
        have t5 := hKr.heap h65 (by omega) (by omega) (by intro c g e; injection e with _ e _; exact absurd e (by decide))
        by_cases hlt : k < m
        · have hki : (k : Int) < (m : Int) := by omega
          have hk9 : k < 9 := by omega
          have hk9i : (k : Int) < 9 := by omega
          have hk0 : (0 : Int) ≤ (k : Int) := by omega
          obtain ⟨⟨cr, le⟩, hs1⟩ : ∃ s, sps[k]? = some s := ⟨_, List.getElem?_eq_getElem (by omega)⟩
          obtain ⟨sg, es, p0, p1⟩ := sp_row (rows_keepP hsp hsi (hK6.trans hKr).keepP) hm hs1
          have HS1 := hid hs1
          clear hs1
          dsimp only at p0 p1
          subst es
          go_upto_region 10 with fail
          generalize hW : World.alloc wr _ = v7
          have y7 : CellsAt v7 wr.heap.size [.int .i64 cr, .int .i64 le] := by rw [← hW]; exact CellsAt.new wr [.int .i64 cr, .int .i64 le] 28
          have hb : Below wr.heap.size wr v7 := by rw [← hW]; exact (Below.refl _ _).alloc (Nat.le_refl _) _
          have hz7 : wr.heap.size < v7.heap.size := by rw [← hW]; simp
          clear hW p0 p1
          have hb6 := (rows_keepP e6 e7 hKr.keepP).below hb
          replace yr := yr.below hb
          replace t3 := heap_below t3 hb
          replace t5 := heap_below t5 hb
          replace hor := owns_below hor hb
          replace HKr := hid (HKr.out.below hb)
          replace hKr := hKr.trans (Keep1.of_below hb)
          clear hb
          obtain ⟨tk, htk⟩ : ∃ t, out.contains k = t := ⟨_, rfl⟩
          have ck : ([.bool b0, .bool b1, .bool b2, .bool b3, .bool b4, .bool b5, .bool b6, .bool b7, .bool b8] : List Value)[k]? = some (.bool tk) := by (have h := mask_get out hk9; rw [HBITS.out, htk] at h; show (List.map Value.bool [b0, b1, b2, b3, b4, b5, b6, b7, b8])[k]? = _; rw [List.getElem?_map, h]; rfl)
          have q9 := (cellsAt_of_heap (vs := [.bool b0, .bool b1, .bool b2, .bool b3, .bool b4, .bool b5, .bool b6, .bool b7, .bool b8]) t3 k _ ck).1
          clear ck
          cases tk
          · obtain ⟨r, hr⟩ : ∃ r, fitA lo1 hi1 l1 cr le = r := ⟨_, rfl⟩
            have HR1 := hid hr
            clear hr
            obtain ⟨hw1, -, hl1⟩ := bungOk_parts HOK1.out
            have g7 := (y7 0 _ rfl).1; have g8 := (y7 1 _ rfl).1
            have g5 := cellsAt_of_heap (vs := [.int .i64 lo1, .int .i64 hi1, .slice ua1 l1.length uc1]) t5
            have g0 := (g5 0 _ rfl).1; have g1 := (g5 1 _ rfl).1; have g2 := (g5 2 _ rfl).1
            clear g5
            go_wp2_with fail
            refine (fits_any hb6 (listOk_len hl1) hl1 (wad_b hw1).1 (wad_b hw1).2 HR1.out).mono ?_
            rintro e v8 ⟨rfl, hb⟩
            have hz8 := hb.size
            replace yr := yr.below hb
            replace t3 := heap_below t3 hb
            replace t5 := heap_below t5 hb
            replace hor := owns_below hor hb
            replace HKr := hid (HKr.out.below hb)
            replace hKr := hKr.trans (Keep1.of_below hb)
            clear hb g7 g8 g0 g1 g2 hb6 y7 q9
            have HFR := hid (show fitsR bs sps out.length k = decide (r = 1) by unfold fitsR; rw [HN.out, HB1.out, HS1.out]; dsimp only; rw [HR1.out])
            by_cases hr1 : r = 1
            · subst hr1
              have c0 := (cellsAt_of_heap (vs := [.bool b0, .bool b1, .bool b2, .bool b3, .bool b4, .bool b5, .bool b6, .bool b7, .bool b8]) t3 0 _ rfl).1
              have c1 := (cellsAt_of_heap (vs := [.bool b0, .bool b1, .bool b2, .bool b3, .bool b4, .bool b5, .bool b6, .bool b7, .bool b8]) t3 1 _ rfl).1
              have c2 := (cellsAt_of_heap (vs := [.bool b0, .bool b1, .bool b2, .bool b3, .bool b4, .bool b5, .bool b6, .bool b7, .bool b8]) t3 2 _ rfl).1
              have c3 := (cellsAt_of_heap (vs := [.bool b0, .bool b1, .bool b2, .bool b3, .bool b4, .bool b5, .bool b6, .bool b7, .bool b8]) t3 3 _ rfl).1
              have c4 := (cellsAt_of_heap (vs := [.bool b0, .bool b1, .bool b2, .bool b3, .bool b4, .bool b5, .bool b6, .bool b7, .bool b8]) t3 4 _ rfl).1
              have c5 := (cellsAt_of_heap (vs := [.bool b0, .bool b1, .bool b2, .bool b3, .bool b4, .bool b5, .bool b6, .bool b7, .bool b8]) t3 5 _ rfl).1
              have c6 := (cellsAt_of_heap (vs := [.bool b0, .bool b1, .bool b2, .bool b3, .bool b4, .bool b5, .bool b6, .bool b7, .bool b8]) t3 6 _ rfl).1
              have c7 := (cellsAt_of_heap (vs := [.bool b0, .bool b1, .bool b2, .bool b3, .bool b4, .bool b5, .bool b6, .bool b7, .bool b8]) t3 7 _ rfl).1
              have c8 := (cellsAt_of_heap (vs := [.bool b0, .bool b1, .bool b2, .bool b3, .bool b4, .bool b5, .bool b6, .bool b7, .bool b8]) t3 8 _ rfl).1
              go_upto_region 12 with fail
              generalize hW : World.alloc v8 _ = v9
              have t8 : v9.heap[v8.heap.size]? = some (.cells ([.bool b0, .bool b1, .bool b2, .bool b3, .bool b4, .bool b5, .bool b6, .bool b7, .bool b8] : List Value).toArray 152 (0, 0)) := by rw [← hW]; exact heap_alloc_new v8 _
              have hb : Below v8.heap.size v8 v9 := by rw [← hW]; exact (Below.refl _ _).alloc (Nat.le_refl _) _
              have hz9 : v8.heap.size < v9.heap.size := by rw [← hW]; simp
              clear hW t3 t5 c0 c1 c2 c3 c4 c5 c6 c7 c8
              obtain ⟨d0, d1, d2, d3, d4, d5, d6, d7, d8, hmd⟩ := mask9 (out ++ [k])
              have HD := hid hmd
              clear hmd
              have hms : ([.bool b0, .bool b1, .bool b2, .bool b3, .bool b4, .bool b5, .bool b6, .bool b7, .bool b8] : List Value).set k (.bool true) = [.bool d0, .bool d1, .bool d2, .bool d3, .bool d4, .bool d5, .bool d6, .bool d7, .bool d8] := by (have h := mask_snoc out hk9; rw [HBITS.out, HD.out] at h; show (List.map Value.bool [b0, b1, b2, b3, b4, b5, b6, b7, b8]).set k _ = List.map Value.bool [d0, d1, d2, d3, d4, d5, d6, d7, d8]; rw [h, List.map_set])
              have ck : ([.bool b0, .bool b1, .bool b2, .bool b3, .bool b4, .bool b5, .bool b6, .bool b7, .bool b8] : List Value)[k]? = some (.bool false) := by (have h := mask_get out hk9; rw [HBITS.out, htk] at h; show (List.map Value.bool [b0, b1, b2, b3, b4, b5, b6, b7, b8])[k]? = _; rw [List.getElem?_map, h]; rfl)
              have q9 := (cellsAt_of_heap (vs := [.bool b0, .bool b1, .bool b2, .bool b3, .bool b4, .bool b5, .bool b6, .bool b7, .bool b8]) t8 k _ ck).1; have f9 := (cellsAt_of_heap (vs := [.bool b0, .bool b1, .bool b2, .bool b3, .bool b4, .bool b5, .bool b6, .bool b7, .bool b8]) t8 k _ ck).2
              clear ck
              go_upto_region 13 with fail
              have t9 := obj_set (k := k) (u := .bool true) t8 (by simpa using hk9)
              rw [hms] at t9
              have hb9 := hb.setCell (p := ⟨v8.heap.size, k, none⟩) (Nat.le_refl _) (.bool true)
              clear t8 q9 f9 hb hms
              have hz10 : v8.heap.size < (v9.setCell ⟨v8.heap.size, k, none⟩ (.bool true)).heap.size := by simp; omega
              generalize (World.setCell _ _ _ : World) = v10 at *
              have hb := hb9
              clear hb9
              replace yr := yr.below hb
              replace hor := owns_below hor hb
              replace HKr := hid (HKr.out.below hb)
              replace hKr := hKr.trans (Keep1.of_below hb)
              clear hb
              have q0 := (yr 0 _ rfl).1; have q1 := (yr 1 _ rfl).1; have q2 := (yr 2 _ rfl).1; have q3 := (yr 3 _ rfl).1
              obtain ⟨i1, hj, hy0, hy1, hy2⟩ := info_parts Try.infoIn
              go_upto_region 14 with (at_builtin; go_must (refine wpList_append_own _ rfl _ _ 41 rfl lo 3 i1 (.int .i64 0) 1 8 Try.underlying41 hj hy0 hy1 hy2 rfl (by decide) _ _ _ rfl (hor.alloc _) ⟨v10.heap.size, 0, none⟩ 1 1 [.int .i64 (k : Int)] rfl rfl (new_cellsZ v10 _ _ _ rfl) (fun u hu => by simp only [List.mem_cons, List.not_mem_nil, or_false] at hu; rcases hu with rfl; rfl) (by unfold maxLen; omega) (by omega) (by have := hKr.size; simp; omega) ?_; intro v' w4 ho4 hg4 hnil; obtain ⟨y4, t4, hm4, hK4⟩ := seat_put hXl hKr yr HKr.out hor t9 hg4; have HK4 := hid hm4; clear hm4; obtain ⟨xa, xc, rfl, -⟩ := owns_shape ho4; have e2 := (y4 2 _ rfl).1; have f2 := (y4 2 _ rfl).2; clear hg4 hnil hor yr t9 HKr hKr q0 q1 q2 q3))
              have t14 := seat_heap (k := 2) (u := .slice xa (N + 1) xc) t4 (show v8.heap.size ≠ X by omega)
              obtain ⟨y14, hm14, hK14, ho14⟩ := seat_cell (u := .slice xa (N + 1) xc) hXl hXM hK4 y4 HK4.out ho4
              clear t4 y4 HK4 hK4 ho4 e2 f2
              generalize (World.setCell _ _ _ : World) = w14 at *
              have HM14 := hid hm14
              clear hm14
              have c0 := (cellsAt_of_heap (vs := [.bool d0, .bool d1, .bool d2, .bool d3, .bool d4, .bool d5, .bool d6, .bool d7, .bool d8]) t14 0 _ rfl).1
              have c1 := (cellsAt_of_heap (vs := [.bool d0, .bool d1, .bool d2, .bool d3, .bool d4, .bool d5, .bool d6, .bool d7, .bool d8]) t14 1 _ rfl).1
              have c2 := (cellsAt_of_heap (vs := [.bool d0, .bool d1, .bool d2, .bool d3, .bool d4, .bool d5, .bool d6, .bool d7, .bool d8]) t14 2 _ rfl).1
              have c3 := (cellsAt_of_heap (vs := [.bool d0, .bool d1, .bool d2, .bool d3, .bool d4, .bool d5, .bool d6, .bool d7, .bool d8]) t14 3 _ rfl).1
              have c4 := (cellsAt_of_heap (vs := [.bool d0, .bool d1, .bool d2, .bool d3, .bool d4, .bool d5, .bool d6, .bool d7, .bool d8]) t14 4 _ rfl).1
              have c5 := (cellsAt_of_heap (vs := [.bool d0, .bool d1, .bool d2, .bool d3, .bool d4, .bool d5, .bool d6, .bool d7, .bool d8]) t14 5 _ rfl).1
              have c6 := (cellsAt_of_heap (vs := [.bool d0, .bool d1, .bool d2, .bool d3, .bool d4, .bool d5, .bool d6, .bool d7, .bool d8]) t14 6 _ rfl).1
              have c7 := (cellsAt_of_heap (vs := [.bool d0, .bool d1, .bool d2, .bool d3, .bool d4, .bool d5, .bool d6, .bool d7, .bool d8]) t14 7 _ rfl).1
              have c8 := (cellsAt_of_heap (vs := [.bool d0, .bool d1, .bool d2, .bool d3, .bool d4, .bool d5, .bool d6, .bool d7, .bool d8]) t14 8 _ rfl).1
              have hon : (out ++ [k]).length = N + 1 := by rw [List.length_append, List.length_singleton, HN.out]
              have hIH := IH.out w14 _ (out ++ [k]) ks2 (by rw [hon]; omega) y14 (hbn.keep (hK6.trans hK14).keepP) (rows_keepP hsp hsi (hK6.trans hK14).keepP) hsi HM14.out (by rw [hon]; unfold cellsN; rw [List.map_append]; exact ho14) (seatOk_snoc HSO.out hlt htk) (by rw [hon, ← HN.out]; exact markOk_to (markOk_add hm9 (by rw [HN.out]; exact HMK.out) HSO.out) HMT.out) (by have := hK14.size; omega)
              have hkv2 : keyV (mask (out ++ [k])) = .agg #[.bool d0, .bool d1, .bool d2, .bool d3, .bool d4, .bool d5, .bool d6, .bool d7, .bool d8] := by rw [HD.out]; rfl
              rw [hkv2] at hIH
              clear hkv2
              have HIH := hid hIH
              clear hIH
              go_wp2_with fail
              refine HIH.out.mono ?_
              unfold SeatRes
              rintro e v15 ⟨v15v, ks3, hK15, y15, ⟨r, hsf, rfl, ho15⟩ | ⟨hsf, rfl, ho15, hkt15, hmt15⟩⟩
              · have HWIN := hid (HSF.out.trans (seatL_some _ out hlt (by rw [HFR.out, htk]; rfl) hsf))
                have hK := hid ((hK6.trans hK14).trans hK15)
                clear hsf hK14 hK15 t14 y14 ho14 c0 c1 c2 c3 c4 c5 c6 c7 c8
                go_wp2_with fail
                exact bodyPost_ret (v := .bool true) (by simp [results, Try.results121, go_sem]) rfl ⟨_, ks3, hK.out, y15, .inl ⟨r, HWIN.out, rfl, ho15⟩⟩
              · rw [hon] at ho15
                have HLOSE := hid (HSF.out.trans (seatL_none _ out hlt (by rw [HFR.out, htk]; rfl) hsf))
                have HMT2 := hid (markTo_trans HMT.out hmt15)
                have hKr := hK14.trans hK15
                have HK15 := hid hkt15
                clear hsf hmt15 hkt15 hK14 hK15 t14 y14 ho14 c0 c1 c2 c3 c4 c5 c6 c7 c8
                obtain ⟨gy, yc, rfl, hyc, hyc2⟩ := own_some ho15 (by omega)
                go_upto_region 16 with fail
                have q2 := (y15 2 _ rfl).1
                have hx1 : wrap64 (((N + 1 : Nat) : Int) - 1) = (N : Int) := by (rw [show ((N + 1 : Nat) : Int) - 1 = (N : Int) by omega]; exact IntWalk.wrap64_in _ (by omega))
                have hx2 : wrap64 ((N : Int) + 1 - 1) = (N : Int) := by (rw [show (N : Int) + 1 - 1 = (N : Int) by omega]; exact IntWalk.wrap64_in _ (by omega))
                have hx3 : (N : Int) ≤ (yc : Int) := by omega
                have hx4 : N ≤ yc := by omega
                have hx5 : (0 : Int) ≤ (N : Int) := by omega
                refine wp_region_Rs [] [0, 1, 2, 3, 4, 5, 6, 7, 8, 9, 10, 11, 12, 13] 1 (by kernel_rfl) rfl (fun _ h => by cases h) (by kernel_rfl) ?_
                simp only [numbered, List.filterMap_cons, List.filterMap_nil, List.getElem?_toArray, List.getElem?_cons_succ, List.getElem?_cons_zero, Option.map_some]
                show wpS _ _ _ _ _ _ _ [(_, _), (_, _), (_, _), (_, _), (_, _), (_, _), (_, _), (_, _), (_, _), (_, _), (_, _), (_, _), (_, _), (_, _)] _ _
                (refine wpS_quiet rfl rfl ?_; intro K2 hK inst hx; have s0 := fun x => (fun _ => bkeep (BQ.below x) q2) (hx x); go_big_quiet_op; (first | go_big_quiet_on | (refine ⟨_, fun _ => rfl, ?_⟩; go_big_quiet_on)); clear hx inst)
                (refine wpS_quiet rfl rfl ?_; intro K2 hK inst hx; have s0 := fun x => (fun _ => bkeep (BQ.below x) q2) (hx x); go_big_quiet_op; (first | go_big_quiet_on | (refine ⟨_, fun _ => rfl, ?_⟩; go_big_quiet_on)); clear hx inst)
                (refine wpS_quiet rfl rfl ?_; intro K2 hK inst hx; have s0 := fun x => (fun _ => bkeep (BQ.below x) q2) (hx x); go_big_quiet_op; (first | go_big_quiet_on | (refine ⟨_, fun _ => rfl, ?_⟩; go_big_quiet_on)); clear hx inst)
                (refine wpS_quiet rfl rfl ?_; intro K2 hK inst hx; have s0 := fun x => (fun _ => bkeep (BQ.below x) q2) (hx x); go_big_quiet_op; (first | go_big_quiet_on | (refine ⟨_, fun _ => rfl, ?_⟩; go_big_quiet_on)); clear hx inst)
                (refine wpS_quiet rfl rfl ?_; intro K2 hK inst hx; have s0 := fun x => (fun _ => bkeep (BQ.below x) q2) (hx x); go_big_quiet_op; (first | go_big_quiet_on | (refine ⟨_, fun _ => rfl, ?_⟩; go_big_quiet_on)); clear hx inst)
                (refine wpS_quiet rfl rfl ?_; intro K2 hK inst hx; have s0 := fun x => (fun _ => bkeep (BQ.below x) q2) (hx x); go_big_quiet_op; (first | go_big_quiet_on | (refine ⟨_, fun _ => rfl, ?_⟩; go_big_quiet_on)); clear hx inst)
                (refine wpS_quiet rfl rfl ?_; intro K2 hK inst hx; have s0 := fun x => (fun _ => bkeep (BQ.below x) q2) (hx x); go_big_quiet_op; (first | go_big_quiet_on | (refine ⟨_, fun _ => rfl, ?_⟩; go_big_quiet_on)); clear hx inst)
                (refine wpS_quiet rfl rfl ?_; intro K2 hK inst hx; have s0 := fun x => (fun _ => bkeep (BQ.below x) q2) (hx x); go_big_quiet_op; (first | go_big_quiet_on | (refine ⟨_, fun _ => rfl, ?_⟩; go_big_quiet_on)); clear hx inst)
                (refine wpS_quiet rfl rfl ?_; intro K2 hK inst hx; have s0 := fun x => (fun _ => bkeep (BQ.below x) q2) (hx x); go_big_quiet_op; (first | go_big_quiet_on | (refine ⟨_, fun _ => rfl, ?_⟩; go_big_quiet_on)); clear hx inst)
                (refine wpS_quiet rfl rfl ?_; intro K2 hK inst hx; have s0 := fun x => (fun _ => bkeep (BQ.below x) q2) (hx x); go_big_quiet_op; (first | go_big_quiet_on | (refine ⟨_, fun _ => rfl, ?_⟩; go_big_quiet_on)); clear hx inst)
                (refine wpS_quiet rfl rfl ?_; intro K2 hK inst hx; have s0 := fun x => (fun _ => bkeep (BQ.below x) q2) (hx x); go_big_quiet_op; (first | go_big_quiet_on | (refine ⟨_, fun _ => rfl, ?_⟩; go_big_quiet_on)); clear hx inst)
                (refine wpS_quiet rfl rfl ?_; intro K2 hK inst hx; have s0 := fun x => (fun _ => bkeep (BQ.below x) q2) (hx x); go_big_quiet_op; (first | go_big_quiet_on | (refine ⟨_, fun _ => rfl, ?_⟩; go_big_quiet_on)); clear hx inst)
                (refine wpS_quiet rfl rfl ?_; intro K2 hK inst hx; have s0 := fun x => (fun _ => bkeep (BQ.below x) q2) (hx x); go_big_quiet_op; (first | go_big_quiet_on | (refine ⟨_, fun _ => rfl, ?_⟩; go_big_quiet_on)); clear hx inst)
                (refine wpS_quiet rfl rfl ?_; intro K2 hK inst hx; have s0 := fun x => (fun _ => bkeep (BQ.below x) q2) (hx x); go_big_quiet_op; (first | go_big_quiet_on | (refine ⟨_, fun _ => rfl, ?_⟩; go_big_quiet_on)); clear hx inst)
                refine wpS_nil ?_
                intro v16 hall
                have hb := hall.1
                clear hall
                have ho16 := own_cut (xs := cellsN out) (ys := [.int .i64 (k : Int)]) (by (have h := owns_below ho15 hb; unfold cellsN at h ⊢; rw [List.map_append] at h; exact h)) (by unfold cellsN; rw [List.length_map]; exact HN.out)
                replace y15 := y15.below hb
                replace HK15 := hid (HK15.out.below hb)
                replace hKr := hKr.trans (Keep1.of_below hb)
                clear hb ho15 q2
                have e2 := (y15 2 _ rfl).1; have f2 := (y15 2 _ rfl).2
                refine wpAny_ready (rs := [14]) (by kernel_rfl) (by simp) ?_
                refine AllReady.cons rfl (fun K hK => ?_) AllReady.nil
                go_simp
                refine hK _ _ ?_; clear hK K
                refine wpAny_done (by kernel_rfl) ?_ _
                obtain ⟨yE, hmE, hKE, hoE⟩ := seat_cell (u := .slice (some ⟨gy, 0, none⟩) N yc) hXl hXM hKr y15 HK15.out ho16
                clear y15 HK15 hKr ho16 e2 f2 hx1 hx2
                generalize (World.setCell _ _ _ : World) = w17 at *
                have HME := hid hmE
                clear hmE
                go_wp2_with fail
                go_roundg (m - (k + 1))
                case measure => have h := HGK.out; omega
                case rel => exact ⟨k + 1, _, ks3, by omega, rfl, by go_num, hKE, yE, HME, hoE, HMT2, HLOSE⟩
            · have hrb : (r != 1) = true := by simpa using hr1
              go_wp2_with fail
              go_roundg (m - (k + 1))
              case measure => have h := HGK.out; omega
              case rel => exact ⟨k + 1, _, ks2, by omega, rfl, by go_num, hKr, yr, HKr, hor, HMT, hid (HSF.out.trans (seatL_skip _ out hlt (by rw [HFR.out, decide_eq_false hr1]; rfl)))⟩
          · go_wp2_with fail
            go_roundg (m - (k + 1))
            case measure => have h := HGK.out; omega
            case rel => exact ⟨k + 1, _, ks2, by omega, rfl, by go_num, hKr, yr, HKr, hor, HMT, hid (HSF.out.trans (seatL_skip _ out hlt (by rw [htk]; simp)))⟩
        · obtain rfl : k = m := by omega
          have hkm : ¬ (k : Int) < (k : Int) := by omega
          have hno := HSF.out.trans (seatL_end _ out (Nat.le_refl _))
          have HNO := hid hno
          clear hno
          go_wp2_with fail
          exact bodyPost_ret (v := .bool false) (by simp [results, Try.results121, go_sem]) rfl ⟨_, ks2, hK6.trans hKr, yr, .inr ⟨HNO.out, rfl, by rw [HN.out]; exact hor, HKr.out, markTo_add hm9 HSO.out HMT.out (by rw [HN.out, show n - N = d + 1 by omega]; exact HNO.out)⟩⟩

end Go.Proofs.Ytnchhleokdkejaa

/- A seating. -/
namespace Go.Proofs.Ytnchhleokdkejaa
open Go.RowKit Go.Pb Go.Pb.Ware Go.Pb.Sag
set_option linter.unusedVariables false
set_option linter.unusedSimpArgs false

open Go.Proofs Go.Maps Go.Pb.Bung
abbrev Bng := Int × Int × List Sg
def bsOk (bs : List Bng) : Bool := bs.all fun b => bungOk b.1 b.2.1 b.2.2
def spsOk (sps : List (Int × Int)) : Bool := sps.all fun s => decide (ckSp s.1 s.2 = 0)
/-- What Seat answers. -/
def seatA (bs : List Bng) (sps : List (Int × Int)) : List Nat × Int := if bsOk bs = false then ([], 31) else if spsOk sps = false then ([], 33) else if 9 < bs.length ∨ 9 < sps.length then ([], 36) else match seatF (fitsR bs sps) sps.length bs.length [] with | some r => (r, 0) | none => ([], 3)
def SeatP (bs : List Bng) (sps : List (Int × Int)) (w : World) (e : Ending) (w' : World) : Prop := ∃ v', e = .returned (.tuple #[v', .int .i64 (seatA bs sps).2]) ∧ Below w.heap.size w w' ∧ NumsAt w' v' (castN (seatA bs sps).1)
theorem bsOk_iff {bs : List Bng} : bsOk bs = true ↔ ∀ b ∈ bs, bungOk b.1 b.2.1 b.2.2 = true := by unfold bsOk; rw [List.all_eq_true]
theorem spsOk_iff {sps : List (Int × Int)} : spsOk sps = true ↔ ∀ s ∈ sps, ckSp s.1 s.2 = 0 := by
  unfold spsOk; rw [List.all_eq_true]
  exact ⟨fun h s hs => of_decide_eq_true (h s hs), fun h s hs => decide_eq_true (h s hs)⟩
theorem not_ok {b : Bool} (h : ¬ b = true) : b = false := by cases b; rfl; exact absurd rfl h
theorem seatP_err {bs : List Bng} {sps : List (Int × Int)} {w w' : World} {c : Int} (h : seatA bs sps = ([], c)) (hB : Below w.heap.size w w') : SeatP bs sps w (.returned (.tuple #[.slice none 0 0, .int .i64 c])) w' :=
  ⟨_, by rw [h], hB, by rw [h]; exact .inl ⟨rfl, rfl⟩⟩
theorem bnsIn_mono {p q : Nat → Prop} {w : World} {v : Value} {bs : List Bng} (h : BnsIn p w v bs) (hq : ∀ k, p k → q k) : BnsIn q w v bs := by
  obtain ⟨a, cap, h1, h2, h3⟩ := h
  refine ⟨a, cap, h1, h2, fun k b hb => ?_⟩
  obtain ⟨g, u, e1, e2, e3, e4, e5, e6, e7⟩ := h3 k b hb
  exact ⟨g, u, e1, hq _ e2, e3, e4, e5, e6, fun h => inP_mono (e7 h) hq⟩
theorem bns_row {p : Nat → Prop} {w : World} {a : Option Addr} {n c k : Nat} {bs : List Bng} {b : Bng} (h : BnsIn p w (.slice a n c) bs) (hb : bs[k]? = some b) : ∃ (g : Addr) (ua : Option Addr) (uc : Nat), a = some g ∧ w.cell? (g.add (k * 3)) = some (.int .i64 b.1) ∧ w.cell? ⟨(g.add (k * 3)).block, (g.add (k * 3)).off + 1, none⟩ = some (.int .i64 b.2.1) ∧ w.cell? ⟨(g.add (k * 3)).block, (g.add (k * 3)).off + 2, none⟩ = some (.slice ua b.2.2.length uc) ∧ RowsAt 8 w (.slice ua b.2.2.length uc) (b.2.2.map rowG) := by
  obtain ⟨ax, cx, eb, -, h3⟩ := h
  injection eb with ea _ _
  obtain ⟨g, u, e1, -, e3, e4, e5, e6, -⟩ := h3 k b hb
  obtain ⟨ua, uc, rfl, -⟩ := e6.shape
  rw [List.length_map] at e5 e6
  exact ⟨g, ua, uc, ea.trans e1, e3, e4, e5, e6⟩
theorem nums_of_seat {w : World} {lo n : Nat} {v : Value} {r : List Nat} (h : w.ownsRow lo 3 1 v n (cellsN r)) (hn : r.length = n) (h9 : ∀ k ∈ r, k < 9) : NumsAt w v (castN r) := by
  refine numsAt_of_owns (base := lo) (e := 3) (fun z hz => ?_) ?_
  · unfold castN at hz
    obtain ⟨k, hk, rfl⟩ := List.mem_map.1 hz
    have := h9 k hk
    exact I64.mk (by omega) (by omega)
  · rw [castN_len, hn, show (castN r).map (Value.int .i64) = cellsN r by unfold cellsN castN; rw [List.map_map]; rfl]
    exact h
theorem take_put2 {α : Type} {l : List α} {k : Nat} {b : α} {p : α → Prop} (h : ∀ x ∈ l.take k, p x) (hb : l[k]? = some b) (hp : p b) : ∀ x ∈ l.take (k + 1), p x := by
  rw [List.take_add_one, hb]
  intro x hx
  rcases List.mem_append.1 hx with h1 | h1
  · exact h x h1
  · have : x = b := by simpa using h1
    rw [this]; exact hp

set_option maxRecDepth 100000 in
set_option maxHeartbeats 1000000 in
theorem Seat_any {w : World} {v u : Value} {bs : List Bng} {sps : List (Int × Int)} (hbn : BnsIn (fun b => b < w.heap.size) w v bs) (hsp : RowsAt 2 w u (sps.map spR)) (hsi : sps.map spR ≠ [] → InP (fun b => b < w.heap.size) u) :
    Calls Try.prog 64 #[v, u] w (SeatP bs sps w) := by
  obtain ⟨n, hn⟩ : ∃ n, bs.length = n := ⟨_, rfl⟩
  obtain ⟨m, hm⟩ : ∃ m, sps.length = m := ⟨_, rfl⟩
  obtain ⟨ba, bc, rfl⟩ : ∃ a c, v = .slice a n c := by (obtain ⟨a, c, h, -⟩ := hbn; exact ⟨a, c, by rw [← hn]; exact h⟩)
  obtain ⟨sa, sc, rfl, hsl⟩ := hsp.shape
  rw [List.length_map, hm] at hsp hsl hsi ⊢
  have hnl : n ≤ 9223372036854775807 := by (obtain ⟨a, c, -, h, -⟩ := hbn; omega)
  have HN := hid hn; have HM := hid hm
  clear hn hm
  go_enter Try.func64, Try.ntmps64
  go_wp2_with fail
  go_loopg [15] n (fun gk iv wr => ∃ k : Nat, k ≤ n ∧ gk = n - k ∧ iv = .int .i64 k ∧ Below w.heap.size w wr ∧ Hid (∀ b ∈ bs.take k, bungOk b.1 b.2.1 b.2.2 = true))
  case atStart => exact ⟨0, Nat.zero_le _, rfl, rfl, Below.refl _ _, hid (fun b hb => by simp at hb)⟩
  case round =>
    obtain ⟨k, hk, hgk, rfl, hB, HA⟩ := hrel
    have HGK := hid hgk
    clear hgk
    by_cases hlt : k < n
    · have hki : (k : Int) < (n : Int) := by omega
      obtain ⟨⟨lo1, hi1, l1⟩, hb1⟩ : ∃ b, bs[k]? = some b := ⟨_, List.getElem?_eq_getElem (by rw [HN.out]; exact hlt)⟩
      obtain ⟨g, ua, uc, e1, e3, e4, e5, e6⟩ := bns_row (hbn.keep (keepP_low hB (fun _ h => h))) hb1
      subst e1
      have HB1 := hid hb1
      clear hb1
      dsimp only at e3 e4 e5 e6
      go_upto_region 4 with fail
      generalize hW : World.alloc wr _ = v7
      have y7 : CellsAt v7 wr.heap.size [.int .i64 lo1, .int .i64 hi1, .slice ua l1.length uc] := by rw [← hW]; exact CellsAt.new wr [.int .i64 lo1, .int .i64 hi1, .slice ua l1.length uc] 26
      have hb : Below wr.heap.size wr v7 := by rw [← hW]; exact (Below.refl _ _).alloc (Nat.le_refl _) _
      clear hW e3 e4 e5
      replace e6 := e6.below hb
      replace hB := bnext (w := w) hB hb
      clear hb
      have g0 := (y7 0 _ rfl).1; have g1 := (y7 1 _ rfl).1; have g2 := (y7 2 _ rfl).1
      obtain ⟨c, hc⟩ : ∃ c, ckBg lo1 hi1 l1 = c := ⟨_, rfl⟩
      have HC := hid hc
      clear hc
      go_wp2_with fail
      refine (ckBg_any e6 HC.out).mono ?_
      rintro e v8 ⟨rfl, hb⟩
      replace hB := bnext (w := w) hB hb
      clear hb g0 g1 g2 y7 e6
      by_cases hok : bungOk lo1 hi1 l1 = true
      · have hc0 : c = 0 := by rw [← HC.out]; unfold ckBg; rw [if_pos hok]
        subst hc0
        have HA2 := hid (take_put2 HA.out HB1.out hok)
        go_wp2_with fail
        go_roundg (n - (k + 1))
        case measure => have h := HGK.out; omega
        case rel => exact ⟨k + 1, by omega, rfl, by go_num, hB, HA2⟩
      · have hc0 : c = 31 := by rw [← HC.out]; unfold ckBg; rw [if_neg hok]
        subst hc0
        have HE := hid (show bsOk bs = false from not_ok fun h => hok (bsOk_iff.1 h _ (List.mem_of_getElem? HB1.out)))
        go_wp2_with fail
        exact bodyPost_ret (v := .tuple #[.slice none 0 0, .int .i64 31]) (by simp [results, Try.results64, go_sem]) rfl (seatP_err (by unfold seatA; rw [if_pos HE.out]) hB)
    · obtain rfl : k = n := by omega
      have hkn : ¬ (k : Int) < (k : Int) := by omega
      have HBO := hid (show ∀ b ∈ bs, bungOk b.1 b.2.1 b.2.2 = true by (have h := HA.out; rwa [List.take_of_length_le (by rw [HN.out]; exact Nat.le_refl _)] at h))
      clear HA
      go_wp2_with fail
      go_loopg [27] m (fun gk2 iv2 wq => ∃ j : Nat, j ≤ m ∧ gk2 = m - j ∧ iv2 = .int .i64 j ∧ Below w.heap.size w wq ∧ Hid (∀ s ∈ sps.take j, ckSp s.1 s.2 = 0))
      case atStart => exact ⟨0, Nat.zero_le _, rfl, rfl, hB, hid (fun b hb => by simp at hb)⟩
      case round =>
        clear hB HGK
        obtain ⟨j, hj, hgk2, rfl, hB, HA⟩ := hrel
        have HGK := hid hgk2
        clear hgk2
        by_cases hlt : j < m
        · have hji : (j : Int) < (m : Int) := by omega
          obtain ⟨⟨cr, le⟩, hs1⟩ : ∃ s, sps[j]? = some s := ⟨_, List.getElem?_eq_getElem (by rw [HM.out]; exact hlt)⟩
          obtain ⟨sg, es, p0, p1⟩ := sp_row (hsp.below hB) HM.out hs1
          have HS1 := hid hs1
          clear hs1
          dsimp only at p0 p1
          subst es
          go_upto_region 11 with fail
          generalize hW : World.alloc wr _ = v7
          have y7 : CellsAt v7 wr.heap.size [.int .i64 cr, .int .i64 le] := by rw [← hW]; exact CellsAt.new wr [.int .i64 cr, .int .i64 le] 28
          have hb : Below wr.heap.size wr v7 := by rw [← hW]; exact (Below.refl _ _).alloc (Nat.le_refl _) _
          clear hW p0 p1
          replace hB := bnext (w := w) hB hb
          clear hb
          have g0 := (y7 0 _ rfl).1; have g1 := (y7 1 _ rfl).1
          obtain ⟨c, hc⟩ : ∃ c, ckSp cr le = c := ⟨_, rfl⟩
          have HC := hid hc
          clear hc
          go_wp2_with fail
          refine (ckSp_any HC.out).mono ?_
          rintro e v8 ⟨rfl, hb⟩
          replace hB := bnext (w := w) hB hb
          clear hb g0 g1 y7
          by_cases hok : c = 0
          · subst hok
            have HA2 := hid (take_put2 HA.out HS1.out HC.out)
            go_wp2_with fail
            go_roundg (m - (j + 1))
            case measure => have h := HGK.out; omega
            case rel => exact ⟨j + 1, by omega, rfl, by go_num, hB, HA2⟩
          · have hc0 : c = 33 := by (have h := HC.out; unfold ckSp at h; split at h; exact absurd h.symm hok; exact h.symm)
            have HE := hid (show spsOk sps = false from not_ok fun h => hok (HC.out.symm.trans (spsOk_iff.1 h _ (List.mem_of_getElem? HS1.out))))
            subst hc0
            go_wp2_with fail
            exact bodyPost_ret (v := .tuple #[.slice none 0 0, .int .i64 33]) (by simp [results, Try.results64, go_sem]) rfl (seatP_err (by unfold seatA; rw [if_neg (by rw [bsOk_iff.2 HBO.out]; simp), if_pos HE.out]) hB)
        · obtain rfl : j = m := by omega
          have hjm : ¬ (j : Int) < (j : Int) := by omega
          have HSO := hid (show spsOk sps = true from spsOk_iff.2 (by (have h := HA.out; rwa [List.take_of_length_le (by rw [HM.out]; exact Nat.le_refl _)] at h)))
          clear HA
          have HBE := hid (show seatA bs sps = (if 9 < k ∨ 9 < j then (([], 36) : List Nat × Int) else match seatF (fitsR bs sps) j k [] with | some r => (r, 0) | none => ([], 3)) by unfold seatA; rw [bsOk_iff.2 HBO.out, HSO.out, if_neg (by simp), if_neg (by simp), HN.out, HM.out])
          by_cases hk9 : 9 < k
          · have hk9i : (9 : Int) < (k : Int) := by omega
            go_wp2_with fail
            exact bodyPost_ret (v := .tuple #[.slice none 0 0, .int .i64 36]) (by simp [results, Try.results64, go_sem]) rfl (seatP_err (HBE.out.trans (if_pos (.inl hk9))) hB)
          by_cases hj9 : 9 < j
          · have hk9i : ¬ (9 : Int) < (k : Int) := by omega
            have hj9i : (9 : Int) < (j : Int) := by omega
            go_wp2_with fail
            exact bodyPost_ret (v := .tuple #[.slice none 0 0, .int .i64 36]) (by simp [results, Try.results64, go_sem]) rfl (seatP_err (HBE.out.trans (if_pos (.inr hj9))) hB)
          have hk9i : ¬ (9 : Int) < (k : Int) := by omega
          have hj9i : ¬ (9 : Int) < (j : Int) := by omega
          have HBR := hid (HBE.out.trans (if_neg (fun h => h.elim hk9 hj9)))
          clear HBE
          have hmm := @run_makeMap Try.prog
          go_upto_region 18 with fail
          generalize hW : World.alloc (World.alloc wr _) _ = v1
          have yX : CellsAt v1 (wr.heap.size + 1) [.slice ba k bc, .slice sa j sc, .slice none 0 0, .map (some wr.heap.size)] := by (rw [← hW]; have h := CellsAt.new (wr.alloc (.map #[] 0)) [.slice ba k bc, .slice sa j sc, .slice none 0 0, .map (some wr.heap.size)] 150; rwa [World.size_alloc] at h)
          have hkt : MapS Try.prog 152 4 wr.heap.size [] v1 := by (rw [← hW]; exact (MapS.start _ _ _ _).below ((Below.refl _ _).alloc (Nat.le_refl _) _))
          have hb : Below wr.heap.size wr v1 := by rw [← hW]; exact ((Below.refl _ _).alloc (Nat.le_refl _) _).alloc (by simp) _
          have hz1 : v1.heap.size = wr.heap.size + 2 := by rw [← hW]; simp
          clear hW
          have hzw := hB.size
          have hB1 := bnext (w := w) hB hb
          clear hb
          have hse := seat_any (n := k) (m := j) (lo := wr.heap.size + 2) (X := wr.heap.size + 1) (M := wr.heap.size) HBO.out HN.out HM.out (by omega) (by omega) (by omega) (by omega) (by omega) k v1 (.slice none 0 0) [] [] (by simp) yX (bnsIn_mono (hbn.keep (keepP_low hB1 (fun _ h => h))) (fun b hb => by omega)) (hsp.below hB1) (fun h => inP_mono (hsi h) (fun b hb => by omega)) hkt (World.ownsRow_nil _ _ _ _) (seatOk_nil _) (fun p hp => by simp at hp) (by omega)
          rw [show keyV (mask []) = .agg #[.bool false, .bool false, .bool false, .bool false, .bool false, .bool false, .bool false, .bool false, .bool false] by rw [mask_nil]; rfl] at hse
          have HSE := hid hse
          clear hse hkt
          go_wp2_with fail
          refine HSE.out.mono ?_
          unfold SeatRes
          rintro e v2 ⟨v2v, ks', hK, y2, ⟨r, hsf, rfl, ho⟩ | ⟨hsf, rfl, -, -, -⟩⟩
          · have HR := hid (show seatA bs sps = (r, 0) by rw [HBR.out, hsf])
            obtain ⟨hr1, hr2⟩ := seatF_ok k (seatOk_nil _) hsf
            have hB2 := hK.below hB1 (by omega) (by omega) (by omega)
            have HNU := hid (nums_of_seat ho (by rw [hr2]; simp) (fun q hq => by have := hr1.2 q hq; omega))
            clear hsf hK ho hr1 hr2 yX hB1 hB
            have q2 := (y2 2 _ rfl).1
            go_wp2_with fail
            exact bodyPost_ret (v := .tuple #[v2v, .int .i64 0]) (by simp [results, Try.results64, go_sem]) rfl ⟨v2v, by rw [HR.out], hB2, by rw [HR.out]; exact HNU.out⟩
          · have HR := hid (show seatA bs sps = ([], 3) by rw [HBR.out, hsf])
            replace hB := hK.below hB1 (by omega) (by omega) (by omega)
            clear hsf hK yX hB1
            go_wp2_with fail
            exact bodyPost_ret (v := .tuple #[.slice none 0 0, .int .i64 3]) (by simp [results, Try.results64, go_sem]) rfl (seatP_err (HR.out) hB)

end Go.Proofs.Ytnchhleokdkejaa

/- The laws' seating. -/
namespace Go.Proofs.Ytnchhleokdkejaa
open Go.RowKit Go.Pb Go.Pb.Ware Go.Pb.Sag
set_option linter.unusedVariables false
set_option linter.unusedSimpArgs false

open Go.Proofs Go.Maps Go.Pb.Bung
/-- Rows of n times m truths. -/
def MatAt (w : World) (v : Value) (n m : Nat) (R : Nat → Nat → Bool) : Prop := ∃ (g : Option Addr) (cap : Nat), v = .slice g n cap ∧ n ≤ 9223372036854775807 ∧ ∀ i, i < n → ∃ (q : Addr) (ua : Option Addr) (uc : Nat), g = some q ∧ w.cell? (q.add i) = some (.slice ua m uc) ∧ ∀ j, j < m → ∃ p, ua = some p ∧ w.cell? (p.add j) = some (.bool (R i j))
theorem MatAt.below {w w' : World} {v : Value} {n m : Nat} {R : Nat → Nat → Bool} (h : MatAt w v n m R) (hb : Below w.heap.size w w') : MatAt w' v n m R := by
  obtain ⟨g, cap, h1, h2, h3⟩ := h
  refine ⟨g, cap, h1, h2, fun i hi => ?_⟩
  obtain ⟨q, ua, uc, e1, e2, e3⟩ := h3 i hi
  refine ⟨q, ua, uc, e1, bkeep hb e2, fun j hj => ?_⟩
  obtain ⟨p, e4, e5⟩ := e3 j hj
  exact ⟨p, e4, bkeep hb e5⟩
theorem mat_row {w : World} {g : Option Addr} {n m c i : Nat} {R : Nat → Nat → Bool} (h : MatAt w (.slice g n c) n m R) (hi : i < n) : ∃ (q : Addr) (ua : Option Addr) (uc : Nat), g = some q ∧ w.cell? (q.add i) = some (.slice ua m uc) ∧ ∀ j, j < m → ∃ p, ua = some p ∧ w.cell? (p.add j) = some (.bool (R i j)) := by
  obtain ⟨g', c', h1, -, h3⟩ := h
  injection h1 with h1 _ _
  obtain ⟨q, ua, uc, e1, e2, e3⟩ := h3 i hi
  exact ⟨q, ua, uc, h1.trans e1, e2, e3⟩
theorem cells_snoc {out : List Nat} {k : Nat} : [] ++ (castN out).map (Value.int .i64) ++ [Value.int .i64 (k : Int)] = cellsN (out ++ [k]) := by unfold cellsN castN; simp
theorem nums_LAt {w : World} {v : Value} {zs : List Int} (h : NumsAt w v zs) : LAt 1 w v zs.length (zs.map (Value.int .i64)) := by
  refine ⟨by simp, fun u hu => ?_, ?_⟩
  · obtain ⟨z, _, rfl⟩ := List.mem_map.1 hu; rfl
  · rcases h with ⟨h1, h2⟩ | ⟨a, cap, h1, h2, h3, h4⟩
    · exact .inl ⟨h1, by rw [h2]; rfl⟩
    · refine .inr ⟨a, cap, h1, h2, h3, fun j u hu => ?_⟩
      rw [List.getElem?_map] at hu
      cases hz : zs[j]? with
      | none => rw [hz] at hu; cases hu
      | some z => rw [hz] at hu; cases hu; exact (h4 j z hz).1
theorem cast_has (out : List Nat) (k : Nat) : (castN out).contains (k : Int) = out.contains k := by
  rw [Bool.eq_iff_iff, List.contains_iff_mem, List.contains_iff_mem]
  unfold castN
  rw [List.mem_map]
  exact ⟨fun ⟨x, hx, e⟩ => by rwa [show x = k by omega] at hx, fun h => ⟨k, h, rfl⟩⟩
def SeatedP (R : Nat → Nat → Bool) (m d : Nat) (out : List Nat) (w : World) (e : Ending) (w' : World) : Prop := ∃ z, e = .returned (.tuple #[z, .bool (seatF R m d out).isSome]) ∧ Below w.heap.size w w' ∧ ∀ r, seatF R m d out = some r → NumsAt w' z (castN r)

set_option maxRecDepth 100000 in
set_option maxHeartbeats 1000000 in
theorem rSeated_any {R : Nat → Nat → Bool} {n m : Nat} {v : Value} (hm9 : m ≤ 9) (hn9 : n ≤ 9) : ∀ (d : Nat) (w : World) (u : Value) (out : List Nat), out.length + d = n → SeatOk m out → MatAt w v n m R → NumsAt w u (castN out) → Calls Try.prog 122 #[v, u, .int .i64 (m : Int)] w (SeatedP R m d out w) := by
  intro d
  induction d with
  | zero =>
    intro w u out hd hso hv hu
    obtain ⟨N, hN⟩ : ∃ N, out.length = N := ⟨_, rfl⟩
    obtain ⟨ua, uc, rfl, hul, -⟩ := hu.shape
    rw [castN_len, hN] at hu hul ⊢
    rw [hN] at hd
    have HN := hid hN; have HSO := hid hso
    clear hN hso
    obtain ⟨ga, gc, rfl⟩ : ∃ a c, v = .slice a n c := by (obtain ⟨a, c, h, -⟩ := hv; exact ⟨a, c, h⟩)
    obtain rfl : N = n := by omega
    go_enter Try.func122, Try.ntmps122
    go_wp2_with fail
    exact bodyPost_ret (v := .tuple #[.slice ua N uc, .bool true]) (by simp [results, Try.results122, go_sem]) rfl ⟨_, rfl, Below.refl _ _, fun r hr => by (rw [seatF_zero] at hr; injection hr with hr; subst hr; exact hu)⟩
  | succ d ih =>
    intro w u out hd hso hv hu
    have IH := hid ih
    clear ih
    obtain ⟨N, hN⟩ : ∃ N, out.length = N := ⟨_, rfl⟩
    obtain ⟨ua, uc, rfl, hul, -⟩ := hu.shape
    rw [castN_len, hN] at hu hul ⊢
    rw [hN] at hd
    have HN := hid hN; have HSO := hid hso
    clear hN hso
    obtain ⟨ga, gc, rfl⟩ : ∃ a c, v = .slice a n c := by (obtain ⟨a, c, h, -⟩ := hv; exact ⟨a, c, h⟩)
    have hNn : N < n := by omega
    have hNi : (N : Int) < (n : Int) := by omega
    have hne : ((N : Int) == (n : Int)) = false := beq_eq_false_iff_ne.mpr (by omega)
    have hne' : ¬ (N : Int) = (n : Int) := by omega
    go_enter Try.func122, Try.ntmps122
    go_wp2_with fail
    go_loopg [9] m (fun gk iv wr => ∃ k : Nat, k ≤ m ∧ gk = m - k ∧ iv = .int .i64 k ∧ Below w.heap.size w wr ∧ Hid (seatF R m (d + 1) out = seatL R m d out k))
    case atStart => exact ⟨0, Nat.zero_le _, rfl, rfl, Below.refl _ _, hid (seatF_succ _ _ _ _)⟩
    case round =>
      obtain ⟨k, hk, hgk, rfl, hB, HSF⟩ := hrel
      have HGK := hid hgk
      clear hgk
      by_cases hlt : k < m
      · have hki : (k : Int) < (m : Int) := by omega
        obtain ⟨q, xa, xc, e1, e2, e3⟩ := mat_row (hv.below hB) hNn
        obtain ⟨p, e4, e5⟩ := e3 k hlt
        subst e1
        subst e4
        clear e3
        obtain ⟨f, hf⟩ : ∃ f, R N k = f := ⟨_, rfl⟩
        rw [hf] at e5
        have HF := hid hf
        clear hf
        cases f
        · go_wp2_with fail
          go_roundg (m - (k + 1))
          case measure => have h := HGK.out; omega
          case rel => exact ⟨k + 1, by omega, rfl, by go_num, hB, hid (HSF.out.trans (seatL_skip _ out hlt (by rw [HN.out, HF.out]; rfl)))⟩
        · obtain ⟨t, ht⟩ : ∃ t, (castN out).contains (k : Int) = t := ⟨_, rfl⟩
          have HT := hid ht
          clear ht
          have HT2 := hid (show out.contains k = t by rw [← cast_has]; exact HT.out)
          go_wp2_with fail
          refine (has_eq (hu.below hB) HT.out).mono ?_
          rintro e w1 ⟨rfl, hb⟩
          replace hB := bnext (w := w) hB hb
          clear hb e2 e5
          cases t
          · have hlat : LAt 1 w1 (.slice ua N uc) N ((castN out).map (Value.int .i64)) := by (have h := nums_LAt (hu.below hB); rwa [castN_len, HN.out] at h)
            obtain ⟨i1, hj, hy0, hy1, hy2⟩ := info_parts Try.infoIn
            go_wp2_with (first | (at_builtin; (refine wpList_append_own _ rfl _ _ 41 rfl w1.heap.size 3 i1 (.int .i64 0) 1 8 Try.underlying41 hj hy0 hy1 hy2 rfl (by decide) _ _ _ rfl (ho4.alloc _) ⟨w4.heap.size, 0, none⟩ 1 1 [.int .i64 (k : Int)] rfl rfl (new_cellsZ w4 _ _ _ rfl) (fun u hu => by simp only [List.mem_cons, List.not_mem_nil, or_false] at hu; rcases hu with rfl; rfl) (by unfold maxLen; omega) (by omega) (by have := hb4.size; simp; omega) ?_; intro v44 w5 ho5 hg5 hnil; have hb5 := Pb.below_grown (hb4.alloc hb4.size _) hg5 (ho4.alloc _) (by have := hb4.size; simp; omega) (Nat.le_refl _); clear hg5 hnil)) | (at_builtin; (refine wpList_append_lat rfl _ _ 41 rfl w1.heap.size 3 i1 (.int .i64 0) 1 8 Try.underlying41 hj hy0 hy1 hy2 rfl (by decide) (.slice (some ⟨w1.heap.size, 0, none⟩) 0 0) 0 [] rfl (owns_empty w1 3 1) (.slice ua N uc) N _ rfl (hlat.below ((Below.refl _ _).alloc (Nat.le_refl _) _)) (by unfold maxLen; omega) (by omega) (by simp) ?_; intro v41 w4 ho4 hg4; have hb4 := Pb.below_grown ((Below.refl w1.heap.size w1).alloc (Nat.le_refl _) _) hg4 (owns_empty w1 3 1) (by simp) (Nat.le_refl _); clear hg4)))
            rw [cells_snoc, Nat.zero_add] at ho5
            have hso2 := seatOk_snoc HSO.out hlt HT2.out
            have hon : (out ++ [k]).length = N + 1 := by rw [List.length_append, List.length_singleton, HN.out]
            have hnu := nums_of_seat ho5 hon (fun q hq => by have := hso2.2 q hq; omega)
            have hb := hb5
            have hih := IH.out w5 v44 (out ++ [k]) (by rw [hon]; omega) hso2 ((hv.below hB).below (bnext (w := w1) (Below.refl _ _) hb5)) hnu
            replace hB := hB.trans (hb5.mono hB.size)
            clear hb5 hb hb4 ho4 ho5 hnu hlat hso2 hon
            obtain ⟨rr, hrr⟩ : ∃ r, seatF R m d (out ++ [k]) = r := ⟨_, rfl⟩
            unfold SeatedP at hih
            rw [hrr] at hih
            have HRR := hid hrr
            have HIH := hid hih
            clear hih hrr
            refine HIH.out.mono ?_
            rintro e w6 ⟨z, rfl, hb, hz⟩
            have HZ := hid hz
            clear hz
            replace hB := bnext (w := w) hB hb
            clear hb
            cases rr
            · go_wp2_with fail
              go_roundg (m - (k + 1))
              case measure => have h := HGK.out; omega
              case rel => exact ⟨k + 1, by omega, rfl, by go_num, hB, hid (HSF.out.trans (seatL_none _ out hlt (by rw [HN.out, HF.out, HT2.out]; rfl) HRR.out))⟩
            rename_i r
            have HWIN := hid (HSF.out.trans (seatL_some _ out hlt (by rw [HN.out, HF.out, HT2.out]; rfl) HRR.out))
            go_wp2_with fail
            exact bodyPost_ret (v := .tuple #[z, .bool true]) (by simp [results, Try.results122, go_sem]) rfl ⟨_, by rw [HWIN.out]; rfl, hB, fun r' hr' => by (rw [HWIN.out] at hr'; exact HZ.out r' hr')⟩
          · go_wp2_with fail
            go_roundg (m - (k + 1))
            case measure => have h := HGK.out; omega
            case rel => exact ⟨k + 1, by omega, rfl, by go_num, hB, hid (HSF.out.trans (seatL_skip _ out hlt (by rw [HN.out, HF.out, HT2.out]; rfl)))⟩
      · obtain rfl : k = m := by omega
        have hkm : ¬ (k : Int) < (k : Int) := by omega
        have hno := HSF.out.trans (seatL_end _ out (Nat.le_refl _))
        have HNO := hid hno
        clear hno
        go_wp2_with fail
        exact bodyPost_ret (v := .tuple #[.slice none 0 0, .bool false]) (by simp [results, Try.results122, go_sem]) rfl ⟨_, by rw [HNO.out]; rfl, hB, fun r hr => by (rw [HNO.out] at hr; cases hr)⟩

end Go.Proofs.Ytnchhleokdkejaa

/- The laws' seating of bungs. -/
namespace Go.Proofs.Ytnchhleokdkejaa
open Go.RowKit Go.Pb Go.Pb.Ware Go.Pb.Sag
set_option linter.unusedVariables false
set_option linter.unusedSimpArgs false

open Go.Proofs Go.Maps Go.Pb.Bung
theorem seatA_many {bs : List Bng} {sps : List (Int × Int)} (hb : bsOk bs = true) (hs : spsOk sps = true) (h : 9 < bs.length ∨ 9 < sps.length) : seatA bs sps = ([], 36) := by unfold seatA; rw [hb, hs, if_neg (by simp), if_neg (by simp), if_pos h]
theorem seatA_some {bs : List Bng} {sps : List (Int × Int)} {r : List Nat} (hb : bsOk bs = true) (hs : spsOk sps = true) (h : ¬ (9 < bs.length ∨ 9 < sps.length)) (hr : seatF (fitsR bs sps) sps.length bs.length [] = some r) : seatA bs sps = (r, 0) := by unfold seatA; rw [hb, hs, if_neg (by simp), if_neg (by simp), if_neg h, hr]
theorem seatA_none {bs : List Bng} {sps : List (Int × Int)} (hb : bsOk bs = true) (hs : spsOk sps = true) (h : ¬ (9 < bs.length ∨ 9 < sps.length)) (hr : seatF (fitsR bs sps) sps.length bs.length [] = none) : seatA bs sps = ([], 3) := by unfold seatA; rw [hb, hs, if_neg (by simp), if_neg (by simp), if_neg h, hr]
/-- A row of truths, in a block of truths. -/
def RowOk (W : World) (m : Nat) (R : Nat → Bool) (val : Value) : Prop := ∃ (ua : Option Addr) (uc : Nat), val = .slice ua m uc ∧ ∀ j, j < m → ∃ p, ua = some p ∧ (∃ cur, W.heap[p.block]? = some (.cells cur 4 (0, 0))) ∧ W.cell? (p.add j) = some (.bool (R j))
def cellsB (R : Nat → Bool) (k : Nat) : List Value := (List.range k).map fun j => .bool (R j)
theorem cellsB_snoc (R : Nat → Bool) (k : Nat) : cellsB R k ++ [.bool (R k)] = cellsB R (k + 1) := by unfold cellsB; rw [List.range_succ, List.map_append]; rfl
theorem RowOk.below {W W' : World} {m : Nat} {R : Nat → Bool} {val : Value} (h : RowOk W m R val) (hb : Below W.heap.size W W') : RowOk W' m R val := by
  obtain ⟨ua, uc, h1, h2⟩ := h
  refine ⟨ua, uc, h1, fun j hj => ?_⟩
  obtain ⟨p, e1, ⟨cur, e2⟩, e3⟩ := h2 j hj
  exact ⟨p, e1, ⟨cur, heap_below e2 hb⟩, bkeep hb e3⟩
theorem RowOk.grown {W W' : World} {m n lo s : Nat} {R : Nat → Bool} {val v : Value} {xs : List Value} (h : RowOk W m R val) (ho : W.ownsRow lo 154 s v n xs) (hg : W.grownBy W' v.ownBlock) : RowOk W' m R val := by
  obtain ⟨ua, uc, h1, h2⟩ := h
  refine ⟨ua, uc, h1, fun j hj => ?_⟩
  obtain ⟨p, e1, ⟨cur, e2⟩, e3⟩ := h2 j hj
  have hof := obj_off e2 ho (by decide)
  refine ⟨p, e1, ⟨cur, obj_grown e2 ho (by decide) hg⟩, hg.cell e3 (fun e => ?_)⟩
  rw [block_add] at e
  rcases hof with h3 | h3
  · rw [h3] at e; cases e
  · exact h3 e.symm
theorem cellU (w : World) (x : Value) (ty n : Nat) (hn : w.heap.size = n) : ∀ j u, ([x] : List Value)[j]? = some u → (w.alloc (.cells #[x] ty)).cell? ((⟨n, 0, none⟩ : Addr).add j) = some u := by
  subst hn
  intro j u h
  match j, h with
  | 0, h => simp at h; subst h; simp [Addr.add, go_sem]
  | j + 1, h => simp at h
theorem rows_put {W W' : World} {n lo m : Nat} {R : Nat → Nat → Bool} {v x : Value} {rv : List Value} {o : Obj} (ho : W.ownsRow lo 154 1 v n rv) (hr : ∀ q, q < n → ∃ val, rv[q]? = some val ∧ RowOk W m (R q) val) (hx : RowOk W m (R n) x) (hg : (W.alloc o).grownBy W' v.ownBlock) : ∀ q, q < n + 1 → ∃ val, (rv ++ [x])[q]? = some val ∧ RowOk W' m (R q) val := by
  have hl : rv.length = n := by have := ho.1; omega
  have hba : Below W.heap.size W (W.alloc o) := (Below.refl W.heap.size W).alloc (Nat.le_refl _) o
  intro q hq
  by_cases e : q = n
  · subst e
    exact ⟨x, by rw [List.getElem?_append_right (by omega), hl, Nat.sub_self]; rfl, (hx.below hba).grown (ho.alloc o) hg⟩
  · obtain ⟨val, h1, h2⟩ := hr q (by omega)
    exact ⟨val, by rw [List.getElem?_append_left (by omega)]; exact h1, (h2.below hba).grown (ho.alloc o) hg⟩
theorem rowOk_of {W : World} {lo m : Nat} {R : Nat → Bool} {v : Value} (h : W.ownsRow lo 4 1 v m (cellsB R m)) : RowOk W m R v := by
  obtain ⟨a, cap, rfl, -⟩ := owns_shape h
  refine ⟨a, cap, rfl, fun j hj => ?_⟩
  obtain ⟨g, gc, e, -, -⟩ := own_some h (by omega)
  injection e with e1 _ _
  subst e1
  refine ⟨_, rfl, ?_, ?_⟩
  · rcases h.2 with ⟨h1, h2⟩ | ⟨g', cap', cur, h1, h2, h3, _⟩
    · cases h1
    · injection h1 with h1 _ _; injection h1 with h1; injection h1 with h1; subst h1
      exact ⟨cur, h3⟩
  · exact h.cells (g := g) rfl j _ (by unfold cellsB; rw [List.getElem?_map, List.getElem?_range hj]; rfl)
theorem mat_of {W : World} {lo n m : Nat} {R : Nat → Nat → Bool} {v : Value} {rv : List Value} (h : W.ownsRow lo 154 1 v n rv) (hn : n ≤ 9223372036854775807) (hr : ∀ i, i < n → ∃ val, rv[i]? = some val ∧ RowOk W m (R i) val) : MatAt W v n m R := by
  obtain ⟨a, cap, rfl, -⟩ := owns_shape h
  refine ⟨a, cap, rfl, hn, fun i hi => ?_⟩
  obtain ⟨g, gc, e, -, -⟩ := own_some h (by omega)
  injection e with e1 _ _
  subst e1
  obtain ⟨val, hv, ua, uc, rfl, hj⟩ := hr i hi
  exact ⟨_, ua, uc, rfl, h.cells (g := g) rfl i _ hv, fun j hjm => by obtain ⟨p, e1, -, e3⟩ := hj j hjm; exact ⟨p, e1, e3⟩⟩

theorem Try.infoNB : (Try.prog.info? 154).map (fun i => (i.zero, i.size, i.bytes)) = some (some (.slice none 0 0), 1, 24) := by kernel_rfl
theorem Try.infoBl : (Try.prog.info? 4).map (fun i => (i.zero, i.size, i.bytes)) = some (some (.bool false), 1, 1) := by kernel_rfl
set_option maxRecDepth 100000 in
set_option maxHeartbeats 1000000 in
theorem rSeat_any {w : World} {v u : Value} {bs : List Bng} {sps : List (Int × Int)} (hbn : BnsIn (fun b => b < w.heap.size) w v bs) (hsp : RowsAt 2 w u (sps.map spR)) (hsi : sps.map spR ≠ [] → InP (fun b => b < w.heap.size) u) :
    Calls Try.prog 65 #[v, u] w (SeatP bs sps w) := by
  obtain ⟨n, hn⟩ : ∃ n, bs.length = n := ⟨_, rfl⟩
  obtain ⟨m, hm⟩ : ∃ m, sps.length = m := ⟨_, rfl⟩
  obtain ⟨ba, bc, rfl⟩ : ∃ a c, v = .slice a n c := by (obtain ⟨a, c, h, -⟩ := hbn; exact ⟨a, c, by rw [← hn]; exact h⟩)
  obtain ⟨sa, sc, rfl, hsl⟩ := hsp.shape
  rw [List.length_map, hm] at hsp hsl hsi ⊢
  have hnl : n ≤ 9223372036854775807 := by (obtain ⟨a, c, -, h, -⟩ := hbn; omega)
  have HN := hid hn; have HM := hid hm
  clear hn hm
  go_enter Try.func65, Try.ntmps65
  go_wp2_with fail
  go_loopg [6] n (fun gk iv wr => ∃ k : Nat, k ≤ n ∧ gk = n - k ∧ iv = .int .i64 k ∧ Below w.heap.size w wr ∧ Hid (∀ b ∈ bs.take k, bungOk b.1 b.2.1 b.2.2 = true))
  case atStart => exact ⟨0, Nat.zero_le _, rfl, rfl, Below.refl _ _, hid (fun b hb => by simp at hb)⟩
  case round =>
    obtain ⟨k, hk, hgk, rfl, hB, HA⟩ := hrel
    have HGK := hid hgk
    clear hgk
    by_cases hlt : k < n
    · have hki : (k : Int) < (n : Int) := by omega
      obtain ⟨⟨lo1, hi1, l1⟩, hb1⟩ : ∃ b, bs[k]? = some b := ⟨_, List.getElem?_eq_getElem (by rw [HN.out]; exact hlt)⟩
      obtain ⟨g, ua, uc, e1, e3, e4, e5, e6⟩ := bns_row (hbn.keep (keepP_low hB (fun _ h => h))) hb1
      subst e1
      have HB1 := hid hb1
      clear hb1
      dsimp only at e3 e4 e5 e6
      obtain ⟨c, hc⟩ : ∃ c, ckBg lo1 hi1 l1 = c := ⟨_, rfl⟩
      have HC := hid hc
      clear hc
      go_wp2_with fail
      refine (rCkBg e6 HC.out).mono ?_
      rintro e v8 ⟨rfl, hb⟩
      replace hB := bnext (w := w) hB hb
      clear hb e3 e4 e5 e6
      by_cases hok : bungOk lo1 hi1 l1 = true
      · have hc0 : c = 0 := by rw [← HC.out]; unfold ckBg; rw [if_pos hok]
        subst hc0
        have HA2 := hid (take_put2 HA.out HB1.out hok)
        go_wp2_with fail
        go_roundg (n - (k + 1))
        case measure => have h := HGK.out; omega
        case rel => exact ⟨k + 1, by omega, rfl, by go_num, hB, HA2⟩
      · have hc0 : c = 31 := by rw [← HC.out]; unfold ckBg; rw [if_neg hok]
        subst hc0
        have HE := hid (show bsOk bs = false from not_ok fun h => hok (bsOk_iff.1 h _ (List.mem_of_getElem? HB1.out)))
        go_wp2_with fail
        exact bodyPost_ret (v := .tuple #[.slice none 0 0, .int .i64 31]) (by simp [results, Try.results65, go_sem]) rfl (seatP_err (by unfold seatA; rw [if_pos HE.out]) hB)
    · obtain rfl : k = n := by omega
      have hkn : ¬ (k : Int) < (k : Int) := by omega
      have HBO := hid (show ∀ b ∈ bs, bungOk b.1 b.2.1 b.2.2 = true by (have h := HA.out; rwa [List.take_of_length_le (by rw [HN.out]; exact Nat.le_refl _)] at h))
      clear HA
      go_wp2_with fail
      go_loopg [7] m (fun gk2 iv2 wq => ∃ j : Nat, j ≤ m ∧ gk2 = m - j ∧ iv2 = .int .i64 j ∧ Below w.heap.size w wq ∧ Hid (∀ s ∈ sps.take j, ckSp s.1 s.2 = 0))
      case atStart => exact ⟨0, Nat.zero_le _, rfl, rfl, hB, hid (fun b hb => by simp at hb)⟩
      case round =>
        clear hB HGK
        obtain ⟨j, hj, hgk2, rfl, hB, HA⟩ := hrel
        have HGK := hid hgk2
        clear hgk2
        by_cases hlt : j < m
        · have hji : (j : Int) < (m : Int) := by omega
          obtain ⟨⟨cr, le⟩, hs1⟩ : ∃ s, sps[j]? = some s := ⟨_, List.getElem?_eq_getElem (by rw [HM.out]; exact hlt)⟩
          obtain ⟨sg, es, p0, p1⟩ := sp_row (hsp.below hB) HM.out hs1
          have HS1 := hid hs1
          clear hs1
          dsimp only at p0 p1
          subst es
          obtain ⟨c, hc⟩ : ∃ c, ckSp cr le = c := ⟨_, rfl⟩
          have HC := hid hc
          clear hc
          go_wp2_with fail
          refine (rCkSp HC.out).mono ?_
          rintro e v8 ⟨rfl, hb⟩
          replace hB := bnext (w := w) hB hb
          clear hb p0 p1
          by_cases hok : c = 0
          · subst hok
            have HA2 := hid (take_put2 HA.out HS1.out HC.out)
            go_wp2_with fail
            go_roundg (m - (j + 1))
            case measure => have h := HGK.out; omega
            case rel => exact ⟨j + 1, by omega, rfl, by go_num, hB, HA2⟩
          · have hc0 : c = 33 := by (have h := HC.out; unfold ckSp at h; split at h; exact absurd h.symm hok; exact h.symm)
            have HE := hid (show spsOk sps = false from not_ok fun h => hok (HC.out.symm.trans (spsOk_iff.1 h _ (List.mem_of_getElem? HS1.out))))
            subst hc0
            go_wp2_with fail
            exact bodyPost_ret (v := .tuple #[.slice none 0 0, .int .i64 33]) (by simp [results, Try.results65, go_sem]) rfl (seatP_err (by unfold seatA; rw [if_neg (by rw [bsOk_iff.2 HBO.out]; simp), if_pos HE.out]) hB)
        · obtain rfl : j = m := by omega
          have hjm : ¬ (j : Int) < (j : Int) := by omega
          have HSO := hid (show spsOk sps = true from spsOk_iff.2 (by (have h := HA.out; rwa [List.take_of_length_le (by rw [HM.out]; exact Nat.le_refl _)] at h)))
          clear HA
          by_cases hk9 : 9 < k
          · have hk9i : (9 : Int) < (k : Int) := by omega
            go_wp2_with fail
            exact bodyPost_ret (v := .tuple #[.slice none 0 0, .int .i64 36]) (by simp [results, Try.results65, go_sem]) rfl (seatP_err (seatA_many (bsOk_iff.2 HBO.out) HSO.out (.inl (by rw [HN.out]; exact hk9))) hB)
          by_cases hj9 : 9 < j
          · have hk9i : ¬ (9 : Int) < (k : Int) := by omega
            have hj9i : (9 : Int) < (j : Int) := by omega
            go_wp2_with fail
            exact bodyPost_ret (v := .tuple #[.slice none 0 0, .int .i64 36]) (by simp [results, Try.results65, go_sem]) rfl (seatP_err (seatA_many (bsOk_iff.2 HBO.out) HSO.out (.inr (by rw [HM.out]; exact hj9))) hB)
          have hk9i : ¬ (9 : Int) < (k : Int) := by omega
          have hj9i : ¬ (9 : Int) < (j : Int) := by omega
          have HNO := hid (show ¬ (9 < bs.length ∨ 9 < sps.length) by rw [HN.out, HM.out]; exact fun h => h.elim hk9 hj9)
          clear HGK
          obtain ⟨i2, hj2, hv0, hv1, hv2⟩ := info_parts Try.infoNB
          obtain ⟨i1, hj1, hy0, hy1, hy2⟩ := info_parts Try.infoBl
          go_wp2_with fail
          go_loopg [8, 9] k (fun gk tv iv wr => ∃ (i : Nat) (rv : List Value), i ≤ k ∧ gk = k - i ∧ iv = .int .i64 i ∧ Below w.heap.size w wr ∧ wr.ownsRow w.heap.size 154 1 tv i rv ∧ Hid (∀ q, q < i → ∃ val, rv[q]? = some val ∧ RowOk wr j (fitsR bs sps q) val))
          case atStart => exact ⟨0, [], Nat.zero_le _, rfl, rfl, hB, World.ownsRow_nil _ _ _ _, hid (fun q hq => by omega)⟩
          case round =>
            clear hB
            obtain ⟨i, rv, hik, hgk3, rfl, hB, hot, HRV⟩ := hrel
            have HGK := hid hgk3
            clear hgk3
            by_cases hlt : i < k
            · have hiki : (i : Int) < (k : Int) := by omega
              obtain ⟨v3, hv3⟩ : ∃ v, v = wr := ⟨_, rfl⟩
              subst hv3
              go_wp2_with fail
              go_loopg [10, 11] j (fun gk xv iv wr => ∃ (c : Nat), c ≤ j ∧ gk = j - c ∧ iv = .int .i64 c ∧ Below v3.heap.size v3 wr ∧ wr.ownsRow v3.heap.size 4 1 xv c (cellsB (fitsR bs sps i) c))
              case atStart => exact ⟨0, Nat.zero_le _, rfl, rfl, Below.refl _ _, World.ownsRow_nil _ _ _ _⟩
              case round =>
                obtain ⟨c, hcj, hgk4, rfl, hb, hox⟩ := hrel
                have HGK4 := hid hgk4
                clear hgk4
                by_cases hlt4 : c < j
                · have hcji : (c : Int) < (j : Int) := by omega
                  have hBw := hB.trans (hb.mono hB.size)
                  obtain ⟨⟨lo1, hi1, l1⟩, hb1⟩ : ∃ b, bs[i]? = some b := ⟨_, List.getElem?_eq_getElem (by rw [HN.out]; exact hlt)⟩
                  obtain ⟨g, ua, uc, e1, e3, e4, e5, e6⟩ := bns_row (hbn.keep (keepP_low hBw (fun _ h => h))) hb1
                  subst e1
                  have hbo := HBO.out _ (List.mem_of_getElem? hb1)
                  have HB1 := hid hb1
                  dsimp only at e3 e4 e5 e6 hbo
                  obtain ⟨⟨cr, le⟩, hs1⟩ : ∃ s, sps[c]? = some s := ⟨_, List.getElem?_eq_getElem (by rw [HM.out]; exact hlt4)⟩
                  obtain ⟨sg, es, p0, p1⟩ := sp_row (hsp.below hBw) HM.out hs1
                  have HS1 := hid hs1
                  clear hs1 hb1
                  dsimp only at p0 p1
                  subst es
                  obtain ⟨r, hr⟩ : ∃ r, fitA lo1 hi1 l1 cr le = r := ⟨_, rfl⟩
                  have HR := hid hr
                  clear hr
                  obtain ⟨hw1, hne1, hl1⟩ := bungOk_parts hbo
                  have HW1 := hid hw1; have HNE := hid hne1; have HL1 := hid hl1
                  clear hw1 hne1 hl1 hbo
                  have hfr : (r == 1) = fitsR bs sps i c := by (unfold fitsR; rw [HB1.out, HS1.out]; dsimp only; rw [HR.out, Bool.eq_iff_iff]; simp)
                  obtain ⟨xa, xc, rfl, -⟩ := owns_shape hox
                  go_upto_region 21 with fail
                  refine wp_region_Rs [(9, fun v _ => v = .int .i64 r), (11, NewList wr.heap.size 1 [.bool (r == 1)])] [0, 1, 2, 3, 4, 5, 6, 7, 8, 9, 10, 11] 2 (by kernel_rfl) rfl (by simp only [List.forall_mem_cons]; exact ⟨keeps_eq, keeps_list, fun _ h => by cases h⟩) (by kernel_rfl) ?_
                  simp only [numbered, List.filterMap_cons, List.filterMap_nil, List.getElem?_toArray, List.getElem?_cons_succ, List.getElem?_cons_zero, Option.map_some]
                  show wpS _ _ _ _ _ _ _ [(_, _), (_, _), (_, _), (_, _), (_, _), (_, _), (_, _), (_, _), (_, _), (_, _), (_, _), (_, _)] _ _
                  (refine wpS_quiet rfl rfl ?_; intro K2 hK inst hx; have s0 := fun x => (fun _ => bkeep (BQ.below x) e3) (hx x); have s1 := fun x => (fun _ => bkeep (BQ.below x) e4) (hx x); have s2 := fun x => (fun _ => bkeep (BQ.below x) e5) (hx x); have s3 := fun x => (fun _ => bkeep (BQ.below x) p0) (hx x); have s4 := fun x => (fun _ => bkeep (BQ.below x) p1) (hx x); go_big_quiet_op; (first | go_big_quiet_on | (refine ⟨_, fun _ => rfl, ?_⟩; go_big_quiet_on)); clear hx inst)
                  (refine wpS_quiet rfl rfl ?_; intro K2 hK inst hx; have s0 := fun x => (fun _ => bkeep (BQ.below x) e3) (hx x); have s1 := fun x => (fun _ => bkeep (BQ.below x) e4) (hx x); have s2 := fun x => (fun _ => bkeep (BQ.below x) e5) (hx x); have s3 := fun x => (fun _ => bkeep (BQ.below x) p0) (hx x); have s4 := fun x => (fun _ => bkeep (BQ.below x) p1) (hx x); go_big_quiet_op; (first | go_big_quiet_on | (refine ⟨_, fun _ => rfl, ?_⟩; go_big_quiet_on)); clear hx inst)
                  (refine wpS_quiet rfl rfl ?_; intro K2 hK inst hx; have s0 := fun x => (fun _ => bkeep (BQ.below x) e3) (hx x); have s1 := fun x => (fun _ => bkeep (BQ.below x) e4) (hx x); have s2 := fun x => (fun _ => bkeep (BQ.below x) e5) (hx x); have s3 := fun x => (fun _ => bkeep (BQ.below x) p0) (hx x); have s4 := fun x => (fun _ => bkeep (BQ.below x) p1) (hx x); go_big_quiet_op; (first | go_big_quiet_on | (refine ⟨_, fun _ => rfl, ?_⟩; go_big_quiet_on)); clear hx inst)
                  (refine wpS_quiet rfl rfl ?_; intro K2 hK inst hx; have s0 := fun x => (fun _ => bkeep (BQ.below x) e3) (hx x); have s1 := fun x => (fun _ => bkeep (BQ.below x) e4) (hx x); have s2 := fun x => (fun _ => bkeep (BQ.below x) e5) (hx x); have s3 := fun x => (fun _ => bkeep (BQ.below x) p0) (hx x); have s4 := fun x => (fun _ => bkeep (BQ.below x) p1) (hx x); go_big_quiet_op; (first | go_big_quiet_on | (refine ⟨_, fun _ => rfl, ?_⟩; go_big_quiet_on)); clear hx inst)
                  (refine wpS_quiet rfl rfl ?_; intro K2 hK inst hx; have s0 := fun x => (fun _ => bkeep (BQ.below x) e3) (hx x); have s1 := fun x => (fun _ => bkeep (BQ.below x) e4) (hx x); have s2 := fun x => (fun _ => bkeep (BQ.below x) e5) (hx x); have s3 := fun x => (fun _ => bkeep (BQ.below x) p0) (hx x); have s4 := fun x => (fun _ => bkeep (BQ.below x) p1) (hx x); go_big_quiet_op; (first | go_big_quiet_on | (refine ⟨_, fun _ => rfl, ?_⟩; go_big_quiet_on)); clear hx inst)
                  (refine wpS_quiet rfl rfl ?_; intro K2 hK inst hx; have s0 := fun x => (fun _ => bkeep (BQ.below x) e3) (hx x); have s1 := fun x => (fun _ => bkeep (BQ.below x) e4) (hx x); have s2 := fun x => (fun _ => bkeep (BQ.below x) e5) (hx x); have s3 := fun x => (fun _ => bkeep (BQ.below x) p0) (hx x); have s4 := fun x => (fun _ => bkeep (BQ.below x) p1) (hx x); go_big_quiet_op; (first | go_big_quiet_on | (refine ⟨_, fun _ => rfl, ?_⟩; go_big_quiet_on)); clear hx inst)
                  (refine wpS_quiet rfl rfl ?_; intro K2 hK inst hx; have s0 := fun x => (fun _ => bkeep (BQ.below x) e3) (hx x); have s1 := fun x => (fun _ => bkeep (BQ.below x) e4) (hx x); have s2 := fun x => (fun _ => bkeep (BQ.below x) e5) (hx x); have s3 := fun x => (fun _ => bkeep (BQ.below x) p0) (hx x); have s4 := fun x => (fun _ => bkeep (BQ.below x) p1) (hx x); go_big_quiet_op; (first | go_big_quiet_on | (refine ⟨_, fun _ => rfl, ?_⟩; go_big_quiet_on)); clear hx inst)
                  (refine wpS_quiet rfl rfl ?_; intro K2 hK inst hx; have s0 := fun x => (fun _ => bkeep (BQ.below x) e3) (hx x); have s1 := fun x => (fun _ => bkeep (BQ.below x) e4) (hx x); have s2 := fun x => (fun _ => bkeep (BQ.below x) e5) (hx x); have s3 := fun x => (fun _ => bkeep (BQ.below x) p0) (hx x); have s4 := fun x => (fun _ => bkeep (BQ.below x) p1) (hx x); go_big_quiet_op; (first | go_big_quiet_on | (refine ⟨_, fun _ => rfl, ?_⟩; go_big_quiet_on)); clear hx inst)
                  (refine wpS_quiet rfl rfl ?_; intro K2 hK inst hx; have s0 := fun x => (fun _ => bkeep (BQ.below x) e3) (hx x); have s1 := fun x => (fun _ => bkeep (BQ.below x) e4) (hx x); have s2 := fun x => (fun _ => bkeep (BQ.below x) e5) (hx x); have s3 := fun x => (fun _ => bkeep (BQ.below x) p0) (hx x); have s4 := fun x => (fun _ => bkeep (BQ.below x) p1) (hx x); go_big_quiet_op; (first | go_big_quiet_on | (refine ⟨_, fun _ => rfl, ?_⟩; go_big_quiet_on)); clear hx inst)
                  refine wpS_fresh rfl rfl (fun w' hb hF => ?_) ?_
                  · change freshAt _ _ _ (fun v _ => v = .int .i64 r) _; unfold freshAt; go_simp; exact rFits_any (e6.below hb) HNE.out HL1.out (wad_b HW1.out).1 (wad_b HW1.out).2 HR.out
                  intro v W hv; simp only [pOf, List.lookup_cons, Nat.reduceBEq, beq_self_eq_true] at hv; subst hv
                  simp only [Act.put, List.setIfInBounds_toArray, List.set_cons_succ, List.set_cons_zero]
                  (refine wpS_quiet rfl rfl ?_; intro K2 hK inst hx; have s0 := fun x => (fun _ => bkeep (BQ.below x) e3) (hx x); have s1 := fun x => (fun _ => bkeep (BQ.below x) e4) (hx x); have s2 := fun x => (fun _ => bkeep (BQ.below x) e5) (hx x); have s3 := fun x => (fun _ => bkeep (BQ.below x) p0) (hx x); have s4 := fun x => (fun _ => bkeep (BQ.below x) p1) (hx x); go_big_quiet_op; (first | go_big_quiet_on | (refine ⟨_, fun _ => rfl, ?_⟩; go_big_quiet_on)); clear hx inst)
                  refine wpS_fresh rfl rfl (fun w' hb hF => ?_) ?_
                  · change freshAt _ _ _ (NewList wr.heap.size 1 [.bool (r == 1)]) _; unfold freshAt; go_simp; exact list_of hb
                  intro v W hv; simp only [pOf, List.lookup_cons, Nat.reduceBEq, beq_self_eq_true] at hv; obtain ⟨B6, hB6, rfl, -⟩ := hv
                  simp only [Act.put, List.setIfInBounds_toArray, List.set_cons_succ, List.set_cons_zero]
                  refine wpS_nil ?_
                  intro v7 hall
                  have hb7 := hall.1
                  have h11 : NewList wr.heap.size 1 [.bool (r == 1)] _ v7 := hall.2 11 _ rfl
                  obtain ⟨B', hB', hv', hn'⟩ := h11
                  obtain rfl : B6 = B' := by simpa using hv'
                  clear hall
                  have ho6 := owns_below hox hb7
                  have hz7 := hb7.size
                  have hzv := hb.size
                  refine wpAny_ready (rs := [12]) (by kernel_rfl) (by simp) ?_
                  refine AllReady.cons rfl (fun K hK => ?_) AllReady.nil
                  refine wp_append_own v7 (.tmp 58) (.tmp 69) 154 rfl v3.heap.size 4 i1 (.bool false) 1 1 Try.underlying154 hj1 hy0 hy1 hy2 rfl (by decide) (.slice xa c xc) c _ rfl ho6 ⟨B6, 0, none⟩ 1 1 [.bool (r == 1)] rfl rfl (fun j u h => by rw [Go.WideShapes.add_plain, Nat.zero_add]; exact (hn' j u h).1) (fun u hu => by simp only [List.mem_cons, List.not_mem_nil, or_false] at hu; rcases hu with rfl; rfl) (by unfold maxLen; omega) (by omega) (by omega) ?_
                  intro v39 w7 ho7 hg7 hnil7
                  refine hK _ _ ?_
                  clear hK K hnil7
                  have hb8 := Pb.below_grown (bnext (w := v3) hb hb7) hg7 ho6 (by omega) (Nat.le_refl _)
                  rw [hfr, cellsB_snoc] at ho7
                  clear hg7 ho6 hn' e3 e4 e5 e6 p0 p1
                  refine wpAny_ready (rs := [13]) (by kernel_rfl) (by simp) ?_
                  refine AllReady.cons rfl (fun K hK => ?_) AllReady.nil
                  go_simp
                  refine hK _ _ ?_; clear hK K
                  refine wpAny_done (by kernel_rfl) ?_ _
                  go_wp2_with fail
                  go_roundg (j - (c + 1))
                  case measure => have h := HGK4.out; omega
                  case rel => exact ⟨c + 1, by omega, rfl, by go_num, hb8, ho7⟩
                · obtain rfl : c = j := by omega
                  have hcc : ¬ (c : Int) < (c : Int) := by omega
                  have hBw := hB.trans (hb.mono hB.size)
                  have hot2 := owns_below hot hb
                  have HRV2 := hid (show ∀ q, q < i → ∃ val, rv[q]? = some val ∧ RowOk wr c (fitsR bs sps q) val from fun q hq => by (obtain ⟨val, h1, h2⟩ := HRV.out q hq; exact ⟨val, h1, h2.below hb⟩))
                  have hxo := rowOk_of hox
                  obtain ⟨xa, xc, rfl, -⟩ := owns_shape hox
                  obtain ⟨ta, tc, rfl, -⟩ := owns_shape hot
                  clear hb hB hot HRV
                  go_wp2_with (at_builtin; (refine wpList_append_own _ rfl _ _ 153 rfl w.heap.size 154 i2 (.slice none 0 0) 1 24 Try.underlying153 hj2 hv0 hv1 hv2 rfl (by decide) _ _ _ rfl (hot2.alloc _) ⟨wr.heap.size, 0, none⟩ 1 1 [.slice xa c xc] rfl rfl (cellU wr _ _ _ rfl) (fun u hu => by simp only [List.mem_cons, List.not_mem_nil, or_false] at hu; rcases hu with rfl; rfl) (by unfold maxLen; omega) (by omega) (by have := hBw.size; simp; omega) ?_; intro v74 w6 ho6 hg6 hnil; have hB6 := Pb.below_grown (hBw.alloc hBw.size _) hg6 (hot2.alloc _) (by have := hBw.size; simp; omega) (Nat.le_refl _); have hrp := rows_put hot2 HRV2.out hxo hg6; have HRP := hid hrp; clear hg6 hnil hrp))
                  go_roundg (k - (i + 1))
                  case measure => have h := HGK.out; omega
                  case rel => exact ⟨i + 1, _, by omega, rfl, by go_num, hB6, ho6, HRP⟩
            · obtain rfl : i = k := by omega
              have hii : ¬ (i : Int) < (i : Int) := by omega
              have hma := mat_of hot (by omega) HRV.out
              obtain ⟨ta, tc, rfl, -⟩ := owns_shape hot
              have hse := rSeated_any (R := fitsR bs sps) (n := i) (m := j) (by omega) (by omega) i wr (.slice none 0 0) [] (by simp) (seatOk_nil _) hma (.inl ⟨rfl, rfl⟩)
              obtain ⟨rr, hrr⟩ : ∃ r, seatF (fitsR bs sps) j i [] = r := ⟨_, rfl⟩
              unfold SeatedP at hse
              rw [hrr] at hse
              have HRR := hid hrr
              have HSE := hid hse
              clear hse hrr hma hot
              go_wp2_with fail
              refine HSE.out.mono ?_
              rintro e w6 ⟨z, rfl, hb, hz⟩
              have HZ := hid hz
              clear hz
              replace hB := bnext (w := w) hB hb
              clear hb
              cases rr
              · have HX := hid (seatA_none (bsOk_iff.2 HBO.out) HSO.out HNO.out (by rw [HN.out, HM.out]; exact HRR.out))
                go_wp2_with fail
                exact bodyPost_ret (v := .tuple #[.slice none 0 0, .int .i64 3]) (by simp [results, Try.results65, go_sem]) rfl (seatP_err (HX.out) hB)
              rename_i r
              have HX := hid (seatA_some (bsOk_iff.2 HBO.out) HSO.out HNO.out (by rw [HN.out, HM.out]; exact HRR.out))
              go_wp2_with fail
              exact bodyPost_ret (v := .tuple #[z, .int .i64 0]) (by simp [results, Try.results65, go_sem]) rfl ⟨z, by rw [HX.out], hB, by rw [HX.out]; exact HZ.out r rfl⟩

end Go.Proofs.Ytnchhleokdkejaa

/- BungSeats returns true. -/
namespace Go.Proofs.Ytnchhleokdkejaa
open Go.RowKit Go.Pb Go.Pb.Ware Go.Pb.Sag
set_option linter.unusedVariables false
set_option linter.unusedSimpArgs false

open Go.Proofs Go.Maps Go.Pb.Bung
theorem seatA_small {bs : List Bng} {sps : List (Int × Int)} {r : List Nat} {c : Int} (h : seatA bs sps = (r, c)) : r.length ≤ 1000 := by
  unfold seatA at h
  split at h
  · cases h; simp
  · split at h
    · cases h; simp
    · split at h
      · cases h; simp
      · rename_i h9
        split at h
        · rename_i r' hr
          cases h
          have := (seatF_ok _ (seatOk_nil _) hr).2
          simp at this
          omega
        · cases h; simp

set_option maxRecDepth 100000 in
set_option maxHeartbeats 1000000 in
theorem bungSeats_walk {w : World} {v u : Value} {bs : List Bng} {sps : List (Int × Int)} (hbn : BnsIn (fun b => b < w.heap.size) w v bs) (hsp : RowsAt 2 w u (sps.map spR)) (hsi : sps.map spR ≠ [] → InP (fun b => b < w.heap.size) u) :
    Calls Try.prog 12 #[v, u] w (Ret w (.bool true)) := by
  unfold Ret
  obtain ⟨rr, hrr⟩ : ∃ r, seatA bs sps = r := ⟨_, rfl⟩
  obtain ⟨r, c⟩ := rr
  have hsm := seatA_small hrr
  have HRR := hid hrr; have HSM := hid hsm
  clear hrr hsm
  go_enter Try.func12, Try.ntmps12
  go_wp2_with fail
  refine sane_any.mono ?_
  rintro e w1 ⟨rfl, hB⟩
  go_wp2_with fail
  refine (Seat_any (bnsIn_mono (hbn.keep (keepP_low hB (fun _ h => h))) (fun b hb => Nat.lt_of_lt_of_le hb hB.size)) (hsp.below hB) (fun h => inP_mono (hsi h) (fun b hb => Nat.lt_of_lt_of_le hb hB.size))).mono ?_
  unfold SeatP
  rw [HRR.out]
  rintro e w2 ⟨z1, rfl, hb, hz1⟩
  dsimp only at hz1
  replace hB := bnext (w := w) hB hb
  clear hb
  go_wp2_with fail
  refine (rSeat_any (bnsIn_mono (hbn.keep (keepP_low hB (fun _ h => h))) (fun b hb => Nat.lt_of_lt_of_le hb hB.size)) (hsp.below hB) (fun h => inP_mono (hsi h) (fun b hb => Nat.lt_of_lt_of_le hb hB.size))).mono ?_
  unfold SeatP
  rw [HRR.out]
  rintro e w3 ⟨z2, rfl, hb, hz2⟩
  dsimp only at hz2
  replace hz1 := hz1.below hb
  replace hB := bnext (w := w) hB hb
  clear hb
  obtain ⟨a1, c1, rfl, -⟩ := hz1.shape
  obtain ⟨a2, c2, rfl, -⟩ := hz2.shape
  go_wp2_with fail
  refine (same01_any hz1 hz2 (by rw [castN_len]; exact HSM.out) (decide_eq_true rfl)).mono ?_
  rintro e w4 ⟨rfl, hb⟩
  replace hB := bnext (w := w) hB hb
  clear hb
  go_wp2_with fail
  go_ret
  exact ⟨rfl, hB⟩

end Go.Proofs.Ytnchhleokdkejaa

/- An argument opened: a slice of bungs. -/
namespace Go.Proofs.Ytnchhleokdkejaa
open Go Go.Pb Go.Pb.Bung Go.RowKit Go.ChangeShapes Go.WideShapes Go.ChangeAt Go.Deep
theorem inP_cells {n : Nat} {w : World} {v : Value} {rows : List (List Int)} (h : RowsAt (n + 1) w v rows) (hne : rows ≠ []) : InP (fun b => b < w.heap.size) v := by
  rintro a m c rfl
  rcases h with ⟨h1, _⟩ | ⟨b, cap, h1, h2, h3, h4⟩
  · cases h1
  · injection h1 with h1 _ _
    injection h1 with h1
    subst h1
    obtain ⟨r, rs, rfl⟩ := List.exists_cons_of_ne_nil hne
    obtain ⟨h5, h6⟩ := h4 0 r rfl
    obtain ⟨z, zs, rfl⟩ := List.exists_cons_of_ne_nil (l := r) (by rintro rfl; simp at h5)
    have h7 := World.block_lt_of_cell? w _ (h6 0 z rfl).1
    rwa [block_add] at h7
theorem rows_sp {w : World} {v : Value} {rows : List (List Int)} (h : RowsAt 2 w v rows) : ∃ l : List (Int × Int), rows = l.map spR := by
  have hl : ∀ r ∈ rows, r.length = 2 := fun r hr => (h.i64 r hr).1
  clear h
  induction rows with
  | nil => exact ⟨[], rfl⟩
  | cons r rows ih =>
    obtain ⟨l, hl2⟩ := ih fun x hx => hl x (List.mem_cons_of_mem _ hx)
    have h2 := hl r (List.mem_cons_self ..)
    match r, h2 with
    | [a, b], _ => exact ⟨(a, b) :: l, by rw [hl2]; rfl⟩
theorem add_off {g : Addr} {j : Nat} (hj : j ≠ 0) : g.add j = ⟨g.block, g.off + j, none⟩ := by unfold Addr.add; rw [if_neg hj]
section
variable {H : Type} {enc : TypeId × Value → H} {P : Program} {w : World} {base : Nat} {spare : Nat → Bool} {held : Bool}
theorem open_bungs {r : Reach} {b0 m : Nat} {t te tr t2 e2 : TypeId} {f1 f2 : Field} {v : Value} {d : DataW H} {p : List MemPlace} (ht : P.underlying t = some (.slice te)) (hu : P.underlying te = some (.struct #[f1, f2])) (hC : P.cellsOf te = 3)
    (ho1 : f1.offset = 0) (ho2 : f2.offset = 2) (ht1 : f1.type = tr) (ht2 : f2.type = t2) (cr : P.cellsOf tr = 2) (c2 : P.cellsOf t2 = 1) (hfr : flatI P m tr = true) (u2 : P.underlying t2 = some (.slice e2)) (hf2 : flatI P m e2 = true) (hn2 : P.cellsOf e2 = 8)
    (hv : Value.okWide P w r b0 t v) (h : DataW.Trod enc P w base spare held t v d p) : ∃ bs, BnsIn (fun b => b < w.heap.size) w v bs := by
  obtain ⟨a0, l0, c0, rfl⟩ := okWide_slice ht hv
  obtain ⟨fuel, hf⟩ := h
  rcases Go.Deep.open_slice ht hf with ⟨h1, _⟩ | ⟨a, len, cap, k, f, D, Pl, hcs, hb, hl, hm, hk, _, hx⟩
  · simp [Value.cells] at h1
    obtain ⟨rfl, rfl, rfl⟩ := h1
    exact ⟨[], none, 0, rfl, by simp, fun k b hb => by simp at hb⟩
  · have hlk : len ≤ k := by rw [hk]; split <;> omega
    have each : ∀ i, i < len → ∃ b : Int × Int × List Sg, ∃ u : Value, a.block < w.heap.size ∧ w.cell? (a.add (i * 3)) = some (.int .i64 b.1) ∧ w.cell? ⟨(a.add (i * 3)).block, (a.add (i * 3)).off + 1, none⟩ = some (.int .i64 b.2.1) ∧ w.cell? ⟨(a.add (i * 3)).block, (a.add (i * 3)).off + 2, none⟩ = some u ∧ RowsAt 8 w u (b.2.2.map rowG) ∧ (b.2.2.map rowG ≠ [] → InP (fun b => b < w.heap.size) u) := by
      intro i hi
      obtain ⟨cs', h1, h2⟩ := hx i (by omega)
      rw [hC] at h1
      obtain ⟨_, hcl, hat⟩ := World.cells?_some h1
      obtain ⟨xs, k', _, _, hlen, hxl, hg⟩ := DataW.trod_struct hu h2
      match cs', hcl with
      | [a1, a2, a3], _ =>
        have g1 := hg 0 f1 rfl
        have g2 := hg 1 f2 rfl
        rw [ho1, ht1, cr] at g1
        rw [ho2, ht2, c2] at g2
        have x1 : xs[0]? = some (xs[0]'(by simp at hxl; omega)) := List.getElem?_eq_getElem _
        have x2 : xs[1]? = some (xs[1]'(by simp at hxl; omega)) := List.getElem?_eq_getElem _
        rw [x1] at g1
        rw [x2] at g2
        obtain ⟨_, hj⟩ := flat_cells m hfr g1
        obtain ⟨z0, hz0, hw0⟩ := hj 0 a1 rfl
        obtain ⟨z1, hz1, hw1⟩ := hj 1 a2 rfl
        obtain ⟨v2, r2, e2', h3⟩ := open_rows u2 hf2 hn2 g2
        simp at e2'
        subst e2'; subst hz0; subst hz1
        obtain ⟨sl, rfl⟩ := rows_sg h3
        have q0 := hat 0 (by omega)
        have q1 := hat 1 (by omega)
        have q2 := hat 2 (by omega)
        rw [Go.Deep.add_add, Nat.add_zero] at q0
        rw [add_off (by decide)] at q1 q2
        have hbl := World.block_lt_of_cell? w _ q0
        rw [block_add] at hbl
        exact ⟨(z0, z1, sl), _, hbl, q0, q1, q2, h3, fun hne => inP_cells h3 hne⟩
    obtain ⟨R, hR⟩ := choose_lt each
    simp [Value.cells] at hcs
    obtain ⟨rfl, rfl, rfl⟩ := hcs
    refine ⟨(List.range l0).map R, some a, c0, by simp, by simp; unfold maxLen at hm; omega, fun i b hb' => ?_⟩
    have hi : i < l0 := by
      have := (List.getElem?_eq_some_iff.1 hb').1
      simpa using this
    rw [List.getElem?_map, List.getElem?_range hi] at hb'
    simp at hb'
    subst hb'
    obtain ⟨u, q1, q2, q3, q4, q5, q6⟩ := hR i hi
    exact ⟨a, u, rfl, q1, q2, q3, q4, q5, q6⟩
end
end Go.Proofs.Ytnchhleokdkejaa
