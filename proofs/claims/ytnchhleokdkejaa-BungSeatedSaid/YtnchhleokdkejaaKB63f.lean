/- BungWithout returns true. -/
import Derived.Test.YtnchhleokdkejaaKB32f
import Derived.Test.YtnchhleokdkejaaKW20f
import Derived.Test.YtnchhleokdkejaaKTgf
import Derived.Deep.LoopGhost
import Derived.Deep.CutBlock
import Derived.Test.YtnchhleokdkejaaKBef
import Derived.Test.YtnchhleokdkejaaKSuf
import Derived.Test.YtnchhleokdkejaaKScf
namespace Go.Proofs.Ytnchhleokdkejaa
open Go.RowKit Go.Pb Go.Pb.Ware Go.Pb.Sag
set_option linter.unusedVariables false
set_option linter.unusedSimpArgs false

open Go.Proofs Go.Pb.Bung
/-- A new block of these cells. -/
def NewObj (B0 : Nat) (cs : Array Value) (T : TypeId) (v : Value) (W : World) : Prop := ∃ B, B0 ≤ B ∧ v = .pointer (some ⟨B, 0, none⟩) ∧ W.heap[B]? = some (.cells cs T (0, 0))
theorem keeps_obj {B0 : Nat} {cs : Array Value} {T : TypeId} : Keeps (NewObj B0 cs T) := fun _ _ _ ⟨B, h1, h2, h3⟩ hb => ⟨B, h1, h2, (hb.block B (Array.getElem?_eq_some_iff.1 h3).1).trans h3⟩
theorem obj_of {w w' : World} {cs : Array Value} {T : TypeId} (hb : Below w.heap.size w w') : Below w'.heap.size w' (w'.alloc (.cells cs T)) ∧ NewObj w.heap.size cs T (.pointer (some ⟨w'.heap.size, 0, none⟩)) (w'.alloc (.cells cs T)) :=
  ⟨(Below.refl _ _).alloc (Nat.le_refl _) _, w'.heap.size, hb.size, rfl, heap_alloc_new w' _⟩
theorem obj_cells {W : World} {B : Nat} {cs : List Value} {T : TypeId} (h : W.heap[B]? = some (.cells cs.toArray T (0, 0))) : CellsAt W B cs := by
  intro o v hv
  refine ⟨?_, ?_⟩
  · simp only [World.cell?, h]
    simpa using hv
  · simp [World.frozen?, h, hv]
/-- A block of another type is not the row's. -/
theorem obj_off {W : World} {B lo T T2 s n : Nat} {cs : Array Value} {v : Value} {xs : List Value} (h : W.heap[B]? = some (.cells cs T (0, 0))) (ho : W.ownsRow lo T2 s v n xs) (hT : T ≠ T2) : v.ownBlock = none ∨ v.ownBlock ≠ some B := by
  rcases ho.2 with ⟨rfl, _⟩ | ⟨g, cap, cur, rfl, _, h3, _⟩
  · exact .inl rfl
  · refine .inr fun e => ?_
    have e2 : g = B := by simpa [Value.ownBlock] using e
    subst e2
    rw [h] at h3
    injection h3 with h3
    injection h3 with _ h4 _
    exact hT h4
theorem obj_grown {W W' : World} {B lo T T2 s n : Nat} {cs : Array Value} {v : Value} {xs : List Value} (h : W.heap[B]? = some (.cells cs T (0, 0))) (ho : W.ownsRow lo T2 s v n xs) (hT : T ≠ T2) (hg : W.grownBy W' v.ownBlock) : W'.heap[B]? = some (.cells cs T (0, 0)) := by
  have hlt := (Array.getElem?_eq_some_iff.1 h).1
  exact (hg.block B hlt (fun e => by rcases obj_off h ho hT with h2 | h2; (rw [h2] at e; cases e); exact h2 e.symm)).trans h
end Go.Proofs.Ytnchhleokdkejaa

/- Who sits where, by plain maths: the first seating in order, what it depends on, and what a mark of a failed try says. -/
namespace Go.Pb.Bung
open Go Go.Pb
set_option linter.unusedVariables false
set_option linter.unusedSimpArgs false
/-- The first seats, in order, of the `d` bungs that are left, those before having `out`. -/
def seatF (R : Nat → Nat → Bool) (m : Nat) : Nat → List Nat → Option (List Nat)
  | 0, out => some out
  | d + 1, out => (List.range' 0 m).findSome? (fun k => if R out.length k && !out.contains k then seatF R m d (out ++ [k]) else none)
/-- The same from the seat `j` on. -/
def seatL (R : Nat → Nat → Bool) (m d : Nat) (out : List Nat) (j : Nat) : Option (List Nat) :=
  (List.range' j (m - j)).findSome? (fun k => if R out.length k && !out.contains k then seatF R m d (out ++ [k]) else none)
theorem seatF_zero (R : Nat → Nat → Bool) (m : Nat) (out : List Nat) : seatF R m 0 out = some out := rfl
theorem seatF_succ (R : Nat → Nat → Bool) (m d : Nat) (out : List Nat) : seatF R m (d + 1) out = seatL R m d out 0 := rfl
theorem seatL_end (R : Nat → Nat → Bool) {m d j : Nat} (out : List Nat) (h : m ≤ j) : seatL R m d out j = none := by
  unfold seatL; rw [Nat.sub_eq_zero_of_le h]; rfl
theorem seatL_cons (R : Nat → Nat → Bool) {m d j : Nat} (out : List Nat) (h : j < m) :
    seatL R m d out j = ((if R out.length j && !out.contains j then seatF R m d (out ++ [j]) else none) <|> seatL R m d out (j + 1)) := by
  unfold seatL
  rw [show m - j = (m - (j + 1)) + 1 from by omega, List.range'_succ, List.findSome?_cons]
  cases (if (R out.length j && !out.contains j) = true then seatF R m d (out ++ [j]) else none) <;> rfl
theorem seatL_skip (R : Nat → Nat → Bool) {m d j : Nat} (out : List Nat) (h : j < m) (hn : (R out.length j && !out.contains j) = false) :
    seatL R m d out j = seatL R m d out (j + 1) := by
  rw [seatL_cons R out h, hn]; rfl
theorem seatL_none (R : Nat → Nat → Bool) {m d j : Nat} (out : List Nat) (h : j < m) (hn : (R out.length j && !out.contains j) = true)
    (hf : seatF R m d (out ++ [j]) = none) : seatL R m d out j = seatL R m d out (j + 1) := by
  rw [seatL_cons R out h, hn, if_pos rfl, hf]; rfl
theorem seatL_some (R : Nat → Nat → Bool) {m d j : Nat} (out : List Nat) {r : List Nat} (h : j < m) (hn : (R out.length j && !out.contains j) = true)
    (hf : seatF R m d (out ++ [j]) = some r) : seatL R m d out j = some r := by
  rw [seatL_cons R out h, hn, if_pos rfl, hf]; rfl
/-- Whether there is a seating depends on how many sit, and on which seats. -/
theorem seatF_same (R : Nat → Nat → Bool) (m : Nat) : ∀ (d : Nat) {out out' : List Nat}, out.length = out'.length → (∀ k, k ∈ out ↔ k ∈ out') →
    seatF R m d out = none → seatF R m d out' = none
  | 0, out, out', hl, hm, h => by rw [seatF_zero] at h; cases h
  | d + 1, out, out', hl, hm, h => by
    rw [seatF, List.findSome?_eq_none_iff] at h ⊢
    intro k hk
    have h1 := h k hk
    have hc : out'.contains k = out.contains k := by
      rw [Bool.eq_iff_iff, List.contains_iff_mem, List.contains_iff_mem]; exact (hm k).symm
    rw [← hl, hc]
    split at h1
    · rename_i h2
      rw [if_pos h2]
      refine seatF_same R m d (by rw [List.length_append, List.length_append, hl]) (fun q => ?_) h1
      rw [List.mem_append, List.mem_append, hm q]
    · rename_i h2
      rw [if_neg h2]
/-- What is found keeps the form: as long as the bungs, and each seat is one of the `m`, none twice. -/
def SeatOk (m : Nat) (out : List Nat) : Prop := out.Nodup ∧ ∀ k ∈ out, k < m
theorem seatOk_nil (m : Nat) : SeatOk m [] := ⟨List.nodup_nil, fun k h => by cases h⟩
theorem seatOk_snoc {m k : Nat} {out : List Nat} (h : SeatOk m out) (hk : k < m) (hn : out.contains k = false) : SeatOk m (out ++ [k]) := by
  have hn' : k ∉ out := by
    intro hm
    rw [List.contains_iff_mem.mpr hm] at hn; cases hn
  refine ⟨?_, fun q hq => ?_⟩
  · rw [List.nodup_append]
    refine ⟨h.1, (by rw [List.nodup_cons]; exact ⟨List.not_mem_nil, List.nodup_nil⟩), fun a ha b hb e => ?_⟩
    rw [List.mem_singleton] at hb
    subst hb; subst e
    exact hn' ha
  · rcases List.mem_append.mp hq with h1 | h1
    · exact h.2 q h1
    · rw [List.mem_singleton] at h1; subst h1; exact hk
/-- Which of the nine seats are taken. -/
def mask (out : List Nat) : List Bool := (List.range 9).map (fun k => out.contains k)
theorem mask_len (out : List Nat) : (mask out).length = 9 := by unfold mask; rw [List.length_map, List.length_range]
theorem mask_get (out : List Nat) {k : Nat} (hk : k < 9) : (mask out)[k]? = some (out.contains k) := by
  unfold mask
  rw [List.getElem?_map, List.getElem?_range hk]; rfl
theorem mask_nil : mask [] = List.replicate 9 false := by decide
theorem mask_snoc (out : List Nat) {k : Nat} (hk : k < 9) : mask (out ++ [k]) = (mask out).set k true := by
  apply List.ext_getElem?
  intro i
  by_cases hi : i < 9
  · rw [mask_get _ hi, List.getElem?_set]
    by_cases e : k = i
    · subst e
      rw [if_pos rfl, if_pos (by rw [mask_len]; exact hk)]
      congr 1
      rw [List.contains_iff_mem]
      exact List.mem_append_right _ (List.mem_singleton_self k)
    · rw [if_neg e, mask_get _ hi]
      congr 1
      rw [Bool.eq_iff_iff, List.contains_iff_mem, List.contains_iff_mem, List.mem_append, List.mem_singleton]
      exact ⟨fun h => h.elim id (fun h => absurd h.symm e), Or.inl⟩
  · rw [List.getElem?_eq_none (by rw [mask_len]; omega), List.getElem?_eq_none (by rw [List.length_set, mask_len]; omega)]
theorem mask_mem {m : Nat} (hm9 : m ≤ 9) {out out' : List Nat} (h : SeatOk m out) (h' : SeatOk m out') (e : mask out = mask out') (k : Nat) : k ∈ out ↔ k ∈ out' := by
  by_cases hk : k < 9
  · have h1 := mask_get out hk
    have h2 := mask_get out' hk
    rw [e, h2] at h1
    have h3 : out'.contains k = out.contains k := by simpa using h1
    rw [← List.contains_iff_mem, ← List.contains_iff_mem, h3]
  · exact ⟨fun q => absurd (h.2 k q) (by omega), fun q => absurd (h'.2 k q) (by omega)⟩
theorem mask_len_eq {m : Nat} (hm9 : m ≤ 9) {out out' : List Nat} (h : SeatOk m out) (h' : SeatOk m out') (e : mask out = mask out') : out.length = out'.length :=
  ((List.perm_ext_iff_of_nodup h.1 h'.1).mpr (mask_mem hm9 h h' e)).length_eq
/-- Each marked try of at least `c` seats has failed. -/
def MarkOk (R : Nat → Nat → Bool) (m n c : Nat) (M : List Bool → Prop) : Prop :=
  ∀ p, M p → ∀ out, SeatOk m out → mask out = p → c ≤ out.length → out.length ≤ n → seatF R m (n - out.length) out = none
/-- Each mark that is new has failed. -/
def MarkTo (R : Nat → Nat → Bool) (m n : Nat) (M M' : List Bool → Prop) : Prop :=
  ∀ p, M' p → M p ∨ ∀ out, SeatOk m out → mask out = p → out.length ≤ n → seatF R m (n - out.length) out = none
theorem markTo_rfl (R : Nat → Nat → Bool) (m n : Nat) (M : List Bool → Prop) : MarkTo R m n M M := fun p h => Or.inl h
theorem markTo_trans {R : Nat → Nat → Bool} {m n : Nat} {M M' M'' : List Bool → Prop} (h : MarkTo R m n M M') (h' : MarkTo R m n M' M'') : MarkTo R m n M M'' := by
  intro p hp
  rcases h' p hp with h1 | h1
  · exact h p h1
  · exact Or.inr h1
theorem markOk_to {R : Nat → Nat → Bool} {m n c : Nat} {M M' : List Bool → Prop} (h : MarkOk R m n c M) (h' : MarkTo R m n M M') : MarkOk R m n c M' := by
  intro p hp out ho he hc hn
  rcases h' p hp with h1 | h1
  · exact h p h1 out ho he hc hn
  · exact h1 out ho he hn
/-- A try that was marked at its own length has failed. -/
theorem markOk_hit {R : Nat → Nat → Bool} {m n : Nat} {M : List Bool → Prop} {out : List Nat} (h : MarkOk R m n out.length M) (ho : SeatOk m out) (hn : out.length ≤ n)
    (hp : M (mask out)) : seatF R m (n - out.length) out = none := h _ hp out ho rfl (Nat.le_refl _) hn
/-- The try that begins is marked: nothing longer is. -/
theorem markOk_add {R : Nat → Nat → Bool} {m n : Nat} (hm9 : m ≤ 9) {M : List Bool → Prop} {out : List Nat} (h : MarkOk R m n out.length M) (ho : SeatOk m out) :
    MarkOk R m n (out.length + 1) (fun p => M p ∨ p = mask out) := by
  intro p hp out' ho' he hc hn
  rcases hp with hp | hp
  · exact h p hp out' ho' he (by omega) hn
  · have := mask_len_eq hm9 ho' ho (he.trans hp)
    omega
/-- The try that failed: all new marks have. -/
theorem markTo_add {R : Nat → Nat → Bool} {m n : Nat} (hm9 : m ≤ 9) {M M' : List Bool → Prop} {out : List Nat} (ho : SeatOk m out)
    (h : MarkTo R m n (fun p => M p ∨ p = mask out) M') (hf : seatF R m (n - out.length) out = none) : MarkTo R m n M M' := by
  intro p hp
  rcases h p hp with (h1 | h1) | h1
  · exact Or.inl h1
  · refine Or.inr fun out' ho' he hn => ?_
    have e : mask out = mask out' := (he.trans h1).symm
    have hl := mask_len_eq hm9 ho ho' e
    rw [← hl]
    exact seatF_same R m _ hl (mask_mem hm9 ho ho' e) hf
  · exact Or.inr h1
theorem seatF_ok {R : Nat → Nat → Bool} {m : Nat} : ∀ (d : Nat) {out r : List Nat}, SeatOk m out → seatF R m d out = some r → SeatOk m r ∧ r.length = out.length + d
  | 0, out, r, ho, h => by rw [seatF_zero] at h; cases h; exact ⟨ho, rfl⟩
  | d + 1, out, r, ho, h => by
    rw [seatF, List.findSome?_eq_some_iff] at h
    obtain ⟨l1, k, l2, hl, hk, -⟩ := h
    have hkm : k ∈ List.range' 0 m := by rw [hl]; exact List.mem_append_right _ List.mem_cons_self
    have hk2 : k < m := by
      rw [List.mem_range'] at hkm
      obtain ⟨i, hi, e⟩ := hkm
      omega
    split at hk
    · rename_i h2
      rw [Bool.and_eq_true, Bool.not_eq_true'] at h2
      obtain ⟨h3, h4⟩ := seatF_ok d (seatOk_snoc ho hk2 h2.2) hk
      refine ⟨h3, ?_⟩
      rw [h4, List.length_append, List.length_singleton]
      omega
    · cases hk
end Go.Pb.Bung

/- The state of a seating: what a try keeps, and the map of its marks. -/
namespace Go.Pb.Bung
open Go Go.Pb Go.RowKit Go.Maps
set_option linter.unusedVariables false
set_option linter.unusedSimpArgs false
/-- A block that a try keeps: lower than its own, or of another kind than what it appends to. -/
def Guarded (T : TypeId) (lo b : Nat) (w : World) : Prop := b < lo ∨ ∀ c g, w.heap[b]? ≠ some (.cells c T g)
/-- What a try keeps: all but the blocks X and M, and rows of its own. -/
structure Keep1 (T : TypeId) (lo X M : Nat) (w w' : World) : Prop where
  os : w'.os = w.os
  tape : w'.tape = w.tape
  output : w'.output = w.output
  size : w.heap.size ≤ w'.heap.size
  block : ∀ b, b < w.heap.size → b ≠ X → b ≠ M → Guarded T lo b w → w'.heap[b]? = w.heap[b]?
theorem Keep1.refl {T : TypeId} {lo X M : Nat} {w : World} : Keep1 T lo X M w w := ⟨rfl, rfl, rfl, Nat.le_refl _, fun _ _ _ _ _ => rfl⟩
theorem Keep1.trans {T : TypeId} {lo X M : Nat} {w w1 w2 : World} (h : Keep1 T lo X M w w1) (h' : Keep1 T lo X M w1 w2) : Keep1 T lo X M w w2 := by
  refine ⟨h'.os.trans h.os, h'.tape.trans h.tape, h'.output.trans h.output, Nat.le_trans h.size h'.size, fun b hb hX hM hg => ?_⟩
  have e := h.block b hb hX hM hg
  rw [← e]
  refine h'.block b (Nat.lt_of_lt_of_le hb h.size) hX hM ?_
  rcases hg with hg | hg
  · exact Or.inl hg
  · exact Or.inr fun c g => by rw [e]; exact hg c g
theorem Keep1.of_below {T : TypeId} {lo X M : Nat} {w w' : World} (h : Below w.heap.size w w') : Keep1 T lo X M w w' :=
  ⟨h.os, h.tape, h.output, h.size, fun b hb _ _ _ => h.block b hb⟩
theorem Keep1.of_map {T : TypeId} {lo X M : Nat} {w w' : World} (h : w.grownBy w' (some M)) : Keep1 T lo X M w w' :=
  ⟨h.os, h.tape, h.output, h.size, fun b hb _ hM _ => h.block b hb (fun e => hM (by injection e))⟩
theorem Keep1.of_own {T : TypeId} {lo X M n s : Nat} {w w' : World} {v : Value} {xs : List Value} (ho : w.ownsRow lo T s v n xs) (h : w.grownBy w' v.ownBlock) : Keep1 T lo X M w w' := by
  refine ⟨h.os, h.tape, h.output, h.size, fun b hb _ _ hg => h.block b hb fun e => ?_⟩
  rcases ho.2 with ⟨h1, _⟩ | ⟨g, cap, cur, h1, h2, h3, _⟩
  · subst h1; simp [Value.ownBlock] at e
  · subst h1
    simp [Value.ownBlock] at e
    subst e
    rcases hg with hg | hg
    · omega
    · exact hg _ _ h3
theorem Keep1.set {T : TypeId} {lo X M o : Nat} {w : World} {u : Value} : Keep1 T lo X M w (w.setCell ⟨X, o, none⟩ u) :=
  ⟨rfl, rfl, rfl, by simp, fun b _ hX _ _ => Below.heap_setCell _ _ _ b hX⟩
theorem Keep1.keepP {T : TypeId} {lo X M : Nat} {w w' : World} (h : Keep1 T lo X M w w') : KeepP (fun b => b < lo ∧ b ≠ X ∧ b ≠ M) w w' :=
  ⟨h.size, fun b hb h1 => h.block b h1 hb.2.1 hb.2.2 (Or.inl hb.1)⟩
theorem Keep1.heap {T : TypeId} {lo X M b : Nat} {w w' : World} {o : Obj} (h : Keep1 T lo X M w w') (hb : w.heap[b]? = some o) (hX : b ≠ X) (hM : b ≠ M) (hT : ∀ c g, o ≠ .cells c T g) : w'.heap[b]? = some o :=
  (h.block b (Array.getElem?_eq_some_iff.1 hb).1 hX hM (Or.inr fun c g e => hT c g (by rw [hb] at e; injection e))).trans hb
/-- Down to a world where X, M and the rows are not yet. -/
theorem Keep1.below {T : TypeId} {lo X M : Nat} {w0 w w' : World} (h : Keep1 T lo X M w w') (hb : Below w0.heap.size w0 w) (h1 : w0.heap.size ≤ lo) (hX : w0.heap.size ≤ X) (hM : w0.heap.size ≤ M) : Below w0.heap.size w0 w' :=
  ⟨h.os.trans hb.os, h.tape.trans hb.tape, h.output.trans hb.output, Nat.le_trans hb.size h.size, fun k hk =>
    (h.block k (Nat.lt_of_lt_of_le hk hb.size) (by omega) (by omega) (Or.inl (by omega))).trans (hb.block k hk)⟩
/-- A block of plain cells that is never shrunk reads so. -/
theorem cellsAt_of_heap {w : World} {b : Nat} {vs : List Value} {t : TypeId} (h : w.heap[b]? = some (.cells vs.toArray t (0, 0))) : CellsAt w b vs := by
  intro o v hv
  refine ⟨?_, ?_⟩
  · rw [cell_of_row w b o vs.toArray t (0, 0) h]
    simpa using hv
  · simp [World.frozen?, h]
/-- The map in block M has the marks ks, all true. -/
def MapS (P : Program) (K E : TypeId) (M : Nat) (ks : List (List Bool)) (W : World) : Prop := ∃ D : DataW Unit, W.ownsMap P K (plainElem P E) M ks.length D ∧ ks.Nodup ∧ (∀ b ∈ ks, b.length = 9) ∧
  ∀ bs kl, bs.length = 9 → keyOf P K (keyV bs) = some kl → has D kl = decide (bs ∈ ks) ∧ (bs ∈ ks → D.atKey kl (.lit (.bool false)) = .lit (.bool true))
theorem MapS.start (P : Program) (K E : TypeId) (W : World) : MapS P K E W.heap.size [] (W.alloc (.map #[] 0)) :=
  ⟨.map [], World.ownsMap_made _ _ _ _, List.nodup_nil, fun b hb => by simp at hb, fun bs kl _ _ => ⟨rfl, fun h => by simp at h⟩⟩
theorem MapS.put {P : Program} {K E : TypeId} {M : Nat} {W W' : World} {ks : List (List Bool)} {D : DataW Unit} (KL : Keyed P K) (ho : W.ownsMap P K (plainElem P E) M ks.length D) (hn : ks.Nodup) (h9 : ∀ b ∈ ks, b.length = 9)
    (hk : ∀ bs kl, bs.length = 9 → keyOf P K (keyV bs) = some kl → has D kl = decide (bs ∈ ks) ∧ (bs ∈ ks → D.atKey kl (.lit (.bool false)) = .lit (.bool true)))
    {bs : List Bool} {kl : Lit} (hb : bs.length = 9) (hkey : keyOf P K (keyV bs) = some kl) (hno : ¬ bs ∈ ks) (ho' : W'.ownsMap P K (plainElem P E) M (ks.length + 1) (D.put kl (.lit (.bool true)))) : MapS P K E M (bs :: ks) W' := by
  have hm := (ho.tidy KL).isMap
  have hik := KL.key hkey
  refine ⟨_, ho', List.nodup_cons.2 ⟨hno, hn⟩, fun c hc => ?_, fun cs cl hc hcl => ?_⟩
  · rcases List.mem_cons.1 hc with rfl | hc
    · exact hb
    · exact h9 c hc
  · obtain ⟨h1, h2⟩ := hk cs cl hc hcl
    by_cases e : cs = bs
    · subst e
      have : cl = kl := by rw [hkey] at hcl; injection hcl with hcl; exact hcl.symm
      subst this
      refine ⟨?_, fun _ => ?_⟩
      · rw [has_put_same hm hik]; simp
      · rw [atKey_put_same hm hik]
    · have hne : cl ≠ kl := fun e2 => e (keyV_inj (KL.inj (e2 ▸ hcl) hkey))
      refine ⟨?_, fun hin => ?_⟩
      · rw [has_put_other hne, h1]; simp [e]
      · rw [atKey_put_other hne]
        rcases List.mem_cons.1 hin with h3 | h3
        · exact absurd h3 e
        · exact h2 h3
theorem MapS.block {P : Program} {K E : TypeId} {M : Nat} {ks : List (List Bool)} {W W' : World} (h : MapS P K E M ks W) (hb : W'.heap[M]? = W.heap[M]?) : MapS P K E M ks W' := by
  obtain ⟨D, h1, h2⟩ := h
  exact ⟨D, ownsMap_block h1 hb, h2⟩
theorem MapS.lt {P : Program} {K E : TypeId} {M : Nat} {ks : List (List Bool)} {W : World} (h : MapS P K E M ks W) : M < W.heap.size := by
  obtain ⟨D, h1, _⟩ := h
  exact h1.lt
theorem MapS.below {P : Program} {K E : TypeId} {M : Nat} {ks : List (List Bool)} {W W' : World} (h : MapS P K E M ks W) (hb : Below W.heap.size W W') : MapS P K E M ks W' := h.block (hb.block M h.lt)
/-- A map is no row. -/
theorem MapS.own {P : Program} {K E T : TypeId} {M lo n s : Nat} {ks : List (List Bool)} {W W' : World} {v : Value} {xs : List Value} (h : MapS P K E M ks W) (ho : W.ownsRow lo T s v n xs) (hg : W.grownBy W' v.ownBlock) : MapS P K E M ks W' := by
  refine h.block (hg.block M h.lt fun e => ?_)
  obtain ⟨D, ⟨es, clock, h1, h2⟩, _⟩ := h
  rcases ho.2 with ⟨h3, _⟩ | ⟨g, cap, cur, h3, h4, h5, _⟩
  · subst h3; simp [Value.ownBlock] at e
  · subst h3
    simp [Value.ownBlock] at e
    subst e
    rw [h1] at h5; cases h5
theorem MapS.set {P : Program} {K E : TypeId} {M X o : Nat} {ks : List (List Bool)} {W : World} {u : Value} (h : MapS P K E M ks W) (hX : X ≠ M) : MapS P K E M ks (W.setCell ⟨X, o, none⟩ u) :=
  h.block (Below.heap_setCell _ _ _ M (fun e => hX e.symm))
/-- The row of a try, cut by its last. -/
theorem own_cut {w : World} {lo T n cap : Nat} {a : Option Addr} {xs ys : List Value} (h : w.ownsRow lo T 1 (.slice a (n + 1) cap) (n + 1) (xs ++ ys)) (hx : xs.length = n) : w.ownsRow lo T 1 (.slice a n cap) n xs := by
  refine ⟨by omega, ?_⟩
  rcases h.2 with ⟨h1, h2⟩ | ⟨g, cap', cur, h1, h2, h3, h4, h5, h6, h7⟩
  · omega
  · injection h1 with e1 e2 e3
    subst e1; subst e3
    refine .inr ⟨g, cap, cur, rfl, h2, h3, by omega, h5, h6, ?_⟩
    have h8 := congrArg (List.take (n * 1)) h7
    rw [List.take_take, Nat.mul_one, Nat.mul_one, Nat.min_eq_left (by omega), List.take_left' hx] at h8
    rw [Nat.mul_one]
    exact h8
end Go.Pb.Bung

/- One try of a seating. -/
namespace Go.Proofs.Ytnchhleokdkejaa
open Go.RowKit Go.Pb Go.Pb.Ware Go.Pb.Sag
set_option linter.unusedVariables false
set_option linter.unusedSimpArgs false

open Go.Proofs Go.Maps Go.Pb.Bung
/-- Bungs, in blocks that p holds of. -/
def BnsIn (p : Nat → Prop) (w : World) (v : Value) (bs : List (Int × Int × List Sg)) : Prop := ∃ (a : Option Addr) (cap : Nat), v = .slice a bs.length cap ∧ bs.length ≤ 9223372036854775807 ∧ ∀ k b, bs[k]? = some b → ∃ (g : Addr) (u : Value), a = some g ∧ p g.block ∧
  w.cell? (g.add (k * 3)) = some (.int .i64 b.1) ∧ w.cell? ⟨(g.add (k * 3)).block, (g.add (k * 3)).off + 1, none⟩ = some (.int .i64 b.2.1) ∧ w.cell? ⟨(g.add (k * 3)).block, (g.add (k * 3)).off + 2, none⟩ = some u ∧ RowsAt 8 w u (b.2.2.map rowG) ∧ (b.2.2.map rowG ≠ [] → InP p u)
theorem BnsIn.keep {p : Nat → Prop} {w w' : World} {v : Value} {bs : List (Int × Int × List Sg)} (h : BnsIn p w v bs) (hk : KeepP p w w') : BnsIn p w' v bs := by
  obtain ⟨a, cap, h1, h2, h3⟩ := h
  refine ⟨a, cap, h1, h2, fun k b hb => ?_⟩
  obtain ⟨g, u, e1, e2, e3, e4, e5, e6, e7⟩ := h3 k b hb
  exact ⟨g, u, e1, e2, hk.cell (by rw [block_add]; exact e2) e3, hk.cell (by show p (g.add (k * 3)).block; rw [block_add]; exact e2) e4, hk.cell (by show p (g.add (k * 3)).block; rw [block_add]; exact e2) e5, rows_keepP e6 e7 hk, e7⟩
/-- Whether the bung i may stand in the spot j. -/
def fitsR (bs : List (Int × Int × List Sg)) (sps : List (Int × Int)) (i j : Nat) : Bool := match bs[i]?, sps[j]? with
  | some b, some s => decide (fitA b.1 b.2.1 b.2.2 s.1 s.2 = 1)
  | _, _ => false
def spR (s : Int × Int) : List Int := [s.1, s.2]
theorem sp_row {w : World} {a : Option Addr} {cap k m : Nat} {l : List (Int × Int)} {s : Int × Int} (h : RowsAt 2 w (.slice a m cap) (l.map spR)) (hm : l.length = m) (hk : l[k]? = some s) : ∃ a', a = some a' ∧ w.cell? (a'.add (k * 2)) = some (.int .i64 s.1) ∧ w.cell? ⟨(a'.add (k * 2)).block, (a'.add (k * 2)).off + 1, none⟩ = some (.int .i64 s.2) := by
  have hlt : k < l.length := (List.getElem?_eq_some_iff.1 hk).1
  have hm2 : k < (l.map spR).length := by rw [List.length_map]; exact hlt
  obtain ⟨a', ha, hr, h0, hc⟩ := RowsAt.row (show RowsAt 2 w (.slice a (l.map spR).length cap) (l.map spR) by rw [List.length_map, hm]; exact h) hm2
  have e : (l.map spR)[k] = spR s := by
    have h1 := List.getElem?_eq_getElem hm2
    rw [List.getElem?_map, hk] at h1
    exact (Option.some.inj h1).symm
  rw [e] at h0 hc
  exact ⟨a', ha, h0 _ rfl, hc 1 _ (by decide) rfl⟩
theorem wad_b {lo hi : Int} (h : wadOk lo hi = true) : (0 ≤ lo ∧ lo ≤ 200) ∧ 0 ≤ hi ∧ hi ≤ 200 := by
  unfold wadOk at h
  rw [rgOk_iff] at h
  dsimp only at h
  omega
def cellsN (l : List Nat) : List Value := l.map fun k : Nat => Value.int .i64 (k : Int)
/-- What a try leaves. -/
def SeatRes (lo X M : Nat) (bv sv : Value) (R : Nat → Nat → Bool) (m n d : Nat) (out : List Nat) (ks : List (List Bool)) (w : World) (e : Ending) (w' : World) : Prop := ∃ (v' : Value) (ks' : List (List Bool)), Keep1 3 lo X M w w' ∧ CellsAt w' X [bv, sv, v', .map (some M)] ∧
  ((∃ r, seatF R m d out = some r ∧ e = .returned (.bool true) ∧ w'.ownsRow lo 3 1 v' n (cellsN r)) ∨
   (seatF R m d out = none ∧ e = .returned (.bool false) ∧ w'.ownsRow lo 3 1 v' out.length (cellsN out) ∧ MapS Try.prog 152 4 M ks' w' ∧ MarkTo R m n (fun p => p ∈ ks) (fun p => p ∈ ks')))
theorem heap_below {w w' : World} {b : Nat} {o : Obj} (h : w.heap[b]? = some o) (hb : Below w.heap.size w w') : w'.heap[b]? = some o := (hb.block b (Array.getElem?_eq_some_iff.1 h).1).trans h
theorem obj_set {W : World} {B k : Nat} {cs : List Value} {T : TypeId} {u : Value} (h : W.heap[B]? = some (.cells cs.toArray T (0, 0))) (hk : k < cs.length) : (W.setCell ⟨B, k, none⟩ u).heap[B]? = some (.cells (cs.set k u).toArray T (0, 0)) := by
  have hlt := (Array.getElem?_eq_some_iff.1 h).1
  have he := (Array.getElem?_eq_some_iff.1 h).2
  simp [World.setCell, Array.getElem_modify, h, hlt, he]
theorem seat_put {lo X M B n : Nat} {w6 W w4 : World} {o : Obj} {v : Value} {cs xs : List Value} {ks : List (List Bool)} {dcs : Array Value} (hXl : X < lo) (hK : Keep1 3 lo X M w6 W) (y : CellsAt W X cs) (hm : MapS Try.prog 152 4 M ks W) (ho : W.ownsRow lo 3 1 v n xs) (t : W.heap[B]? = some (.cells dcs 152 (0, 0))) (hg : (W.alloc o).grownBy w4 v.ownBlock) :
    CellsAt w4 X cs ∧ w4.heap[B]? = some (.cells dcs 152 (0, 0)) ∧ MapS Try.prog 152 4 M ks w4 ∧ Keep1 3 lo X M w6 w4 := by
  have hba : Below W.heap.size W (W.alloc o) := (Below.refl W.heap.size W).alloc (Nat.le_refl _) o
  have y1 := y.below hba
  have ho1 := ho.alloc o
  exact ⟨fun o v hv => ⟨grown_kept hg (y1 o v hv).1 (owns_not ho1 hXl), grown_free hg (y1 o v hv).1 (y1 o v hv).2 (owns_not ho1 hXl)⟩, obj_grown (heap_below t hba) ho1 (by decide) hg, MapS.own (hm.below hba) ho1 hg, (hK.trans (Keep1.of_below hba)).trans (Keep1.of_own ho1 hg)⟩
theorem seat_cell {lo X M n : Nat} {w6 W : World} {a b c e u v : Value} {xs : List Value} {ks : List (List Bool)} (hXl : X < lo) (hXM : X ≠ M) (hK : Keep1 3 lo X M w6 W) (y : CellsAt W X [a, b, c, e]) (hm : MapS Try.prog 152 4 M ks W) (ho : W.ownsRow lo 3 1 v n xs) :
    CellsAt (W.setCell ⟨X, 2, none⟩ u) X [a, b, u, e] ∧ MapS Try.prog 152 4 M ks (W.setCell ⟨X, 2, none⟩ u) ∧ Keep1 3 lo X M w6 (W.setCell ⟨X, 2, none⟩ u) ∧ (W.setCell ⟨X, 2, none⟩ u).ownsRow lo 3 1 v n xs :=
  ⟨cells_store (o := 2) (u := u) y, MapS.set hm hXM, hK.trans Keep1.set, owns_set ho hXl u⟩
theorem seat_heap {X B k : Nat} {W : World} {u : Value} {o : Obj} (h : W.heap[B]? = some o) (hne : B ≠ X) : (W.setCell ⟨X, k, none⟩ u).heap[B]? = some o := (Below.heap_setCell _ _ _ B hne).trans h
set_option maxRecDepth 100000 in
theorem MapS.look {M : Nat} {ks : List (List Bool)} {W : World} (h : MapS Try.prog 152 4 M ks W) {bs : List Bool} (h9 : bs.length = 9) : (Instr.lookup 148 (.map (some M)) (keyV bs) false).run Try.prog W = .ok (.bool (decide (bs ∈ ks))) W := by
  obtain ⟨D, h1, h2, h3, h4⟩ := h
  obtain ⟨kl, hkl⟩ := key9 h9
  obtain ⟨v, ps, hrun, hv⟩ := h1.lookup Try.lawK Try.underlying148 (Try.zeroB W) (plainElem_bool Try.underlying4 false) hkl
  obtain ⟨x, rfl, hx⟩ := plainElem_bool_inv Try.underlying4 hv
  rw [hrun]
  obtain ⟨h5, h6⟩ := h4 bs kl h9 hkl
  by_cases hin : bs ∈ ks
  · rw [h6 hin] at hx
    rw [decide_eq_true hin]
    injection hx with hx _; injection hx with hx; injection hx with hx; rw [← hx]
  · rw [decide_eq_false hin] at h5
    rw [atKey_of_not_has h5] at hx
    rw [decide_eq_false hin]
    injection hx with hx _; injection hx with hx; injection hx with hx; rw [← hx]
set_option maxRecDepth 100000 in
theorem MapS.write {M : Nat} {ks : List (List Bool)} {W : World} (h : MapS Try.prog 152 4 M ks W) {bs : List Bool} (h9 : bs.length = 9) (hno : ¬ bs ∈ ks) : ∃ W', (Instr.mapUpdate 148 (.map (some M)) (keyV bs) (.bool true)).run Try.prog W = .ok () W' ∧ MapS Try.prog 152 4 M (bs :: ks) W' ∧ W.grownBy W' (some M) := by
  obtain ⟨D, h1, h2, h3, h4⟩ := h
  obtain ⟨kl, hkl⟩ := key9 h9
  have hk512 := few_bits h2 h3
  obtain ⟨W', hrun, r1, r2⟩ := h1.update Try.lawK Try.underlying148 (by unfold maxLen; omega) hkl (plainElem_bool Try.underlying4 true)
  exact ⟨W', hrun, MapS.put Try.lawK h1 h2 h3 h4 h9 hkl hno r1, r2⟩
theorem mask9 (out : List Nat) : ∃ b0 b1 b2 b3 b4 b5 b6 b7 b8, mask out = [b0, b1, b2, b3, b4, b5, b6, b7, b8] := ⟨_, _, _, _, _, _, _, _, _, rfl⟩

set_option maxRecDepth 100000 in
set_option maxHeartbeats 1000000 in
theorem seat_any {bs : List (Int × Int × List Sg)} {sps : List (Int × Int)} {n m lo X M : Nat} {ba sa : Option Addr} {bc sc : Nat} (hbok : ∀ b ∈ bs, bungOk b.1 b.2.1 b.2.2 = true) (hn : bs.length = n) (hm : sps.length = m) (hn9 : n ≤ 9) (hm9 : m ≤ 9) (hXM : X ≠ M) (hXl : X < lo) (hMl : M < lo) : ∀ (d : Nat) (w : World) (v : Value) (out : List Nat) (ks : List (List Bool)), out.length + d = n → CellsAt w X [.slice ba n bc, .slice sa m sc, v, .map (some M)] → BnsIn (fun b => b < lo ∧ b ≠ X ∧ b ≠ M) w (.slice ba n bc) bs → RowsAt 2 w (.slice sa m sc) (sps.map spR) → (sps.map spR ≠ [] → InP (fun b => b < lo ∧ b ≠ X ∧ b ≠ M) (.slice sa m sc)) → MapS Try.prog 152 4 M ks w → w.ownsRow lo 3 1 v out.length (cellsN out) → SeatOk m out → MarkOk (fitsR bs sps) m n out.length (fun p => p ∈ ks) → lo ≤ w.heap.size →
    Calls Try.prog 121 #[.pointer (some ⟨X, 0, none⟩), keyV (mask out)] w (SeatRes lo X M (.slice ba n bc) (.slice sa m sc) (fitsR bs sps) m n d out ks w) := by
  intro d
  induction d with
  | zero =>
    intro w v out ks hd hx hbn hsp hsi hkt ho hso hmk hlo
    obtain ⟨N, hN⟩ : ∃ N, out.length = N := ⟨_, rfl⟩
    rw [hN] at hd ho hmk
    have HN := hid hN; have HSO := hid hso; have HMK := hid hmk; have HKT := hid hkt
    clear hN hso hmk hkt
    obtain ⟨va, vc, rfl, hvl⟩ := owns_shape ho
    obtain ⟨b0, b1, b2, b3, b4, b5, b6, b7, b8, hbits⟩ := mask9 out
    have HBITS := hid hbits
    have hkv : keyV (mask out) = .agg #[.bool b0, .bool b1, .bool b2, .bool b3, .bool b4, .bool b5, .bool b6, .bool b7, .bool b8] := by rw [hbits]; rfl
    rw [hkv]
    clear hkv hbits
    have hXw : X < w.heap.size := by omega
    have hMw : M < w.heap.size := by omega
    go_enter Try.func121, Try.ntmps121
    go_upto_region 1 with fail
    generalize hW : World.alloc w _ = v1
    have hb : Below w.heap.size w v1 := by rw [← hW]; exact (Below.refl _ w).alloc (Nat.le_refl _) _
    have t3 : v1.heap[w.heap.size]? = some (.cells #[.bool b0, .bool b1, .bool b2, .bool b3, .bool b4, .bool b5, .bool b6, .bool b7, .bool b8] 152 (0, 0)) := by rw [← hW]; exact heap_alloc_new w _
    have hz1 : w.heap.size < v1.heap.size := by rw [← hW]; simp
    clear hW
    have yX := hx.below hb
    have hK1 : Keep1 3 lo X M w v1 := Keep1.of_below hb
    have hbn1 := hbn.keep hK1.keepP
    have hsp1 := hsp.below hb
    have HKT1 := hid (HKT.out.below hb)
    have ho1 := owns_below ho hb
    have q0 := (yX 0 _ rfl).1; have q1 := (yX 1 _ rfl).1; have q2 := (yX 2 _ rfl).1; have q3 := (yX 3 _ rfl).1
    obtain rfl : N = n := by omega
    go_region
    have hb : Below v1.heap.size v1 v1.drew := ⟨rfl, rfl, rfl, Nat.le_refl _, fun _ _ => rfl⟩
    generalize World.drew v1 = v2 at hb ⊢
    have hz2 := hb.size
    replace t3 := heap_below t3 hb
    replace yX := yX.below hb
    replace hK1 := hK1.trans (Keep1.of_below hb)
    replace HKT1 := hid (HKT1.out.below hb)
    replace ho1 := owns_below ho1 hb
    clear q0 q1 q2 q3
    have q0 := (yX 0 _ rfl).1; have q1 := (yX 1 _ rfl).1; have q2 := (yX 2 _ rfl).1; have q3 := (yX 3 _ rfl).1
    go_wp2_with fail
    exact bodyPost_ret (v := .bool true) (by simp [results, Try.results121, go_sem]) rfl ⟨_, ks, hK1, yX, .inl ⟨out, rfl, rfl, ho1⟩⟩
  | succ d ih =>
    intro w v out ks hd hx hbn hsp hsi hkt ho hso hmk hlo
    have IH := hid ih
    clear ih
    obtain ⟨N, hN⟩ : ∃ N, out.length = N := ⟨_, rfl⟩
    rw [hN] at hd ho hmk
    have HN := hid hN; have HSO := hid hso; have HMK := hid hmk; have HKT := hid hkt
    clear hN hso hmk hkt
    obtain ⟨va, vc, rfl, hvl⟩ := owns_shape ho
    obtain ⟨b0, b1, b2, b3, b4, b5, b6, b7, b8, hbits⟩ := mask9 out
    have HBITS := hid hbits
    have hkv : keyV (mask out) = .agg #[.bool b0, .bool b1, .bool b2, .bool b3, .bool b4, .bool b5, .bool b6, .bool b7, .bool b8] := by rw [hbits]; rfl
    rw [hkv]
    clear hkv hbits
    have hXw : X < w.heap.size := by omega
    have hMw : M < w.heap.size := by omega
    go_enter Try.func121, Try.ntmps121
    go_upto_region 1 with fail
    generalize hW : World.alloc w _ = v1
    have hb : Below w.heap.size w v1 := by rw [← hW]; exact (Below.refl _ w).alloc (Nat.le_refl _) _
    have t3 : v1.heap[w.heap.size]? = some (.cells #[.bool b0, .bool b1, .bool b2, .bool b3, .bool b4, .bool b5, .bool b6, .bool b7, .bool b8] 152 (0, 0)) := by rw [← hW]; exact heap_alloc_new w _
    have hz1 : w.heap.size < v1.heap.size := by rw [← hW]; simp
    clear hW
    have yX := hx.below hb
    have hK1 : Keep1 3 lo X M w v1 := Keep1.of_below hb
    have hbn1 := hbn.keep hK1.keepP
    have hsp1 := hsp.below hb
    have HKT1 := hid (HKT.out.below hb)
    have ho1 := owns_below ho hb
    have q0 := (yX 0 _ rfl).1; have q1 := (yX 1 _ rfl).1; have q2 := (yX 2 _ rfl).1; have q3 := (yX 3 _ rfl).1
    have hNn : N < n := by omega
    have hne : ((N : Int) == (n : Int)) = false := beq_eq_false_iff_ne.mpr (by omega)
    have hne' : ¬ (N : Int) = (n : Int) := by omega
    go_region
    have hb : Below v1.heap.size v1 v1.drew := ⟨rfl, rfl, rfl, Nat.le_refl _, fun _ _ => rfl⟩
    generalize World.drew v1 = v2 at hb ⊢
    have hz2 := hb.size
    replace t3 := heap_below t3 hb
    replace yX := yX.below hb
    replace hK1 := hK1.trans (Keep1.of_below hb)
    replace HKT1 := hid (HKT1.out.below hb)
    replace ho1 := owns_below ho1 hb
    clear q0 q1 q2 q3
    have q0 := (yX 0 _ rfl).1; have q1 := (yX 1 _ rfl).1; have q2 := (yX 2 _ rfl).1; have q3 := (yX 3 _ rfl).1
    go_upto_region 3 with fail
    have c0 := (cellsAt_of_heap (vs := [.bool b0, .bool b1, .bool b2, .bool b3, .bool b4, .bool b5, .bool b6, .bool b7, .bool b8]) t3 0 _ rfl).1
    have c1 := (cellsAt_of_heap (vs := [.bool b0, .bool b1, .bool b2, .bool b3, .bool b4, .bool b5, .bool b6, .bool b7, .bool b8]) t3 1 _ rfl).1
    have c2 := (cellsAt_of_heap (vs := [.bool b0, .bool b1, .bool b2, .bool b3, .bool b4, .bool b5, .bool b6, .bool b7, .bool b8]) t3 2 _ rfl).1
    have c3 := (cellsAt_of_heap (vs := [.bool b0, .bool b1, .bool b2, .bool b3, .bool b4, .bool b5, .bool b6, .bool b7, .bool b8]) t3 3 _ rfl).1
    have c4 := (cellsAt_of_heap (vs := [.bool b0, .bool b1, .bool b2, .bool b3, .bool b4, .bool b5, .bool b6, .bool b7, .bool b8]) t3 4 _ rfl).1
    have c5 := (cellsAt_of_heap (vs := [.bool b0, .bool b1, .bool b2, .bool b3, .bool b4, .bool b5, .bool b6, .bool b7, .bool b8]) t3 5 _ rfl).1
    have c6 := (cellsAt_of_heap (vs := [.bool b0, .bool b1, .bool b2, .bool b3, .bool b4, .bool b5, .bool b6, .bool b7, .bool b8]) t3 6 _ rfl).1
    have c7 := (cellsAt_of_heap (vs := [.bool b0, .bool b1, .bool b2, .bool b3, .bool b4, .bool b5, .bool b6, .bool b7, .bool b8]) t3 7 _ rfl).1
    have c8 := (cellsAt_of_heap (vs := [.bool b0, .bool b1, .bool b2, .bool b3, .bool b4, .bool b5, .bool b6, .bool b7, .bool b8]) t3 8 _ rfl).1
    obtain ⟨bk, hbk⟩ : ∃ b, decide (mask out ∈ ks) = b := ⟨_, rfl⟩
    have hlk : ∀ {W : World}, Below v2.heap.size v2 W → (Instr.lookup 148 (.map (some M)) (.agg #[.bool b0, .bool b1, .bool b2, .bool b3, .bool b4, .bool b5, .bool b6, .bool b7, .bool b8]) false).run Try.prog W = .ok (.bool bk) W := by
      intro W hb
      have h := MapS.look (HKT1.out.below hb) (mask_len out)
      rw [hbk, HBITS.out] at h
      exact h
    refine wp_region_Rs [(5, fun v _ => v = .bool bk)] [0, 1, 2, 3, 4, 5] 0 (by kernel_rfl) rfl (by simp only [List.forall_mem_cons]; exact ⟨keeps_eq, fun _ h => by cases h⟩) (by kernel_rfl) ?_
    simp only [numbered, List.filterMap_cons, List.filterMap_nil, List.getElem?_toArray, List.getElem?_cons_succ, List.getElem?_cons_zero, Option.map_some]
    show wpS _ _ _ _ _ _ _ [(_, _), (_, _), (_, _), (_, _), (_, _), (_, _)] _ _
    (refine wpS_quiet rfl rfl ?_; intro K2 hK inst hx; have s0 := fun x => (fun _ => bkeep (BQ.below x) q3) (hx x); have s1 := fun x => (fun _ => bkeep (BQ.below x) c0) (hx x); have s2 := fun x => (fun _ => bkeep (BQ.below x) c1) (hx x); have s3 := fun x => (fun _ => bkeep (BQ.below x) c2) (hx x); have s4 := fun x => (fun _ => bkeep (BQ.below x) c3) (hx x); have s5 := fun x => (fun _ => bkeep (BQ.below x) c4) (hx x); have s6 := fun x => (fun _ => bkeep (BQ.below x) c5) (hx x); have s7 := fun x => (fun _ => bkeep (BQ.below x) c6) (hx x); have s8 := fun x => (fun _ => bkeep (BQ.below x) c7) (hx x); have s9 := fun x => (fun _ => bkeep (BQ.below x) c8) (hx x); go_big_quiet_op; (first | go_big_quiet_on | (refine ⟨_, fun _ => rfl, ?_⟩; go_big_quiet_on)); clear hx inst)
    (refine wpS_quiet rfl rfl ?_; intro K2 hK inst hx; have s0 := fun x => (fun _ => bkeep (BQ.below x) q3) (hx x); have s1 := fun x => (fun _ => bkeep (BQ.below x) c0) (hx x); have s2 := fun x => (fun _ => bkeep (BQ.below x) c1) (hx x); have s3 := fun x => (fun _ => bkeep (BQ.below x) c2) (hx x); have s4 := fun x => (fun _ => bkeep (BQ.below x) c3) (hx x); have s5 := fun x => (fun _ => bkeep (BQ.below x) c4) (hx x); have s6 := fun x => (fun _ => bkeep (BQ.below x) c5) (hx x); have s7 := fun x => (fun _ => bkeep (BQ.below x) c6) (hx x); have s8 := fun x => (fun _ => bkeep (BQ.below x) c7) (hx x); have s9 := fun x => (fun _ => bkeep (BQ.below x) c8) (hx x); go_big_quiet_op; (first | go_big_quiet_on | (refine ⟨_, fun _ => rfl, ?_⟩; go_big_quiet_on)); clear hx inst)
    (refine wpS_quiet rfl rfl ?_; intro K2 hK inst hx; have s0 := fun x => (fun _ => bkeep (BQ.below x) q3) (hx x); have s1 := fun x => (fun _ => bkeep (BQ.below x) c0) (hx x); have s2 := fun x => (fun _ => bkeep (BQ.below x) c1) (hx x); have s3 := fun x => (fun _ => bkeep (BQ.below x) c2) (hx x); have s4 := fun x => (fun _ => bkeep (BQ.below x) c3) (hx x); have s5 := fun x => (fun _ => bkeep (BQ.below x) c4) (hx x); have s6 := fun x => (fun _ => bkeep (BQ.below x) c5) (hx x); have s7 := fun x => (fun _ => bkeep (BQ.below x) c6) (hx x); have s8 := fun x => (fun _ => bkeep (BQ.below x) c7) (hx x); have s9 := fun x => (fun _ => bkeep (BQ.below x) c8) (hx x); go_big_quiet_op; (first | go_big_quiet_on | (refine ⟨_, fun _ => rfl, ?_⟩; go_big_quiet_on)); clear hx inst)
    (refine wpS_quiet rfl rfl ?_; intro K2 hK inst hx; have s0 := fun x => (fun _ => bkeep (BQ.below x) q3) (hx x); have s1 := fun x => (fun _ => bkeep (BQ.below x) c0) (hx x); have s2 := fun x => (fun _ => bkeep (BQ.below x) c1) (hx x); have s3 := fun x => (fun _ => bkeep (BQ.below x) c2) (hx x); have s4 := fun x => (fun _ => bkeep (BQ.below x) c3) (hx x); have s5 := fun x => (fun _ => bkeep (BQ.below x) c4) (hx x); have s6 := fun x => (fun _ => bkeep (BQ.below x) c5) (hx x); have s7 := fun x => (fun _ => bkeep (BQ.below x) c6) (hx x); have s8 := fun x => (fun _ => bkeep (BQ.below x) c7) (hx x); have s9 := fun x => (fun _ => bkeep (BQ.below x) c8) (hx x); go_big_quiet_op; (first | go_big_quiet_on | (refine ⟨_, fun _ => rfl, ?_⟩; go_big_quiet_on)); clear hx inst)
    (refine wpS_quiet rfl rfl ?_; intro K2 hK inst hx; have s0 := fun x => (fun _ => bkeep (BQ.below x) q3) (hx x); have s1 := fun x => (fun _ => bkeep (BQ.below x) c0) (hx x); have s2 := fun x => (fun _ => bkeep (BQ.below x) c1) (hx x); have s3 := fun x => (fun _ => bkeep (BQ.below x) c2) (hx x); have s4 := fun x => (fun _ => bkeep (BQ.below x) c3) (hx x); have s5 := fun x => (fun _ => bkeep (BQ.below x) c4) (hx x); have s6 := fun x => (fun _ => bkeep (BQ.below x) c5) (hx x); have s7 := fun x => (fun _ => bkeep (BQ.below x) c6) (hx x); have s8 := fun x => (fun _ => bkeep (BQ.below x) c7) (hx x); have s9 := fun x => (fun _ => bkeep (BQ.below x) c8) (hx x); go_big_quiet_op; (first | go_big_quiet_on | (refine ⟨_, fun _ => rfl, ?_⟩; go_big_quiet_on)); clear hx inst)
    refine wpS_fresh rfl rfl (fun w' hb hF => ?_) ?_
    · change freshAt _ _ _ (fun v _ => v = .bool bk) _; unfold freshAt; go_simp; simp [hlk hb, Below.refl]
    intro v W hv; simp only [pOf, List.lookup_cons, Nat.reduceBEq, beq_self_eq_true] at hv; subst hv
    simp only [Act.put, List.setIfInBounds_toArray, List.set_cons_succ, List.set_cons_zero]
    refine wpS_nil ?_
    intro v3 hall
    have hb := hall.1
    clear hall
    refine wpAny_done (by kernel_rfl) ?_ _
    have hz3 := hb.size
    clear hlk c0 c1 c2 c3 c4 c5 c6 c7 c8
    replace t3 := heap_below t3 hb
    replace yX := yX.below hb
    replace hK1 := hK1.trans (Keep1.of_below hb)
    replace HKT1 := hid (HKT1.out.below hb)
    replace ho1 := owns_below ho1 hb
    clear q0 q1 q2 q3
    have q0 := (yX 0 _ rfl).1; have q1 := (yX 1 _ rfl).1; have q2 := (yX 2 _ rfl).1; have q3 := (yX 3 _ rfl).1
    cases bk
    case true =>
      have hin : mask out ∈ ks := of_decide_eq_true hbk
      have hno : seatF (fitsR bs sps) m (d + 1) out = none := by (have h := markOk_hit (out := out) (by rw [HN.out]; exact HMK.out) HSO.out (by rw [HN.out]; omega) hin; rwa [HN.out, show n - N = d + 1 by omega] at h)
      go_wp2_with fail
      exact bodyPost_ret (v := .bool false) (by simp [results, Try.results121, go_sem]) rfl ⟨_, ks, hK1, yX, .inr ⟨hno, rfl, by rw [HN.out]; exact ho1, HKT1.out, markTo_rfl _ _ _ _⟩⟩
    case false =>
      have hni : ¬ mask out ∈ ks := of_decide_eq_false hbk
      go_upto_region 5 with fail
      have c0 := (cellsAt_of_heap (vs := [.bool b0, .bool b1, .bool b2, .bool b3, .bool b4, .bool b5, .bool b6, .bool b7, .bool b8]) t3 0 _ rfl).1
      have c1 := (cellsAt_of_heap (vs := [.bool b0, .bool b1, .bool b2, .bool b3, .bool b4, .bool b5, .bool b6, .bool b7, .bool b8]) t3 1 _ rfl).1
      have c2 := (cellsAt_of_heap (vs := [.bool b0, .bool b1, .bool b2, .bool b3, .bool b4, .bool b5, .bool b6, .bool b7, .bool b8]) t3 2 _ rfl).1
      have c3 := (cellsAt_of_heap (vs := [.bool b0, .bool b1, .bool b2, .bool b3, .bool b4, .bool b5, .bool b6, .bool b7, .bool b8]) t3 3 _ rfl).1
      have c4 := (cellsAt_of_heap (vs := [.bool b0, .bool b1, .bool b2, .bool b3, .bool b4, .bool b5, .bool b6, .bool b7, .bool b8]) t3 4 _ rfl).1
      have c5 := (cellsAt_of_heap (vs := [.bool b0, .bool b1, .bool b2, .bool b3, .bool b4, .bool b5, .bool b6, .bool b7, .bool b8]) t3 5 _ rfl).1
      have c6 := (cellsAt_of_heap (vs := [.bool b0, .bool b1, .bool b2, .bool b3, .bool b4, .bool b5, .bool b6, .bool b7, .bool b8]) t3 6 _ rfl).1
      have c7 := (cellsAt_of_heap (vs := [.bool b0, .bool b1, .bool b2, .bool b3, .bool b4, .bool b5, .bool b6, .bool b7, .bool b8]) t3 7 _ rfl).1
      have c8 := (cellsAt_of_heap (vs := [.bool b0, .bool b1, .bool b2, .bool b3, .bool b4, .bool b5, .bool b6, .bool b7, .bool b8]) t3 8 _ rfl).1
      refine wp_region_Rs [] [0, 1, 2, 3, 4] 1 (by kernel_rfl) rfl (fun _ h => by cases h) (by kernel_rfl) ?_
      simp only [numbered, List.filterMap_cons, List.filterMap_nil, List.getElem?_toArray, List.getElem?_cons_succ, List.getElem?_cons_zero, Option.map_some]
      show wpS _ _ _ _ _ _ _ [(_, _), (_, _), (_, _), (_, _), (_, _)] _ _
      (refine wpS_quiet rfl rfl ?_; intro K2 hK inst hx; have s0 := fun x => (fun _ => bkeep (BQ.below x) q3) (hx x); have s1 := fun x => (fun _ => bkeep (BQ.below x) c0) (hx x); have s2 := fun x => (fun _ => bkeep (BQ.below x) c1) (hx x); have s3 := fun x => (fun _ => bkeep (BQ.below x) c2) (hx x); have s4 := fun x => (fun _ => bkeep (BQ.below x) c3) (hx x); have s5 := fun x => (fun _ => bkeep (BQ.below x) c4) (hx x); have s6 := fun x => (fun _ => bkeep (BQ.below x) c5) (hx x); have s7 := fun x => (fun _ => bkeep (BQ.below x) c6) (hx x); have s8 := fun x => (fun _ => bkeep (BQ.below x) c7) (hx x); have s9 := fun x => (fun _ => bkeep (BQ.below x) c8) (hx x); go_big_quiet_op; (first | go_big_quiet_on | (refine ⟨_, fun _ => rfl, ?_⟩; go_big_quiet_on)); clear hx inst)
      (refine wpS_quiet rfl rfl ?_; intro K2 hK inst hx; have s0 := fun x => (fun _ => bkeep (BQ.below x) q3) (hx x); have s1 := fun x => (fun _ => bkeep (BQ.below x) c0) (hx x); have s2 := fun x => (fun _ => bkeep (BQ.below x) c1) (hx x); have s3 := fun x => (fun _ => bkeep (BQ.below x) c2) (hx x); have s4 := fun x => (fun _ => bkeep (BQ.below x) c3) (hx x); have s5 := fun x => (fun _ => bkeep (BQ.below x) c4) (hx x); have s6 := fun x => (fun _ => bkeep (BQ.below x) c5) (hx x); have s7 := fun x => (fun _ => bkeep (BQ.below x) c6) (hx x); have s8 := fun x => (fun _ => bkeep (BQ.below x) c7) (hx x); have s9 := fun x => (fun _ => bkeep (BQ.below x) c8) (hx x); go_big_quiet_op; (first | go_big_quiet_on | (refine ⟨_, fun _ => rfl, ?_⟩; go_big_quiet_on)); clear hx inst)
      (refine wpS_quiet rfl rfl ?_; intro K2 hK inst hx; have s0 := fun x => (fun _ => bkeep (BQ.below x) q3) (hx x); have s1 := fun x => (fun _ => bkeep (BQ.below x) c0) (hx x); have s2 := fun x => (fun _ => bkeep (BQ.below x) c1) (hx x); have s3 := fun x => (fun _ => bkeep (BQ.below x) c2) (hx x); have s4 := fun x => (fun _ => bkeep (BQ.below x) c3) (hx x); have s5 := fun x => (fun _ => bkeep (BQ.below x) c4) (hx x); have s6 := fun x => (fun _ => bkeep (BQ.below x) c5) (hx x); have s7 := fun x => (fun _ => bkeep (BQ.below x) c6) (hx x); have s8 := fun x => (fun _ => bkeep (BQ.below x) c7) (hx x); have s9 := fun x => (fun _ => bkeep (BQ.below x) c8) (hx x); go_big_quiet_op; (first | go_big_quiet_on | (refine ⟨_, fun _ => rfl, ?_⟩; go_big_quiet_on)); clear hx inst)
      (refine wpS_quiet rfl rfl ?_; intro K2 hK inst hx; have s0 := fun x => (fun _ => bkeep (BQ.below x) q3) (hx x); have s1 := fun x => (fun _ => bkeep (BQ.below x) c0) (hx x); have s2 := fun x => (fun _ => bkeep (BQ.below x) c1) (hx x); have s3 := fun x => (fun _ => bkeep (BQ.below x) c2) (hx x); have s4 := fun x => (fun _ => bkeep (BQ.below x) c3) (hx x); have s5 := fun x => (fun _ => bkeep (BQ.below x) c4) (hx x); have s6 := fun x => (fun _ => bkeep (BQ.below x) c5) (hx x); have s7 := fun x => (fun _ => bkeep (BQ.below x) c6) (hx x); have s8 := fun x => (fun _ => bkeep (BQ.below x) c7) (hx x); have s9 := fun x => (fun _ => bkeep (BQ.below x) c8) (hx x); go_big_quiet_op; (first | go_big_quiet_on | (refine ⟨_, fun _ => rfl, ?_⟩; go_big_quiet_on)); clear hx inst)
      (refine wpS_quiet rfl rfl ?_; intro K2 hK inst hx; have s0 := fun x => (fun _ => bkeep (BQ.below x) q3) (hx x); have s1 := fun x => (fun _ => bkeep (BQ.below x) c0) (hx x); have s2 := fun x => (fun _ => bkeep (BQ.below x) c1) (hx x); have s3 := fun x => (fun _ => bkeep (BQ.below x) c2) (hx x); have s4 := fun x => (fun _ => bkeep (BQ.below x) c3) (hx x); have s5 := fun x => (fun _ => bkeep (BQ.below x) c4) (hx x); have s6 := fun x => (fun _ => bkeep (BQ.below x) c5) (hx x); have s7 := fun x => (fun _ => bkeep (BQ.below x) c6) (hx x); have s8 := fun x => (fun _ => bkeep (BQ.below x) c7) (hx x); have s9 := fun x => (fun _ => bkeep (BQ.below x) c8) (hx x); go_big_quiet_op; (first | go_big_quiet_on | (refine ⟨_, fun _ => rfl, ?_⟩; go_big_quiet_on)); clear hx inst)
      refine wpS_nil ?_
      intro v4 hall
      have hb := hall.1
      clear hall c0 c1 c2 c3 c4 c5 c6 c7 c8
      have hz4 := hb.size
      replace t3 := heap_below t3 hb
      replace yX := yX.below hb
      replace hK1 := hK1.trans (Keep1.of_below hb)
      replace HKT1 := hid (HKT1.out.below hb)
      replace ho1 := owns_below ho1 hb
      clear q0 q1 q2 q3
      have q0 := (yX 0 _ rfl).1; have q1 := (yX 1 _ rfl).1; have q2 := (yX 2 _ rfl).1; have q3 := (yX 3 _ rfl).1
      obtain ⟨v5, hwr, hkt5, hg5⟩ := MapS.write HKT1.out (mask_len out) hni
      rw [HBITS.out] at hwr
      change (Instr.mapUpdate _ _ (.agg #[.bool b0, .bool b1, .bool b2, .bool b3, .bool b4, .bool b5, .bool b6, .bool b7, .bool b8]) _).run _ _ = _ at hwr
      refine wpAny_ready (rs := [5]) (by kernel_rfl) (by simp) ?_
      refine AllReady.cons rfl (fun K hK => ?_) AllReady.nil
      go_simp
      refine hK _ _ ?_; clear hK K
      refine wpAny_done (by kernel_rfl) ?_ _
      replace t3 : v5.heap[w.heap.size]? = _ := (hg5.block _ (Array.getElem?_eq_some_iff.1 t3).1 (fun e => by injection e with e; omega)).trans t3
      replace yX : CellsAt v5 X [.slice ba n bc, .slice sa m sc, .slice va N vc, .map (some M)] := fun o v hv => ⟨grown_kept hg5 (yX o v hv).1 (fun e => hXM (by injection e)), grown_free hg5 (yX o v hv).1 (yX o v hv).2 (fun e => hXM (by injection e))⟩
      replace hK1 := hK1.trans (Keep1.of_map hg5)
      replace ho1 := ho1.kept hg5 (.inr (Ne.symm (owns_not ho1 hMl)))
      replace HKT1 := hid hkt5
      have hz5 := hg5.size
      clear hkt5 hg5 hwr hb q0 q1 q2 q3
      have q0 := (yX 0 _ rfl).1; have q1 := (yX 1 _ rfl).1; have q2 := (yX 2 _ rfl).1; have q3 := (yX 3 _ rfl).1
      obtain ⟨⟨lo1, hi1, l1⟩, hb1⟩ : ∃ b, bs[N]? = some b := ⟨_, List.getElem?_eq_getElem (by omega)⟩
      obtain ⟨ax, cx, eb, -, h3⟩ := hbn.keep hK1.keepP
      injection eb with ea eN ec
      subst ea
      clear eN ec
      obtain ⟨g, u1, e1, e2, e3, e4, e5, e6, e7⟩ := h3 N _ hb1
      subst e1
      clear h3
      have hNi : (N : Int) < (n : Int) := by omega
      dsimp only at e3 e4 e5 e6
      obtain ⟨ua1, uc1, rfl, -⟩ := e6.shape
      rw [List.length_map] at e5 e6 e7
      have HB1 := hid hb1; have HOK1 := hid (hbok _ (List.mem_of_getElem? hb1))
      clear hb1
      go_upto_region 6 with fail
      refine wp_region_Rs [(11, NewObj v5.heap.size #[.int .i64 0, .int .i64 0, .slice none 0 0] 26)] [0, 1, 2, 3, 4, 5, 6, 7, 8, 9, 10, 11] 1 (by kernel_rfl) rfl (by simp only [List.forall_mem_cons]; exact ⟨keeps_obj, fun _ h => by cases h⟩) (by kernel_rfl) ?_
      simp only [numbered, List.filterMap_cons, List.filterMap_nil, List.getElem?_toArray, List.getElem?_cons_succ, List.getElem?_cons_zero, Option.map_some]
      show wpS _ _ _ _ _ _ _ [(_, _), (_, _), (_, _), (_, _), (_, _), (_, _), (_, _), (_, _), (_, _), (_, _), (_, _), (_, _)] _ _
      (refine wpS_quiet rfl rfl ?_; intro K2 hK inst hx; have s0 := fun x => (fun _ => bkeep (BQ.below x) q0) (hx x); have s1 := fun x => (fun _ => bkeep (BQ.below x) q2) (hx x); have s2 := fun x => (fun _ => bkeep (BQ.below x) e3) (hx x); have s3 := fun x => (fun _ => bkeep (BQ.below x) e4) (hx x); have s4 := fun x => (fun _ => bkeep (BQ.below x) e5) (hx x); go_big_quiet_op; (first | go_big_quiet_on | (refine ⟨_, fun _ => rfl, ?_⟩; go_big_quiet_on)); clear hx inst)
      (refine wpS_quiet rfl rfl ?_; intro K2 hK inst hx; have s0 := fun x => (fun _ => bkeep (BQ.below x) q0) (hx x); have s1 := fun x => (fun _ => bkeep (BQ.below x) q2) (hx x); have s2 := fun x => (fun _ => bkeep (BQ.below x) e3) (hx x); have s3 := fun x => (fun _ => bkeep (BQ.below x) e4) (hx x); have s4 := fun x => (fun _ => bkeep (BQ.below x) e5) (hx x); go_big_quiet_op; (first | go_big_quiet_on | (refine ⟨_, fun _ => rfl, ?_⟩; go_big_quiet_on)); clear hx inst)
      (refine wpS_quiet rfl rfl ?_; intro K2 hK inst hx; have s0 := fun x => (fun _ => bkeep (BQ.below x) q0) (hx x); have s1 := fun x => (fun _ => bkeep (BQ.below x) q2) (hx x); have s2 := fun x => (fun _ => bkeep (BQ.below x) e3) (hx x); have s3 := fun x => (fun _ => bkeep (BQ.below x) e4) (hx x); have s4 := fun x => (fun _ => bkeep (BQ.below x) e5) (hx x); go_big_quiet_op; (first | go_big_quiet_on | (refine ⟨_, fun _ => rfl, ?_⟩; go_big_quiet_on)); clear hx inst)
      (refine wpS_quiet rfl rfl ?_; intro K2 hK inst hx; have s0 := fun x => (fun _ => bkeep (BQ.below x) q0) (hx x); have s1 := fun x => (fun _ => bkeep (BQ.below x) q2) (hx x); have s2 := fun x => (fun _ => bkeep (BQ.below x) e3) (hx x); have s3 := fun x => (fun _ => bkeep (BQ.below x) e4) (hx x); have s4 := fun x => (fun _ => bkeep (BQ.below x) e5) (hx x); go_big_quiet_op; (first | go_big_quiet_on | (refine ⟨_, fun _ => rfl, ?_⟩; go_big_quiet_on)); clear hx inst)
      (refine wpS_quiet rfl rfl ?_; intro K2 hK inst hx; have s0 := fun x => (fun _ => bkeep (BQ.below x) q0) (hx x); have s1 := fun x => (fun _ => bkeep (BQ.below x) q2) (hx x); have s2 := fun x => (fun _ => bkeep (BQ.below x) e3) (hx x); have s3 := fun x => (fun _ => bkeep (BQ.below x) e4) (hx x); have s4 := fun x => (fun _ => bkeep (BQ.below x) e5) (hx x); go_big_quiet_op; (first | go_big_quiet_on | (refine ⟨_, fun _ => rfl, ?_⟩; go_big_quiet_on)); clear hx inst)
      (refine wpS_quiet rfl rfl ?_; intro K2 hK inst hx; have s0 := fun x => (fun _ => bkeep (BQ.below x) q0) (hx x); have s1 := fun x => (fun _ => bkeep (BQ.below x) q2) (hx x); have s2 := fun x => (fun _ => bkeep (BQ.below x) e3) (hx x); have s3 := fun x => (fun _ => bkeep (BQ.below x) e4) (hx x); have s4 := fun x => (fun _ => bkeep (BQ.below x) e5) (hx x); go_big_quiet_op; (first | go_big_quiet_on | (refine ⟨_, fun _ => rfl, ?_⟩; go_big_quiet_on)); clear hx inst)
      (refine wpS_quiet rfl rfl ?_; intro K2 hK inst hx; have s0 := fun x => (fun _ => bkeep (BQ.below x) q0) (hx x); have s1 := fun x => (fun _ => bkeep (BQ.below x) q2) (hx x); have s2 := fun x => (fun _ => bkeep (BQ.below x) e3) (hx x); have s3 := fun x => (fun _ => bkeep (BQ.below x) e4) (hx x); have s4 := fun x => (fun _ => bkeep (BQ.below x) e5) (hx x); go_big_quiet_op; (first | go_big_quiet_on | (refine ⟨_, fun _ => rfl, ?_⟩; go_big_quiet_on)); clear hx inst)
      (refine wpS_quiet rfl rfl ?_; intro K2 hK inst hx; have s0 := fun x => (fun _ => bkeep (BQ.below x) q0) (hx x); have s1 := fun x => (fun _ => bkeep (BQ.below x) q2) (hx x); have s2 := fun x => (fun _ => bkeep (BQ.below x) e3) (hx x); have s3 := fun x => (fun _ => bkeep (BQ.below x) e4) (hx x); have s4 := fun x => (fun _ => bkeep (BQ.below x) e5) (hx x); go_big_quiet_op; (first | go_big_quiet_on | (refine ⟨_, fun _ => rfl, ?_⟩; go_big_quiet_on)); clear hx inst)
      (refine wpS_quiet rfl rfl ?_; intro K2 hK inst hx; have s0 := fun x => (fun _ => bkeep (BQ.below x) q0) (hx x); have s1 := fun x => (fun _ => bkeep (BQ.below x) q2) (hx x); have s2 := fun x => (fun _ => bkeep (BQ.below x) e3) (hx x); have s3 := fun x => (fun _ => bkeep (BQ.below x) e4) (hx x); have s4 := fun x => (fun _ => bkeep (BQ.below x) e5) (hx x); go_big_quiet_op; (first | go_big_quiet_on | (refine ⟨_, fun _ => rfl, ?_⟩; go_big_quiet_on)); clear hx inst)
      (refine wpS_quiet rfl rfl ?_; intro K2 hK inst hx; have s0 := fun x => (fun _ => bkeep (BQ.below x) q0) (hx x); have s1 := fun x => (fun _ => bkeep (BQ.below x) q2) (hx x); have s2 := fun x => (fun _ => bkeep (BQ.below x) e3) (hx x); have s3 := fun x => (fun _ => bkeep (BQ.below x) e4) (hx x); have s4 := fun x => (fun _ => bkeep (BQ.below x) e5) (hx x); go_big_quiet_op; (first | go_big_quiet_on | (refine ⟨_, fun _ => rfl, ?_⟩; go_big_quiet_on)); clear hx inst)
      (refine wpS_quiet rfl rfl ?_; intro K2 hK inst hx; have s0 := fun x => (fun _ => bkeep (BQ.below x) q0) (hx x); have s1 := fun x => (fun _ => bkeep (BQ.below x) q2) (hx x); have s2 := fun x => (fun _ => bkeep (BQ.below x) e3) (hx x); have s3 := fun x => (fun _ => bkeep (BQ.below x) e4) (hx x); have s4 := fun x => (fun _ => bkeep (BQ.below x) e5) (hx x); go_big_quiet_op; (first | go_big_quiet_on | (refine ⟨_, fun _ => rfl, ?_⟩; go_big_quiet_on)); clear hx inst)
      refine wpS_fresh rfl rfl (fun w' hb hF => ?_) ?_
      · change freshAt _ _ _ (NewObj v5.heap.size #[.int .i64 0, .int .i64 0, .slice none 0 0] 26) _; unfold freshAt; go_simp; exact obj_of hb
      intro v W hv; simp only [pOf, List.lookup_cons, Nat.reduceBEq, beq_self_eq_true] at hv; obtain ⟨B5, hB5, rfl, -⟩ := hv
      simp only [Act.put, List.setIfInBounds_toArray, List.set_cons_succ, List.set_cons_zero]
      refine wpS_nil ?_
      intro v6 hall
      have hb := hall.1
      have hN : NewObj v5.heap.size #[.int .i64 0, .int .i64 0, .slice none 0 0] 26 _ v6 := hall.2 11 _ rfl
      obtain ⟨B', hB', hv', hob⟩ := hN
      obtain rfl : B5 = B' := by simpa using hv'
      clear hall hv' hB'
      have yL := obj_cells (cs := [.int .i64 0, .int .i64 0, .slice none 0 0]) hob
      have c0 := (yL 0 _ rfl).1; have c1 := (yL 1 _ rfl).1; have c2 := (yL 2 _ rfl).1; have f0 := (yL 0 _ rfl).2; have f1 := (yL 1 _ rfl).2; have f2 := (yL 2 _ rfl).2
      refine wpAny_ready (rs := [12]) (by kernel_rfl) (by simp) ?_
      refine AllReady.cons rfl (fun K hK => ?_) AllReady.nil
      go_simp
      refine hK _ _ ?_; clear hK K
      refine wpAny_done (by kernel_rfl) ?_ _
      have t5 := obj_set (k := 2) (u := .slice ua1 l1.length uc1) (obj_set (k := 1) (u := .int .i64 hi1) (obj_set (cs := [.int .i64 0, .int .i64 0, .slice none 0 0]) (k := 0) (u := .int .i64 lo1) hob (by simp)) (by simp)) (by simp)
      replace hb := ((hb.setCell (p := ⟨B5, 0, none⟩) hB5 (.int .i64 lo1)).setCell (p := ⟨B5, 1, none⟩) hB5 (.int .i64 hi1)).setCell (p := ⟨B5, 2, none⟩) hB5 (.slice ua1 l1.length uc1)
      clear yL hob c0 c1 c2 f0 f1 f2
      generalize (World.setCell _ _ _ : World) = w6 at *
      dsimp only [List.set] at t5
      replace e6 := e6.below hb
      clear e3 e4 e5
      replace t3 := heap_below t3 hb
      replace yX := yX.below hb
      replace hK1 := hK1.trans (Keep1.of_below hb)
      replace HKT1 := hid (HKT1.out.below hb)
      replace ho1 := owns_below ho1 hb
      clear q0 q1 q2 q3
      have q0 := (yX 0 _ rfl).1; have q1 := (yX 1 _ rfl).1; have q2 := (yX 2 _ rfl).1; have q3 := (yX 3 _ rfl).1
      have hz6 := hb.size
      clear hb
      have hK6 := hK1
      have h6 := t3; have h65 := t5
      go_wp2_with fail
      go_loopg [47] m (fun gk iv wr => ∃ (k : Nat) (vv : Value) (ks2 : List (List Bool)), k ≤ m ∧ gk = m - k ∧ iv = .int .i64 k ∧ Keep1 3 lo X M w6 wr ∧ CellsAt wr X [.slice (some g) n bc, .slice sa m sc, vv, .map (some M)] ∧ Hid (MapS Try.prog 152 4 M ks2 wr) ∧ wr.ownsRow lo 3 1 vv N (cellsN out) ∧ Hid (MarkTo (fitsR bs sps) m n (fun p => p ∈ ks ∨ p = mask out) (fun p => p ∈ ks2)) ∧ Hid (seatF (fitsR bs sps) m (d + 1) out = seatL (fitsR bs sps) m d out k))
      case atStart => exact ⟨0, _, _, Nat.zero_le _, rfl, rfl, Keep1.refl, yX, HKT1, ho1, hid (fun p hp => .inl ((List.mem_cons.1 hp).elim .inr .inl)), hid (seatF_succ _ _ _ _)⟩
      case round =>
        clear yX HKT1 ho1 hK1 t3 t5 q0 q1 q2 q3
        obtain ⟨k, vv, ks2, hk, hgk, rfl, hKr, yr, HKr, hor, HMT, HSF⟩ := hrel
        have HGK := hid hgk
        clear hgk
        obtain ⟨vr, vrc, rfl, -⟩ := owns_shape hor
        have hzr := hKr.size
        have t3 := hKr.heap h6 (by omega) (by omega) (by intro c g e; injection e with _ e _; exact absurd e (by decide))
        have t5 := hKr.heap h65 (by omega) (by omega) (by intro c g e; injection e with _ e _; exact absurd e (by decide))
        by_cases hlt : k < m
        · have hki : (k : Int) < (m : Int) := by omega
          have hk9 : k < 9 := by omega
          have hk9i : (k : Int) < 9 := by omega
          have hk0 : (0 : Int) ≤ (k : Int) := by omega
          obtain ⟨⟨cr, le⟩, hs1⟩ : ∃ s, sps[k]? = some s := ⟨_, List.getElem?_eq_getElem (by omega)⟩
          obtain ⟨sg, es, p0, p1⟩ := sp_row (rows_keepP hsp hsi (hK6.trans hKr).keepP) hm hs1
          have HS1 := hid hs1
          clear hs1
          dsimp only at p0 p1
          subst es
          go_upto_region 10 with fail
          generalize hW : World.alloc wr _ = v7
          have y7 : CellsAt v7 wr.heap.size [.int .i64 cr, .int .i64 le] := by rw [← hW]; exact CellsAt.new wr [.int .i64 cr, .int .i64 le] 28
          have hb : Below wr.heap.size wr v7 := by rw [← hW]; exact (Below.refl _ _).alloc (Nat.le_refl _) _
          have hz7 : wr.heap.size < v7.heap.size := by rw [← hW]; simp
          clear hW p0 p1
          have hb6 := (rows_keepP e6 e7 hKr.keepP).below hb
          replace yr := yr.below hb
          replace t3 := heap_below t3 hb
          replace t5 := heap_below t5 hb
          replace hor := owns_below hor hb
          replace HKr := hid (HKr.out.below hb)
          replace hKr := hKr.trans (Keep1.of_below hb)
          clear hb
          obtain ⟨tk, htk⟩ : ∃ t, out.contains k = t := ⟨_, rfl⟩
          have ck : ([.bool b0, .bool b1, .bool b2, .bool b3, .bool b4, .bool b5, .bool b6, .bool b7, .bool b8] : List Value)[k]? = some (.bool tk) := by (have h := mask_get out hk9; rw [HBITS.out, htk] at h; show (List.map Value.bool [b0, b1, b2, b3, b4, b5, b6, b7, b8])[k]? = _; rw [List.getElem?_map, h]; rfl)
          have q9 := (cellsAt_of_heap (vs := [.bool b0, .bool b1, .bool b2, .bool b3, .bool b4, .bool b5, .bool b6, .bool b7, .bool b8]) t3 k _ ck).1
          clear ck
          cases tk
          · obtain ⟨r, hr⟩ : ∃ r, fitA lo1 hi1 l1 cr le = r := ⟨_, rfl⟩
            have HR1 := hid hr
            clear hr
            obtain ⟨hw1, -, hl1⟩ := bungOk_parts HOK1.out
            have g7 := (y7 0 _ rfl).1; have g8 := (y7 1 _ rfl).1
            have g5 := cellsAt_of_heap (vs := [.int .i64 lo1, .int .i64 hi1, .slice ua1 l1.length uc1]) t5
            have g0 := (g5 0 _ rfl).1; have g1 := (g5 1 _ rfl).1; have g2 := (g5 2 _ rfl).1
            clear g5
            go_wp2_with fail
            refine (fits_any hb6 (listOk_len hl1) hl1 (wad_b hw1).1 (wad_b hw1).2 HR1.out).mono ?_
            rintro e v8 ⟨rfl, hb⟩
            have hz8 := hb.size
            replace yr := yr.below hb
            replace t3 := heap_below t3 hb
            replace t5 := heap_below t5 hb
            replace hor := owns_below hor hb
            replace HKr := hid (HKr.out.below hb)
            replace hKr := hKr.trans (Keep1.of_below hb)
            clear hb g7 g8 g0 g1 g2 hb6 y7 q9
            have HFR := hid (show fitsR bs sps out.length k = decide (r = 1) by unfold fitsR; rw [HN.out, HB1.out, HS1.out]; dsimp only; rw [HR1.out])
            by_cases hr1 : r = 1
            · subst hr1
              have c0 := (cellsAt_of_heap (vs := [.bool b0, .bool b1, .bool b2, .bool b3, .bool b4, .bool b5, .bool b6, .bool b7, .bool b8]) t3 0 _ rfl).1
              have c1 := (cellsAt_of_heap (vs := [.bool b0, .bool b1, .bool b2, .bool b3, .bool b4, .bool b5, .bool b6, .bool b7, .bool b8]) t3 1 _ rfl).1
              have c2 := (cellsAt_of_heap (vs := [.bool b0, .bool b1, .bool b2, .bool b3, .bool b4, .bool b5, .bool b6, .bool b7, .bool b8]) t3 2 _ rfl).1
              have c3 := (cellsAt_of_heap (vs := [.bool b0, .bool b1, .bool b2, .bool b3, .bool b4, .bool b5, .bool b6, .bool b7, .bool b8]) t3 3 _ rfl).1
              have c4 := (cellsAt_of_heap (vs := [.bool b0, .bool b1, .bool b2, .bool b3, .bool b4, .bool b5, .bool b6, .bool b7, .bool b8]) t3 4 _ rfl).1
              have c5 := (cellsAt_of_heap (vs := [.bool b0, .bool b1, .bool b2, .bool b3, .bool b4, .bool b5, .bool b6, .bool b7, .bool b8]) t3 5 _ rfl).1
              have c6 := (cellsAt_of_heap (vs := [.bool b0, .bool b1, .bool b2, .bool b3, .bool b4, .bool b5, .bool b6, .bool b7, .bool b8]) t3 6 _ rfl).1
              have c7 := (cellsAt_of_heap (vs := [.bool b0, .bool b1, .bool b2, .bool b3, .bool b4, .bool b5, .bool b6, .bool b7, .bool b8]) t3 7 _ rfl).1
              have c8 := (cellsAt_of_heap (vs := [.bool b0, .bool b1, .bool b2, .bool b3, .bool b4, .bool b5, .bool b6, .bool b7, .bool b8]) t3 8 _ rfl).1
              go_upto_region 12 with fail
              generalize hW : World.alloc v8 _ = v9
              have t8 : v9.heap[v8.heap.size]? = some (.cells ([.bool b0, .bool b1, .bool b2, .bool b3, .bool b4, .bool b5, .bool b6, .bool b7, .bool b8] : List Value).toArray 152 (0, 0)) := by rw [← hW]; exact heap_alloc_new v8 _
              have hb : Below v8.heap.size v8 v9 := by rw [← hW]; exact (Below.refl _ _).alloc (Nat.le_refl _) _
              have hz9 : v8.heap.size < v9.heap.size := by rw [← hW]; simp
              clear hW t3 t5 c0 c1 c2 c3 c4 c5 c6 c7 c8
              obtain ⟨d0, d1, d2, d3, d4, d5, d6, d7, d8, hmd⟩ := mask9 (out ++ [k])
              have HD := hid hmd
              clear hmd
              have hms : ([.bool b0, .bool b1, .bool b2, .bool b3, .bool b4, .bool b5, .bool b6, .bool b7, .bool b8] : List Value).set k (.bool true) = [.bool d0, .bool d1, .bool d2, .bool d3, .bool d4, .bool d5, .bool d6, .bool d7, .bool d8] := by (have h := mask_snoc out hk9; rw [HBITS.out, HD.out] at h; show (List.map Value.bool [b0, b1, b2, b3, b4, b5, b6, b7, b8]).set k _ = List.map Value.bool [d0, d1, d2, d3, d4, d5, d6, d7, d8]; rw [h, List.map_set])
              have ck : ([.bool b0, .bool b1, .bool b2, .bool b3, .bool b4, .bool b5, .bool b6, .bool b7, .bool b8] : List Value)[k]? = some (.bool false) := by (have h := mask_get out hk9; rw [HBITS.out, htk] at h; show (List.map Value.bool [b0, b1, b2, b3, b4, b5, b6, b7, b8])[k]? = _; rw [List.getElem?_map, h]; rfl)
              have q9 := (cellsAt_of_heap (vs := [.bool b0, .bool b1, .bool b2, .bool b3, .bool b4, .bool b5, .bool b6, .bool b7, .bool b8]) t8 k _ ck).1; have f9 := (cellsAt_of_heap (vs := [.bool b0, .bool b1, .bool b2, .bool b3, .bool b4, .bool b5, .bool b6, .bool b7, .bool b8]) t8 k _ ck).2
              clear ck
              go_upto_region 13 with fail
              have t9 := obj_set (k := k) (u := .bool true) t8 (by simpa using hk9)
              rw [hms] at t9
              have hb9 := hb.setCell (p := ⟨v8.heap.size, k, none⟩) (Nat.le_refl _) (.bool true)
              clear t8 q9 f9 hb hms
              have hz10 : v8.heap.size < (v9.setCell ⟨v8.heap.size, k, none⟩ (.bool true)).heap.size := by simp; omega
              generalize (World.setCell _ _ _ : World) = v10 at *
              have hb := hb9
              clear hb9
              replace yr := yr.below hb
              replace hor := owns_below hor hb
              replace HKr := hid (HKr.out.below hb)
              replace hKr := hKr.trans (Keep1.of_below hb)
              clear hb
              have q0 := (yr 0 _ rfl).1; have q1 := (yr 1 _ rfl).1; have q2 := (yr 2 _ rfl).1; have q3 := (yr 3 _ rfl).1
              obtain ⟨i1, hj, hy0, hy1, hy2⟩ := info_parts Try.infoIn
              go_upto_region 14 with (at_builtin; go_must (refine wpList_append_own _ rfl _ _ 41 rfl lo 3 i1 (.int .i64 0) 1 8 Try.underlying41 hj hy0 hy1 hy2 rfl (by decide) _ _ _ rfl (hor.alloc _) ⟨v10.heap.size, 0, none⟩ 1 1 [.int .i64 (k : Int)] rfl rfl (new_cellsZ v10 _ _ _ rfl) (fun u hu => by simp only [List.mem_cons, List.not_mem_nil, or_false] at hu; rcases hu with rfl; rfl) (by unfold maxLen; omega) (by omega) (by have := hKr.size; simp; omega) ?_; intro v' w4 ho4 hg4 hnil; obtain ⟨y4, t4, hm4, hK4⟩ := seat_put hXl hKr yr HKr.out hor t9 hg4; have HK4 := hid hm4; clear hm4; obtain ⟨xa, xc, rfl, -⟩ := owns_shape ho4; have e2 := (y4 2 _ rfl).1; have f2 := (y4 2 _ rfl).2; clear hg4 hnil hor yr t9 HKr hKr q0 q1 q2 q3))
              have t14 := seat_heap (k := 2) (u := .slice xa (N + 1) xc) t4 (show v8.heap.size ≠ X by omega)
              obtain ⟨y14, hm14, hK14, ho14⟩ := seat_cell (u := .slice xa (N + 1) xc) hXl hXM hK4 y4 HK4.out ho4
              clear t4 y4 HK4 hK4 ho4 e2 f2
              generalize (World.setCell _ _ _ : World) = w14 at *
              have HM14 := hid hm14
              clear hm14
              have c0 := (cellsAt_of_heap (vs := [.bool d0, .bool d1, .bool d2, .bool d3, .bool d4, .bool d5, .bool d6, .bool d7, .bool d8]) t14 0 _ rfl).1
              have c1 := (cellsAt_of_heap (vs := [.bool d0, .bool d1, .bool d2, .bool d3, .bool d4, .bool d5, .bool d6, .bool d7, .bool d8]) t14 1 _ rfl).1
              have c2 := (cellsAt_of_heap (vs := [.bool d0, .bool d1, .bool d2, .bool d3, .bool d4, .bool d5, .bool d6, .bool d7, .bool d8]) t14 2 _ rfl).1
              have c3 := (cellsAt_of_heap (vs := [.bool d0, .bool d1, .bool d2, .bool d3, .bool d4, .bool d5, .bool d6, .bool d7, .bool d8]) t14 3 _ rfl).1
              have c4 := (cellsAt_of_heap (vs := [.bool d0, .bool d1, .bool d2, .bool d3, .bool d4, .bool d5, .bool d6, .bool d7, .bool d8]) t14 4 _ rfl).1
              have c5 := (cellsAt_of_heap (vs := [.bool d0, .bool d1, .bool d2, .bool d3, .bool d4, .bool d5, .bool d6, .bool d7, .bool d8]) t14 5 _ rfl).1
              have c6 := (cellsAt_of_heap (vs := [.bool d0, .bool d1, .bool d2, .bool d3, .bool d4, .bool d5, .bool d6, .bool d7, .bool d8]) t14 6 _ rfl).1
              have c7 := (cellsAt_of_heap (vs := [.bool d0, .bool d1, .bool d2, .bool d3, .bool d4, .bool d5, .bool d6, .bool d7, .bool d8]) t14 7 _ rfl).1
              have c8 := (cellsAt_of_heap (vs := [.bool d0, .bool d1, .bool d2, .bool d3, .bool d4, .bool d5, .bool d6, .bool d7, .bool d8]) t14 8 _ rfl).1
              have hon : (out ++ [k]).length = N + 1 := by rw [List.length_append, List.length_singleton, HN.out]
              have hIH := IH.out w14 _ (out ++ [k]) ks2 (by rw [hon]; omega) y14 (hbn.keep (hK6.trans hK14).keepP) (rows_keepP hsp hsi (hK6.trans hK14).keepP) hsi HM14.out (by rw [hon]; unfold cellsN; rw [List.map_append]; exact ho14) (seatOk_snoc HSO.out hlt htk) (by rw [hon, ← HN.out]; exact markOk_to (markOk_add hm9 (by rw [HN.out]; exact HMK.out) HSO.out) HMT.out) (by have := hK14.size; omega)
              have hkv2 : keyV (mask (out ++ [k])) = .agg #[.bool d0, .bool d1, .bool d2, .bool d3, .bool d4, .bool d5, .bool d6, .bool d7, .bool d8] := by rw [HD.out]; rfl
              rw [hkv2] at hIH
              clear hkv2
              have HIH := hid hIH
              clear hIH
              go_wp2_with fail
              refine HIH.out.mono ?_
              unfold SeatRes
              rintro e v15 ⟨v15v, ks3, hK15, y15, ⟨r, hsf, rfl, ho15⟩ | ⟨hsf, rfl, ho15, hkt15, hmt15⟩⟩
              · have HWIN := hid (HSF.out.trans (seatL_some _ out hlt (by rw [HFR.out, htk]; rfl) hsf))
                have hK := hid ((hK6.trans hK14).trans hK15)
                clear hsf hK14 hK15 t14 y14 ho14 c0 c1 c2 c3 c4 c5 c6 c7 c8
                go_wp2_with fail
                exact bodyPost_ret (v := .bool true) (by simp [results, Try.results121, go_sem]) rfl ⟨_, ks3, hK.out, y15, .inl ⟨r, HWIN.out, rfl, ho15⟩⟩
              · rw [hon] at ho15
                have HLOSE := hid (HSF.out.trans (seatL_none _ out hlt (by rw [HFR.out, htk]; rfl) hsf))
                have HMT2 := hid (markTo_trans HMT.out hmt15)
                have hKr := hK14.trans hK15
                have HK15 := hid hkt15
                clear hsf hmt15 hkt15 hK14 hK15 t14 y14 ho14 c0 c1 c2 c3 c4 c5 c6 c7 c8
                obtain ⟨gy, yc, rfl, hyc, hyc2⟩ := own_some ho15 (by omega)
                go_upto_region 16 with fail
                have q2 := (y15 2 _ rfl).1
                have hx1 : wrap64 (((N + 1 : Nat) : Int) - 1) = (N : Int) := by (rw [show ((N + 1 : Nat) : Int) - 1 = (N : Int) by omega]; exact IntWalk.wrap64_in _ (by omega))
                have hx2 : wrap64 ((N : Int) + 1 - 1) = (N : Int) := by (rw [show (N : Int) + 1 - 1 = (N : Int) by omega]; exact IntWalk.wrap64_in _ (by omega))
                have hx3 : (N : Int) ≤ (yc : Int) := by omega
                have hx4 : N ≤ yc := by omega
                have hx5 : (0 : Int) ≤ (N : Int) := by omega
                refine wp_region_Rs [] [0, 1, 2, 3, 4, 5, 6, 7, 8, 9, 10, 11, 12, 13] 1 (by kernel_rfl) rfl (fun _ h => by cases h) (by kernel_rfl) ?_
                simp only [numbered, List.filterMap_cons, List.filterMap_nil, List.getElem?_toArray, List.getElem?_cons_succ, List.getElem?_cons_zero, Option.map_some]
                show wpS _ _ _ _ _ _ _ [(_, _), (_, _), (_, _), (_, _), (_, _), (_, _), (_, _), (_, _), (_, _), (_, _), (_, _), (_, _), (_, _), (_, _)] _ _
                (refine wpS_quiet rfl rfl ?_; intro K2 hK inst hx; have s0 := fun x => (fun _ => bkeep (BQ.below x) q2) (hx x); go_big_quiet_op; (first | go_big_quiet_on | (refine ⟨_, fun _ => rfl, ?_⟩; go_big_quiet_on)); clear hx inst)
                (refine wpS_quiet rfl rfl ?_; intro K2 hK inst hx; have s0 := fun x => (fun _ => bkeep (BQ.below x) q2) (hx x); go_big_quiet_op; (first | go_big_quiet_on | (refine ⟨_, fun _ => rfl, ?_⟩; go_big_quiet_on)); clear hx inst)
                (refine wpS_quiet rfl rfl ?_; intro K2 hK inst hx; have s0 := fun x => (fun _ => bkeep (BQ.below x) q2) (hx x); go_big_quiet_op; (first | go_big_quiet_on | (refine ⟨_, fun _ => rfl, ?_⟩; go_big_quiet_on)); clear hx inst)
                (refine wpS_quiet rfl rfl ?_; intro K2 hK inst hx; have s0 := fun x => (fun _ => bkeep (BQ.below x) q2) (hx x); go_big_quiet_op; (first | go_big_quiet_on | (refine ⟨_, fun _ => rfl, ?_⟩; go_big_quiet_on)); clear hx inst)
                (refine wpS_quiet rfl rfl ?_; intro K2 hK inst hx; have s0 := fun x => (fun _ => bkeep (BQ.below x) q2) (hx x); go_big_quiet_op; (first | go_big_quiet_on | (refine ⟨_, fun _ => rfl, ?_⟩; go_big_quiet_on)); clear hx inst)
                (refine wpS_quiet rfl rfl ?_; intro K2 hK inst hx; have s0 := fun x => (fun _ => bkeep (BQ.below x) q2) (hx x); go_big_quiet_op; (first | go_big_quiet_on | (refine ⟨_, fun _ => rfl, ?_⟩; go_big_quiet_on)); clear hx inst)
                (refine wpS_quiet rfl rfl ?_; intro K2 hK inst hx; have s0 := fun x => (fun _ => bkeep (BQ.below x) q2) (hx x); go_big_quiet_op; (first | go_big_quiet_on | (refine ⟨_, fun _ => rfl, ?_⟩; go_big_quiet_on)); clear hx inst)
                (refine wpS_quiet rfl rfl ?_; intro K2 hK inst hx; have s0 := fun x => (fun _ => bkeep (BQ.below x) q2) (hx x); go_big_quiet_op; (first | go_big_quiet_on | (refine ⟨_, fun _ => rfl, ?_⟩; go_big_quiet_on)); clear hx inst)
                (refine wpS_quiet rfl rfl ?_; intro K2 hK inst hx; have s0 := fun x => (fun _ => bkeep (BQ.below x) q2) (hx x); go_big_quiet_op; (first | go_big_quiet_on | (refine ⟨_, fun _ => rfl, ?_⟩; go_big_quiet_on)); clear hx inst)
                (refine wpS_quiet rfl rfl ?_; intro K2 hK inst hx; have s0 := fun x => (fun _ => bkeep (BQ.below x) q2) (hx x); go_big_quiet_op; (first | go_big_quiet_on | (refine ⟨_, fun _ => rfl, ?_⟩; go_big_quiet_on)); clear hx inst)
                (refine wpS_quiet rfl rfl ?_; intro K2 hK inst hx; have s0 := fun x => (fun _ => bkeep (BQ.below x) q2) (hx x); go_big_quiet_op; (first | go_big_quiet_on | (refine ⟨_, fun _ => rfl, ?_⟩; go_big_quiet_on)); clear hx inst)
                (refine wpS_quiet rfl rfl ?_; intro K2 hK inst hx; have s0 := fun x => (fun _ => bkeep (BQ.below x) q2) (hx x); go_big_quiet_op; (first | go_big_quiet_on | (refine ⟨_, fun _ => rfl, ?_⟩; go_big_quiet_on)); clear hx inst)
                (refine wpS_quiet rfl rfl ?_; intro K2 hK inst hx; have s0 := fun x => (fun _ => bkeep (BQ.below x) q2) (hx x); go_big_quiet_op; (first | go_big_quiet_on | (refine ⟨_, fun _ => rfl, ?_⟩; go_big_quiet_on)); clear hx inst)
                (refine wpS_quiet rfl rfl ?_; intro K2 hK inst hx; have s0 := fun x => (fun _ => bkeep (BQ.below x) q2) (hx x); go_big_quiet_op; (first | go_big_quiet_on | (refine ⟨_, fun _ => rfl, ?_⟩; go_big_quiet_on)); clear hx inst)
                refine wpS_nil ?_
                intro v16 hall
                have hb := hall.1
                clear hall
                have ho16 := own_cut (xs := cellsN out) (ys := [.int .i64 (k : Int)]) (by (have h := owns_below ho15 hb; unfold cellsN at h ⊢; rw [List.map_append] at h; exact h)) (by unfold cellsN; rw [List.length_map]; exact HN.out)
                replace y15 := y15.below hb
                replace HK15 := hid (HK15.out.below hb)
                replace hKr := hKr.trans (Keep1.of_below hb)
                clear hb ho15 q2
                have e2 := (y15 2 _ rfl).1; have f2 := (y15 2 _ rfl).2
                refine wpAny_ready (rs := [14]) (by kernel_rfl) (by simp) ?_
                refine AllReady.cons rfl (fun K hK => ?_) AllReady.nil
                go_simp
                refine hK _ _ ?_; clear hK K
                refine wpAny_done (by kernel_rfl) ?_ _
                obtain ⟨yE, hmE, hKE, hoE⟩ := seat_cell (u := .slice (some ⟨gy, 0, none⟩) N yc) hXl hXM hKr y15 HK15.out ho16
                clear y15 HK15 hKr ho16 e2 f2 hx1 hx2
                generalize (World.setCell _ _ _ : World) = w17 at *
                have HME := hid hmE
                clear hmE
                go_wp2_with fail
                go_roundg (m - (k + 1))
                case measure => have h := HGK.out; omega
                case rel => exact ⟨k + 1, _, ks3, by omega, rfl, by go_num, hKE, yE, HME, hoE, HMT2, HLOSE⟩
            · have hrb : (r != 1) = true := by simpa using hr1
              go_wp2_with fail
              go_roundg (m - (k + 1))
              case measure => have h := HGK.out; omega
              case rel => exact ⟨k + 1, _, ks2, by omega, rfl, by go_num, hKr, yr, HKr, hor, HMT, hid (HSF.out.trans (seatL_skip _ out hlt (by rw [HFR.out, decide_eq_false hr1]; rfl)))⟩
          · go_wp2_with fail
            go_roundg (m - (k + 1))
            case measure => have h := HGK.out; omega
            case rel => exact ⟨k + 1, _, ks2, by omega, rfl, by go_num, hKr, yr, HKr, hor, HMT, hid (HSF.out.trans (seatL_skip _ out hlt (by rw [htk]; simp)))⟩
        · obtain rfl : k = m := by omega
          have hkm : ¬ (k : Int) < (k : Int) := by omega
          have hno := HSF.out.trans (seatL_end _ out (Nat.le_refl _))
          have HNO := hid hno
          clear hno
          go_wp2_with fail
          exact bodyPost_ret (v := .bool false) (by simp [results, Try.results121, go_sem]) rfl ⟨_, ks2, hK6.trans hKr, yr, .inr ⟨HNO.out, rfl, by rw [HN.out]; exact hor, HKr.out, markTo_add hm9 HSO.out HMT.out (by rw [HN.out, show n - N = d + 1 by omega]; exact HNO.out)⟩⟩

end Go.Proofs.Ytnchhleokdkejaa

/- A seating. -/
namespace Go.Proofs.Ytnchhleokdkejaa
open Go.RowKit Go.Pb Go.Pb.Ware Go.Pb.Sag
set_option linter.unusedVariables false
set_option linter.unusedSimpArgs false

open Go.Proofs Go.Maps Go.Pb.Bung
abbrev Bng := Int × Int × List Sg
def bsOk (bs : List Bng) : Bool := bs.all fun b => bungOk b.1 b.2.1 b.2.2
def spsOk (sps : List (Int × Int)) : Bool := sps.all fun s => decide (ckSp s.1 s.2 = 0)
/-- What Seat answers. -/
def seatA (bs : List Bng) (sps : List (Int × Int)) : List Nat × Int := if bsOk bs = false then ([], 31) else if spsOk sps = false then ([], 33) else if 9 < bs.length ∨ 9 < sps.length then ([], 36) else match seatF (fitsR bs sps) sps.length bs.length [] with | some r => (r, 0) | none => ([], 3)
def SeatP (bs : List Bng) (sps : List (Int × Int)) (w : World) (e : Ending) (w' : World) : Prop := ∃ v', e = .returned (.tuple #[v', .int .i64 (seatA bs sps).2]) ∧ Below w.heap.size w w' ∧ NumsAt w' v' (castN (seatA bs sps).1)
theorem bsOk_iff {bs : List Bng} : bsOk bs = true ↔ ∀ b ∈ bs, bungOk b.1 b.2.1 b.2.2 = true := by unfold bsOk; rw [List.all_eq_true]
theorem spsOk_iff {sps : List (Int × Int)} : spsOk sps = true ↔ ∀ s ∈ sps, ckSp s.1 s.2 = 0 := by
  unfold spsOk; rw [List.all_eq_true]
  exact ⟨fun h s hs => of_decide_eq_true (h s hs), fun h s hs => decide_eq_true (h s hs)⟩
theorem not_ok {b : Bool} (h : ¬ b = true) : b = false := by cases b; rfl; exact absurd rfl h
theorem seatP_err {bs : List Bng} {sps : List (Int × Int)} {w w' : World} {c : Int} (h : seatA bs sps = ([], c)) (hB : Below w.heap.size w w') : SeatP bs sps w (.returned (.tuple #[.slice none 0 0, .int .i64 c])) w' :=
  ⟨_, by rw [h], hB, by rw [h]; exact .inl ⟨rfl, rfl⟩⟩
theorem bnsIn_mono {p q : Nat → Prop} {w : World} {v : Value} {bs : List Bng} (h : BnsIn p w v bs) (hq : ∀ k, p k → q k) : BnsIn q w v bs := by
  obtain ⟨a, cap, h1, h2, h3⟩ := h
  refine ⟨a, cap, h1, h2, fun k b hb => ?_⟩
  obtain ⟨g, u, e1, e2, e3, e4, e5, e6, e7⟩ := h3 k b hb
  exact ⟨g, u, e1, hq _ e2, e3, e4, e5, e6, fun h => inP_mono (e7 h) hq⟩
theorem bns_row {p : Nat → Prop} {w : World} {a : Option Addr} {n c k : Nat} {bs : List Bng} {b : Bng} (h : BnsIn p w (.slice a n c) bs) (hb : bs[k]? = some b) : ∃ (g : Addr) (ua : Option Addr) (uc : Nat), a = some g ∧ w.cell? (g.add (k * 3)) = some (.int .i64 b.1) ∧ w.cell? ⟨(g.add (k * 3)).block, (g.add (k * 3)).off + 1, none⟩ = some (.int .i64 b.2.1) ∧ w.cell? ⟨(g.add (k * 3)).block, (g.add (k * 3)).off + 2, none⟩ = some (.slice ua b.2.2.length uc) ∧ RowsAt 8 w (.slice ua b.2.2.length uc) (b.2.2.map rowG) := by
  obtain ⟨ax, cx, eb, -, h3⟩ := h
  injection eb with ea _ _
  obtain ⟨g, u, e1, -, e3, e4, e5, e6, -⟩ := h3 k b hb
  obtain ⟨ua, uc, rfl, -⟩ := e6.shape
  rw [List.length_map] at e5 e6
  exact ⟨g, ua, uc, ea.trans e1, e3, e4, e5, e6⟩
theorem nums_of_seat {w : World} {lo n : Nat} {v : Value} {r : List Nat} (h : w.ownsRow lo 3 1 v n (cellsN r)) (hn : r.length = n) (h9 : ∀ k ∈ r, k < 9) : NumsAt w v (castN r) := by
  refine numsAt_of_owns (base := lo) (e := 3) (fun z hz => ?_) ?_
  · unfold castN at hz
    obtain ⟨k, hk, rfl⟩ := List.mem_map.1 hz
    have := h9 k hk
    exact I64.mk (by omega) (by omega)
  · rw [castN_len, hn, show (castN r).map (Value.int .i64) = cellsN r by unfold cellsN castN; rw [List.map_map]; rfl]
    exact h
theorem take_put2 {α : Type} {l : List α} {k : Nat} {b : α} {p : α → Prop} (h : ∀ x ∈ l.take k, p x) (hb : l[k]? = some b) (hp : p b) : ∀ x ∈ l.take (k + 1), p x := by
  rw [List.take_add_one, hb]
  intro x hx
  rcases List.mem_append.1 hx with h1 | h1
  · exact h x h1
  · have : x = b := by simpa using h1
    rw [this]; exact hp

set_option maxRecDepth 100000 in
set_option maxHeartbeats 1000000 in
theorem Seat_any {w : World} {v u : Value} {bs : List Bng} {sps : List (Int × Int)} (hbn : BnsIn (fun b => b < w.heap.size) w v bs) (hsp : RowsAt 2 w u (sps.map spR)) (hsi : sps.map spR ≠ [] → InP (fun b => b < w.heap.size) u) :
    Calls Try.prog 64 #[v, u] w (SeatP bs sps w) := by
  obtain ⟨n, hn⟩ : ∃ n, bs.length = n := ⟨_, rfl⟩
  obtain ⟨m, hm⟩ : ∃ m, sps.length = m := ⟨_, rfl⟩
  obtain ⟨ba, bc, rfl⟩ : ∃ a c, v = .slice a n c := by (obtain ⟨a, c, h, -⟩ := hbn; exact ⟨a, c, by rw [← hn]; exact h⟩)
  obtain ⟨sa, sc, rfl, hsl⟩ := hsp.shape
  rw [List.length_map, hm] at hsp hsl hsi ⊢
  have hnl : n ≤ 9223372036854775807 := by (obtain ⟨a, c, -, h, -⟩ := hbn; omega)
  have HN := hid hn; have HM := hid hm
  clear hn hm
  go_enter Try.func64, Try.ntmps64
  go_wp2_with fail
  go_loopg [15] n (fun gk iv wr => ∃ k : Nat, k ≤ n ∧ gk = n - k ∧ iv = .int .i64 k ∧ Below w.heap.size w wr ∧ Hid (∀ b ∈ bs.take k, bungOk b.1 b.2.1 b.2.2 = true))
  case atStart => exact ⟨0, Nat.zero_le _, rfl, rfl, Below.refl _ _, hid (fun b hb => by simp at hb)⟩
  case round =>
    obtain ⟨k, hk, hgk, rfl, hB, HA⟩ := hrel
    have HGK := hid hgk
    clear hgk
    by_cases hlt : k < n
    · have hki : (k : Int) < (n : Int) := by omega
      obtain ⟨⟨lo1, hi1, l1⟩, hb1⟩ : ∃ b, bs[k]? = some b := ⟨_, List.getElem?_eq_getElem (by rw [HN.out]; exact hlt)⟩
      obtain ⟨g, ua, uc, e1, e3, e4, e5, e6⟩ := bns_row (hbn.keep (keepP_low hB (fun _ h => h))) hb1
      subst e1
      have HB1 := hid hb1
      clear hb1
      dsimp only at e3 e4 e5 e6
      go_upto_region 4 with fail
      generalize hW : World.alloc wr _ = v7
      have y7 : CellsAt v7 wr.heap.size [.int .i64 lo1, .int .i64 hi1, .slice ua l1.length uc] := by rw [← hW]; exact CellsAt.new wr [.int .i64 lo1, .int .i64 hi1, .slice ua l1.length uc] 26
      have hb : Below wr.heap.size wr v7 := by rw [← hW]; exact (Below.refl _ _).alloc (Nat.le_refl _) _
      clear hW e3 e4 e5
      replace e6 := e6.below hb
      replace hB := bnext (w := w) hB hb
      clear hb
      have g0 := (y7 0 _ rfl).1; have g1 := (y7 1 _ rfl).1; have g2 := (y7 2 _ rfl).1
      obtain ⟨c, hc⟩ : ∃ c, ckBg lo1 hi1 l1 = c := ⟨_, rfl⟩
      have HC := hid hc
      clear hc
      go_wp2_with fail
      refine (ckBg_any e6 HC.out).mono ?_
      rintro e v8 ⟨rfl, hb⟩
      replace hB := bnext (w := w) hB hb
      clear hb g0 g1 g2 y7 e6
      by_cases hok : bungOk lo1 hi1 l1 = true
      · have hc0 : c = 0 := by rw [← HC.out]; unfold ckBg; rw [if_pos hok]
        subst hc0
        have HA2 := hid (take_put2 HA.out HB1.out hok)
        go_wp2_with fail
        go_roundg (n - (k + 1))
        case measure => have h := HGK.out; omega
        case rel => exact ⟨k + 1, by omega, rfl, by go_num, hB, HA2⟩
      · have hc0 : c = 31 := by rw [← HC.out]; unfold ckBg; rw [if_neg hok]
        subst hc0
        have HE := hid (show bsOk bs = false from not_ok fun h => hok (bsOk_iff.1 h _ (List.mem_of_getElem? HB1.out)))
        go_wp2_with fail
        exact bodyPost_ret (v := .tuple #[.slice none 0 0, .int .i64 31]) (by simp [results, Try.results64, go_sem]) rfl (seatP_err (by unfold seatA; rw [if_pos HE.out]) hB)
    · obtain rfl : k = n := by omega
      have hkn : ¬ (k : Int) < (k : Int) := by omega
      have HBO := hid (show ∀ b ∈ bs, bungOk b.1 b.2.1 b.2.2 = true by (have h := HA.out; rwa [List.take_of_length_le (by rw [HN.out]; exact Nat.le_refl _)] at h))
      clear HA
      go_wp2_with fail
      go_loopg [27] m (fun gk2 iv2 wq => ∃ j : Nat, j ≤ m ∧ gk2 = m - j ∧ iv2 = .int .i64 j ∧ Below w.heap.size w wq ∧ Hid (∀ s ∈ sps.take j, ckSp s.1 s.2 = 0))
      case atStart => exact ⟨0, Nat.zero_le _, rfl, rfl, hB, hid (fun b hb => by simp at hb)⟩
      case round =>
        clear hB HGK
        obtain ⟨j, hj, hgk2, rfl, hB, HA⟩ := hrel
        have HGK := hid hgk2
        clear hgk2
        by_cases hlt : j < m
        · have hji : (j : Int) < (m : Int) := by omega
          obtain ⟨⟨cr, le⟩, hs1⟩ : ∃ s, sps[j]? = some s := ⟨_, List.getElem?_eq_getElem (by rw [HM.out]; exact hlt)⟩
          obtain ⟨sg, es, p0, p1⟩ := sp_row (hsp.below hB) HM.out hs1
          have HS1 := hid hs1
          clear hs1
          dsimp only at p0 p1
          subst es
          go_upto_region 11 with fail
          generalize hW : World.alloc wr _ = v7
          have y7 : CellsAt v7 wr.heap.size [.int .i64 cr, .int .i64 le] := by rw [← hW]; exact CellsAt.new wr [.int .i64 cr, .int .i64 le] 28
          have hb : Below wr.heap.size wr v7 := by rw [← hW]; exact (Below.refl _ _).alloc (Nat.le_refl _) _
          clear hW p0 p1
          replace hB := bnext (w := w) hB hb
          clear hb
          have g0 := (y7 0 _ rfl).1; have g1 := (y7 1 _ rfl).1
          obtain ⟨c, hc⟩ : ∃ c, ckSp cr le = c := ⟨_, rfl⟩
          have HC := hid hc
          clear hc
          go_wp2_with fail
          refine (ckSp_any HC.out).mono ?_
          rintro e v8 ⟨rfl, hb⟩
          replace hB := bnext (w := w) hB hb
          clear hb g0 g1 y7
          by_cases hok : c = 0
          · subst hok
            have HA2 := hid (take_put2 HA.out HS1.out HC.out)
            go_wp2_with fail
            go_roundg (m - (j + 1))
            case measure => have h := HGK.out; omega
            case rel => exact ⟨j + 1, by omega, rfl, by go_num, hB, HA2⟩
          · have hc0 : c = 33 := by (have h := HC.out; unfold ckSp at h; split at h; exact absurd h.symm hok; exact h.symm)
            have HE := hid (show spsOk sps = false from not_ok fun h => hok (HC.out.symm.trans (spsOk_iff.1 h _ (List.mem_of_getElem? HS1.out))))
            subst hc0
            go_wp2_with fail
            exact bodyPost_ret (v := .tuple #[.slice none 0 0, .int .i64 33]) (by simp [results, Try.results64, go_sem]) rfl (seatP_err (by unfold seatA; rw [if_neg (by rw [bsOk_iff.2 HBO.out]; simp), if_pos HE.out]) hB)
        · obtain rfl : j = m := by omega
          have hjm : ¬ (j : Int) < (j : Int) := by omega
          have HSO := hid (show spsOk sps = true from spsOk_iff.2 (by (have h := HA.out; rwa [List.take_of_length_le (by rw [HM.out]; exact Nat.le_refl _)] at h)))
          clear HA
          have HBE := hid (show seatA bs sps = (if 9 < k ∨ 9 < j then (([], 36) : List Nat × Int) else match seatF (fitsR bs sps) j k [] with | some r => (r, 0) | none => ([], 3)) by unfold seatA; rw [bsOk_iff.2 HBO.out, HSO.out, if_neg (by simp), if_neg (by simp), HN.out, HM.out])
          by_cases hk9 : 9 < k
          · have hk9i : (9 : Int) < (k : Int) := by omega
            go_wp2_with fail
            exact bodyPost_ret (v := .tuple #[.slice none 0 0, .int .i64 36]) (by simp [results, Try.results64, go_sem]) rfl (seatP_err (HBE.out.trans (if_pos (.inl hk9))) hB)
          by_cases hj9 : 9 < j
          · have hk9i : ¬ (9 : Int) < (k : Int) := by omega
            have hj9i : (9 : Int) < (j : Int) := by omega
            go_wp2_with fail
            exact bodyPost_ret (v := .tuple #[.slice none 0 0, .int .i64 36]) (by simp [results, Try.results64, go_sem]) rfl (seatP_err (HBE.out.trans (if_pos (.inr hj9))) hB)
          have hk9i : ¬ (9 : Int) < (k : Int) := by omega
          have hj9i : ¬ (9 : Int) < (j : Int) := by omega
          have HBR := hid (HBE.out.trans (if_neg (fun h => h.elim hk9 hj9)))
          clear HBE
          have hmm := @run_makeMap Try.prog
          go_upto_region 18 with fail
          generalize hW : World.alloc (World.alloc wr _) _ = v1
          have yX : CellsAt v1 (wr.heap.size + 1) [.slice ba k bc, .slice sa j sc, .slice none 0 0, .map (some wr.heap.size)] := by (rw [← hW]; have h := CellsAt.new (wr.alloc (.map #[] 0)) [.slice ba k bc, .slice sa j sc, .slice none 0 0, .map (some wr.heap.size)] 150; rwa [World.size_alloc] at h)
          have hkt : MapS Try.prog 152 4 wr.heap.size [] v1 := by (rw [← hW]; exact (MapS.start _ _ _ _).below ((Below.refl _ _).alloc (Nat.le_refl _) _))
          have hb : Below wr.heap.size wr v1 := by rw [← hW]; exact ((Below.refl _ _).alloc (Nat.le_refl _) _).alloc (by simp) _
          have hz1 : v1.heap.size = wr.heap.size + 2 := by rw [← hW]; simp
          clear hW
          have hzw := hB.size
          have hB1 := bnext (w := w) hB hb
          clear hb
          have hse := seat_any (n := k) (m := j) (lo := wr.heap.size + 2) (X := wr.heap.size + 1) (M := wr.heap.size) HBO.out HN.out HM.out (by omega) (by omega) (by omega) (by omega) (by omega) k v1 (.slice none 0 0) [] [] (by simp) yX (bnsIn_mono (hbn.keep (keepP_low hB1 (fun _ h => h))) (fun b hb => by omega)) (hsp.below hB1) (fun h => inP_mono (hsi h) (fun b hb => by omega)) hkt (World.ownsRow_nil _ _ _ _) (seatOk_nil _) (fun p hp => by simp at hp) (by omega)
          rw [show keyV (mask []) = .agg #[.bool false, .bool false, .bool false, .bool false, .bool false, .bool false, .bool false, .bool false, .bool false] by rw [mask_nil]; rfl] at hse
          have HSE := hid hse
          clear hse hkt
          go_wp2_with fail
          refine HSE.out.mono ?_
          unfold SeatRes
          rintro e v2 ⟨v2v, ks', hK, y2, ⟨r, hsf, rfl, ho⟩ | ⟨hsf, rfl, -, -, -⟩⟩
          · have HR := hid (show seatA bs sps = (r, 0) by rw [HBR.out, hsf])
            obtain ⟨hr1, hr2⟩ := seatF_ok k (seatOk_nil _) hsf
            have hB2 := hK.below hB1 (by omega) (by omega) (by omega)
            have HNU := hid (nums_of_seat ho (by rw [hr2]; simp) (fun q hq => by have := hr1.2 q hq; omega))
            clear hsf hK ho hr1 hr2 yX hB1 hB
            have q2 := (y2 2 _ rfl).1
            go_wp2_with fail
            exact bodyPost_ret (v := .tuple #[v2v, .int .i64 0]) (by simp [results, Try.results64, go_sem]) rfl ⟨v2v, by rw [HR.out], hB2, by rw [HR.out]; exact HNU.out⟩
          · have HR := hid (show seatA bs sps = ([], 3) by rw [HBR.out, hsf])
            replace hB := hK.below hB1 (by omega) (by omega) (by omega)
            clear hsf hK yX hB1
            go_wp2_with fail
            exact bodyPost_ret (v := .tuple #[.slice none 0 0, .int .i64 3]) (by simp [results, Try.results64, go_sem]) rfl (seatP_err (HR.out) hB)

end Go.Proofs.Ytnchhleokdkejaa

/- The laws' seating. -/
namespace Go.Proofs.Ytnchhleokdkejaa
open Go.RowKit Go.Pb Go.Pb.Ware Go.Pb.Sag
set_option linter.unusedVariables false
set_option linter.unusedSimpArgs false

open Go.Proofs Go.Maps Go.Pb.Bung
/-- Rows of n times m truths. -/
def MatAt (w : World) (v : Value) (n m : Nat) (R : Nat → Nat → Bool) : Prop := ∃ (g : Option Addr) (cap : Nat), v = .slice g n cap ∧ n ≤ 9223372036854775807 ∧ ∀ i, i < n → ∃ (q : Addr) (ua : Option Addr) (uc : Nat), g = some q ∧ w.cell? (q.add i) = some (.slice ua m uc) ∧ ∀ j, j < m → ∃ p, ua = some p ∧ w.cell? (p.add j) = some (.bool (R i j))
theorem MatAt.below {w w' : World} {v : Value} {n m : Nat} {R : Nat → Nat → Bool} (h : MatAt w v n m R) (hb : Below w.heap.size w w') : MatAt w' v n m R := by
  obtain ⟨g, cap, h1, h2, h3⟩ := h
  refine ⟨g, cap, h1, h2, fun i hi => ?_⟩
  obtain ⟨q, ua, uc, e1, e2, e3⟩ := h3 i hi
  refine ⟨q, ua, uc, e1, bkeep hb e2, fun j hj => ?_⟩
  obtain ⟨p, e4, e5⟩ := e3 j hj
  exact ⟨p, e4, bkeep hb e5⟩
theorem nums_LAt {w : World} {v : Value} {zs : List Int} (h : NumsAt w v zs) : LAt 1 w v zs.length (zs.map (Value.int .i64)) := by
  refine ⟨by simp, fun u hu => ?_, ?_⟩
  · obtain ⟨z, _, rfl⟩ := List.mem_map.1 hu; rfl
  · rcases h with ⟨h1, h2⟩ | ⟨a, cap, h1, h2, h3, h4⟩
    · exact .inl ⟨h1, by rw [h2]; rfl⟩
    · refine .inr ⟨a, cap, h1, h2, h3, fun j u hu => ?_⟩
      rw [List.getElem?_map] at hu
      cases hz : zs[j]? with
      | none => rw [hz] at hu; cases hu
      | some z => rw [hz] at hu; cases hu; exact (h4 j z hz).1
theorem cast_has (out : List Nat) (k : Nat) : (castN out).contains (k : Int) = out.contains k := by
  rw [Bool.eq_iff_iff, List.contains_iff_mem, List.contains_iff_mem]
  unfold castN
  rw [List.mem_map]
  exact ⟨fun ⟨x, hx, e⟩ => by rwa [show x = k by omega] at hx, fun h => ⟨k, h, rfl⟩⟩
end Go.Proofs.Ytnchhleokdkejaa

/- The laws' seating of bungs. -/
namespace Go.Proofs.Ytnchhleokdkejaa
open Go.RowKit Go.Pb Go.Pb.Ware Go.Pb.Sag
set_option linter.unusedVariables false
set_option linter.unusedSimpArgs false

open Go.Proofs Go.Maps Go.Pb.Bung
/-- A row of truths, in a block of truths. -/
def RowOk (W : World) (m : Nat) (R : Nat → Bool) (val : Value) : Prop := ∃ (ua : Option Addr) (uc : Nat), val = .slice ua m uc ∧ ∀ j, j < m → ∃ p, ua = some p ∧ (∃ cur, W.heap[p.block]? = some (.cells cur 4 (0, 0))) ∧ W.cell? (p.add j) = some (.bool (R j))
theorem RowOk.below {W W' : World} {m : Nat} {R : Nat → Bool} {val : Value} (h : RowOk W m R val) (hb : Below W.heap.size W W') : RowOk W' m R val := by
  obtain ⟨ua, uc, h1, h2⟩ := h
  refine ⟨ua, uc, h1, fun j hj => ?_⟩
  obtain ⟨p, e1, ⟨cur, e2⟩, e3⟩ := h2 j hj
  exact ⟨p, e1, ⟨cur, heap_below e2 hb⟩, bkeep hb e3⟩
theorem RowOk.grown {W W' : World} {m n lo s : Nat} {R : Nat → Bool} {val v : Value} {xs : List Value} (h : RowOk W m R val) (ho : W.ownsRow lo 154 s v n xs) (hg : W.grownBy W' v.ownBlock) : RowOk W' m R val := by
  obtain ⟨ua, uc, h1, h2⟩ := h
  refine ⟨ua, uc, h1, fun j hj => ?_⟩
  obtain ⟨p, e1, ⟨cur, e2⟩, e3⟩ := h2 j hj
  have hof := obj_off e2 ho (by decide)
  refine ⟨p, e1, ⟨cur, obj_grown e2 ho (by decide) hg⟩, hg.cell e3 (fun e => ?_)⟩
  rw [block_add] at e
  rcases hof with h3 | h3
  · rw [h3] at e; cases e
  · exact h3 e.symm
end Go.Proofs.Ytnchhleokdkejaa

/- An argument opened: a slice of bungs. -/
namespace Go.Proofs.Ytnchhleokdkejaa
open Go Go.Pb Go.Pb.Bung Go.RowKit Go.ChangeShapes Go.WideShapes Go.ChangeAt Go.Deep
theorem add_off {g : Addr} {j : Nat} (hj : j ≠ 0) : g.add j = ⟨g.block, g.off + j, none⟩ := by unfold Addr.add; rw [if_neg hj]
section
variable {H : Type} {enc : TypeId × Value → H} {P : Program} {w : World} {base : Nat} {spare : Nat → Bool} {held : Bool}
end
end Go.Proofs.Ytnchhleokdkejaa

/- Seatings by plain maths, for BungSeated: what is found fits, and wider spots keep a seating. -/
namespace Go.Pb.Bung
open Go Go.Pb
set_option linter.unusedVariables false
set_option linter.unusedSimpArgs false
/-- Who may sit in more seats can still be seated. -/
theorem seatF_mono {R R' : Nat → Nat → Bool} {m : Nat} (h : ∀ i j, R i j = true → R' i j = true) : ∀ (d : Nat) {out : List Nat}, seatF R' m d out = none → seatF R m d out = none
  | 0, out, hs => by rw [seatF_zero] at hs; cases hs
  | d + 1, out, hs => by
    rw [seatF, List.findSome?_eq_none_iff] at hs ⊢
    intro k hk
    have h1 := hs k hk
    split
    · rename_i h2
      rw [Bool.and_eq_true] at h2
      rw [if_pos (by rw [Bool.and_eq_true]; exact ⟨h _ _ h2.1, h2.2⟩)] at h1
      exact seatF_mono h d h1
    · rfl
/-- What is found goes on from what was there, and each that was seated since fits. -/
theorem seatF_fits {R : Nat → Nat → Bool} {m : Nat} : ∀ (d : Nat) {out r : List Nat}, seatF R m d out = some r → (∃ s, r = out ++ s) ∧ ∀ i k, out.length ≤ i → r[i]? = some k → R i k = true
  | 0, out, r, h => by
    rw [seatF_zero] at h
    cases h
    exact ⟨⟨[], by simp⟩, fun i k hi hk => by
      have := (List.getElem?_eq_some_iff.1 hk).1
      omega⟩
  | d + 1, out, r, h => by
    rw [seatF, List.findSome?_eq_some_iff] at h
    obtain ⟨l1, k, l2, hl, hk, -⟩ := h
    split at hk
    · rename_i h2
      rw [Bool.and_eq_true] at h2
      obtain ⟨⟨s, hs⟩, h4⟩ := seatF_fits d hk
      refine ⟨⟨k :: s, by rw [hs, List.append_assoc]; rfl⟩, fun i q hi hq => ?_⟩
      by_cases e : i = out.length
      · subst e
        rw [hs, List.append_assoc, List.getElem?_append_right (Nat.le_refl _), Nat.sub_self] at hq
        have : k = q := by simpa using hq
        rw [← this]
        exact h2.1
      · exact h4 i q (by rw [List.length_append, List.length_singleton]; omega) hq
    · cases hk
end Go.Pb.Bung

/- Own slices of bungs and of spots; wider spots. -/
namespace Go.Proofs.Ytnchhleokdkejaa
open Go.RowKit Go.Pb Go.Pb.Ware Go.Pb.Sag
set_option linter.unusedVariables false
set_option linter.unusedSimpArgs false

open Go.Proofs Go.Maps Go.Pb.Bung
/-- A slice's memory is of the type T. -/
def TyP (T : TypeId) (w : World) (u : Value) : Prop := ∀ a n c, u = .slice (some a) n c → ∃ cur, w.heap[a.block]? = some (.cells cur T (0, 0))
theorem TyP.below {T : TypeId} {w w' : World} {u : Value} (h : TyP T w u) (hb : Below w.heap.size w w') : TyP T w' u := fun a n c e => by
  obtain ⟨cur, h1⟩ := h a n c e
  exact ⟨cur, heap_below h1 hb⟩
theorem TyP.grown {T T2 : TypeId} {W W' : World} {lo s n : Nat} {v u : Value} {xs : List Value} (h : TyP T W u) (ho : W.ownsRow lo T2 s v n xs) (hT : T ≠ T2) (hg : W.grownBy W' v.ownBlock) : TyP T W' u := fun a n c e => by
  obtain ⟨cur, h1⟩ := h a n c e
  exact ⟨cur, obj_grown h1 ho hT hg⟩
theorem tyP_own {T : TypeId} {W : World} {lo s n : Nat} {v : Value} {xs : List Value} (h : W.ownsRow lo T s v n xs) : TyP T W v := fun a m c e => by
  rcases h.2 with ⟨h1, -⟩ | ⟨g, cap, cur, h1, h2, h3, -⟩
  · rw [h1] at e; cases e
  · rw [h1] at e
    injection e with e _ _
    injection e with e
    subst e
    exact ⟨cur, h3⟩
theorem rows_grown {T T2 : TypeId} {W W' : World} {lo s n m : Nat} {v u : Value} {xs : List Value} {rows : List (List Int)} (hr : RowsAt m W u rows) (h : TyP T W u) (ho : W.ownsRow lo T2 s v n xs) (hT : T ≠ T2) (hg : W.grownBy W' v.ownBlock) : RowsAt m W' u rows := by
  refine rows_keepP (p := fun b => v.ownBlock ≠ some b) hr (fun _ a n c e => ?_) ⟨hg.size, fun k hk hlt => hg.block k hlt (fun e => hk e.symm)⟩
  obtain ⟨cur, h1⟩ := h a n c e
  rcases obj_off h1 ho hT with h2 | h2
  · rw [h2]; exact fun e => by cases e
  · exact h2
/-- The cells of bungs. -/
def cellsBg (bs : List Bng) (us : List Value) : List Value := (bs.zip us).flatMap fun p => [.int .i64 p.1.1, .int .i64 p.1.2.1, p.2]
theorem cellsBg_cons (b : Bng) (u : Value) (bs : List Bng) (us : List Value) : cellsBg (b :: bs) (u :: us) = .int .i64 b.1 :: .int .i64 b.2.1 :: u :: cellsBg bs us := rfl
theorem cellsBg_snoc {bs : List Bng} {us : List Value} (h : us.length = bs.length) (b : Bng) (u : Value) : cellsBg bs us ++ [.int .i64 b.1, .int .i64 b.2.1, u] = cellsBg (bs ++ [b]) (us ++ [u]) := by
  unfold cellsBg
  rw [List.zip_append h.symm, List.flatMap_append]
  rfl
theorem cellsBg_at : ∀ {bs : List Bng} {us : List Value} {k : Nat} {b : Bng} {u : Value}, bs[k]? = some b → us[k]? = some u → (cellsBg bs us)[k * 3]? = some (.int .i64 b.1) ∧ (cellsBg bs us)[k * 3 + 1]? = some (.int .i64 b.2.1) ∧ (cellsBg bs us)[k * 3 + 2]? = some u
  | [], us, k, b, u, h, _ => by simp at h
  | b0 :: bs, [], k, b, u, _, h => by simp at h
  | b0 :: bs, u0 :: us, 0, b, u, h, h' => by
    simp at h h'
    subst h; subst h'
    exact ⟨rfl, rfl, rfl⟩
  | b0 :: bs, u0 :: us, k + 1, b, u, h, h' => by
    rw [List.getElem?_cons_succ] at h h'
    obtain ⟨h1, h2, h3⟩ := cellsBg_at h h'
    rw [cellsBg_cons, show (k + 1) * 3 = k * 3 + 1 + 1 + 1 from by omega, show k * 3 + 1 + 1 + 1 + 1 = k * 3 + 1 + 1 + 1 + 1 from rfl]
    exact ⟨h1, h2, h3⟩
/-- The saggars of bungs, in memory of saggars. -/
def UsP (W : World) (bs : List Bng) (us : List Value) : Prop := us.length = bs.length ∧ ∀ (k : Nat) (b : Bng) (u : Value), bs[k]? = some b → us[k]? = some u → RowsAt 8 W u (b.2.2.map rowG) ∧ TyP 33 W u
theorem usP_nil (W : World) : UsP W [] [] := ⟨rfl, fun k b u h => by simp at h⟩
theorem UsP.below {W W' : World} {bs : List Bng} {us : List Value} (h : UsP W bs us) (hb : Below W.heap.size W W') : UsP W' bs us :=
  ⟨h.1, fun k b u h1 h2 => ⟨(h.2 k b u h1 h2).1.below hb, (h.2 k b u h1 h2).2.below hb⟩⟩
theorem UsP.grown {W W' : World} {lo n s : Nat} {T : TypeId} {v : Value} {xs : List Value} {bs : List Bng} {us : List Value} (h : UsP W bs us) (ho : W.ownsRow lo T s v n xs) (hT : 33 ≠ T) (hg : W.grownBy W' v.ownBlock) : UsP W' bs us :=
  ⟨h.1, fun k b u h1 h2 => ⟨rows_grown (h.2 k b u h1 h2).1 (h.2 k b u h1 h2).2 ho hT hg, (h.2 k b u h1 h2).2.grown ho hT hg⟩⟩
theorem UsP.put {W : World} {bs : List Bng} {us : List Value} {b : Bng} {u : Value} (h : UsP W bs us) (hu : RowsAt 8 W u (b.2.2.map rowG)) (ht : TyP 33 W u) : UsP W (bs ++ [b]) (us ++ [u]) := by
  refine ⟨by rw [List.length_append, List.length_append, h.1]; rfl, fun k b' u' h1 h2 => ?_⟩
  by_cases e : k < bs.length
  · rw [List.getElem?_append_left e] at h1
    rw [List.getElem?_append_left (by rw [h.1]; exact e)] at h2
    exact h.2 k b' u' h1 h2
  · have hk : k = bs.length := by
      have := (List.getElem?_eq_some_iff.1 h1).1
      rw [List.length_append, List.length_singleton] at this
      omega
    subst hk
    rw [List.getElem?_append_right (Nat.le_refl _), Nat.sub_self] at h1
    rw [List.getElem?_append_right (by rw [h.1]; exact Nat.le_refl _), h.1, Nat.sub_self] at h2
    simp at h1 h2
    subst h1; subst h2
    exact ⟨hu, ht⟩
theorem bns_own {W : World} {lo n : Nat} {v : Value} {bs : List Bng} {us : List Value} (h : W.ownsRow lo 26 3 v n (cellsBg bs us)) (hn : bs.length = n) (hs : n ≤ 1000) (hu : UsP W bs us) : BnsIn (fun b => b < W.heap.size) W v bs := by
  subst hn
  obtain ⟨a, cap, rfl, -⟩ := owns_shape h
  refine ⟨a, cap, rfl, by omega, fun k b hb => ?_⟩
  have hk := (List.getElem?_eq_some_iff.1 hb).1
  obtain ⟨u, hku⟩ : ∃ u, us[k]? = some u := ⟨_, List.getElem?_eq_getElem (by rw [hu.1]; exact hk)⟩
  obtain ⟨g, gc, e, -, -⟩ := own_some h (by omega)
  injection e with e1 _ _
  subst e1
  obtain ⟨h1, h2, h3⟩ := cellsBg_at hb hku
  obtain ⟨h4, h5⟩ := hu.2 k b u hb hku
  have q0 := h.cells (g := g) rfl _ _ h1
  have q1 := h.cells (g := g) rfl _ _ h2
  have q2 := h.cells (g := g) rfl _ _ h3
  rw [← Go.Deep.add_add] at q1 q2
  refine ⟨_, u, rfl, (World.block_lt_of_cell? W _ q0 |> fun x => by rwa [block_add] at x), q0, q1, q2, h4, fun _ a n c e => ?_⟩
  obtain ⟨cur, h6⟩ := h5 a n c e
  exact (Array.getElem?_eq_some_iff.1 h6).1
def cellsS (s : Int × Int) : List Value := [.int .i64 s.1, .int .i64 s.2]
theorem flat_sp : ∀ sps : List (Int × Int), ((sps.map spR).flatten).map (Value.int .i64) = sps.flatMap cellsS
  | [] => rfl
  | s :: sps => by rw [List.map_cons, List.flatten_cons, List.map_append, flat_sp sps, List.flatMap_cons]; rfl
theorem spots_own {W : World} {lo n : Nat} {v : Value} {sps : List (Int × Int)} (h : W.ownsRow lo 28 2 v n (sps.flatMap cellsS)) (hn : sps.length = n) (hi : ∀ s ∈ sps, I64 s.1 ∧ I64 s.2) : RowsAt 2 W v (sps.map spR) := by
  subst hn
  refine rowsAt_of_owns (base := lo) (e := 28) (fun r hr => ?_) (by
    rw [List.length_map, flat_sp]
    exact h) (fun r hr z hz => ?_)
  · obtain ⟨s, -, rfl⟩ := List.mem_map.1 hr; rfl
  · obtain ⟨s, hs, rfl⟩ := List.mem_map.1 hr
    simp [spR] at hz
    rcases hz with rfl | rfl
    · exact (hi s hs).1
    · exact (hi s hs).2
theorem inP_rows2 {w : World} {v : Value} {sps : List (Int × Int)} (h : RowsAt 2 w v (sps.map spR)) (hne : sps.map spR ≠ []) : InP (fun b => b < w.heap.size) v := by
  rintro a m c rfl
  rcases h with ⟨h1, _⟩ | ⟨b, cap, h1, h2, h3, h4⟩
  · cases h1
  · injection h1 with h1 _ _
    injection h1 with h1
    subst h1
    obtain ⟨r, rs, hrs⟩ := List.exists_cons_of_ne_nil hne
    obtain ⟨h5, h6⟩ := h4 0 r (by rw [hrs]; rfl)
    obtain ⟨z, zs, rfl⟩ := List.exists_cons_of_ne_nil (l := r) (by rintro rfl; simp at h5)
    have h7 := World.block_lt_of_cell? w _ (h6 0 z rfl).1
    rwa [block_add] at h7
/-- A slice of kilns. -/
def KlnsAt (w : World) (v : Value) (n : Nat) : Prop := ∃ (a : Option Addr) (cap : Nat), v = .slice a n cap ∧ n ≤ 9223372036854775807 ∧ ∀ k, k < n → ∃ (g : Addr) (u o : Value) (rows : List (List Int)) (zs : List Int) (n0 n1 : Int), a = some g ∧
  w.cell? (g.add (k * 4)) = some u ∧ w.cell? ⟨(g.add (k * 4)).block, (g.add (k * 4)).off + 1, none⟩ = some o ∧ w.cell? ⟨(g.add (k * 4)).block, (g.add (k * 4)).off + 2, none⟩ = some (.int .i64 n0) ∧ w.cell? ⟨(g.add (k * 4)).block, (g.add (k * 4)).off + 3, none⟩ = some (.int .i64 n1) ∧ RowsAt 7 w u rows ∧ NumsAt w o zs
theorem KlnsAt.below {w w' : World} {v : Value} {n : Nat} (h : KlnsAt w v n) (hb : Below w.heap.size w w') : KlnsAt w' v n := by
  obtain ⟨a, cap, h1, h2, h3⟩ := h
  refine ⟨a, cap, h1, h2, fun k hk => ?_⟩
  obtain ⟨g, u, o, rows, zs, n0, n1, e1, e2, e3, e4, e5, e6, e7⟩ := h3 k hk
  exact ⟨g, u, o, rows, zs, n0, n1, e1, bkeep hb e2, bkeep hb e3, bkeep hb e4, bkeep hb e5, e6.below hb, e7.below hb⟩
theorem kln_row {w : World} {a : Option Addr} {n c k : Nat} (h : KlnsAt w (.slice a n c) n) (hk : k < n) : ∃ (g : Addr) (u o : Value) (rows : List (List Int)) (zs : List Int) (n0 n1 : Int), a = some g ∧
  w.cell? (g.add (k * 4)) = some u ∧ w.cell? ⟨(g.add (k * 4)).block, (g.add (k * 4)).off + 1, none⟩ = some o ∧ w.cell? ⟨(g.add (k * 4)).block, (g.add (k * 4)).off + 2, none⟩ = some (.int .i64 n0) ∧ w.cell? ⟨(g.add (k * 4)).block, (g.add (k * 4)).off + 3, none⟩ = some (.int .i64 n1) ∧ RowsAt 7 w u rows ∧ NumsAt w o zs := by
  obtain ⟨a', c', e, -, h1⟩ := h
  injection e with e _ _
  subst e
  exact h1 k hk
/-- What a kiln's stack is known for. -/
def BgOk (W : World) (lo hi : Int) (l : List Sg) (u : Value) : Prop := RowsAt 8 W u (l.map rowG) ∧ TyP 33 W u ∧ bungOk lo hi l = true ∧ l.length ≤ 12
theorem BgOk.below {W W' : World} {lo hi : Int} {l : List Sg} {u : Value} (h : BgOk W lo hi l u) (hb : Below W.heap.size W W') : BgOk W' lo hi l u := ⟨h.1.below hb, h.2.1.below hb, h.2.2⟩
def StV (v : Value) (W : World) : Prop := ∃ (lo hi : Int) (l : List Sg) (u : Value), v = .agg #[.int .i64 lo, .int .i64 hi, u] ∧ BgOk W lo hi l u
theorem keeps_stV : Keeps StV := fun _ _ _ ⟨lo, hi, l, u, h1, h2⟩ hb => ⟨lo, hi, l, u, h1, h2.below hb⟩
theorem stV_of {w : World} {e : Ending} {w' : World} (h : StackOwn w e w') : ∃ v, e = .returned v ∧ Below w.heap.size w w' ∧ StV v w' := by
  obtain ⟨lo, hi, l, v, h1, h2, h3, h4, h5, b0, h6⟩ := h
  exact ⟨_, h1, h2, lo, hi, l, v, rfl, h3, tyP_own h6, h4, h5⟩
def LitV (B0 : Nat) (v : Value) (W : World) : Prop := ∃ (lo hi : Int) (l : List Sg) (u : Value), NewList B0 1 [.int .i64 lo, .int .i64 hi, u] v W ∧ BgOk W lo hi l u
theorem keeps_litV {B0 : Nat} : Keeps (LitV B0) := fun _ _ _ ⟨lo, hi, l, u, h1, h2⟩ hb => ⟨lo, hi, l, u, keeps_list _ _ _ h1 hb, h2.below hb⟩
theorem lit_of {w w' : World} {lo hi : Int} {u : Value} {t : TypeId} (hb : Below w.heap.size w w') (h : StV (.agg #[.int .i64 lo, .int .i64 hi, u]) w') : Below w'.heap.size w' (w'.alloc (.cells #[.int .i64 lo, .int .i64 hi, u] t)) ∧ LitV w.heap.size (.slice (some ⟨w'.heap.size, 0, none⟩) 1 1) (w'.alloc (.cells #[.int .i64 lo, .int .i64 hi, u] t)) := by
  obtain ⟨lo', hi', l, u', h1, h2⟩ := h
  injection h1 with h1
  injection h1 with h1
  injection h1 with e1 h1
  injection h1 with e2 h1
  injection h1 with e3 _
  injection e1 with _ e1
  injection e2 with _ e2
  subst e1; subst e2; subst e3
  have h3 := list_of (n := 1) (cs := [.int .i64 lo, .int .i64 hi, u]) (t := t) hb
  exact ⟨h3.1, lo, hi, l, u, h3.2, h2.below h3.1⟩
theorem lat_own {lo T s n : Nat} {w : World} {v : Value} {us : List Value} (h : w.ownsRow lo T s v n us) (h1 : ∀ u ∈ us, u.oneCell' = true) : LAt s w v n us := by
  refine ⟨h.1, h1, ?_⟩
  rcases h.2 with ⟨h2, h3⟩ | ⟨g, cap, cur, h2, h3, h4, h5, h6, h7, h8⟩
  · exact .inl ⟨h2, h3⟩
  · refine .inr ⟨⟨g, 0, none⟩, cap, h2, h5, by unfold maxLen at h6; omega, fun j u hu => h.cells (g := g) (by rw [h2]; rfl) j u hu⟩
theorem cellsS_one (sps : List (Int × Int)) : ∀ u ∈ sps.flatMap cellsS, u.oneCell' = true := by
  intro u hu
  obtain ⟨s, -, hs⟩ := List.mem_flatMap.1 hu
  simp [cellsS] at hs
  rcases hs with rfl | rfl <;> rfl
theorem cellsS_at : ∀ {sps : List (Int × Int)} {k : Nat} {s : Int × Int}, sps[k]? = some s → (sps.flatMap cellsS)[k * 2]? = some (.int .i64 s.1) ∧ (sps.flatMap cellsS)[k * 2 + 1]? = some (.int .i64 s.2)
  | [], k, s, h => by simp at h
  | s0 :: sps, 0, s, h => by
    simp at h
    subst h
    exact ⟨rfl, rfl⟩
  | s0 :: sps, k + 1, s, h => by
    rw [List.getElem?_cons_succ] at h
    obtain ⟨h1, h2⟩ := cellsS_at h
    rw [List.flatMap_cons, show (k + 1) * 2 = k * 2 + 1 + 1 from by omega]
    exact ⟨h1, h2⟩
theorem cellsS_set : ∀ {sps : List (Int × Int)} {k : Nat} {s : Int × Int} (a b : Int), sps[k]? = some s → ((sps.flatMap cellsS).set (k * 2) (.int .i64 a)).set (k * 2 + 1) (.int .i64 b) = (sps.set k (a, b)).flatMap cellsS
  | [], k, s, a, b, h => by simp at h
  | s0 :: sps, 0, s, a, b, h => rfl
  | s0 :: sps, k + 1, s, a, b, h => by
    rw [List.getElem?_cons_succ] at h
    have h1 := cellsS_set a b h
    rw [List.set_cons_succ, List.flatMap_cons, List.flatMap_cons, show (k + 1) * 2 = k * 2 + 1 + 1 from by omega, ← h1]
    rfl
/-- A spot made wider. -/
def wider (sps : List (Int × Int)) (k : Nat) : List (Int × Int) := match sps[k]? with | some s => sps.set k (s.1 + 100, s.2 + 5) | none => sps
theorem wider_set {sps : List (Int × Int)} {k : Nat} {s : Int × Int} (h : sps[k]? = some s) : wider sps k = sps.set k (s.1 + 100, s.2 + 5) := by
  unfold wider; rw [h]
/-- Spots that numbers make. -/
def SmallS (sps : List (Int × Int)) : Prop := ∀ s ∈ sps, (0 ≤ s.1 ∧ s.1 < 2000) ∧ 0 ≤ s.2 ∧ s.2 < 100
theorem smallS_ok {sps : List (Int × Int)} (h : SmallS sps) : spsOk sps = true := spsOk_iff.2 fun s hs => by
  obtain ⟨⟨h1, h2⟩, h3, h4⟩ := h s hs
  unfold ckSp
  rw [if_pos]
  rw [Bool.and_eq_true, btw_iff, btw_iff]
  omega
theorem smallS_i64 {sps : List (Int × Int)} (h : SmallS sps) : ∀ s ∈ sps, I64 s.1 ∧ I64 s.2 := fun s hs => by
  obtain ⟨⟨h1, h2⟩, h3, h4⟩ := h s hs
  exact ⟨I64.mk (by omega) (by omega), I64.mk (by omega) (by omega)⟩
theorem wider_mem {sps : List (Int × Int)} {k : Nat} (h : SmallS sps) : ∀ s ∈ wider sps k, (0 ≤ s.1 ∧ s.1 < 2100) ∧ 0 ≤ s.2 ∧ s.2 < 105 := by
  intro s hs
  unfold wider at hs
  split at hs
  · rename_i t ht
    rcases List.mem_or_eq_of_mem_set hs with h1 | h1
    · have := h s h1; omega
    · have := h t (List.mem_of_getElem? ht)
      subst h1
      dsimp only
      omega
  · have := h s hs; omega
theorem wider_ok {sps : List (Int × Int)} {k : Nat} (h : SmallS sps) : spsOk (wider sps k) = true := spsOk_iff.2 fun s hs => by
  have := wider_mem h s hs
  unfold ckSp
  rw [if_pos]
  rw [Bool.and_eq_true, btw_iff, btw_iff]
  omega
theorem wider_i64 {sps : List (Int × Int)} {k : Nat} (h : SmallS sps) : ∀ s ∈ wider sps k, I64 s.1 ∧ I64 s.2 := fun s hs => by
  have := wider_mem h s hs
  exact ⟨I64.mk (by omega) (by omega), I64.mk (by omega) (by omega)⟩
theorem smallS_put {sps : List (Int × Int)} {a b : Int} (h : SmallS sps) (h1 : 0 ≤ a ∧ a < 2000) (h2 : 0 ≤ b ∧ b < 100) : SmallS (sps ++ [(a, b)]) := by
  intro s hs
  rcases List.mem_append.1 hs with h3 | h3
  · exact h s h3
  · have : s = (a, b) := by simpa using h3
    subst this
    exact ⟨h1, h2⟩
theorem cellsS_snoc (sps : List (Int × Int)) (a b : Int) : sps.flatMap cellsS ++ [.int .i64 a, .int .i64 b] = (sps ++ [(a, b)]).flatMap cellsS := by
  rw [List.flatMap_append]; rfl
theorem wider_len (sps : List (Int × Int)) (k : Nat) : (wider sps k).length = sps.length := by
  unfold wider; split
  · rw [List.length_set]
  · rfl
theorem wider_at (sps : List (Int × Int)) (k j : Nat) {s : Int × Int} (h : sps[j]? = some s) : ∃ s', (wider sps k)[j]? = some s' ∧ s.1 ≤ s'.1 ∧ s.2 ≤ s'.2 := by
  unfold wider
  split
  · rename_i t ht
    by_cases e : k = j
    · subst e
      rw [ht] at h
      obtain rfl := Option.some.inj h
      exact ⟨(t.1 + 100, t.2 + 5), by rw [List.getElem?_set, if_pos rfl, if_pos (List.getElem?_eq_some_iff.1 ht).1], by dsimp only; omega, by dsimp only; omega⟩
    · exact ⟨s, by rw [List.getElem?_set, if_neg e]; exact h, Int.le_refl _, Int.le_refl _⟩
  · exact ⟨s, h, Int.le_refl _, Int.le_refl _⟩
theorem fitA_wide {lo hi cr le cr' le' : Int} {l : List Sg} (h : fitA lo hi l cr le = 1) (h1 : cr ≤ cr') (h2 : le ≤ le') : fitA lo hi l cr' le' = 1 := by
  unfold fitA at h ⊢
  split at h
  · cases h
  · rename_i h3
    split at h
    · rename_i h4
      rw [if_neg (fun h5 => h3 (h5.imp (fun h6 => by omega) id)), if_pos ⟨by omega, by omega, h4.2.2⟩]
    · cases h
theorem fitsR_wide {bs : List Bng} {sps : List (Int × Int)} {k : Nat} (i j : Nat) (h : fitsR bs sps i j = true) : fitsR bs (wider sps k) i j = true := by
  unfold fitsR at h ⊢
  split at h
  · rename_i b s hb hs
    obtain ⟨s', h1, h2, h3⟩ := wider_at sps k j hs
    rw [hb, h1]
    exact decide_eq_true (fitA_wide (of_decide_eq_true h) h2 h3)
  · cases h
theorem seatA_ok {bs : List Bng} {sps : List (Int × Int)} (hb : bsOk bs = true) (hs : spsOk sps = true) (h1 : bs.length ≤ 9) (h2 : sps.length ≤ 9) : seatA bs sps = match seatF (fitsR bs sps) sps.length bs.length [] with | some r => (r, 0) | none => ([], 3) := by
  unfold seatA; rw [hb, hs, if_neg (by simp), if_neg (by simp), if_neg (by omega)]; (try rfl)
/-- Wider spots keep a seating. -/
theorem seatA_wide {bs : List Bng} {sps : List (Int × Int)} {r : List Nat} {c : Int} {k : Nat} (hb : bsOk bs = true) (hs : spsOk sps = true) (hw : spsOk (wider sps k) = true) (h1 : bs.length ≤ 9) (h2 : sps.length ≤ 9) (h : seatA bs sps = (r, c)) (hc : c ≠ 3) : c = 0 ∧ (SeatOk sps.length r ∧ r.length = bs.length ∧ ∀ i j, r[i]? = some j → fitsR bs sps i j = true) ∧ ∃ r', seatA bs (wider sps k) = (r', 0) := by
  rw [seatA_ok hb hs h1 h2] at h
  rw [seatA_ok hb hw h1 (by rw [wider_len]; exact h2), wider_len]
  split at h
  · rename_i r0 hr
    obtain ⟨rfl, rfl⟩ := Prod.mk.inj h
    obtain ⟨h3, h4⟩ := seatF_ok _ (seatOk_nil _) hr
    refine ⟨rfl, ⟨h3, by simpa using h4, fun i j hij => (seatF_fits _ hr).2 i j (Nat.zero_le _) hij⟩, ?_⟩
    split
    · exact ⟨_, rfl⟩
    · rename_i hn
      rw [seatF_mono (fun i j => fitsR_wide i j) _ hn] at hr
      cases hr
  · obtain ⟨-, rfl⟩ := Prod.mk.inj h
    exact absurd rfl hc

end Go.Proofs.Ytnchhleokdkejaa

/- An argument opened: a slice of kilns. -/
namespace Go.Proofs.Ytnchhleokdkejaa
open Go Go.Pb Go.Pb.Bung Go.RowKit Go.ChangeShapes Go.WideShapes Go.ChangeAt Go.Deep
section
variable {H : Type} {enc : TypeId × Value → H} {P : Program} {w : World} {base : Nat} {spare : Nat → Bool} {held : Bool}
theorem open_kilns {r : Reach} {b0 m : Nat} {t te t1 e1 t2 e2 ta : TypeId} {f1 f2 f3 : Field} {v : Value} {d : DataW H} {p : List MemPlace} (ht : P.underlying t = some (.slice te)) (hu : P.underlying te = some (.struct #[f1, f2, f3])) (hC : P.cellsOf te = 4)
    (ho1 : f1.offset = 0) (ho2 : f2.offset = 1) (ho3 : f3.offset = 2) (ht1 : f1.type = t1) (ht2 : f2.type = t2) (ht3 : f3.type = ta) (c1 : P.cellsOf t1 = 1) (c2 : P.cellsOf t2 = 1) (ca : P.cellsOf ta = 2) (hfa : flatI P m ta = true) (u1 : P.underlying t1 = some (.slice e1)) (hf1 : flatI P m e1 = true) (hn1 : P.cellsOf e1 = 7) (u2 : P.underlying t2 = some (.slice e2)) (hf2 : flatI P m e2 = true) (hn2 : P.cellsOf e2 = 1)
    (hv : Value.okWide P w r b0 t v) (h : DataW.Trod enc P w base spare held t v d p) : ∃ n, KlnsAt w v n := by
  obtain ⟨a0, l0, c0, rfl⟩ := okWide_slice ht hv
  obtain ⟨fuel, hf⟩ := h
  rcases Go.Deep.open_slice ht hf with ⟨h1, _⟩ | ⟨a, len, cap, k, f, D, Pl, hcs, hb, hl, hm, hk, _, hx⟩
  · simp [Value.cells] at h1
    obtain ⟨rfl, rfl, rfl⟩ := h1
    exact ⟨0, none, 0, rfl, by simp, fun k hk => by omega⟩
  · have hlk : len ≤ k := by rw [hk]; split <;> omega
    have each : ∀ i, i < len → ∃ (u o : Value) (rows : List (List Int)) (zs : List Int) (n0 n1 : Int), w.cell? (a.add (i * 4)) = some u ∧ w.cell? ⟨(a.add (i * 4)).block, (a.add (i * 4)).off + 1, none⟩ = some o ∧ w.cell? ⟨(a.add (i * 4)).block, (a.add (i * 4)).off + 2, none⟩ = some (.int .i64 n0) ∧ w.cell? ⟨(a.add (i * 4)).block, (a.add (i * 4)).off + 3, none⟩ = some (.int .i64 n1) ∧ RowsAt 7 w u rows ∧ NumsAt w o zs := by
      intro i hi
      obtain ⟨cs', h1, h2⟩ := hx i (by omega)
      rw [hC] at h1
      obtain ⟨_, hcl, hat⟩ := World.cells?_some h1
      obtain ⟨xs, k', _, _, hlen, hxl, hg⟩ := DataW.trod_struct hu h2
      match cs', hcl with
      | [a1, a2, a3, a4], _ =>
        have g1 := hg 0 f1 rfl
        have g2 := hg 1 f2 rfl
        have g3 := hg 2 f3 rfl
        rw [ho1, ht1, c1] at g1
        rw [ho2, ht2, c2] at g2
        rw [ho3, ht3, ca] at g3
        have x1 : xs[0]? = some (xs[0]'(by simp at hxl; omega)) := List.getElem?_eq_getElem _
        have x2 : xs[1]? = some (xs[1]'(by simp at hxl; omega)) := List.getElem?_eq_getElem _
        have x3 : xs[2]? = some (xs[2]'(by simp at hxl; omega)) := List.getElem?_eq_getElem _
        rw [x1] at g1
        rw [x2] at g2
        rw [x3] at g3
        obtain ⟨v1, r1, e1', h4⟩ := open_rows u1 hf1 hn1 g1
        obtain ⟨v2, r2, e2', h5⟩ := open_rows u2 hf2 hn2 g2
        obtain ⟨_, hj⟩ := flat_cells m hfa g3
        obtain ⟨z2, hz2, hw2⟩ := hj 0 a3 rfl
        obtain ⟨z3, hz3, hw3⟩ := hj 1 a4 rfl
        simp at e1' e2'
        subst e1'; subst e2'; subst hz2; subst hz3
        obtain ⟨zs, hz⟩ := rows1_nums h5
        have q0 := hat 0 (by omega)
        have q1 := hat 1 (by omega)
        have q2 := hat 2 (by omega)
        have q3 := hat 3 (by omega)
        rw [Go.Deep.add_add, Nat.add_zero] at q0
        rw [add_off (by decide)] at q1 q2 q3
        exact ⟨_, _, r1, zs, z2, z3, q0, q1, q2, q3, h4, hz⟩
    simp [Value.cells] at hcs
    obtain ⟨rfl, rfl, rfl⟩ := hcs
    refine ⟨l0, some a, c0, rfl, by unfold maxLen at hm; omega, fun i hi => ?_⟩
    obtain ⟨u, o, rows, zs, n0, n1, q⟩ := each i hi
    exact ⟨a, u, o, rows, zs, n0, n1, rfl, q⟩
end
end Go.Proofs.Ytnchhleokdkejaa

/- BungSeated returns true. -/
namespace Go.Proofs.Ytnchhleokdkejaa
open Go.RowKit Go.Pb Go.Pb.Ware Go.Pb.Sag
set_option linter.unusedVariables false
set_option linter.unusedSimpArgs false

open Go.Proofs Go.Maps Go.Pb.Bung
theorem Try.infoBg : (Try.prog.info? 26).map (fun i => (i.zero, i.size, i.bytes)) = some (some (.agg #[.int .i64 0, .int .i64 0, .slice none 0 0]), 3, 40) := by kernel_rfl
theorem Try.infoSp : (Try.prog.info? 28).map (fun i => (i.zero, i.size, i.bytes)) = some (some (.agg #[.int .i64 0, .int .i64 0]), 2, 16) := by kernel_rfl
theorem take_cast (r : List Nat) (k : Nat) : ((castN r).map (Value.int .i64)).take (k * 1) = (castN (r.take k)).map (Value.int .i64) := by
  rw [Nat.mul_one]; unfold castN; rw [List.map_take, List.map_take]
theorem take_has {r : List Nat} {k q : Nat} (h : r.Nodup) (hq : r[k]? = some q) : (castN (r.take k)).contains (q : Int) = false := by
  rw [cast_has]
  apply not_ok
  intro h2
  rw [List.contains_iff_mem] at h2
  obtain ⟨j, hj⟩ := List.getElem?_of_mem h2
  have hjk : j < k := by
    have := (List.getElem?_eq_some_iff.1 hj).1
    rw [List.length_take] at this
    omega
  rw [List.getElem?_take_of_lt hjk] at hj
  have hkl := (List.getElem?_eq_some_iff.1 hq).1
  have hjl := (List.getElem?_eq_some_iff.1 hj).1
  have h3 := List.pairwise_iff_getElem.1 h j k hjl hkl hjk
  rw [List.getElem?_eq_getElem hjl] at hj
  rw [List.getElem?_eq_getElem hkl] at hq
  injection hj with hj
  injection hq with hq
  exact h3 (hj.trans hq.symm)
theorem take_i64 {m : Nat} {r : List Nat} {k : Nat} (h : SeatOk m r) (hm : m ≤ 9) : ∀ z ∈ castN (r.take k), I64 z := by
  intro z hz
  unfold castN at hz
  obtain ⟨q, hq, rfl⟩ := List.mem_map.1 hz
  have := h.2 q (List.mem_of_mem_take hq)
  exact I64.mk (by omega) (by omega)

set_option maxRecDepth 100000 in
set_option maxHeartbeats 1000000 in
theorem bungSeated_walk {w : World} {v u : Value} {kn : Nat} {pr : List (List Int)} {x : Int} (hk : KlnsAt w v kn) (hp : RowsAt 2 w u pr) :
    Calls Try.prog 18 #[v, u, .int .i64 x] w (Ret w (.bool true)) := by
  unfold Ret
  obtain ⟨i1, hj1, hy0, hy1, hy2⟩ := info_parts Try.infoInt
  obtain ⟨i3, hj3, hv0, hv1, hv2⟩ := info_parts Try.infoBg
  obtain ⟨i2, hj2, hx0, hx1, hx2⟩ := info_parts Try.infoSp
  obtain ⟨ka, kc, rfl, hknm⟩ : ∃ a c, v = .slice a kn c ∧ kn ≤ 9223372036854775807 := by (obtain ⟨a, c, h1, h2, -⟩ := hk; exact ⟨a, c, h1, h2⟩)
  obtain ⟨ra, rc, rfl, hrl⟩ := hp.shape
  obtain ⟨rn, hrn⟩ : ∃ n, pr.length = n := ⟨_, rfl⟩
  have HRN := hid hrn
  rw [hrn] at hp hrl ⊢
  clear hrn
  obtain ⟨K, hK⟩ : ∃ K, min kn 5 = K := ⟨_, rfl⟩
  have HK := hid hK; clear hK
  obtain ⟨M, hM⟩ : ∃ M, min rn 6 = M := ⟨_, rfl⟩
  have HM := hid hM; clear hM
  go_enter Try.func18, Try.ntmps18
  go_wp2_with fail
  refine sane_any.mono ?_
  rintro e v1 ⟨rfl, hB⟩
  go_upto_block 0 with fail
  go_cut [8, 9] from 22 (fun bv iv wc => ∃ (bs : List Bng) (us : List Value), iv = .int .i64 (K : Int) ∧ Hid (bs.length = K) ∧ wc.ownsRow v1.heap.size 26 3 bv K (cellsBg bs us) ∧ Hid (UsP wc bs us) ∧ Hid (bsOk bs = true) ∧ Below v1.heap.size v1 wc)
  case first =>
    go_wp2_with fail
    go_loopg [8, 9] K (fun gk bv iv wr => ∃ (k : Nat) (bs : List Bng) (us : List Value), k ≤ K ∧ gk = K - k ∧ iv = .int .i64 (k : Int) ∧ Hid (bs.length = k) ∧ wr.ownsRow v1.heap.size 26 3 bv k (cellsBg bs us) ∧ Hid (UsP wr bs us) ∧ Hid (bsOk bs = true) ∧ Below v1.heap.size v1 wr)
    case atStart => exact ⟨0, [], [], Nat.zero_le _, rfl, rfl, hid rfl, World.ownsRow_nil _ _ _ _, hid (usP_nil _), hid rfl, Below.refl _ _⟩
    case round =>
      obtain ⟨k, bs, us, hk0, hgk, rfl, HBL, ho, HU, HBK, hb1⟩ := hrel
      have HGK := hid hgk; clear hgk
      obtain ⟨ba, bc, rfl, -⟩ := owns_shape ho
      by_cases hlt : k < K
      · have hkk := HK.out
        have hki : (k : Int) < (kn : Int) := by omega
        have hk5 : (k : Int) < 5 := by omega
        have hk4 : k < 5 := by omega
        obtain ⟨g, u0, o0, rows, zs, n0, n1, e1, p0, p1, p2, p3, hr, hz⟩ := kln_row (hk.below (bnext (w := w) hB hb1)) (by omega : k < kn)
        subst e1
        have hzv := hb1.size
        clear hkk
        go_upto_region 6 with fail
        refine wp_region_Rs [(16, StV), (17, LitV wr.heap.size)] [0, 1, 2, 3, 4, 5, 6, 7, 8, 9, 10, 11, 12, 13, 14, 15, 16, 17] 2 (by kernel_rfl) rfl (by simp only [List.forall_mem_cons]; exact ⟨keeps_stV, keeps_litV, fun _ h => by cases h⟩) (by kernel_rfl) ?_
        simp only [numbered, List.filterMap_cons, List.filterMap_nil, List.getElem?_toArray, List.getElem?_cons_succ, List.getElem?_cons_zero, Option.map_some]
        show wpS _ _ _ _ _ _ _ [(_, _), (_, _), (_, _), (_, _), (_, _), (_, _), (_, _), (_, _), (_, _), (_, _), (_, _), (_, _), (_, _), (_, _), (_, _), (_, _), (_, _), (_, _)] _ _
        (refine wpS_quiet rfl rfl ?_; intro K2 hK inst hx; have s0 := fun x => (fun _ => bkeep (BQ.below x) p0) (hx x); have s1 := fun x => (fun _ => bkeep (BQ.below x) p1) (hx x); have s2 := fun x => (fun _ => bkeep (BQ.below x) p2) (hx x); have s3 := fun x => (fun _ => bkeep (BQ.below x) p3) (hx x); go_big_quiet_op; (first | go_big_quiet_on | (refine ⟨_, fun _ => rfl, ?_⟩; go_big_quiet_on)); clear hx inst)
        (refine wpS_quiet rfl rfl ?_; intro K2 hK inst hx; have s0 := fun x => (fun _ => bkeep (BQ.below x) p0) (hx x); have s1 := fun x => (fun _ => bkeep (BQ.below x) p1) (hx x); have s2 := fun x => (fun _ => bkeep (BQ.below x) p2) (hx x); have s3 := fun x => (fun _ => bkeep (BQ.below x) p3) (hx x); go_big_quiet_op; (first | go_big_quiet_on | (refine ⟨_, fun _ => rfl, ?_⟩; go_big_quiet_on)); clear hx inst)
        (refine wpS_quiet rfl rfl ?_; intro K2 hK inst hx; have s0 := fun x => (fun _ => bkeep (BQ.below x) p0) (hx x); have s1 := fun x => (fun _ => bkeep (BQ.below x) p1) (hx x); have s2 := fun x => (fun _ => bkeep (BQ.below x) p2) (hx x); have s3 := fun x => (fun _ => bkeep (BQ.below x) p3) (hx x); go_big_quiet_op; (first | go_big_quiet_on | (refine ⟨_, fun _ => rfl, ?_⟩; go_big_quiet_on)); clear hx inst)
        (refine wpS_quiet rfl rfl ?_; intro K2 hK inst hx; have s0 := fun x => (fun _ => bkeep (BQ.below x) p0) (hx x); have s1 := fun x => (fun _ => bkeep (BQ.below x) p1) (hx x); have s2 := fun x => (fun _ => bkeep (BQ.below x) p2) (hx x); have s3 := fun x => (fun _ => bkeep (BQ.below x) p3) (hx x); go_big_quiet_op; (first | go_big_quiet_on | (refine ⟨_, fun _ => rfl, ?_⟩; go_big_quiet_on)); clear hx inst)
        (refine wpS_quiet rfl rfl ?_; intro K2 hK inst hx; have s0 := fun x => (fun _ => bkeep (BQ.below x) p0) (hx x); have s1 := fun x => (fun _ => bkeep (BQ.below x) p1) (hx x); have s2 := fun x => (fun _ => bkeep (BQ.below x) p2) (hx x); have s3 := fun x => (fun _ => bkeep (BQ.below x) p3) (hx x); go_big_quiet_op; (first | go_big_quiet_on | (refine ⟨_, fun _ => rfl, ?_⟩; go_big_quiet_on)); clear hx inst)
        (refine wpS_quiet rfl rfl ?_; intro K2 hK inst hx; have s0 := fun x => (fun _ => bkeep (BQ.below x) p0) (hx x); have s1 := fun x => (fun _ => bkeep (BQ.below x) p1) (hx x); have s2 := fun x => (fun _ => bkeep (BQ.below x) p2) (hx x); have s3 := fun x => (fun _ => bkeep (BQ.below x) p3) (hx x); go_big_quiet_op; (first | go_big_quiet_on | (refine ⟨_, fun _ => rfl, ?_⟩; go_big_quiet_on)); clear hx inst)
        (refine wpS_quiet rfl rfl ?_; intro K2 hK inst hx; have s0 := fun x => (fun _ => bkeep (BQ.below x) p0) (hx x); have s1 := fun x => (fun _ => bkeep (BQ.below x) p1) (hx x); have s2 := fun x => (fun _ => bkeep (BQ.below x) p2) (hx x); have s3 := fun x => (fun _ => bkeep (BQ.below x) p3) (hx x); go_big_quiet_op; (first | go_big_quiet_on | (refine ⟨_, fun _ => rfl, ?_⟩; go_big_quiet_on)); clear hx inst)
        (refine wpS_quiet rfl rfl ?_; intro K2 hK inst hx; have s0 := fun x => (fun _ => bkeep (BQ.below x) p0) (hx x); have s1 := fun x => (fun _ => bkeep (BQ.below x) p1) (hx x); have s2 := fun x => (fun _ => bkeep (BQ.below x) p2) (hx x); have s3 := fun x => (fun _ => bkeep (BQ.below x) p3) (hx x); go_big_quiet_op; (first | go_big_quiet_on | (refine ⟨_, fun _ => rfl, ?_⟩; go_big_quiet_on)); clear hx inst)
        (refine wpS_quiet rfl rfl ?_; intro K2 hK inst hx; have s0 := fun x => (fun _ => bkeep (BQ.below x) p0) (hx x); have s1 := fun x => (fun _ => bkeep (BQ.below x) p1) (hx x); have s2 := fun x => (fun _ => bkeep (BQ.below x) p2) (hx x); have s3 := fun x => (fun _ => bkeep (BQ.below x) p3) (hx x); go_big_quiet_op; (first | go_big_quiet_on | (refine ⟨_, fun _ => rfl, ?_⟩; go_big_quiet_on)); clear hx inst)
        (refine wpS_quiet rfl rfl ?_; intro K2 hK inst hx; have s0 := fun x => (fun _ => bkeep (BQ.below x) p0) (hx x); have s1 := fun x => (fun _ => bkeep (BQ.below x) p1) (hx x); have s2 := fun x => (fun _ => bkeep (BQ.below x) p2) (hx x); have s3 := fun x => (fun _ => bkeep (BQ.below x) p3) (hx x); go_big_quiet_op; (first | go_big_quiet_on | (refine ⟨_, fun _ => rfl, ?_⟩; go_big_quiet_on)); clear hx inst)
        (refine wpS_quiet rfl rfl ?_; intro K2 hK inst hx; have s0 := fun x => (fun _ => bkeep (BQ.below x) p0) (hx x); have s1 := fun x => (fun _ => bkeep (BQ.below x) p1) (hx x); have s2 := fun x => (fun _ => bkeep (BQ.below x) p2) (hx x); have s3 := fun x => (fun _ => bkeep (BQ.below x) p3) (hx x); go_big_quiet_op; (first | go_big_quiet_on | (refine ⟨_, fun _ => rfl, ?_⟩; go_big_quiet_on)); clear hx inst)
        (refine wpS_quiet rfl rfl ?_; intro K2 hK inst hx; have s0 := fun x => (fun _ => bkeep (BQ.below x) p0) (hx x); have s1 := fun x => (fun _ => bkeep (BQ.below x) p1) (hx x); have s2 := fun x => (fun _ => bkeep (BQ.below x) p2) (hx x); have s3 := fun x => (fun _ => bkeep (BQ.below x) p3) (hx x); go_big_quiet_op; (first | go_big_quiet_on | (refine ⟨_, fun _ => rfl, ?_⟩; go_big_quiet_on)); clear hx inst)
        (refine wpS_quiet rfl rfl ?_; intro K2 hK inst hx; have s0 := fun x => (fun _ => bkeep (BQ.below x) p0) (hx x); have s1 := fun x => (fun _ => bkeep (BQ.below x) p1) (hx x); have s2 := fun x => (fun _ => bkeep (BQ.below x) p2) (hx x); have s3 := fun x => (fun _ => bkeep (BQ.below x) p3) (hx x); go_big_quiet_op; (first | go_big_quiet_on | (refine ⟨_, fun _ => rfl, ?_⟩; go_big_quiet_on)); clear hx inst)
        (refine wpS_quiet rfl rfl ?_; intro K2 hK inst hx; have s0 := fun x => (fun _ => bkeep (BQ.below x) p0) (hx x); have s1 := fun x => (fun _ => bkeep (BQ.below x) p1) (hx x); have s2 := fun x => (fun _ => bkeep (BQ.below x) p2) (hx x); have s3 := fun x => (fun _ => bkeep (BQ.below x) p3) (hx x); go_big_quiet_op; (first | go_big_quiet_on | (refine ⟨_, fun _ => rfl, ?_⟩; go_big_quiet_on)); clear hx inst)
        (refine wpS_quiet rfl rfl ?_; intro K2 hK inst hx; have s0 := fun x => (fun _ => bkeep (BQ.below x) p0) (hx x); have s1 := fun x => (fun _ => bkeep (BQ.below x) p1) (hx x); have s2 := fun x => (fun _ => bkeep (BQ.below x) p2) (hx x); have s3 := fun x => (fun _ => bkeep (BQ.below x) p3) (hx x); go_big_quiet_op; (first | go_big_quiet_on | (refine ⟨_, fun _ => rfl, ?_⟩; go_big_quiet_on)); clear hx inst)
        (refine wpS_quiet rfl rfl ?_; intro K2 hK inst hx; have s0 := fun x => (fun _ => bkeep (BQ.below x) p0) (hx x); have s1 := fun x => (fun _ => bkeep (BQ.below x) p1) (hx x); have s2 := fun x => (fun _ => bkeep (BQ.below x) p2) (hx x); have s3 := fun x => (fun _ => bkeep (BQ.below x) p3) (hx x); go_big_quiet_op; (first | go_big_quiet_on | (refine ⟨_, fun _ => rfl, ?_⟩; go_big_quiet_on)); clear hx inst)
        refine wpS_fresh rfl rfl (fun w' hb hF => ?_) ?_
        · change freshAt _ _ _ (StV) _; unfold freshAt; go_simp; exact (stack_own (hr.below hb) (hz.below hb)).mono fun _ _ h9 => stV_of h9
        intro v W hv; simp only [pOf, List.lookup_cons, Nat.reduceBEq, beq_self_eq_true] at hv; obtain ⟨lo1, hi1, l1, u1, rfl, -⟩ := hv
        simp only [Act.put, List.setIfInBounds_toArray, List.set_cons_succ, List.set_cons_zero]
        refine wpS_fresh rfl rfl (fun w' hb hF => ?_) ?_
        · change freshAt _ _ _ (LitV wr.heap.size) _; have h16 : StV _ w' := hF 16 _ rfl (by kernel_rfl); unfold freshAt; go_simp; exact lit_of hb h16
        intro v W hv; simp only [pOf, List.lookup_cons, Nat.reduceBEq, beq_self_eq_true] at hv; obtain ⟨lo2, hi2, l2, u2, ⟨B6, hB6, rfl, -⟩, -⟩ := hv
        simp only [Act.put, List.setIfInBounds_toArray, List.set_cons_succ, List.set_cons_zero]
        refine wpS_nil ?_
        intro v7 hall
        have hb7 := hall.1
        have h17 : LitV wr.heap.size _ v7 := hall.2 17 _ rfl
        obtain ⟨lo3, hi3, l3, u3, ⟨B', hB', hv', hn'⟩, hr3, ht3, hok3, hl3⟩ := h17
        obtain rfl : B6 = B' := by simpa using hv'
        clear hall hv' p0 p1 p2 p3 hr hz
        have ho6 := owns_below ho hb7
        have hU7 := (HU.out.below hb7).put (b := (lo3, hi3, l3)) hr3 ht3
        obtain ⟨ua, un, uc, rfl⟩ : ∃ a n c, u3 = .slice a n c := by (obtain ⟨a, c, h9, -⟩ := hr3.shape; exact ⟨a, _, c, h9⟩)
        have hz7 := hb7.size
        have e9 := cellsBg_snoc HU.out.1 (lo3, hi3, l3) (.slice ua un uc)
        dsimp only at e9
        have HE9 := hid e9
        clear e9 hr3 ht3
        refine wpAny_ready (rs := [18]) (by kernel_rfl) (by simp) ?_
        refine AllReady.cons rfl (fun K hK => ?_) AllReady.nil
        refine wp_append_own v7 (.tmp 32) (.tmp 49) 85 rfl v1.heap.size 26 i3 (.agg #[.int .i64 0, .int .i64 0, .slice none 0 0]) 3 40 Try.underlying85 hj3 hv0 hv1 hv2 rfl (by decide) (.slice ba k bc) k _ rfl ho6 ⟨B6, 0, none⟩ 1 1 [.int .i64 lo3, .int .i64 hi3, .slice ua un uc] rfl rfl (fun j u h => by rw [Go.WideShapes.add_plain, Nat.zero_add]; exact (hn' j u h).1) (fun u hu => by simp only [List.mem_cons, List.not_mem_nil, or_false] at hu; rcases hu with rfl | rfl | rfl <;> rfl) (by unfold maxLen; omega) (by omega) (by omega) ?_
        intro v39 w7 ho7 hg7 hnil7
        refine hK _ _ ?_
        clear hK K hnil7
        have hU8 := hid (hU7.grown ho6 (by decide) hg7)
        have hb8 := Pb.below_grown (bnext (w := v1) hb1 hb7) hg7 ho6 (by omega) (Nat.le_refl _)
        rw [HE9.out] at ho7
        clear hg7 ho6 hn' hU7
        refine wpAny_ready (rs := [19]) (by kernel_rfl) (by simp) ?_
        refine AllReady.cons rfl (fun K hK => ?_) AllReady.nil
        go_simp
        refine hK _ _ ?_; clear hK K
        refine wpAny_done (by kernel_rfl) ?_ _
        have HBK8 := hid (show bsOk (bs ++ [(lo3, hi3, l3)]) = true by (rw [bsOk_iff]; intro b hb9; rcases List.mem_append.1 hb9 with h9 | h9; exact bsOk_iff.1 HBK.out b h9; (have h8 : b = (lo3, hi3, l3) := by simpa using h9); rw [h8]; exact hok3))
        go_wp2_with fail
        go_roundg (K - (k + 1))
        case measure => have h := HGK.out; omega
        case rel => exact ⟨k + 1, _, _, by omega, rfl, by go_num, hid (by rw [List.length_append, HBL.out]; rfl), ho7, hU8, HBK8, hb8⟩
      · obtain rfl : k = K := by omega
        have hkk := HK.out
        by_cases hkn : k < kn
        · have hki : (k : Int) < (kn : Int) := by omega
          have hk5 : ¬ (k : Int) < 5 := by omega
          clear hkk
          go_wp2_with fail
          go_meet
          exact ⟨bs, us, rfl, HBL, ho, HU, HBK, hb1⟩
        · have hki : ¬ (k : Int) < (kn : Int) := by omega
          clear hkk
          go_wp2_with fail
          go_meet
          exact ⟨bs, us, rfl, HBL, ho, HU, HBK, hb1⟩
  case rest =>
    obtain ⟨bs, us, rfl, HBL, ho, HU, HBK, hb1⟩ := hcut
    obtain ⟨v3, hv3⟩ : ∃ v, v = wc := ⟨_, rfl⟩
    subst hv3
    obtain ⟨ba, bc, rfl, -⟩ := owns_shape ho
    have hB3 := bnext (w := w) hB hb1
    have hz3 := hb1.size
    clear hB hb1
    go_upto_block 2 with fail
    go_cut [10, 11] from 51 (fun sv iv wc => ∃ sps : List (Int × Int), iv = .int .i64 (M : Int) ∧ Hid (sps.length = M) ∧ wc.ownsRow v3.heap.size 28 2 sv M (sps.flatMap cellsS) ∧ Hid (SmallS sps) ∧ Below v3.heap.size v3 wc)
    case first =>
      go_wp2_with fail
      go_loopg [10, 11] M (fun gk sv iv wr => ∃ (k : Nat) (sps : List (Int × Int)), k ≤ M ∧ gk = M - k ∧ iv = .int .i64 (k : Int) ∧ Hid (sps.length = k) ∧ wr.ownsRow v3.heap.size 28 2 sv k (sps.flatMap cellsS) ∧ Hid (SmallS sps) ∧ Below v3.heap.size v3 wr)
      case atStart => exact ⟨0, [], Nat.zero_le _, rfl, rfl, hid rfl, World.ownsRow_nil _ _ _ _, hid (fun s hs => by cases hs), Below.refl _ _⟩
      case round =>
        obtain ⟨k, sps, hk0, hgk, rfl, HSL, hs, HSM, hb1⟩ := hrel
        have HGK := hid hgk; clear hgk
        obtain ⟨sa, sc, rfl, -⟩ := owns_shape hs
        by_cases hlt : k < M
        · have hkk := HM.out
          have hki : (k : Int) < (rn : Int) := by omega
          have hk6 : (k : Int) < 6 := by omega
          have hk5 : k < 6 := by omega
          obtain ⟨a', ha, hrl2, hc0, hcc⟩ := (show RowsAt 2 wr (.slice ra pr.length rc) pr by rw [HRN.out]; exact hp.below (bnext (w := w) hB3 hb1)).row (k := k) (by rw [HRN.out]; omega)
          subst ha
          obtain ⟨y0, y1, hy⟩ : ∃ y0 y1, pr[k]'(by rw [HRN.out]; omega) = [y0, y1] := by (match pr[k]'(by rw [HRN.out]; omega), hrl2 with | [y0, y1], _ => exact ⟨y0, y1, rfl⟩)
          rw [hy] at hc0 hcc
          have p0 := hc0 _ rfl; have p1 := hcc 1 _ (by decide) rfl
          clear hc0 hcc hrl2 hy hkk
          obtain ⟨m0, hm0⟩ : ∃ p, y0 % 2000 = p := ⟨_, rfl⟩
          obtain ⟨m1, hm1⟩ : ∃ p, y1 % 100 = p := ⟨_, rfl⟩
          have b0 := mod_in hm0 (by decide); have b1 := mod_in hm1 (by decide)
          have H0 := hid hm0; have H1 := hid hm1
          clear hm0 hm1
          have hzv := hb1.size
          go_upto_region 11 with fail
          refine wp_region_Rs [(6, fun v _ => v = .int .i64 m0), (12, fun v _ => v = .int .i64 m1), (14, NewList wr.heap.size 1 [.int .i64 m0, .int .i64 m1])] [0, 1, 2, 3, 4, 5, 6, 7, 8, 9, 10, 11, 12, 13, 14] 2 (by kernel_rfl) rfl (by simp only [List.forall_mem_cons]; exact ⟨keeps_eq, keeps_eq, keeps_list, fun _ h => by cases h⟩) (by kernel_rfl) ?_
          simp only [numbered, List.filterMap_cons, List.filterMap_nil, List.getElem?_toArray, List.getElem?_cons_succ, List.getElem?_cons_zero, Option.map_some]
          show wpS _ _ _ _ _ _ _ [(_, _), (_, _), (_, _), (_, _), (_, _), (_, _), (_, _), (_, _), (_, _), (_, _), (_, _), (_, _), (_, _), (_, _), (_, _)] _ _
          (refine wpS_quiet rfl rfl ?_; intro K2 hK inst hx; have s0 := fun x => (fun _ => bkeep (BQ.below x) p0) (hx x); have s1 := fun x => (fun _ => bkeep (BQ.below x) p1) (hx x); go_big_quiet_op; (first | go_big_quiet_on | (refine ⟨_, fun _ => rfl, ?_⟩; go_big_quiet_on)); clear hx inst)
          (refine wpS_quiet rfl rfl ?_; intro K2 hK inst hx; have s0 := fun x => (fun _ => bkeep (BQ.below x) p0) (hx x); have s1 := fun x => (fun _ => bkeep (BQ.below x) p1) (hx x); go_big_quiet_op; (first | go_big_quiet_on | (refine ⟨_, fun _ => rfl, ?_⟩; go_big_quiet_on)); clear hx inst)
          (refine wpS_quiet rfl rfl ?_; intro K2 hK inst hx; have s0 := fun x => (fun _ => bkeep (BQ.below x) p0) (hx x); have s1 := fun x => (fun _ => bkeep (BQ.below x) p1) (hx x); go_big_quiet_op; (first | go_big_quiet_on | (refine ⟨_, fun _ => rfl, ?_⟩; go_big_quiet_on)); clear hx inst)
          (refine wpS_quiet rfl rfl ?_; intro K2 hK inst hx; have s0 := fun x => (fun _ => bkeep (BQ.below x) p0) (hx x); have s1 := fun x => (fun _ => bkeep (BQ.below x) p1) (hx x); go_big_quiet_op; (first | go_big_quiet_on | (refine ⟨_, fun _ => rfl, ?_⟩; go_big_quiet_on)); clear hx inst)
          (refine wpS_quiet rfl rfl ?_; intro K2 hK inst hx; have s0 := fun x => (fun _ => bkeep (BQ.below x) p0) (hx x); have s1 := fun x => (fun _ => bkeep (BQ.below x) p1) (hx x); go_big_quiet_op; (first | go_big_quiet_on | (refine ⟨_, fun _ => rfl, ?_⟩; go_big_quiet_on)); clear hx inst)
          (refine wpS_quiet rfl rfl ?_; intro K2 hK inst hx; have s0 := fun x => (fun _ => bkeep (BQ.below x) p0) (hx x); have s1 := fun x => (fun _ => bkeep (BQ.below x) p1) (hx x); go_big_quiet_op; (first | go_big_quiet_on | (refine ⟨_, fun _ => rfl, ?_⟩; go_big_quiet_on)); clear hx inst)
          refine wpS_fresh rfl rfl (fun w' hb hF => ?_) ?_
          · change freshAt _ _ _ (fun v _ => v = .int .i64 m0) _; unfold freshAt; go_simp; exact modBR H0.out (by decide) (by decide)
          intro v W hv; simp only [pOf, List.lookup_cons, Nat.reduceBEq, beq_self_eq_true] at hv; subst hv
          simp only [Act.put, List.setIfInBounds_toArray, List.set_cons_succ, List.set_cons_zero]
          (refine wpS_quiet rfl rfl ?_; intro K2 hK inst hx; have s0 := fun x => (fun _ => bkeep (BQ.below x) p0) (hx x); have s1 := fun x => (fun _ => bkeep (BQ.below x) p1) (hx x); go_big_quiet_op; (first | go_big_quiet_on | (refine ⟨_, fun _ => rfl, ?_⟩; go_big_quiet_on)); clear hx inst)
          (refine wpS_quiet rfl rfl ?_; intro K2 hK inst hx; have s0 := fun x => (fun _ => bkeep (BQ.below x) p0) (hx x); have s1 := fun x => (fun _ => bkeep (BQ.below x) p1) (hx x); go_big_quiet_op; (first | go_big_quiet_on | (refine ⟨_, fun _ => rfl, ?_⟩; go_big_quiet_on)); clear hx inst)
          (refine wpS_quiet rfl rfl ?_; intro K2 hK inst hx; have s0 := fun x => (fun _ => bkeep (BQ.below x) p0) (hx x); have s1 := fun x => (fun _ => bkeep (BQ.below x) p1) (hx x); go_big_quiet_op; (first | go_big_quiet_on | (refine ⟨_, fun _ => rfl, ?_⟩; go_big_quiet_on)); clear hx inst)
          (refine wpS_quiet rfl rfl ?_; intro K2 hK inst hx; have s0 := fun x => (fun _ => bkeep (BQ.below x) p0) (hx x); have s1 := fun x => (fun _ => bkeep (BQ.below x) p1) (hx x); go_big_quiet_op; (first | go_big_quiet_on | (refine ⟨_, fun _ => rfl, ?_⟩; go_big_quiet_on)); clear hx inst)
          (refine wpS_quiet rfl rfl ?_; intro K2 hK inst hx; have s0 := fun x => (fun _ => bkeep (BQ.below x) p0) (hx x); have s1 := fun x => (fun _ => bkeep (BQ.below x) p1) (hx x); go_big_quiet_op; (first | go_big_quiet_on | (refine ⟨_, fun _ => rfl, ?_⟩; go_big_quiet_on)); clear hx inst)
          refine wpS_fresh rfl rfl (fun w' hb hF => ?_) ?_
          · change freshAt _ _ _ (fun v _ => v = .int .i64 m1) _; unfold freshAt; go_simp; exact modBR H1.out (by decide) (by decide)
          intro v W hv; simp only [pOf, List.lookup_cons, Nat.reduceBEq, beq_self_eq_true] at hv; subst hv
          simp only [Act.put, List.setIfInBounds_toArray, List.set_cons_succ, List.set_cons_zero]
          (refine wpS_quiet rfl rfl ?_; intro K2 hK inst hx; have s0 := fun x => (fun _ => bkeep (BQ.below x) p0) (hx x); have s1 := fun x => (fun _ => bkeep (BQ.below x) p1) (hx x); go_big_quiet_op; (first | go_big_quiet_on | (refine ⟨_, fun _ => rfl, ?_⟩; go_big_quiet_on)); clear hx inst)
          refine wpS_fresh rfl rfl (fun w' hb hF => ?_) ?_
          · change freshAt _ _ _ (NewList wr.heap.size 1 [.int .i64 m0, .int .i64 m1]) _; unfold freshAt; go_simp; exact list_of hb
          intro v W hv; simp only [pOf, List.lookup_cons, Nat.reduceBEq, beq_self_eq_true] at hv; obtain ⟨B6, hB6, rfl, -⟩ := hv
          simp only [Act.put, List.setIfInBounds_toArray, List.set_cons_succ, List.set_cons_zero]
          refine wpS_nil ?_
          intro v7 hall
          have hb7 := hall.1
          have h14 : NewList wr.heap.size 1 [.int .i64 m0, .int .i64 m1] _ v7 := hall.2 14 _ rfl
          obtain ⟨B', hB', hv', hn'⟩ := h14
          obtain rfl : B6 = B' := by simpa using hv'
          clear hall hv' p0 p1
          have ho6 := owns_below hs hb7
          have hz7 := hb7.size
          refine wpAny_ready (rs := [15]) (by kernel_rfl) (by simp) ?_
          refine AllReady.cons rfl (fun K hK => ?_) AllReady.nil
          refine wp_append_own v7 (.tmp 61) (.tmp 75) 86 rfl v3.heap.size 28 i2 (.agg #[.int .i64 0, .int .i64 0]) 2 16 Try.underlying86 hj2 hx0 hx1 hx2 rfl (by decide) (.slice sa k sc) k _ rfl ho6 ⟨B6, 0, none⟩ 1 1 [.int .i64 m0, .int .i64 m1] rfl rfl (fun j u h => by rw [Go.WideShapes.add_plain, Nat.zero_add]; exact (hn' j u h).1) (fun u hu => by simp only [List.mem_cons, List.not_mem_nil, or_false] at hu; rcases hu with rfl | rfl <;> rfl) (by unfold maxLen; omega) (by omega) (by omega) ?_
          intro v39 w7 ho7 hg7 hnil7
          refine hK _ _ ?_
          clear hK K hnil7
          have hb8 := Pb.below_grown (bnext (w := v3) hb1 hb7) hg7 ho6 (by omega) (Nat.le_refl _)
          rw [cellsS_snoc] at ho7
          clear hg7 ho6 hn'
          refine wpAny_ready (rs := [16]) (by kernel_rfl) (by simp) ?_
          refine AllReady.cons rfl (fun K hK => ?_) AllReady.nil
          go_simp
          refine hK _ _ ?_; clear hK K
          refine wpAny_done (by kernel_rfl) ?_ _
          have HSM8 := hid (smallS_put HSM.out b0 b1)
          go_wp2_with fail
          go_roundg (M - (k + 1))
          case measure => have h := HGK.out; omega
          case rel => exact ⟨k + 1, _, by omega, rfl, by go_num, hid (by rw [List.length_append, HSL.out]; rfl), ho7, HSM8, hb8⟩
        · obtain rfl : k = M := by omega
          have hkk := HM.out
          by_cases hkn : k < rn
          · have hki : (k : Int) < (rn : Int) := by omega
            have hk5 : ¬ (k : Int) < 6 := by omega
            clear hkk
            go_wp2_with fail
            go_meet
            exact ⟨sps, rfl, HSL, hs, HSM, hb1⟩
          · have hki : ¬ (k : Int) < (rn : Int) := by omega
            clear hkk
            go_wp2_with fail
            go_meet
            exact ⟨sps, rfl, HSL, hs, HSM, hb1⟩
    case rest =>
      obtain ⟨sps, rfl, HSL, hs, HSM, hb1⟩ := hcut
      obtain ⟨v5, hv5⟩ : ∃ v, v = wc := ⟨_, rfl⟩
      subst hv5
      obtain ⟨sa, sc, rfl, -⟩ := owns_shape hs
      have hKb : K ≤ 5 := by (have h := HK.out; omega)
      have hMb : M ≤ 6 := by (have h := HM.out; omega)
      replace ho := owns_below ho hb1
      have hU5 := hid (HU.out.below hb1)
      have hB5 := bnext (w := w) hB3 hb1
      have hz5 := hb1.size
      clear HU hB3 hb1
      obtain ⟨rr, hrr⟩ : ∃ r, seatA bs sps = r := ⟨_, rfl⟩
      obtain ⟨r, c⟩ := rr
      have HRR := hid hrr
      clear hrr
      have HBN := hid (bns_own ho HBL.out (by omega) hU5.out)
      have HSR := hid (spots_own hs HSL.out (smallS_i64 HSM.out))
      go_wp2_with fail
      refine (Seat_any HBN.out HSR.out (fun h => inP_rows2 HSR.out h)).mono ?_
      unfold SeatP
      rw [HRR.out]
      rintro e v6 ⟨z1, rfl, hb, hz1⟩
      dsimp only at hz1 ⊢
      replace ho := owns_below ho hb; replace hs := owns_below hs hb
      have hU6 := hid (hU5.out.below hb)
      have hB6 := bnext (w := w) hB5 hb
      have hz6 := hb.size
      clear hb hB5 HBN HSR hU5
      by_cases hc3 : c = 3
      · subst hc3
        go_wp2_with fail
        go_ret
        exact ⟨rfl, hB6⟩
      · obtain ⟨hc0, ⟨hso, hrl0, hfit⟩, hwide⟩ : c = 0 ∧ (SeatOk M r ∧ r.length = K ∧ ∀ i j, r[i]? = some j → fitsR bs sps i j = true) ∧ ∀ k, ∃ r', seatA bs (wider sps k) = (r', 0) := by (have h9 := fun k => seatA_wide (k := k) HBK.out (smallS_ok HSM.out) (wider_ok HSM.out) (by rw [HBL.out]; omega) (by rw [HSL.out]; omega) HRR.out hc3; obtain ⟨g1, g2, -⟩ := h9 0; rw [HSL.out, HBL.out] at g2; exact ⟨g1, g2, fun k => (h9 k).2.2⟩)
        subst hc0
        have HSO := hid hso; have HRL := hid hrl0; have HFIT := hid hfit; have HWIDE := hid hwide
        clear hso hrl0 hfit hwide hc3
        obtain ⟨za, zc, rfl, hzl⟩ := hz1.shape
        rw [castN_len, HRL.out] at hz1 hzl
        (try rw [castN_len, HRL.out])
        go_wp2_with fail
        go_loopg [14] K (fun gk iv wr => ∃ k : Nat, k ≤ K ∧ gk = K - k ∧ iv = .int .i64 (k : Int) ∧ Below v6.heap.size v6 wr)
        case atStart => exact ⟨0, Nat.zero_le _, rfl, rfl, Below.refl _ _⟩
        case round =>
          obtain ⟨k, hk0, hgk, rfl, hb1⟩ := hrel
          have HGK := hid hgk; clear hgk
          by_cases hlt : k < K
          · obtain ⟨q, hq⟩ : ∃ q, r[k]? = some q := ⟨_, List.getElem?_eq_getElem (by rw [HRL.out]; exact hlt)⟩
            have hqM : q < M := HSO.out.2 q (List.mem_of_getElem? hq)
            have hhas := take_has HSO.out.1 hq
            have HH := hid hhas; have HQ := hid hq; clear hhas
            have hzn := hz1.below hb1
            obtain ⟨p', hpa, p0⟩ := (show NumsAt wr (.slice za (castN r).length zc) (castN r) by rw [castN_len, HRL.out]; exact hzn).elem (k := k) (by rw [castN_len, HRL.out]; exact hlt)
            subst hpa
            have hce : (castN r)[k]'(by rw [castN_len, HRL.out]; exact hlt) = (q : Int) := Option.some.inj ((List.getElem?_eq_getElem _).symm.trans (by unfold castN; rw [List.getElem?_map, hq]; rfl))
            rw [hce] at p0
            have hlat := nums_LAt hzn
            rw [castN_len, HRL.out] at hlat
            have hcap : K ≤ zc := by (obtain ⟨_, _, e, h9, -⟩ := hlat.shape; injection e with _ _ e3; omega)
            have HS1 := hid (hlat.head (k := k) (by omega))
            rw [take_cast] at HS1
            clear hlat hce hq
            have hki : (k : Int) < (K : Int) := by omega
            have hk00 : (0 : Int) ≤ (k : Int) := by omega
            have hkc : (k : Int) ≤ (zc : Int) := by omega
            have hq0 : ¬ (q : Int) < 0 := by omega
            have hq00 : (0 : Int) ≤ (q : Int) := by omega
            have hqMi : (q : Int) < (M : Int) := by omega
            have hqMn : ¬ (M : Int) ≤ (q : Int) := by omega
            go_upto_region 20 with fail
            refine wp_region_Rs [(15, NewEmpty wr.heap.size 3), (19, fun v W9 => W9.ownsRow wr.heap.size 3 1 v k ((castN (r.take k)).map (Value.int .i64))), (24, fun v _ => v = .bool false)] [0, 1, 2, 3, 4, 5, 6, 7, 8, 9, 10, 11, 12, 13, 14, 15, 16, 17, 18, 19, 20, 21, 22, 23, 24, 25] 0 (by kernel_rfl) rfl (by simp only [List.forall_mem_cons]; exact ⟨keeps_empty, keeps_owns, keeps_eq, fun _ h => by cases h⟩) (by kernel_rfl) ?_
            simp only [numbered, List.filterMap_cons, List.filterMap_nil, List.getElem?_toArray, List.getElem?_cons_succ, List.getElem?_cons_zero, Option.map_some]
            show wpS _ _ _ _ _ _ _ [(_, _), (_, _), (_, _), (_, _), (_, _), (_, _), (_, _), (_, _), (_, _), (_, _), (_, _), (_, _), (_, _), (_, _), (_, _), (_, _), (_, _), (_, _), (_, _), (_, _), (_, _), (_, _), (_, _), (_, _), (_, _), (_, _)] _ _
            (refine wpS_quiet rfl rfl ?_; intro K2 hK inst hx; have s0 := fun x => (fun _ => bkeep (BQ.below x) p0) (hx x); go_big_quiet_op; (first | go_big_quiet_on | (refine ⟨_, fun _ => rfl, ?_⟩; go_big_quiet_on)); clear hx inst)
            (refine wpS_quiet rfl rfl ?_; intro K2 hK inst hx; have s0 := fun x => (fun _ => bkeep (BQ.below x) p0) (hx x); go_big_quiet_op; (first | go_big_quiet_on | (refine ⟨_, fun _ => rfl, ?_⟩; go_big_quiet_on)); clear hx inst)
            (refine wpS_quiet rfl rfl ?_; intro K2 hK inst hx; have s0 := fun x => (fun _ => bkeep (BQ.below x) p0) (hx x); go_big_quiet_op; (first | go_big_quiet_on | (refine ⟨_, fun _ => rfl, ?_⟩; go_big_quiet_on)); clear hx inst)
            (refine wpS_quiet rfl rfl ?_; intro K2 hK inst hx; have s0 := fun x => (fun _ => bkeep (BQ.below x) p0) (hx x); go_big_quiet_op; (first | go_big_quiet_on | (refine ⟨_, fun _ => rfl, ?_⟩; go_big_quiet_on)); clear hx inst)
            (refine wpS_quiet rfl rfl ?_; intro K2 hK inst hx; have s0 := fun x => (fun _ => bkeep (BQ.below x) p0) (hx x); go_big_quiet_op; (first | go_big_quiet_on | (refine ⟨_, fun _ => rfl, ?_⟩; go_big_quiet_on)); clear hx inst)
            (refine wpS_quiet rfl rfl ?_; intro K2 hK inst hx; have s0 := fun x => (fun _ => bkeep (BQ.below x) p0) (hx x); go_big_quiet_op; (first | go_big_quiet_on | (refine ⟨_, fun _ => rfl, ?_⟩; go_big_quiet_on)); clear hx inst)
            (refine wpS_quiet rfl rfl ?_; intro K2 hK inst hx; have s0 := fun x => (fun _ => bkeep (BQ.below x) p0) (hx x); go_big_quiet_op; (first | go_big_quiet_on | (refine ⟨_, fun _ => rfl, ?_⟩; go_big_quiet_on)); clear hx inst)
            (refine wpS_quiet rfl rfl ?_; intro K2 hK inst hx; have s0 := fun x => (fun _ => bkeep (BQ.below x) p0) (hx x); go_big_quiet_op; (first | go_big_quiet_on | (refine ⟨_, fun _ => rfl, ?_⟩; go_big_quiet_on)); clear hx inst)
            (refine wpS_quiet rfl rfl ?_; intro K2 hK inst hx; have s0 := fun x => (fun _ => bkeep (BQ.below x) p0) (hx x); go_big_quiet_op; (first | go_big_quiet_on | (refine ⟨_, fun _ => rfl, ?_⟩; go_big_quiet_on)); clear hx inst)
            (refine wpS_quiet rfl rfl ?_; intro K2 hK inst hx; have s0 := fun x => (fun _ => bkeep (BQ.below x) p0) (hx x); go_big_quiet_op; (first | go_big_quiet_on | (refine ⟨_, fun _ => rfl, ?_⟩; go_big_quiet_on)); clear hx inst)
            (refine wpS_quiet rfl rfl ?_; intro K2 hK inst hx; have s0 := fun x => (fun _ => bkeep (BQ.below x) p0) (hx x); go_big_quiet_op; (first | go_big_quiet_on | (refine ⟨_, fun _ => rfl, ?_⟩; go_big_quiet_on)); clear hx inst)
            (refine wpS_quiet rfl rfl ?_; intro K2 hK inst hx; have s0 := fun x => (fun _ => bkeep (BQ.below x) p0) (hx x); go_big_quiet_op; (first | go_big_quiet_on | (refine ⟨_, fun _ => rfl, ?_⟩; go_big_quiet_on)); clear hx inst)
            (refine wpS_quiet rfl rfl ?_; intro K2 hK inst hx; have s0 := fun x => (fun _ => bkeep (BQ.below x) p0) (hx x); go_big_quiet_op; (first | go_big_quiet_on | (refine ⟨_, fun _ => rfl, ?_⟩; go_big_quiet_on)); clear hx inst)
            (refine wpS_quiet rfl rfl ?_; intro K2 hK inst hx; have s0 := fun x => (fun _ => bkeep (BQ.below x) p0) (hx x); go_big_quiet_op; (first | go_big_quiet_on | (refine ⟨_, fun _ => rfl, ?_⟩; go_big_quiet_on)); clear hx inst)
            (refine wpS_quiet rfl rfl ?_; intro K2 hK inst hx; have s0 := fun x => (fun _ => bkeep (BQ.below x) p0) (hx x); go_big_quiet_op; (first | go_big_quiet_on | (refine ⟨_, fun _ => rfl, ?_⟩; go_big_quiet_on)); clear hx inst)
            refine wpS_fresh rfl rfl (fun w' hb hF => ?_) ?_
            · change freshAt _ _ _ (NewEmpty wr.heap.size 3) _; unfold freshAt; go_simp; exact empty_of hb
            intro v W hv; simp only [pOf, List.lookup_cons, Nat.reduceBEq, beq_self_eq_true] at hv; obtain ⟨B0, hB0, rfl, -⟩ := hv
            simp only [Act.put, List.setIfInBounds_toArray, List.set_cons_succ, List.set_cons_zero]
            (refine wpS_quiet rfl rfl ?_; intro K2 hK inst hx; have s0 := fun x => (fun _ => bkeep (BQ.below x) p0) (hx x); go_big_quiet_op; (first | go_big_quiet_on | (refine ⟨_, fun _ => rfl, ?_⟩; go_big_quiet_on)); clear hx inst)
            (refine wpS_quiet rfl rfl ?_; intro K2 hK inst hx; have s0 := fun x => (fun _ => bkeep (BQ.below x) p0) (hx x); go_big_quiet_op; (first | go_big_quiet_on | (refine ⟨_, fun _ => rfl, ?_⟩; go_big_quiet_on)); clear hx inst)
            (refine wpS_quiet rfl rfl ?_; intro K2 hK inst hx; have s0 := fun x => (fun _ => bkeep (BQ.below x) p0) (hx x); go_big_quiet_op; (first | go_big_quiet_on | (refine ⟨_, fun _ => rfl, ?_⟩; go_big_quiet_on)); clear hx inst)
            refine wpS_fresh rfl rfl (fun w' hb hF => ?_) ?_
            · change freshAt _ _ _ (fun v W9 => W9.ownsRow wr.heap.size 3 1 v k ((castN (r.take k)).map (Value.int .i64))) _; have h0 : NewEmpty wr.heap.size 3 _ w' := hF 15 _ rfl (by kernel_rfl); exact fresh_append_lat (.tmp 120) (.tmp 123) 41 rfl wr.heap.size 3 i1 (.int .i64 0) 1 8 Try.underlying41 hj1 hy0 hy1 hy2 rfl (by decide) (.slice (some ⟨B0, 0, none⟩) 0 0) rfl h0 (.slice (some p') k zc) k _ rfl (HS1.out.below hb) (by unfold maxLen; omega) (by omega) hb.size
            intro v W hv; simp only [pOf, List.lookup_cons, Nat.reduceBEq, beq_self_eq_true] at hv; obtain ⟨ga, gc, rfl, -⟩ := owns_shape hv
            simp only [Act.put, List.setIfInBounds_toArray, List.set_cons_succ, List.set_cons_zero]
            (refine wpS_quiet rfl rfl ?_; intro K2 hK inst hx; have s0 := fun x => (fun _ => bkeep (BQ.below x) p0) (hx x); go_big_quiet_op; (first | go_big_quiet_on | (refine ⟨_, fun _ => rfl, ?_⟩; go_big_quiet_on)); clear hx inst)
            (refine wpS_quiet rfl rfl ?_; intro K2 hK inst hx; have s0 := fun x => (fun _ => bkeep (BQ.below x) p0) (hx x); go_big_quiet_op; (first | go_big_quiet_on | (refine ⟨_, fun _ => rfl, ?_⟩; go_big_quiet_on)); clear hx inst)
            (refine wpS_quiet rfl rfl ?_; intro K2 hK inst hx; have s0 := fun x => (fun _ => bkeep (BQ.below x) p0) (hx x); go_big_quiet_op; (first | go_big_quiet_on | (refine ⟨_, fun _ => rfl, ?_⟩; go_big_quiet_on)); clear hx inst)
            (refine wpS_quiet rfl rfl ?_; intro K2 hK inst hx; have s0 := fun x => (fun _ => bkeep (BQ.below x) p0) (hx x); go_big_quiet_op; (first | go_big_quiet_on | (refine ⟨_, fun _ => rfl, ?_⟩; go_big_quiet_on)); clear hx inst)
            refine wpS_fresh rfl rfl (fun w' hb hF => ?_) ?_
            · change freshAt _ _ _ (fun v _ => v = .bool false) _; have h19 : w'.ownsRow wr.heap.size 3 1 _ k ((castN (r.take k)).map (Value.int .i64)) := hF 19 _ rfl (by kernel_rfl); unfold freshAt; go_simp; exact has_eq (numsAt_of_owns (zs := castN (r.take k)) (take_i64 HSO.out (by omega)) (by rw [castN_len, List.length_take, HRL.out, Nat.min_eq_left (by omega)]; exact h19)) HH.out
            intro v W hv; simp only [pOf, List.lookup_cons, Nat.reduceBEq, beq_self_eq_true] at hv; subst hv
            simp only [Act.put, List.setIfInBounds_toArray, List.set_cons_succ, List.set_cons_zero]
            (refine wpS_quiet rfl rfl ?_; intro K2 hK inst hx; have s0 := fun x => (fun _ => bkeep (BQ.below x) p0) (hx x); go_big_quiet_op; (first | go_big_quiet_on | (refine ⟨_, fun _ => rfl, ?_⟩; go_big_quiet_on)); clear hx inst)
            refine wpS_nil ?_
            intro w2 hall
            have hb2 := hall.1
            clear hall
            have hb9 := bnext (w := v6) hb1 hb2
            clear hb1 hb2 p0 hzn
            refine wpAny_done (by kernel_rfl) ?_ _
            have hzn := hz1.below hb9
            obtain ⟨p9, hpa, p0⟩ := (show NumsAt w2 (.slice (some p') (castN r).length zc) (castN r) by rw [castN_len, HRL.out]; exact hzn).elem (k := k) (by rw [castN_len, HRL.out]; exact hlt)
            injection hpa with hpa
            subst hpa
            have hce : (castN r)[k]'(by rw [castN_len, HRL.out]; exact hlt) = (q : Int) := Option.some.inj ((List.getElem?_eq_getElem _).symm.trans (by unfold castN; rw [List.getElem?_map, HQ.out]; rfl))
            rw [hce] at p0
            clear hce hzn
            obtain ⟨⟨lo1, hi1, l1⟩, hbk⟩ : ∃ b, bs[k]? = some b := ⟨_, List.getElem?_eq_getElem (by rw [HBL.out]; exact hlt)⟩
            obtain ⟨⟨cr, le⟩, hsq⟩ : ∃ s, sps[q]? = some s := ⟨_, List.getElem?_eq_getElem (by rw [HSL.out]; exact hqM)⟩
            have hfr : fitR lo1 hi1 l1 cr le = (1, 0) := by (have h9 := HFIT.out k q HQ.out; unfold fitsR at h9; rw [hbk, hsq] at h9; have h8 := of_decide_eq_true h9; dsimp only at h8; have h7 := bsOk_iff.1 HBK.out _ (List.mem_of_getElem? hbk); dsimp only at h7; unfold fitR; rw [if_pos h7, if_pos (spsOk_iff.1 (smallS_ok HSM.out) _ (List.mem_of_getElem? hsq)), h8])
            have HFR := hid hfr; clear hfr
            obtain ⟨g, ua, uc, e1, e3, e4, e5, e6⟩ := bns_row ((bns_own ho HBL.out (by omega) hU6.out).keep (keepP_low hb9 (fun _ h => h))) hbk
            subst e1
            obtain ⟨sg, es, t0, t1⟩ := sp_row ((spots_own hs HSL.out (smallS_i64 HSM.out)).below hb9) HSL.out hsq
            subst es
            dsimp only at e3 e4 e5 e6 t0 t1
            clear hbk hsq
            go_upto_region 22 with fail
            obtain ⟨v9, hv9⟩ : ∃ v, v = w2 := ⟨_, rfl⟩
            subst hv9
            have s0 := fun z : BW v9 => bkeep z.below p0
            have s1 := fun z : BW v9 => bkeep z.below e3
            have s2 := fun z : BW v9 => bkeep z.below e4
            have s3 := fun z : BW v9 => bkeep z.below e5
            have s4 := fun z : BW v9 => bkeep z.below t0
            have s5 := fun z : BW v9 => bkeep z.below t1
            refine wp_region_qb (by kernel_rfl) (by kernel_rfl) fun hc => ?_
            repeat (go_big_quiet_step ((go_at_call 40; exact BW.call _ (fitsP (e6.below (BW.below _)) HFR.out))))
            refine wpQuiet_nil ?_
            intro w4 hb
            replace hb9 := bnext (w := v6) hb9 hb
            clear hb e6 p0 e3 e4 e5 t0 t1 s0 s1 s2 s3 s4 s5
            go_wp2_with fail
            go_roundg (K - (k + 1))
            case measure => have h := HGK.out; omega
            case rel => exact ⟨k + 1, by omega, rfl, by go_num, hb9⟩
          · obtain rfl : k = K := by omega
            have hkk : ¬ (k : Int) < (k : Int) := by omega
            have hB7 := bnext (w := w) hB6 hb1
            replace ho := owns_below ho hb1; replace hs := owns_below hs hb1
            have hU7 := hid (hU6.out.below hb1)
            have hz7 := hb1.size
            clear hb1 hU6
            obtain ⟨v7, hv7⟩ : ∃ v, v = wr := ⟨_, rfl⟩
            subst hv7
            by_cases hM0 : M = 0
            · have hMb : ((M : Int) == 0) = true := by rw [hM0]; rfl
              have hMz : (M : Int) = 0 := by omega
              go_wp2_with fail
              go_ret
              exact ⟨rfl, hB7⟩
            have hMb : ((M : Int) == 0) = false := beq_eq_false_iff_ne.mpr (by omega)
            have hMz : ¬ (M : Int) = 0 := by omega
            have HLS := hid (lat_own hs (cellsS_one sps))
            obtain ⟨m, hm⟩ : ∃ m, x % (M : Int) = m := ⟨_, rfl⟩
            have hmb := mod_in hm (by omega)
            have HMM := hid hm
            clear hm
            obtain ⟨q, rfl⟩ : ∃ q : Nat, m = (q : Int) := ⟨m.toNat, by omega⟩
            have hqM : q < M := by omega
            obtain ⟨⟨cr, le⟩, hsq⟩ : ∃ s, sps[q]? = some s := ⟨_, List.getElem?_eq_getElem (by rw [HSL.out]; exact hqM)⟩
            have hsb := HSM.out _ (List.mem_of_getElem? hsq)
            dsimp only at hsb
            obtain ⟨r2, hw2⟩ := HWIDE.out q
            have HW2 := hid hw2; clear hw2
            have HSQ := hid hsq; clear hsq
            go_wp2_with (at_builtin; go_must (refine wpList_append_lat rfl _ _ 86 rfl v7.heap.size 28 i2 (.agg #[.int .i64 0, .int .i64 0]) 2 16 Try.underlying86 hj2 hx0 hx1 hx2 rfl (by decide) (.slice (some ⟨v7.heap.size, 0, none⟩) 0 0) 0 [] rfl (owns_empty v7 28 2) (.slice sa M sc) M _ rfl (HLS.out.below ((Below.refl _ _).alloc (Nat.le_refl _) _)) (by unfold maxLen; omega) (by omega) (by simp) ?_; intro v24 w8 ho8 hg8; have hb8 := Pb.below_grown ((Below.refl v7.heap.size v7).alloc (Nat.le_refl _) _) hg8 (owns_empty v7 28 2) (by simp) (Nat.le_refl _); rw [Nat.zero_add, List.nil_append] at ho8; obtain ⟨g, gc, rfl, -, -⟩ := own_some ho8 (by omega); clear hg8))
            refine (modB HMM.out (by omega) (by omega)).mono ?_
            rintro e wm ⟨rfl, rfl⟩
            have hwc : IntKind.i64.wrap (cr + 100) = cr + 100 := IntWalk.i64_in _ (by omega)
            have hwl : IntKind.i64.wrap (le + 5) = le + 5 := IntWalk.i64_in _ (by omega)
            have hqi : (q : Int) < (M : Int) := by omega
            have hq0 : (0 : Int) ≤ (q : Int) := by omega
            obtain ⟨c8, c9⟩ := cellsS_at HSQ.out
            have p0 := ho8.cells (g := g) rfl _ _ c8; have p1 := ho8.cells (g := g) rfl _ _ c9
            rw [Go.WideShapes.add_plain, Nat.zero_add] at p0 p1
            have f0 := owns_frozen ho8 rfl (q * 2); have f1 := owns_frozen ho8 rfl (q * 2 + 1)
            dsimp only at p0 p1
            clear c8 c9
            go_upto_region 31 with fail
            have ho9 := Go.Pb.Sag.own_set (k := q * 2 + 1) (v := .int .i64 (le + 5)) (Go.Pb.Sag.own_set (k := q * 2) (v := .int .i64 (cr + 100)) ho8)
            have hgw : v7.heap.size ≤ g := (World.ownsRow.lt ho8 g rfl).1
            have hb9 := (hb8.setCell (p := ⟨g, q * 2, none⟩) hgw (.int .i64 (cr + 100))).setCell (p := ⟨g, q * 2 + 1, none⟩) hgw (.int .i64 (le + 5))
            rw [cellsS_set (cr + 100) (le + 5) HSQ.out, ← show wider sps q = sps.set q (cr + 100, le + 5) from wider_set HSQ.out] at ho9
            clear ho8 hb8 p0 p1 f0 f1
            generalize (World.setCell _ _ _ : World) = w9 at *
            have hB9 := bnext (w := w) hB7 hb9
            have HBN := hid (bns_own (owns_below ho hb9) HBL.out (by omega) (hU7.out.below hb9))
            have HSR := hid (spots_own ho9 ((wider_len sps q).trans HSL.out) (wider_i64 HSM.out))
            go_wp2_with fail
            refine (Seat_any HBN.out HSR.out (fun h => inP_rows2 HSR.out h)).mono ?_
            unfold SeatP
            rw [HW2.out]
            rintro e v6 ⟨z1, rfl, hb, hz1⟩
            have hB10 := bnext (w := w) hB9 hb
            clear hb hz1
            dsimp only
            go_wp2_with fail
            go_ret
            exact ⟨rfl, hB10⟩

end Go.Proofs.Ytnchhleokdkejaa
