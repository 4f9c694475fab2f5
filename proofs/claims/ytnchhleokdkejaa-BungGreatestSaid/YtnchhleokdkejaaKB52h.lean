/- The state of a seating: what a try keeps, and the map of its marks. -/
import Derived.Test.YtnchhleokdkejaaKB27h
import Derived.Test.YtnchhleokdkejaaKSch
import Derived.Test.YtnchhleokdkejaaKTdh
import Derived.Deep.DeepMust
import Derived.Test.YtnchhleokdkejaaKInRoundh
import Derived.Test.YtnchhleokdkejaaKW7h
import Derived.Test.YtnchhleokdkejaaKCbh
import Derived.Deep.LoopGhost
import Derived.Deep.CutBlock
import Derived.Test.YtnchhleokdkejaaKB6h
import Derived.RangeFuncBox
import Derived.RangeFuncKeeps
import Derived.RangeFuncBound
import Derived.RangeFuncLeaves
import Derived.TacticsInMore
import Derived.Laws.EntriesVeiled
import Derived.WalkMore
import Derived.RangeFuncNested
import Derived.RangeFuncCalls
namespace Go.Pb.Bung
open Go Go.Pb Go.RowKit Go.Maps
set_option linter.unusedVariables false
set_option linter.unusedSimpArgs false
/-- A block that a try keeps: lower than its own, or of another kind than what it appends to. -/
def Guarded (T : TypeId) (lo b : Nat) (w : World) : Prop := b < lo ∨ ∀ c g, w.heap[b]? ≠ some (.cells c T g)
/-- What a try keeps: all but the blocks X and M, and rows of its own. -/
structure Keep1 (T : TypeId) (lo X M : Nat) (w w' : World) : Prop where
  os : w'.os = w.os
  tape : w'.tape = w.tape
  output : w'.output = w.output
  size : w.heap.size ≤ w'.heap.size
  block : ∀ b, b < w.heap.size → b ≠ X → b ≠ M → Guarded T lo b w → w'.heap[b]? = w.heap[b]?
theorem Keep1.refl {T : TypeId} {lo X M : Nat} {w : World} : Keep1 T lo X M w w := ⟨rfl, rfl, rfl, Nat.le_refl _, fun _ _ _ _ _ => rfl⟩
theorem Keep1.trans {T : TypeId} {lo X M : Nat} {w w1 w2 : World} (h : Keep1 T lo X M w w1) (h' : Keep1 T lo X M w1 w2) : Keep1 T lo X M w w2 := by
  refine ⟨h'.os.trans h.os, h'.tape.trans h.tape, h'.output.trans h.output, Nat.le_trans h.size h'.size, fun b hb hX hM hg => ?_⟩
  have e := h.block b hb hX hM hg
  rw [← e]
  refine h'.block b (Nat.lt_of_lt_of_le hb h.size) hX hM ?_
  rcases hg with hg | hg
  · exact Or.inl hg
  · exact Or.inr fun c g => by rw [e]; exact hg c g
theorem Keep1.of_below {T : TypeId} {lo X M : Nat} {w w' : World} (h : Below w.heap.size w w') : Keep1 T lo X M w w' :=
  ⟨h.os, h.tape, h.output, h.size, fun b hb _ _ _ => h.block b hb⟩
theorem Keep1.set {T : TypeId} {lo X M o : Nat} {w : World} {u : Value} : Keep1 T lo X M w (w.setCell ⟨X, o, none⟩ u) :=
  ⟨rfl, rfl, rfl, by simp, fun b _ hX _ _ => Below.heap_setCell _ _ _ b hX⟩
theorem Keep1.heap {T : TypeId} {lo X M b : Nat} {w w' : World} {o : Obj} (h : Keep1 T lo X M w w') (hb : w.heap[b]? = some o) (hX : b ≠ X) (hM : b ≠ M) (hT : ∀ c g, o ≠ .cells c T g) : w'.heap[b]? = some o :=
  (h.block b (Array.getElem?_eq_some_iff.1 hb).1 hX hM (Or.inr fun c g e => hT c g (by rw [hb] at e; injection e))).trans hb
/-- Down to a world where X, M and the rows are not yet. -/
theorem Keep1.below {T : TypeId} {lo X M : Nat} {w0 w w' : World} (h : Keep1 T lo X M w w') (hb : Below w0.heap.size w0 w) (h1 : w0.heap.size ≤ lo) (hX : w0.heap.size ≤ X) (hM : w0.heap.size ≤ M) : Below w0.heap.size w0 w' :=
  ⟨h.os.trans hb.os, h.tape.trans hb.tape, h.output.trans hb.output, Nat.le_trans hb.size h.size, fun k hk =>
    (h.block k (Nat.lt_of_lt_of_le hk hb.size) (by omega) (by omega) (Or.inl (by omega))).trans (hb.block k hk)⟩
/-- The map in block M has the marks ks, all true. -/
def MapS (P : Program) (K E : TypeId) (M : Nat) (ks : List (List Bool)) (W : World) : Prop := ∃ D : DataW Unit, W.ownsMap P K (plainElem P E) M ks.length D ∧ ks.Nodup ∧ (∀ b ∈ ks, b.length = 9) ∧
  ∀ bs kl, bs.length = 9 → keyOf P K (keyV bs) = some kl → has D kl = decide (bs ∈ ks) ∧ (bs ∈ ks → D.atKey kl (.lit (.bool false)) = .lit (.bool true))
theorem MapS.start (P : Program) (K E : TypeId) (W : World) : MapS P K E W.heap.size [] (W.alloc (.map #[] 0)) :=
  ⟨.map [], World.ownsMap_made _ _ _ _, List.nodup_nil, fun b hb => by simp at hb, fun bs kl _ _ => ⟨rfl, fun h => by simp at h⟩⟩
theorem MapS.put {P : Program} {K E : TypeId} {M : Nat} {W W' : World} {ks : List (List Bool)} {D : DataW Unit} (KL : Keyed P K) (ho : W.ownsMap P K (plainElem P E) M ks.length D) (hn : ks.Nodup) (h9 : ∀ b ∈ ks, b.length = 9)
    (hk : ∀ bs kl, bs.length = 9 → keyOf P K (keyV bs) = some kl → has D kl = decide (bs ∈ ks) ∧ (bs ∈ ks → D.atKey kl (.lit (.bool false)) = .lit (.bool true)))
    {bs : List Bool} {kl : Lit} (hb : bs.length = 9) (hkey : keyOf P K (keyV bs) = some kl) (hno : ¬ bs ∈ ks) (ho' : W'.ownsMap P K (plainElem P E) M (ks.length + 1) (D.put kl (.lit (.bool true)))) : MapS P K E M (bs :: ks) W' := by
  have hm := (ho.tidy KL).isMap
  have hik := KL.key hkey
  refine ⟨_, ho', List.nodup_cons.2 ⟨hno, hn⟩, fun c hc => ?_, fun cs cl hc hcl => ?_⟩
  · rcases List.mem_cons.1 hc with rfl | hc
    · exact hb
    · exact h9 c hc
  · obtain ⟨h1, h2⟩ := hk cs cl hc hcl
    by_cases e : cs = bs
    · subst e
      have : cl = kl := by rw [hkey] at hcl; injection hcl with hcl; exact hcl.symm
      subst this
      refine ⟨?_, fun _ => ?_⟩
      · rw [has_put_same hm hik]; simp
      · rw [atKey_put_same hm hik]
    · have hne : cl ≠ kl := fun e2 => e (keyV_inj (KL.inj (e2 ▸ hcl) hkey))
      refine ⟨?_, fun hin => ?_⟩
      · rw [has_put_other hne, h1]; simp [e]
      · rw [atKey_put_other hne]
        rcases List.mem_cons.1 hin with h3 | h3
        · exact absurd h3 e
        · exact h2 h3
theorem MapS.block {P : Program} {K E : TypeId} {M : Nat} {ks : List (List Bool)} {W W' : World} (h : MapS P K E M ks W) (hb : W'.heap[M]? = W.heap[M]?) : MapS P K E M ks W' := by
  obtain ⟨D, h1, h2⟩ := h
  exact ⟨D, ownsMap_block h1 hb, h2⟩
theorem MapS.lt {P : Program} {K E : TypeId} {M : Nat} {ks : List (List Bool)} {W : World} (h : MapS P K E M ks W) : M < W.heap.size := by
  obtain ⟨D, h1, _⟩ := h
  exact h1.lt
theorem MapS.below {P : Program} {K E : TypeId} {M : Nat} {ks : List (List Bool)} {W W' : World} (h : MapS P K E M ks W) (hb : Below W.heap.size W W') : MapS P K E M ks W' := h.block (hb.block M h.lt)
/-- A map is no row. -/
theorem MapS.own {P : Program} {K E T : TypeId} {M lo n s : Nat} {ks : List (List Bool)} {W W' : World} {v : Value} {xs : List Value} (h : MapS P K E M ks W) (ho : W.ownsRow lo T s v n xs) (hg : W.grownBy W' v.ownBlock) : MapS P K E M ks W' := by
  refine h.block (hg.block M h.lt fun e => ?_)
  obtain ⟨D, ⟨es, clock, h1, h2⟩, _⟩ := h
  rcases ho.2 with ⟨h3, _⟩ | ⟨g, cap, cur, h3, h4, h5, _⟩
  · subst h3; simp [Value.ownBlock] at e
  · subst h3
    simp [Value.ownBlock] at e
    subst e
    rw [h1] at h5; cases h5
theorem MapS.set {P : Program} {K E : TypeId} {M X o : Nat} {ks : List (List Bool)} {W : World} {u : Value} (h : MapS P K E M ks W) (hX : X ≠ M) : MapS P K E M ks (W.setCell ⟨X, o, none⟩ u) :=
  h.block (Below.heap_setCell _ _ _ M (fun e => hX e.symm))
/-- The row of a try, cut by its last. -/
theorem own_cut {w : World} {lo T n cap : Nat} {a : Option Addr} {xs ys : List Value} (h : w.ownsRow lo T 1 (.slice a (n + 1) cap) (n + 1) (xs ++ ys)) (hx : xs.length = n) : w.ownsRow lo T 1 (.slice a n cap) n xs := by
  refine ⟨by omega, ?_⟩
  rcases h.2 with ⟨h1, h2⟩ | ⟨g, cap', cur, h1, h2, h3, h4, h5, h6, h7⟩
  · omega
  · injection h1 with e1 e2 e3
    subst e1; subst e3
    refine .inr ⟨g, cap, cur, rfl, h2, h3, by omega, h5, h6, ?_⟩
    have h8 := congrArg (List.take (n * 1)) h7
    rw [List.take_take, Nat.mul_one, Nat.mul_one, Nat.min_eq_left (by omega), List.take_left' hx] at h8
    rw [Nat.mul_one]
    exact h8
end Go.Pb.Bung

/- One try of a seating. -/
namespace Go.Proofs.Ytnchhleokdkejaa
open Go.RowKit Go.Pb Go.Pb.Ware Go.Pb.Sag
set_option linter.unusedVariables false
set_option linter.unusedSimpArgs false

open Go.Proofs Go.Maps Go.Pb.Bung
/-- Bungs, in blocks that p holds of. -/
def BnsIn (p : Nat → Prop) (w : World) (v : Value) (bs : List (Int × Int × List Sg)) : Prop := ∃ (a : Option Addr) (cap : Nat), v = .slice a bs.length cap ∧ bs.length ≤ 9223372036854775807 ∧ ∀ k b, bs[k]? = some b → ∃ (g : Addr) (u : Value), a = some g ∧ p g.block ∧
  w.cell? (g.add (k * 3)) = some (.int .i64 b.1) ∧ w.cell? ⟨(g.add (k * 3)).block, (g.add (k * 3)).off + 1, none⟩ = some (.int .i64 b.2.1) ∧ w.cell? ⟨(g.add (k * 3)).block, (g.add (k * 3)).off + 2, none⟩ = some u ∧ RowsAt 8 w u (b.2.2.map rowG) ∧ (b.2.2.map rowG ≠ [] → InP p u)
theorem BnsIn.keep {p : Nat → Prop} {w w' : World} {v : Value} {bs : List (Int × Int × List Sg)} (h : BnsIn p w v bs) (hk : KeepP p w w') : BnsIn p w' v bs := by
  obtain ⟨a, cap, h1, h2, h3⟩ := h
  refine ⟨a, cap, h1, h2, fun k b hb => ?_⟩
  obtain ⟨g, u, e1, e2, e3, e4, e5, e6, e7⟩ := h3 k b hb
  exact ⟨g, u, e1, e2, hk.cell (by rw [block_add]; exact e2) e3, hk.cell (by show p (g.add (k * 3)).block; rw [block_add]; exact e2) e4, hk.cell (by show p (g.add (k * 3)).block; rw [block_add]; exact e2) e5, rows_keepP e6 e7 hk, e7⟩
def cellsN (l : List Nat) : List Value := l.map fun k : Nat => Value.int .i64 (k : Int)
end Go.Proofs.Ytnchhleokdkejaa

/- Rising lists of indices, yielded one behind the other. -/
namespace Go.Proofs.Ytnchhleokdkejaa
open Go.RowKit Go.Pb Go.Pb.Ware Go.Pb.Sag
set_option linter.unusedVariables false
set_option linter.unusedSimpArgs false

open Go.Proofs Go.Maps Go.Pb.Bung
attribute [local go_sem] Oper.semAt_some
/-- A list that is yielded, and its slice. -/
abbrev El := List Nat × Value
/-- What the choices hold in memory: the list so far, how many are wanted, what is to be called, below what. -/
structure ChS (l lo X Mb Yb Nb Cb many n : Nat) (V : World) (p : List Nat) (v : Value) : Prop where
  x : Boxed V X 41 v
  own : V.ownsRow lo 3 1 v p.length (cellsN p)
  m : Boxed V Mb 3 (.int .i64 (many : Int))
  y : Boxed V Yb 141 (.func (.yield l) #[] #[])
  nn : Boxed V Nb 3 (.int .i64 (n : Int))
  c : Boxed V Cb 128 (.func (.func 135) #[] #[.pointer (some ⟨X, 0, none⟩), .pointer (some ⟨Mb, 0, none⟩), .pointer (some ⟨Yb, 0, none⟩), .pointer (some ⟨Nb, 0, none⟩), .pointer (some ⟨Cb, 0, none⟩)])
theorem own_all {W W' : World} {lo T s n : Nat} {v : Value} {xs : List Value} (h : W.ownsRow lo T s v n xs) (hk : KeepsAll lo W W') : W'.ownsRow lo T s v n xs := by
  refine ⟨h.1, ?_⟩
  rcases h.2 with h1 | ⟨g, cap, cur, h1, h2, h3, h4⟩
  · exact .inl h1
  · exact .inr ⟨g, cap, cur, h1, h2, (hk.same g h2 (Array.getElem?_eq_some_iff.1 h3).1).trans h3, h4⟩
theorem boxed_ne {W : World} {B C t u : Nat} {v v' : Value} (h : Boxed W B t v) (h' : Boxed W C u v') (hne : t ≠ u) : B ≠ C := by
  rintro rfl
  have e := (show W.heap[B]? = _ from h).symm.trans h'
  simp at e
  exact hne e.2
theorem row_ne {W : World} {lo T s n B : Nat} {v : Value} {xs : List Value} (h : W.ownsRow lo T s v n xs) (hB : B < lo) : some B ≠ v.ownBlock := fun e => by
  have := (World.ownsRow.lt h B e.symm).1
  omega
theorem ChS.keep {l lo lo0 hi0 X Mb Yb Nb Cb many n : Nat} {V V' : World} {p : List Nat} {v : Value} (h : ChS l lo X Mb Yb Nb Cb many n V p v) (hM : lo0 ≤ Mb ∧ Mb < hi0) (hN : lo0 ≤ Nb ∧ Nb < hi0) (hX : lo ≤ X ∧ lo ≤ Yb ∧ lo ≤ Cb) (h1 : KeepSeg lo0 hi0 V V') (h2 : KeepsAll lo V V') : ChS l lo X Mb Yb Nb Cb many n V' p v :=
  ⟨(h2.same _ hX.1 h.x.lt).trans h.x, own_all h.own h2, (h1.2 _ hM.1 hM.2).trans h.m, (h2.same _ hX.2.1 h.y.lt).trans h.y, (h1.2 _ hN.1 hN.2).trans h.nn, (h2.same _ hX.2.2 h.c.lt).trans h.c⟩
/-- One index more, in the list and in its box. -/
theorem ChS.put {l lo X Mb Yb Nb Cb many n k : Nat} {V w4 : World} {p : List Nat} {v v' : Value} {o : Obj} (h : ChS l lo X Mb Yb Nb Cb many n V p v) (hM : Mb < lo) (hN : Nb < lo) (hg : (V.alloc o).grownBy w4 v.ownBlock) (ho : w4.ownsRow lo 3 1 v' (p.length + 1) (cellsN p ++ [.int .i64 (k : Int)])) : ChS l lo X Mb Yb Nb Cb many n (w4.setCell ⟨X, 0, none⟩ v') (p ++ [k]) v' ∧ Boxed w4 X 41 v := by
  have hx := (h.x.alloc o).kept hg (h.x.not_row (by decide) h.own)
  have hy := (h.y.alloc o).kept hg (h.y.not_row (by decide) h.own)
  have hc := (h.c.alloc o).kept hg (h.c.not_row (by decide) h.own)
  have hm := (h.m.alloc o).kept hg (row_ne h.own hM)
  have hn := (h.nn.alloc o).kept hg (row_ne h.own hN)
  have hs := grownBy_setCell' w4 X v'
  refine ⟨⟨hx.set v', ?_, hm.kept hs ?_, hy.kept hs ?_, hn.kept hs ?_, hc.kept hs ?_⟩, hx⟩
  · rw [List.length_append, List.length_singleton]
    unfold cellsN at ho ⊢
    rw [List.map_append]
    exact ho.kept hs (.inr (hx.not_row (by decide) ho).symm)
  · intro e; injection e with e; exact boxed_ne hm hx (by decide) e
  · intro e; injection e with e; exact boxed_ne hy hx (by decide) e
  · intro e; injection e with e; exact boxed_ne hn hx (by decide) e
  · intro e; injection e with e; exact boxed_ne hc hx (by decide) e
/-- The last one taken off. -/
theorem ChS.cut {l lo X Mb Yb Nb Cb many n k N cap : Nat} {V : World} {p : List Nat} {a : Option Addr} (h : ChS l lo X Mb Yb Nb Cb many n V (p ++ [k]) (.slice a (N + 1) cap)) (hp : p.length = N) : ChS l lo X Mb Yb Nb Cb many n (V.setCell ⟨X, 0, none⟩ (.slice a N cap)) p (.slice a N cap) := by
  have hs := grownBy_setCell' V X (.slice a N cap)
  have ho := h.own
  rw [List.length_append, List.length_singleton, hp] at ho
  have ho2 := own_cut (xs := cellsN p) (ys := [.int .i64 (k : Int)]) (by unfold cellsN at ho ⊢; rw [List.map_append] at ho; exact ho) (by unfold cellsN; rw [List.length_map]; exact hp)
  refine ⟨h.x.set _, ?_, h.m.kept hs ?_, h.y.kept hs ?_, h.nn.kept hs ?_, h.c.kept hs ?_⟩
  · rw [hp]
    exact ho2.kept hs (.inr (h.x.not_row (by decide) ho2).symm)
  · intro e; injection e with e; exact boxed_ne h.m h.x (by decide) e
  · intro e; injection e with e; exact boxed_ne h.y h.x (by decide) e
  · intro e; injection e with e; exact boxed_ne h.nn h.x (by decide) e
  · intro e; injection e with e; exact boxed_ne h.c h.x (by decide) e
theorem room_none (k : Nat) : Fence.wide.room k := fun d h => by cases h
theorem round_any {m m' : Nat} {P : Program} {l : Nat} {f : FuncId} {tmps : Array Value} {assign body : Code} {w : World} {R : Ending → World → Prop} (h : RoundIn Fence.wide m P l f tmps assign body w R) : RoundIn Fence.wide m' P l f tmps assign body w R := ⟨h.1, fun c cs _ => h.2 c cs (room_none _)⟩
theorem yield_any {m m' : Nat} {P : Program} {l : Nat} {args : Array Value} {W : World} {R : Ending → World → Prop} (h : YieldAt Fence.wide m P l args W R) : YieldAt Fence.wide m' P l args W R := by
  obtain ⟨fn, tmps, assign, body, hy, hR⟩ := h
  exact ⟨fn, tmps, assign, body, hy, round_any hR⟩
/-- The next list is yielded. -/
def NxE (all : List (List Nat)) (pre : List El) (x : El) : Prop := pre.map (·.1) ++ [x.1] <+: all
def MemE (x : El) (W : World) : Prop := NumsAt W x.2 (castN x.1)
/-- What the choices leave. -/
def ChPost (l lo X Mb Yb Nb Cb many n : Nat) (J Jx : List El → World → Prop) (all : List (List Nat)) (pre : List El) (cs : List (List Nat)) (p : List Nat) (e : Ending) (V' : World) : Prop :=
  (e = .returned (.bool true) ∧ ∃ pre' v', pre'.map (·.1) = pre.map (·.1) ++ cs ∧ J pre' V' ∧ ChS l lo X Mb Yb Nb Cb many n V' p v' ∧ lo ≤ V'.heap.size) ∨ (e = .returned (.bool false) ∧ ∃ pre', pre'.map (·.1) <+: all ∧ Jx pre' V')

set_option maxRecDepth 100000 in
set_option maxHeartbeats 2000000 in
theorem choose_in {l lo lo0 hi0 X Mb Yb Nb Cb many n : Nat} {J Jx : List El → World → Prop} {all : List (List Nat)}
    (hY : ∀ (m : Nat) (pre : List El) (x : El) (V : World), J pre V → MemE x V → NxE all pre x → lo ≤ V.heap.size → YieldAt Fence.wide m Try.prog l #[x.2] V fun e V' => (e = .returned (.bool true) ∧ J (pre ++ [x]) V' ∧ KeepSeg lo0 hi0 V V' ∧ KeepsAll lo V V') ∨ (e = .returned (.bool false) ∧ Jx (pre ++ [x]) V' ∧ KeepsAll lo V V'))
    (hJl : Low lo J) (hM : lo0 ≤ Mb ∧ Mb < hi0) (hN : lo0 ≤ Nb ∧ Nb < hi0) (hhi : hi0 ≤ lo) (hX : lo ≤ X ∧ lo ≤ Yb ∧ lo ≤ Cb) (hn9 : n ≤ 9) (hm9 : many ≤ 9) :
    ∀ (d k f : Nat) (p : List Nat) (v : Value) (pre : List El) (V : World) (rest : List (List Nat)), p.length + d = many → f ≤ n → (∀ q ∈ p, q < n) → ChS l lo X Mb Yb Nb Cb many n V p v → J pre V → pre.map (·.1) ++ combs n d f p ++ rest = all → lo ≤ V.heap.size →
    CallsIn Fence.wide k Try.prog 135 #[.int .i64 (f : Int), .pointer (some ⟨X, 0, none⟩), .pointer (some ⟨Mb, 0, none⟩), .pointer (some ⟨Yb, 0, none⟩), .pointer (some ⟨Nb, 0, none⟩), .pointer (some ⟨Cb, 0, none⟩)] V (ChPost l lo X Mb Yb Nb Cb many n J Jx all pre (combs n d f p) p) := by
  intro d
  induction d with
  | zero =>
    intro k f p v pre V rest hd hf hp hS hJ hall hlo
    obtain ⟨va, vc, rfl, -⟩ := owns_shape hS.own
    have hpm : p.length = many := by omega
    have q1 := hS.x.cell; have q2 := hS.m.cell; have q3 := hS.y.cell; have hme := hid (numsAt_of_owns (zs := castN p) (fun z hz => by (unfold castN at hz; obtain ⟨q, hq, rfl⟩ := List.mem_map.1 hz; have := hp q hq; exact I64.mk (by omega) (by omega))) (by rw [castN_len]; have h := hS.own; unfold cellsN at h; unfold castN; rw [List.map_map]; exact h))
    obtain ⟨fn, tmps, assign, body, hy, hR⟩ := hY (k - 1) pre (p, .slice va p.length vc) V hJ hme.out (by unfold NxE; rw [← hall, combs_zero]; exact ⟨rest, rfl⟩) hlo
    dsimp only at hy
    rw [hpm] at hy q1
    (try rw [hpm] at hR)
    have hmb : ((many : Int) == (many : Int)) = true := by simp
    refine callsIn_of_wp Try.func135 rfl trivial ?_ rfl
    simp only [Try.ntmps135, List.size_toArray, List.length_cons, List.length_nil, Nat.reduceAdd, Nat.reduceSub, Array.replicate_succ, Array.replicate_zero, List.push_toArray, List.append_toArray, List.nil_append, List.cons_append]
    gi_wp2
    refine ⟨fun h => (by cases h), RoundIn.mono hR ?_⟩
    clear hR
    rintro e W3 (⟨rfl, hJ5, hk5, hk6⟩ | ⟨rfl, hJx5, -⟩)
    · gi_wp2
      go_ret
      exact .inl ⟨rfl, pre ++ [(p, .slice va p.length vc)], _, by rw [List.map_append]; rfl, (by rw [hpm]; exact hJ5), hS.keep hM hN hX hk5 hk6, Nat.le_trans hlo hk5.1⟩
    · gi_wp2
      go_ret
      exact .inr ⟨rfl, pre ++ [(p, .slice va p.length vc)], by (rw [List.map_append, ← hall, combs_zero]; exact ⟨rest, rfl⟩), (by rw [hpm]; exact hJx5)⟩
  | succ d ih =>
    intro k f p v pre V rest hd hf hp hS hJ hall hlo
    have IH := hid ih
    clear ih
    refine callsIn_wide.2 ?_
    obtain ⟨i1, hj, hy0, hy1, hy2⟩ := info_parts Try.infoIn
    obtain ⟨N, hN9⟩ : ∃ N, p.length = N := ⟨_, rfl⟩
    have HN := hid hN9
    have HALL := hid hall
    have HP := hid hp
    have HY := hid hY
    have HJL := hid hJl
    clear hp hall hY hJl
    obtain ⟨va, vc, rfl, -⟩ := owns_shape hS.own
    skip
    have hNm : N < many := by omega
    have hne : ((N : Int) == (many : Int)) = false := beq_eq_false_iff_ne.mpr (by omega)
    have hne2 : ¬ (N : Int) = (many : Int) := by omega
    have q1 := hS.x.cell; have q2 := hS.m.cell
    rw [hN9] at q1
    clear hN9
    go_enter Try.func135, Try.ntmps135
    go_wp2_with fail
    go_loopg [8] (n - f) (fun gk iv wr => ∃ (i : Nat) (pre' : List El) (v' : Value), (f ≤ i ∧ i ≤ n) ∧ gk = n - i ∧ iv = .int .i64 (i : Int) ∧ Hid (pre'.map (·.1) = pre.map (·.1) ++ combsTo n d p f i) ∧ J pre' wr ∧ ChS l lo X Mb Yb Nb Cb many n wr p v' ∧ lo ≤ wr.heap.size)
    case atStart => exact ⟨f, pre, _, ⟨Nat.le_refl _, hf⟩, rfl, rfl, hid (by rw [combsTo_start, List.append_nil]), hJ, hS, hlo⟩
    case round =>
      clear hS q1 q2 hJ hlo
      obtain ⟨i, pre', v', ⟨hfi, hin⟩, hgk, rfl, HPRE, hJ, hS, hlo⟩ := hrel
      have HGK := hid hgk; clear hgk
      obtain ⟨va', vc', rfl, -⟩ := owns_shape hS.own
      have q1 := hS.x.cell; have q4 := hS.nn.cell; have f1 := hS.x.frozen
      rw [HN.out] at q1
      by_cases hlt : i < n
      · have hii : (i : Int) < (n : Int) := by omega
        have hoN := hS.own
        rw [HN.out] at hoN
        go_upto_region 7 with (at_builtin; go_must (refine wpList_append_own _ rfl _ _ 41 rfl lo 3 i1 (.int .i64 0) 1 8 Try.underlying41 hj hy0 hy1 hy2 rfl (by decide) (.slice va' N vc') N _ rfl (hoN.alloc _) ⟨wr.heap.size, 0, none⟩ 1 1 [.int .i64 (i : Int)] rfl rfl (new_cellsZ wr _ _ _ rfl) (fun u hu => by simp only [List.mem_cons, List.not_mem_nil, or_false] at hu; rcases hu with rfl; rfl) (by unfold maxLen; omega) (by omega) (by simp; omega) ?_; intro v' w4 ho4 hg4 hnil; obtain ⟨hS4, hx4⟩ := hS.put (k := i) (by omega) (by omega) (by rw [HN.out]; exact hg4) (by rw [HN.out]; exact ho4); have hb4 := Pb.below_grown (((Below.refl lo wr).alloc hlo (.cells #[.int .i64 (i : Int)] 3))) hg4 (hoN.alloc _) (by simp; omega) (Nat.le_refl _); obtain ⟨xa, xc, rfl, -⟩ := owns_shape ho4; have e4 := hx4.cell; have g4 := hx4.frozen; clear hnil))
        have hS5 := hS4
        have hb5 := hb4.setCell (p := ⟨X, 0, none⟩) hX.1 (.slice xa (N + 1) xc)
        clear hS4 hx4 hb4 hg4 ho4 hoN e4 g4 q1 q4 f1
        generalize (World.setCell _ _ _ : World) = w5 at *
        have hJ5 := HJL.out _ _ _ hJ hb5
        have hlo5 := Nat.le_trans hlo hb5.size
        have c5 := hS5.c.cell
        have hwi : IntKind.i64.wrap ((i : Int) + 1) = ((i + 1 : Nat) : Int) := (IntWalk.i64_in _ (by omega)).trans (by omega)
        obtain ⟨tl, htl⟩ := combsTo_split n d p hfi hlt
        have hIH := callsIn_wide.1 (IH.out 1 (i + 1) (p ++ [i]) _ pre' w5 (tl ++ rest) (by rw [List.length_append, List.length_singleton]; omega) (by omega) (fun q hq => by (rcases List.mem_append.1 hq with h9 | h9); exact HP.out q h9; (have h8 : q = i := by simpa using h9); omega) hS5 hJ5 (by rw [HPRE.out, ← HALL.out, htl]; simp only [List.append_assoc]) hlo5)
        have HIH := hid hIH
        clear hIH htl hS5 hJ5 hJ
        go_wp2_with fail
        refine HIH.out.mono ?_
        unfold ChPost
        rintro e w6 (⟨rfl, pre2, v2, hpre2, hJ6, hS6, hlo6⟩ | ⟨rfl, pre2, hpre2, hJx⟩)
        · have HPRE2 := hid hpre2
          clear hpre2 HIH c5
          have ho6 := hS6.own
          rw [List.length_append, List.length_singleton, HN.out] at ho6
          obtain ⟨gy, yc, rfl, hyc, hyc2⟩ := own_some ho6 (by omega)
          have q6 := hS6.x.cell; have f6 := hS6.x.frozen
          have hx1 : wrap64 (((N + 1 : Nat) : Int) - 1) = (N : Int) := by (rw [show ((N + 1 : Nat) : Int) - 1 = (N : Int) by omega]; exact IntWalk.wrap64_in _ (by omega))
          have hx2 : wrap64 ((N : Int) + 1 - 1) = (N : Int) := by (rw [show (N : Int) + 1 - 1 = (N : Int) by omega]; exact IntWalk.wrap64_in _ (by omega))
          have hx3 : (N : Int) ≤ (yc : Int) := by omega
          have hx4 : N ≤ yc := by omega
          have hx5 : (0 : Int) ≤ (N : Int) := by omega
          have hS7 := hS6.cut HN.out
          have hJ7 := HJL.out _ _ _ hJ6 ((Below.refl lo w6).setCell (p := ⟨X, 0, none⟩) hX.1 (.slice (some ⟨gy, 0, none⟩) N yc))
          go_upto_region 5 with fail
          have hlo7 : lo ≤ (w6.setCell ⟨X, 0, none⟩ (.slice (some ⟨gy, 0, none⟩) N yc)).heap.size := by simpa using hlo6
          clear q6 f6 ho6 hJ6 hS6 hx1 hx2
          generalize (World.setCell _ _ _ : World) = w7 at *
          go_wp2_with fail
          go_roundg (n - (i + 1))
          case measure => have h := HGK.out; omega
          case rel => exact ⟨i + 1, pre2, _, ⟨by omega, by omega⟩, rfl, by go_num, hid (by rw [HPRE2.out, HPRE.out, combsTo_next _ _ _ hfi, List.append_assoc]), hJ7, hS7, hlo7⟩
        · go_wp2_with fail
          go_ret
          exact .inr ⟨rfl, pre2, hpre2, hJx⟩
      · obtain rfl : i = n := by omega
        have hii : ¬ (i : Int) < (i : Int) := by omega
        go_wp2_with fail
        go_ret
        exact .inl ⟨rfl, pre', _, by rw [combs_succ]; exact HPRE.out, hJ, hS, hlo⟩
end Go.Proofs.Ytnchhleokdkejaa

/- The choices of so many of n indices, as an iterator. -/
namespace Go.Proofs.Ytnchhleokdkejaa
open Go.RowKit Go.Pb Go.Pb.Ware Go.Pb.Sag
set_option linter.unusedVariables false
set_option linter.unusedSimpArgs false

open Go.Proofs Go.Maps Go.Pb.Bung
attribute [local go_sem] Oper.semAt_some
set_option maxRecDepth 100000 in
set_option maxHeartbeats 400000 in
theorem choices_any {w : World} {n many : Nat} :
    Calls Try.prog 108 #[.int .i64 (n : Int), .int .i64 (many : Int)] w (fun e w' => e = .returned (.func (.func 134) #[] #[.pointer (some ⟨w.heap.size + 1, 0, none⟩), .pointer (some ⟨w.heap.size, 0, none⟩)]) ∧ w' = (w.alloc (.cells #[.int .i64 (n : Int)] 3)).alloc (.cells #[.int .i64 (many : Int)] 3)) := by
  go_enter Try.func108, Try.ntmps108
  go_wp2
  go_ret
  exact ⟨rfl, rfl⟩

set_option maxRecDepth 100000 in
set_option maxHeartbeats 2000000 in
theorem choices_seq {k lo0 hi0 Mb Nb many n : Nat} {w : World} (hm : Boxed w Mb 3 (.int .i64 (many : Int))) (hnn : Boxed w Nb 3 (.int .i64 (n : Int))) (hM : lo0 ≤ Mb ∧ Mb < hi0) (hN : lo0 ≤ Nb ∧ Nb < hi0) (hhi : hi0 ≤ w.heap.size) (hn9 : n ≤ 9) (hm9 : many ≤ 9) :
    SeqC Fence.wide k Try.prog 134 #[.pointer (some ⟨Mb, 0, none⟩), .pointer (some ⟨Nb, 0, none⟩)] (fun x : El => #[x.2]) (KeepSeg lo0 hi0) MemE (NxE (combs n many 0 [])) (fun xs => xs.map (·.1) = combs n many 0 []) (fun pre => pre.map (·.1) <+: combs n many 0 []) w := by
  intro l J Jx W hW hJ hJx hJl hY hj0
  refine callsIn_wide.2 ?_
  obtain ⟨i1, hj, hy0, hy1, hy2⟩ := info_parts Try.infoIn
  have hm1 : Boxed W Mb 3 (.int .i64 (many : Int)) := (hW.block _ hm.lt).trans hm
  have hn1 : Boxed W Nb 3 (.int .i64 (n : Int)) := (hW.block _ hnn.lt).trans hnn
  have hWs := hW.size
  have q1 := hm1.cell
  have HY := hid hY
  clear hY
  show Calls Try.prog 134 #[.func (.yield l) #[] #[], .pointer (some ⟨Mb, 0, none⟩), .pointer (some ⟨Nb, 0, none⟩)] W _
  go_enter Try.func134, Try.ntmps134
  go_upto_region 4 with (at_make; refine wpList_make_own _ rfl _ _ 41 rfl W.heap.size 3 i1 (.int .i64 0) 1 Try.underlying41 hj hy0 hy1 .i64 .i64 _ many rfl rfl rfl (by rw [hy2]; omega) (by unfold maxLen; omega) (by simp) ?_; intro w2 ho2 hg2)
  generalize hW6 : World.alloc (World.alloc w2 _) _ = w6
  have hz2 : W.heap.size + 1 ≤ w2.heap.size := by (have h := hg2.size; rwa [World.size_alloc] at h)
  have hbW : Below W.heap.size W w6 := by rw [← hW6]; exact ((((Below.refl W.heap.size W).alloc (Nat.le_refl _) _).grown hg2 (by simp) (fun k e => by cases e)).alloc (by omega) _).alloc (by simp; omega) _
  have hS : ChS l W.heap.size w2.heap.size Mb W.heap.size Nb (w2.heap.size + 1) many n w6 [] (.slice (some ⟨W.heap.size + 1, 0, none⟩) 0 many) := by
    rw [← hW6]
    refine ⟨(Boxed.new w2 41 _).alloc _, ?_, (((hm1.alloc _).kept hg2 (by simp)).alloc _).alloc _, (((Boxed.new W 141 _).kept hg2 (by simp)).alloc _).alloc _, (((hn1.alloc _).kept hg2 (by simp)).alloc _).alloc _, ?_⟩
    · rw [World.size_alloc] at ho2
      exact (ho2.alloc _).alloc _
    · have h := Boxed.new (w2.alloc (.cells #[.slice (some ⟨W.heap.size + 1, 0, none⟩) 0 many] 41)) 128 (.func (.func 135) #[] #[.pointer (some ⟨w2.heap.size, 0, none⟩), .pointer (some ⟨Mb, 0, none⟩), .pointer (some ⟨W.heap.size, 0, none⟩), .pointer (some ⟨Nb, 0, none⟩), .pointer (some ⟨w2.heap.size + 1, 0, none⟩)])
      rw [World.size_alloc] at h
      exact h
  have hj6 := hJl _ _ _ hj0 hbW
  have c6 := hS.c.cell
  have hch := callsIn_wide.1 (choose_in (lo := W.heap.size) (lo0 := lo0) (hi0 := hi0) (fun m pre x V h1 h2 h3 h4 => yield_any (HY.out pre x V h1 h2 h3 h4)) hJl hM hN (by omega) ⟨by omega, Nat.le_refl _, by omega⟩ hn9 hm9 many 1 0 [] _ [] w6 [] (by simp) (Nat.zero_le _) (fun q hq => by cases hq) hS hj6 (by simp) hbW.size)
  have HCH := hid hch
  clear hch hS hj6 hW6 hg2 ho2
  go_wp2_with fail
  refine HCH.out.mono ?_
  unfold ChPost
  rintro e w7 (⟨rfl, pre2, v2, hpre2, hJ7, -, -⟩ | ⟨rfl, pre2, hpre2, hJx⟩)
  · go_wp2_with fail
    go_end0
    exact ⟨⟨_, rfl⟩, .inl ⟨pre2, by simpa using hpre2, hJ7⟩⟩
  · go_wp2_with fail
    go_end0
    exact ⟨⟨_, rfl⟩, .inr ⟨pre2, hpre2, hJx⟩⟩
end Go.Proofs.Ytnchhleokdkejaa

/- A seating. -/
namespace Go.Proofs.Ytnchhleokdkejaa
open Go.RowKit Go.Pb Go.Pb.Ware Go.Pb.Sag
set_option linter.unusedVariables false
set_option linter.unusedSimpArgs false

open Go.Proofs Go.Maps Go.Pb.Bung
theorem nums_of_seat {w : World} {lo n : Nat} {v : Value} {r : List Nat} (h : w.ownsRow lo 3 1 v n (cellsN r)) (hn : r.length = n) (h9 : ∀ k ∈ r, k < 9) : NumsAt w v (castN r) := by
  refine numsAt_of_owns (base := lo) (e := 3) (fun z hz => ?_) ?_
  · unfold castN at hz
    obtain ⟨k, hk, rfl⟩ := List.mem_map.1 hz
    have := h9 k hk
    exact I64.mk (by omega) (by omega)
  · rw [castN_len, hn, show (castN r).map (Value.int .i64) = cellsN r by unfold cellsN castN; rw [List.map_map]; rfl]
    exact h
end Go.Proofs.Ytnchhleokdkejaa

/- The laws' seating. -/
namespace Go.Proofs.Ytnchhleokdkejaa
open Go.RowKit Go.Pb Go.Pb.Ware Go.Pb.Sag
set_option linter.unusedVariables false
set_option linter.unusedSimpArgs false

open Go.Proofs Go.Maps Go.Pb.Bung
/-- Rows of n times m truths. -/
def MatAt (w : World) (v : Value) (n m : Nat) (R : Nat → Nat → Bool) : Prop := ∃ (g : Option Addr) (cap : Nat), v = .slice g n cap ∧ n ≤ 9223372036854775807 ∧ ∀ i, i < n → ∃ (q : Addr) (ua : Option Addr) (uc : Nat), g = some q ∧ w.cell? (q.add i) = some (.slice ua m uc) ∧ ∀ j, j < m → ∃ p, ua = some p ∧ w.cell? (p.add j) = some (.bool (R i j))
theorem MatAt.below {w w' : World} {v : Value} {n m : Nat} {R : Nat → Nat → Bool} (h : MatAt w v n m R) (hb : Below w.heap.size w w') : MatAt w' v n m R := by
  obtain ⟨g, cap, h1, h2, h3⟩ := h
  refine ⟨g, cap, h1, h2, fun i hi => ?_⟩
  obtain ⟨q, ua, uc, e1, e2, e3⟩ := h3 i hi
  refine ⟨q, ua, uc, e1, bkeep hb e2, fun j hj => ?_⟩
  obtain ⟨p, e4, e5⟩ := e3 j hj
  exact ⟨p, e4, bkeep hb e5⟩
theorem nums_LAt {w : World} {v : Value} {zs : List Int} (h : NumsAt w v zs) : LAt 1 w v zs.length (zs.map (Value.int .i64)) := by
  refine ⟨by simp, fun u hu => ?_, ?_⟩
  · obtain ⟨z, _, rfl⟩ := List.mem_map.1 hu; rfl
  · rcases h with ⟨h1, h2⟩ | ⟨a, cap, h1, h2, h3, h4⟩
    · exact .inl ⟨h1, by rw [h2]; rfl⟩
    · refine .inr ⟨a, cap, h1, h2, h3, fun j u hu => ?_⟩
      rw [List.getElem?_map] at hu
      cases hz : zs[j]? with
      | none => rw [hz] at hu; cases hu
      | some z => rw [hz] at hu; cases hu; exact (h4 j z hz).1
end Go.Proofs.Ytnchhleokdkejaa

/- The most saggars that stand in one bung. -/
namespace Go.Proofs.Ytnchhleokdkejaa
open Go.RowKit Go.Pb Go.Pb.Ware Go.Pb.Sag
set_option linter.unusedVariables false
set_option linter.unusedSimpArgs false

open Go.Proofs Go.Maps Go.Pb.Bung
attribute [local go_sem] Oper.semAt_some
/-- Whether the saggars with these indices stand, by the rule. -/
def stB (l : List Sg) (x : List Nat) : Bool := decide (stA (ruledL (chosenG l (castN x))) = 1)
theorem rise_pair {n : Nat} : ∀ {f : Nat} {s : List Nat}, RiseF n f s → s.Pairwise (· < ·)
  | f, [], h => List.Pairwise.nil
  | f, a :: s, h => List.pairwise_cons.2 ⟨fun b hb => by have := h.2.mem b hb; omega, rise_pair h.2⟩
theorem rise_cast {n f : Nat} {x : List Nat} (h : RiseF n f x) : (∀ z ∈ castN x, 0 ≤ z ∧ z < (n : Int)) ∧ (castN x).Pairwise (· ≠ ·) := by
  refine ⟨fun z hz => ?_, ?_⟩
  · unfold castN at hz
    obtain ⟨k, hk, rfl⟩ := List.mem_map.1 hz
    have := h.mem k hk
    omega
  · unfold castN
    exact List.pairwise_map.2 ((rise_pair h).imp fun h => by omega)
theorem nums_own (B : Nat) : OwnFrom B MemE := by
  intro x W W' row h hg hr
  unfold MemE at h ⊢
  rcases h with h | ⟨a, cap, h1, h2, h3, h4⟩
  · exact .inl h
  · refine .inr ⟨a, cap, h1, h2, h3, fun k z hz => ⟨hg.cell (h4 k z hz).1 fun e => ?_, (h4 k z hz).2⟩⟩
    obtain ⟨-, o, ho, hc⟩ := hr _ e.symm
    have h5 := (h4 k z hz).1
    unfold World.cell? at h5
    rw [ho] at h5
    cases o <;> simp_all [Obj.isCells]
/-- Where a list that stands was found: its copy is in the box M; nothing else of what was there has changed. -/
def ExM (w1 : World) (M : Nat) (W : World) (x : List Nat) : Prop := (W.os = w1.os ∧ W.tape = w1.tape ∧ W.output = w1.output ∧ w1.heap.size ≤ W.heap.size) ∧ (∀ b, b < w1.heap.size → b ≠ M → W.heap[b]? = w1.heap[b]?) ∧ ∃ v, Boxed W M 41 v ∧ W.ownsRow w1.heap.size 3 1 v x.length (cellsN x)
theorem exM_own {w1 : World} {M : Nat} (hM : M < w1.heap.size) {x : List Nat} {W W' : World} {row : Option Nat} (h : ExM w1 M W x) (hg : W.grownBy W' row) (hr : ∀ r, row = some r → w1.heap.size ≤ r ∧ ∃ o : Obj, W.heap[r]? = some o ∧ o.isCells = false) : ExM w1 M W' x := by
  obtain ⟨⟨h1, h2, h3, h4⟩, h5, v, h6, h7⟩ := h
  refine ⟨⟨hg.os.trans h1, hg.tape.trans h2, hg.output.trans h3, Nat.le_trans h4 hg.size⟩, fun b hb hne => ?_, v, h6.kept hg (fun e => ?_), h7.kept hg ?_⟩
  · rw [hg.block b (by omega) (fun e => by have := (hr b e.symm).1; omega)]
    exact h5 b hb hne
  · have := (hr M e.symm).1
    omega
  · rcases h7.2 with ⟨rfl, -⟩ | ⟨g, cap, cur, rfl, -, hgb, -⟩
    · exact .inl rfl
    · refine .inr fun e => ?_
      obtain ⟨-, o, ho, hc⟩ := hr g (by simpa [Value.ownBlock] using e.symm)
      rw [hgb] at ho; cases ho; cases hc
/-- What Most answers. -/
def mostA (l : List Sg) : List Nat × Int := if listOk l = true then (if 9 < l.length then ([], 36) else (mostP (stB l) l.length l.length, 0)) else ([], 30)
def MostRes (l : List Sg) (w : World) (e : Ending) (w' : World) : Prop := ∃ u, e = .returned (.tuple #[u, .int .i64 (mostA l).2]) ∧ Below w.heap.size w w' ∧ NumsAt w' u (castN (mostA l).1)
theorem mostRes_err {l : List Sg} {w w' : World} {c : Int} (h : mostA l = ([], c)) (hB : Below w.heap.size w w') : MostRes l w (.returned (.tuple #[.slice none 0 0, .int .i64 c])) w' := ⟨_, by rw [h], hB, by rw [h]; exact .inl ⟨rfl, rfl⟩⟩
theorem exM_store {w1 wd : World} {M : Nat} {x : List Nat} {u0 v : Value} (hM : M < w1.heap.size) (hB : Below w1.heap.size w1 wd) (hm : Boxed wd M 41 u0) (ho : wd.ownsRow w1.heap.size 3 1 v x.length (cellsN x)) : ExM w1 M (wd.setCell ⟨M, 0, none⟩ v) x := by
  have hs := grownBy_setCell' wd M v
  refine ⟨⟨hB.os, hB.tape, hB.output, Nat.le_trans hB.size hs.size⟩, fun b hb hne => ?_, v, hm.set v, ho.kept hs (.inr (hm.not_row (by decide) ho).symm)⟩
  exact (hs.block b (Nat.lt_of_lt_of_le hb hB.size) (fun e => hne (by injection e))).trans (hB.block b hb)
theorem exM_below {w w1 W : World} {M B : Nat} {x : List Nat} (h : ExM w1 M W x) (hB : Below B w w1) (hM : B ≤ M) (hs : B ≤ w1.heap.size) : Below B w W :=
  ⟨h.1.1.trans hB.os, h.1.2.1.trans hB.tape, h.1.2.2.1.trans hB.output, Nat.le_trans hB.size h.1.2.2.2, fun k hk => (h.2.1 k (by omega) (by omega)).trans (hB.block k hk)⟩
theorem exM_waits {w1 W : World} {M : Nat} {x : List Nat} {u : Value} {ds : List Nat} (h : ExM w1 M W x) (hm : Boxed w1 M 41 u) (hw : Waits ds w1) : Waits ds W := by
  refine ⟨hw.1, fun D hD => (h.2.1 D (hw.lt hD) (fun e => ?_)).trans (hw.2 D hD)⟩
  subst e
  have := (show w1.heap[D]? = _ from hm).symm.trans (hw.2 D hD)
  cases this
theorem nums_closed {W W' : World} {ds : List Nat} {v : Value} {zs : List Int} (h : NumsAt W v zs) (hc : Closed ds W W') (hw : Waits ds W) : NumsAt W' v zs := by
  rcases h with h | ⟨a, cap, h1, h2, h3, h4⟩
  · exact .inl h
  · exact .inr ⟨a, cap, h1, h2, h3, fun k z hz => ⟨hc.cell hw (h4 k z hz).1, (h4 k z hz).2⟩⟩
theorem nums_cellsN {W : World} {lo : Nat} {v : Value} {x : List Nat} (h : W.ownsRow lo 3 1 v x.length (cellsN x)) (hx : ∀ k ∈ x, k < 9) : NumsAt W v (castN x) := nums_of_seat h rfl hx
theorem find_here {P : List Nat → Bool} {p all : List (List Nat)} {x : List Nat} (h : ∀ y ∈ p, P y = false) (hx : P x = true) (hp : p ++ [x] <+: all) : all.find? P = some x := by
  obtain ⟨t, rfl⟩ := hp
  rw [List.append_assoc, List.find?_append, List.find?_eq_none.2 (fun y hy => by rw [h y hy]; simp)]
  simp [hx]
theorem most_ok {l : List Sg} {n : Nat} {r : List Nat} (hk : listOk l = true) (hn : l.length = n) (h9 : ¬ 9 < n) (hr : mostP (stB l) n n = r) : mostA l = (r, 0) := by
  unfold mostA; rw [if_pos hk, if_neg (by rw [hn]; exact h9), hn, hr]
theorem pre_mem {all : List (List Nat)} {pre : List El} {x : El} (h : NxE all pre x) : x.1 ∈ all := h.subset (List.mem_append_right _ (List.mem_singleton.2 rfl))

set_option maxRecDepth 100000 in
set_option maxHeartbeats 600000 in
theorem cloneI {w : World} {v : Value} {zs : List Int} (h : NumsAt w v zs) (hl : zs.length ≤ 1000) :
    Calls Try.prog 109 #[v] w (fun e w' => ∃ u, e = .returned u ∧ Below w.heap.size w w' ∧ w'.ownsRow w.heap.size 3 1 u zs.length (zs.map (Value.int .i64))) := by
  obtain ⟨i0, hi0, hz0, hz1, hz2⟩ := info_parts Try.infoIn
  have hlat := nums_LAt h
  obtain ⟨a, cap, rfl, hll⟩ := h.shape
  obtain ⟨n, hn⟩ : ∃ n, zs.length = n := ⟨_, rfl⟩
  rw [hn] at h hll hl hlat ⊢
  have HL := hid hlat
  cases a with
  | none =>
    obtain ⟨rfl, rfl, he⟩ := hlat.nil
    rw [he]
    clear HL hlat
    have hnil : ∀ w' : World, (binOp BinOp.eql 41 (.slice none 0 0) (.slice none 0 0)).run Try.prog w' = .ok (.bool true) w' := fun w' => rfl
    go_enter Try.func109, Try.ntmps109
    go_wp2_with fail
    go_ret
    exact ⟨_, rfl, by go_grown, World.ownsRow_nil _ _ _ _⟩
  | some a =>
    clear hlat
    have hnil : ∀ w' : World, (binOp BinOp.eql 41 (.slice (some a) n cap) (.slice none 0 0)).run Try.prog w' = .ok (.bool false) w' := fun w' => rfl
    go_enter Try.func109, Try.ntmps109
    go_wp2_with (at_builtin; go_must (refine wpList_append_lat rfl _ _ 41 rfl w.heap.size 3 i0 (.int .i64 0) 1 8 Try.underlying41 hi0 hz0 hz1 hz2 rfl (by decide) _ 0 [] rfl (owns_empty w 3 1) _ n _ rfl (HL.out.below ((Below.refl _ _).alloc (Nat.le_refl _) _)) (by unfold maxLen; omega) (by omega) (by simp) ?_; intro v' w4 ho4 hg4; have hb0 : Below w.heap.size w w4 := Pb.below_grown ((Below.refl _ w).alloc (Nat.le_refl _) _) hg4 (owns_empty w 3 1) (by simp) (Nat.le_refl _)))
    go_ret
    exact ⟨_, rfl, hb0, by simpa using ho4⟩
set_option maxRecDepth 100000 in
set_option maxHeartbeats 1000000 in
theorem Most_any {w : World} {v : Value} {l : List Sg} (h : RowsAt 8 w v (l.map rowG)) :
    Calls Try.prog 57 #[v] w (MostRes l w) := by
  obtain ⟨a, cap, rfl, hll⟩ := h.shape
  obtain ⟨n, hn⟩ : ∃ n, l.length = n := ⟨_, rfl⟩
  have HN := hid hn
  rw [List.length_map, hn] at h hll ⊢
  clear hn
  obtain ⟨c, hc⟩ : ∃ c, ckLs l = c := ⟨_, rfl⟩
  have HC := hid hc
  clear hc
  refine (callsIn_wide (n := 8)).1 ?_
  refine callsIn_of_wp_marks Try.func57 rfl trivial ?_ rfl
  simp only [Try.ntmps57, List.size_toArray, List.length_cons, List.length_nil, Nat.reduceAdd, Nat.reduceSub, Array.replicate_succ, Array.replicate_zero, List.push_toArray, List.append_toArray, List.nil_append, List.cons_append]
  refine (wpIn_wide (n := 8)).2 ?_
  go_wp2_with fail
  go_step3
  go_upto_region 1 with fail
  generalize hW : World.alloc w _ = v1
  have hb0 : Boxed v1 w.heap.size 24 (.slice a n cap) := by rw [← hW]; exact Boxed.new w _ _
  have hB : Below w.heap.size w v1 := by rw [← hW]; exact (Below.refl _ _).alloc (Nat.le_refl _) _
  clear hW
  have q0 := hb0.cell
  go_wp2_with fail
  refine (ckLs_any (h.below hB) HC.out).mono ?_
  rintro e v2 ⟨rfl, hb⟩
  replace hb0 : Boxed v2 _ _ _ := (hb.block _ hb0.lt).trans hb0
  replace hB := bnext (w := w) hB hb
  clear hb q0
  by_cases hok : listOk l = true
  · have hc0 : c = 0 := by rw [← HC.out]; unfold ckLs; rw [if_pos hok]
    subst hc0
    have q0 := hb0.cell
    by_cases hn9 : 9 < n
    · have hni : (9 : Int) < (n : Int) := by omega
      go_wp2_with fail
      rw [Exit.noGoto_ret]
      show LeavesInM _ _ _ _ _ _ (marks []) .returning _
      refine leaves_marks (by simp) [] _ Waits.nil (fun W3 hcl => ?_)
      exact ⟨.tuple #[.slice none 0 0, .int .i64 36], by simp [results, Try.results57, go_sem], mostRes_err (by unfold mostA; rw [if_pos hok, if_pos (by rw [HN.out]; exact hn9)]) (hB.trans (hcl.below (by simp)))⟩
    · have hni : ¬ (9 : Int) < (n : Int) := by omega
      go_upto_region 7 with fail
      go_step3
      have hz2 : w.heap.size < v2.heap.size := hb0.lt
      generalize hW : World.alloc v2 _ = v3
      have hm0 : Boxed v3 v2.heap.size 41 (.slice none 0 0) := by rw [← hW]; exact Boxed.new v2 _ _
      replace hb0 : Boxed v3 w.heap.size 24 (.slice a n cap) := by rw [← hW]; exact hb0.alloc _
      replace hB : Below w.heap.size w v3 := by rw [← hW]; exact hB.alloc (by omega) _
      clear hW q0
      have q0 := hb0.cell
      go_wp2_with fail
      clear q0
      refine wp_loop_ghost_k (fun gk act wr => ∃ (k : Nat) (ds : List Nat) (u4 u7 u8 u9 u10 u11 u12 u13 u14 u15 u16 u17 u18 u19 u20 u21 u22 u23 u24 u25 u26 u27 u28 u29 u30 u31 u32 u33 u34 u35 : Value), (k ≤ n ∧ gk = k ∧ Boxed wr w.heap.size 24 (.slice a n cap) ∧ Boxed wr v2.heap.size 41 (.slice none 0 0) ∧ Hid (mostP (stB l) n n = mostP (stB l) n k) ∧ Below w.heap.size w wr ∧ Waits ds wr ∧ (∀ D ∈ ds, w.heap.size ≤ D)) ∧ act = { tmps := #[.slice a n cap, .pointer (some ⟨w.heap.size, 0, none⟩), .slice none 0 0, .int .i64 0, u4, .pointer (some ⟨v2.heap.size, 0, none⟩), .int .i64 (k : Int), u7, u8, u9, u10, u11, u12, u13, u14, u15, u16, u17, u18, u19, u20, u21, u22, u23, u24, u25, u26, u27, u28, u29, u30, u31, u32, u33, u34, u35], defers := marks ds }) n ⟨n, [], _, _, _, _, _, _, _, _, _, _, _, _, _, _, _, _, _, _, _, _, _, _, _, _, _, _, _, _, _, _, ?_, rfl⟩ ?_
      · exact ⟨Nat.le_refl _, rfl, hb0, hm0, hid rfl, hB, Waits.nil, fun D h => by cases h⟩
      intro gk act0 wr hinv J K hJ hK
      clear hb0 hm0 hB
      obtain ⟨k, ds, u4, u7, u8, u9, u10, u11, u12, u13, u14, u15, u16, u17, u18, u19, u20, u21, u22, u23, u24, u25, u26, u27, u28, u29, u30, u31, u32, u33, u34, u35, ⟨hkn, hgk, hb0, hm0, HP, hB, hW, hD⟩, rfl⟩ := hinv
      have q0 := hb0.cell
      by_cases hk0 : 0 < k
      · have hki : (0 : Int) < (k : Int) := by omega
        go_wp2_with fail
        refine choices_any.mono ?_
        rintro e w1 ⟨rfl, hw1⟩
        have hz1 : w1.heap.size = wr.heap.size + 2 := by rw [hw1]; simp
        have hbN : Boxed w1 wr.heap.size 3 (.int .i64 (n : Int)) := by rw [hw1]; exact (Boxed.new wr _ _).alloc _
        have hbM : Boxed w1 (wr.heap.size + 1) 3 (.int .i64 (k : Int)) := by (rw [hw1]; have h := Boxed.new (wr.alloc (.cells #[.int .i64 (n : Int)] 3)) 3 (.int .i64 (k : Int)); rwa [World.size_alloc] at h)
        have hbw : Below wr.heap.size wr w1 := by rw [hw1]; exact ((Below.refl _ wr).alloc (Nat.le_refl _) _).alloc (by simp) _
        clear hw1
        have hB1 := bnext (w := w) hB hbw
        have hb01 : Boxed w1 w.heap.size 24 (.slice a n cap) := (hbw.block _ hb0.lt).trans hb0
        have hm01 : Boxed w1 v2.heap.size 41 (.slice none 0 0) := (hbw.block _ hm0.lt).trans hm0
        have hW1 := hW.below hbw
        have hzm := hm0.lt
        clear hb0 hm0 hB hW q0
        have q0 := hb01.cell
        have HH := hid h
        have hn9b : n ≤ 9 := by omega
        go_wp2_with fail
        refine (wpIn_wide (n := 8)).1 ?_
        refine wpIn_rangeFunc_c (F := Fence.wide) (n := 8) rfl (by omega) (gf := 134) (lb := #[.pointer (some ⟨wr.heap.size + 1, 0, none⟩), .pointer (some ⟨wr.heap.size, 0, none⟩)]) rfl trivial (enters_of Try.func134 (by kernel_rfl) rfl) (choices_seq (k := 7) (lo0 := wr.heap.size) (hi0 := w1.heap.size) hbM hbN ⟨by omega, by omega⟩ ⟨by omega, by omega⟩ (Nat.le_refl _) hn9b (by omega)) (fun h k => h.trans k) (fun W l o o' => keepSeg_b (Nat.le_refl _) W l o o') (Below.refl _ _) (fun _ => rfl)
          (fun (pre : List El) W => (Below w1.heap.size w1 W ∧ (∀ y ∈ pre, stB l y.1 = false)))
          (fun c (pre : List El) W => (c = .exit 0 ∧ ∃ (p0 : List El) (x : El), pre = p0 ++ [x] ∧ (∀ y ∈ p0, stB l y.1 = false) ∧ stB l x.1 = true ∧ ExM w1 v2.heap.size W x.1))
          (OwnFrom.and (ownFrom_below (Nat.le_refl _) (Nat.le_refl _)) (fun _ _ _ _ hs _ _ => hs))
          (fun c s X Y row hs hg hr => by obtain ⟨h1, p0, x, h2, h3, h4, h5⟩ := hs; exact ⟨h1, p0, x, h2, h3, h4, exM_own (by omega) h5 hg hr⟩)
          (fun s X Y hs hb => ⟨hs.1.trans hb, hs.2⟩)
          (nums_own _)
          ⟨Below.refl _ _, fun y h => by cases h⟩
          (fun (x : El) a' W => a' = { tmps := #[.slice a n cap, .pointer (some ⟨w.heap.size, 0, none⟩), .slice none 0 0, .int .i64 0, u4, .pointer (some ⟨v2.heap.size, 0, none⟩), .int .i64 (k : Int), x.2, u8, u9, u10, u11, u12, u13, u14, u15, u16, u17, .int .i64 (k : Int), .bool true, u20, u21, .slice a n cap, .int .i64 (n : Int), .int .i64 (k : Int), .func (.func 134) #[] #[.pointer (some ⟨wr.heap.size + 1, 0, none⟩), .pointer (some ⟨wr.heap.size, 0, none⟩)], x.2, u27, u28, u29, u30, u31, u32, u33, u34, u35], defers := [] })
          (fun x a' _ X Y row hs hg hr => hs)
          ?assign ?body ?done ?stop
        case assign =>
          rintro lv pre x W K2 hI hMe hK2
          gi_wp2
          exact hK2 _ _ KeepsAll.refl KeepSeg.refl hI hMe rfl
        case body =>
          rintro lv pre ⟨x, xv⟩ a' Wb hl2 hlt2 ⟨hBW, hno⟩ hmx rfl hNx
          have hWb := hBW.size
          obtain ⟨s, hxs, hxl, hxr⟩ := mem_combs.1 (pre_mem hNx)
          dsimp only at hxs
          rw [List.nil_append] at hxs
          subst hxs
          obtain ⟨hz1, hz2⟩ := rise_cast hxr
          have hmx1 : NumsAt Wb xv (castN x) := hmx
          have hr0 := HH.out.below (bnext (w := w) hB1 hBW)
          have p0 := bkeep hBW q0
          have hlen : (castN x).length ≤ 9 := by rw [castN_len]; omega
          have hl30 := (listOk_iff.1 hok).1
          have hkc := listOk_chosen hok (by rw [HN.out]; exact hz1) hz2 (by omega)
          have hi1 := i64_chosen (zs := castN x) (i64_rows hr0)
          obtain ⟨b, hb⟩ : ∃ b, stB l x = b := ⟨_, rfl⟩
          have HBB := hid hb
          clear hb
          dsimp only
          gi_wp2_with fail
          refine ⟨trivial, ?_⟩
          refine (CallsIn.inRound lv (callsIn_wide.2 (chosenG_any hr0 (by rw [HN.out]; omega) hmx1 (by omega) (by rw [HN.out]; exact hz1)))).mono ?_
          unfold NewSgs; rintro e wa ⟨xa, rfl, hba, hoa⟩
          have hr1 := rows_of_owns hoa hi1
          clear hoa p0
          obtain ⟨xaa, xac, rfl, -⟩ := hr1.shape
          rw [List.length_map] at hr1
          gi_wp2_with fail
          refine ⟨trivial, ?_⟩
          refine (CallsIn.inRound lv (callsIn_wide.2 (ruled_any hr1 hkc))).mono ?_
          unfold NewSgs; rintro e wb ⟨ya, rfl, hbb, hob⟩
          have hr2 := rows_of_owns hob (i64_chosen (zs := ruleL (chosenG l (castN x))) (i64_rows hr1))
          clear hob
          obtain ⟨yaa, yac, rfl, -⟩ := hr2.shape
          rw [List.length_map] at hr2
          have hkr := listOk_ruled hkc
          obtain ⟨z, hz⟩ : ∃ z, stA (ruledL (chosenG l (castN x))) = z := ⟨_, rfl⟩
          have hzb : decide (z = 1) = b := by (rw [← HBB.out, ← hz]; rfl)
          have HZ := hid hz
          clear hz
          gi_wp2_with fail
          refine ⟨trivial, ?_⟩
          refine (CallsIn.inRound lv (callsIn_wide.2 (stands_any hr2 (listOk_iff.1 hkr).1 (sg_bounds hkr)))).mono ?_
          rw [HZ.out]; rintro e wc ⟨rfl, hbc⟩
          have hb9 := bnext (w := Wb) (bnext (w := Wb) hba hbb) hbc
          clear hba hbb hbc hr1 hr2 hkr hkc hi1
          cases b
          · have hz1b : (z == 1) = false := beq_eq_false_iff_ne.mpr (of_decide_eq_false hzb)
            gi_wp2_with fail
            exact ⟨KeepsAll.of_below hb9, KeepSeg.of_below (hb9.mono hWb), hBW.trans (hb9.mono hWb), fun y hy => by (rcases List.mem_append.1 hy with h9 | h9); exact hno y h9; (rw [List.mem_singleton.1 h9]; exact HBB.out)⟩
          · obtain rfl : z = 1 := of_decide_eq_true hzb
            gi_wp2_with fail
            refine ⟨trivial, ?_⟩
            refine (CallsIn.inRound lv (callsIn_wide.2 (cloneI (hmx1.below hb9) (by omega)))).mono ?_
            rintro e wd ⟨u, rfl, hbd, hod⟩
            have hb10 := bnext (w := Wb) hb9 hbd
            have hBd := hBW.trans (hb10.mono hWb)
            have hmd : Boxed wd v2.heap.size 41 (.slice none 0 0) := (hBd.block _ hm01.lt).trans hm01
            rw [castN_len, show (castN x).map (Value.int .i64) = cellsN x by unfold castN cellsN; rw [List.map_map]; rfl] at hod
            replace hod := owns_base (show w1.heap.size ≤ wc.heap.size from Nat.le_trans hWb hb9.size) hod
            rw [hxl] at hod
            obtain ⟨ua, uc, rfl, -⟩ := owns_shape hod
            have q5 := hmd.cell; have f5 := hmd.frozen
            gi_wp2_with fail
            exact ⟨(KeepsAll.of_below hb10).trans (KeepsAll.set (by show v2.heap.size < w1.heap.size; exact hm01.lt)), rfl, pre, (x, xv), rfl, hno, HBB.out, exM_store hm01.lt hBd hmd (by show wd.ownsRow _ _ _ _ x.length (cellsN x); rw [hxl]; exact hod)⟩
        case done =>
          rintro D zs W hD3 hzs ⟨hBW, hno⟩ hK2
          have hwk : IntKind.i64.wrap ((k : Int) - 1) = ((k - 1 : Nat) : Int) := (IntWalk.i64_in _ (by omega)).trans (by omega)
          have hbW : Boxed W w.heap.size 24 (.slice a n cap) := (hBW.block _ hb01.lt).trans hb01
          have hmW : Boxed W v2.heap.size 41 (.slice none 0 0) := (hBW.block _ hm01.lt).trans hm01
          have hfn : (combs n k 0 []).find? (stB l) = none := by (rw [List.find?_eq_none, ← hzs]; intro x hx; obtain ⟨y, hy, rfl⟩ := List.mem_map.1 hx; rw [hno y hy]; simp)
          have hP2 := hid (HP.out.trans ((show mostP (stB l) n k = mostP (stB l) n (k - 1 + 1) by rw [Nat.sub_add_cancel hk0]).trans (mostP_none (by rw [Nat.sub_add_cancel hk0]; exact hfn))))
          have hW2 := (hW1.below hBW).cons hK2 (fun hm => by have := hW1.lt hm; omega)
          have hD2 : ∀ E ∈ D :: ds, w.heap.size ≤ E := fun E hE => by (rcases List.mem_cons.1 hE with rfl | hE); (have := hB1.size; omega); exact hD E hE
          have hB2 := bnext (w := w) hB1 hBW
          clear hfn hno hzs hBW hK2
          go_wp2_with fail
          exact Handed.intro (k - 1) (by omega) (hJ _ _ _ ⟨k - 1, D :: ds, _, _, _, _, _, _, _, _, _, _, _, _, _, _, _, _, _, _, _, _, _, _, _, _, _, _, _, _, _, _, ⟨by omega, rfl, hbW, hmW, hP2, hB2, hW2, hD2⟩, rfl⟩)
        case stop =>
          rintro D c pre W hD3 hpre ⟨rfl, p0, x, rfl, hno, hx, hex⟩ hK2
          have hW2 := (exM_waits hex hm01 hW1).cons hK2 (fun hm => by have := hW1.lt hm; omega)
          have hB2 := exM_below hex hB1 (by omega) hB1.size
          have hfs : (combs n k 0 []).find? (stB l) = some x.1 := find_here (p := p0.map (·.1)) (fun y hy => by (obtain ⟨y2, hy2, rfl⟩ := List.mem_map.1 hy; exact hno y2 hy2)) hx (by (have h9 := hpre; rw [List.map_append] at h9; exact h9))
          obtain ⟨s, hxs, hxl, hxr⟩ := mem_combs.1 (List.mem_of_find?_eq_some hfs)
          rw [List.nil_append] at hxs
          subst hxs
          have hP2 := hid (HP.out.trans ((show mostP (stB l) n k = mostP (stB l) n (k - 1 + 1) by rw [Nat.sub_add_cancel hk0]).trans (mostP_some (by rw [Nat.sub_add_cancel hk0]; exact hfs))))
          obtain ⟨-, -, v', hv', ho'⟩ := hex
          have hnu := nums_cellsN ho' (fun q hq => by have := hxr.mem q hq; omega)
          have hD2 : ∀ E ∈ D :: ds, w.heap.size ≤ E := fun E hE => by (rcases List.mem_cons.1 hE with rfl | hE); (have := hB1.size; omega); exact hD E hE
          have q5 := hv'.cell
          clear hfs hno hpre hK2
          gi_wp2
          go_wp2_with fail
          (try rw [Exit.noGoto_ret])
          show LeavesInM _ _ _ _ _ _ (marks (D :: ds)) .returning W
          refine leaves_marks (by simp) (D :: ds) W hW2 (fun W3 hcl => ?_)
          obtain ⟨va, vc, rfl, -⟩ := owns_shape ho'
          exact ⟨.tuple #[.slice va x.1.length vc, .int .i64 0], by simp [results, Try.results57, go_sem], _, by rw [most_ok hok HN.out hn9 hP2.out], hB2.trans (hcl.below hD2), by rw [most_ok hok HN.out hn9 hP2.out]; exact nums_closed hnu hcl hW2⟩
      · obtain rfl : k = 0 := by omega
        have hki : ¬ (0 : Int) < ((0 : Nat) : Int) := by omega
        have q1 := hm0.cell
        go_wp2_with fail
        (try rw [Exit.noGoto_ret])
        show LeavesInM _ _ _ _ _ _ (marks ds) .returning wr
        refine leaves_marks (by simp) ds wr hW (fun W3 hcl => ?_)
        exact ⟨.tuple #[.slice none 0 0, .int .i64 0], by simp [results, Try.results57, go_sem], mostRes_err (most_ok hok HN.out hn9 HP.out) (hB.trans (hcl.below hD))⟩
  · have hc0 : c = 30 := by rw [← HC.out]; unfold ckLs; rw [if_neg hok]
    subst hc0
    go_wp2_with fail
    rw [Exit.noGoto_ret]
    show LeavesInM _ _ _ _ _ _ (marks []) .returning _
    refine leaves_marks (by simp) [] _ Waits.nil (fun W3 hcl => ?_)
    exact ⟨.tuple #[.slice none 0 0, .int .i64 30], by simp [results, Try.results57, go_sem], mostRes_err (by unfold mostA; rw [if_neg hok]) (hB.trans (hcl.below (by simp)))⟩

end Go.Proofs.Ytnchhleokdkejaa

/- BungGreatest returns true. -/
namespace Go.Proofs.Ytnchhleokdkejaa
open Go.RowKit Go.Pb Go.Pb.Ware Go.Pb.Sag
set_option linter.unusedVariables false
set_option linter.unusedSimpArgs false

open Go.Proofs Go.Maps Go.Pb.Bung
theorem chosen_all (l : List Sg) : chosenG l (castN (List.range l.length)) = l := by
  apply List.ext_getElem?
  intro i
  unfold chosenG castN
  rw [List.map_map, List.getElem?_map]
  by_cases h : i < l.length
  · rw [List.getElem?_range h, List.getElem?_eq_getElem h]
    simp [h]
  · rw [List.getElem?_eq_none (by rw [List.length_range]; omega), List.getElem?_eq_none (by omega)]; rfl
theorem chosen_perm {l : List Sg} {O : List Int} (h : O.Perm (castN (List.range l.length))) : (chosenG l O).Perm l := by
  have h1 := h.map (fun z => l.getD z.toNat default)
  have h2 := chosen_all l
  unfold chosenG at h2 ⊢
  rw [h2] at h1
  exact h1
/-- More than the best do not stand, in whatever order. -/
theorem best_more {l : List Sg} {r y : List Nat} {O : List Int} (hb : IsBest (stB l) l.length r) (hl : listOk l = true) (h9 : l.length ≤ 9) (hy : RiseF l.length 0 y) (hm : r.length < y.length) (hO : O.Perm (castN (List.range (chosenG l (castN y)).length))) : stA (chosenG (chosenG l (castN y)) O) ≠ 1 := by
  intro hs
  have hz := rise_cast hy
  have hyl := rise_len hy
  have hok := listOk_chosen hl hz.1 hz.2 (by rw [castN_len]; omega)
  have h1 := stA_perm_ruled (chosen_perm hO) (listOk_wt hok) hs
  have h2 := hb.best y hy (decide_eq_true h1)
  rw [bet_iff.2 (.inl hm)] at h2
  cases h2
theorem best_rise {St : List Nat → Bool} {n : Nat} {r : List Nat} (h : IsBest St n r) : RiseF n 0 r := by
  rcases h.one with h1 | h1
  · rw [h1]; trivial
  · exact h1.1
theorem best_stands {l : List Sg} {r : List Nat} (h : IsBest (stB l) l.length r) : csB (chosenG l (castN r)) = true := by
  rcases h.one with h1 | h1
  · rw [h1]; exact (show csB [] = true from by decide)
  · exact h1.2
/-- The indices below n for which a truth holds. -/
def selL (q : Nat → Bool) (n : Nat) : List Nat := (List.range n).filter q
theorem selL_succ (q : Nat → Bool) (n : Nat) : selL q (n + 1) = if q n = true then selL q n ++ [n] else selL q n := by
  unfold selL
  rw [List.range_succ, List.filter_append]
  split
  · rename_i h; simp [h]
  · rename_i h; simp [h]
theorem selL_rise (q : Nat → Bool) (n : Nat) : RiseF n 0 (selL q n) := by
  unfold selL
  rw [List.range_eq_range']
  exact rise_filter _ n 0 (by omega)
theorem rise_up {n f : Nat} {x : List Nat} (h : RiseF n f x) {i p q : Nat} (hp : x[i]? = some p) (hq : x[i + 1]? = some q) : p < q := by
  have h1 := List.pairwise_iff_getElem.1 (rise_pair h)
  have hpl := (List.getElem?_eq_some_iff.1 hp).1
  have hql := (List.getElem?_eq_some_iff.1 hq).1
  have h2 := h1 i (i + 1) hpl hql (by omega)
  rw [List.getElem?_eq_getElem hpl] at hp
  rw [List.getElem?_eq_getElem hql] at hq
  injection hp with hp
  injection hq with hq
  omega
theorem nums_at {w : World} {a : Option Addr} {n c k q : Nat} {x : List Nat} (h : NumsAt w (.slice a n c) (castN x)) (hn : x.length = n) (hq : x[k]? = some q) : ∃ p, a = some p ∧ w.cell? (p.add k) = some (.int .i64 (q : Int)) := by
  have hk : k < (castN x).length := by rw [castN_len]; exact (List.getElem?_eq_some_iff.1 hq).1
  obtain ⟨p, h1, h2⟩ := (show NumsAt w (.slice a (castN x).length c) (castN x) by rw [castN_len, hn]; exact h).elem hk
  refine ⟨p, h1, ?_⟩
  rw [h2]
  have : (castN x)[k] = (q : Int) := Option.some.inj ((List.getElem?_eq_getElem hk).symm.trans (by unfold castN; rw [List.getElem?_map, hq]; rfl))
  rw [this]
theorem sel_le (q : Nat → Bool) (n : Nat) : (selL q n).length ≤ n := by
  have := rise_len (selL_rise q n)
  omega
/-- Whether a number's bits choose the index i. -/
def selB (x : Int) (i : Nat) : Bool := bits .and .i64 (x / 2 ^ i) 1 == 1
theorem chosen_snocN {l : List Sg} (x : List Nat) {q : Nat} {s : Sg} (hs : l[q]? = some s) : chosenG l (castN x) ++ [s] = chosenG l (castN (x ++ [q])) := by
  unfold castN
  rw [List.map_append]
  unfold chosenG
  rw [List.map_append]
  congr 1
  simp [List.getD_eq_getElem?_getD, hs]

set_option maxRecDepth 100000 in
set_option maxHeartbeats 1000000 in
theorem bungGreatest_walk {w : World} {v u : Value} {rows : List (List Int)} {zs : List Int} {x : Int} (h : RowsAt 7 w v rows) (ho : NumsAt w u zs) :
    Calls Try.prog 16 #[v, .int .i64 x, u] w (Ret w (.bool true)) := by
  unfold Ret
  obtain ⟨i0, hi0, hz0, hz1, hz2⟩ := info_parts Try.infoG
  obtain ⟨ra, rc, rfl, hrl⟩ := h.shape
  obtain ⟨oa, oc, rfl, ho1, ho2⟩ := ho.shape
  obtain ⟨rn, hrn⟩ : ∃ n, rows.length = n := ⟨_, rfl⟩
  obtain ⟨on, hon⟩ : ∃ n, zs.length = n := ⟨_, rfl⟩
  rw [hrn] at h hrl ⊢
  rw [hon] at ho ⊢
  obtain ⟨K, hK⟩ : ∃ K, min rows.length 8 = K := ⟨_, rfl⟩
  have HKK := hid hK
  have hK8 : K ≤ 8 := by omega
  have HON := hid hon
  clear hrn hon ho1 hK
  go_enter Try.func16, Try.ntmps16
  go_wp2_with fail
  refine sane_any.mono ?_
  rintro e w1 ⟨rfl, hB⟩
  go_wp2_with fail
  refine (rMade_any (K := K) (most := 8) (h.below hB) (by decide) HKK.out).mono ?_
  rintro e w2 ⟨mv, rfl, hb, hl⟩
  replace hB := bnext (w := w) hB hb
  replace ho := ho.below hB
  clear hb
  have hlen0 := madeL_len rows K
  have hlk0 := madeL_ok (rows := rows) (show K ≤ 12 by omega)
  generalize madeL rows K = l at *
  have HN := hid hlen0; have HLK := hid hlk0; clear hlen0 hlk0
  obtain ⟨sa, sc, rfl, hsl⟩ := hl.shape
  simp only [List.length_map, HN.out] at hl hsl ⊢
  obtain ⟨r, hr⟩ : ∃ r, mostP (stB l) K K = r := ⟨_, rfl⟩
  have hbst := mostA_best (stB l) K
  rw [hr] at hbst
  have hrr := best_rise hbst
  have HBST := hid (show IsBest (stB l) l.length r by rw [HN.out]; exact hbst)
  have HRR := hid (most_ok HLK.out HN.out (by omega) hr)
  have HRI := hid hrr
  have hrl2 := rise_len hrr
  clear hr hbst hrr
  go_wp2_with fail
  refine (Most_any hl).mono ?_
  unfold MostRes
  rw [HRR.out]
  rintro e w3 ⟨zv, rfl, hb, hz⟩
  dsimp only at hz ⊢
  replace hB := bnext (w := w) hB hb
  replace ho := ho.below hb; replace hl := hl.below hb
  clear hb
  obtain ⟨NR, hNR⟩ : ∃ N, r.length = N := ⟨_, rfl⟩
  have HNR := hid hNR
  rw [hNR] at hrl2
  obtain ⟨za, zc, rfl, hzl, -⟩ := hz.shape
  rw [castN_len, hNR] at hz hzl
  (try rw [castN_len, hNR])
  clear hNR
  go_wp2_with fail
  go_loopg [11, 12] NR (fun gk bv iv wr => ∃ i : Nat, i ≤ NR ∧ gk = NR - i ∧ iv = .int .i64 (i : Int) ∧ wr.ownsRow w3.heap.size 33 8 bv i ((chosenG l (castN (r.take i))).flatMap cellsG) ∧ Below w3.heap.size w3 wr)
  case atStart => exact ⟨0, Nat.zero_le _, rfl, rfl, by simpa [chosenG, castN] using World.ownsRow_nil _ _ _ _, Below.refl _ _⟩
  case round =>
    obtain ⟨i, hi, hgk, rfl, how, hb1⟩ := hrel
    have HGK := hid hgk; clear hgk
    have hzr := hb1.size
    obtain ⟨ua, uc, rfl, hul⟩ := owns_shape how
    by_cases hlt : i < NR
    · have hii : (i : Int) < (NR : Int) := by omega
      have hi00 : (0 : Int) ≤ (i : Int) := by omega
      obtain ⟨q, hq⟩ : ∃ q, r[i]? = some q := ⟨_, List.getElem?_eq_getElem (by rw [HNR.out]; exact hlt)⟩
      have hqK : q < K := (HRI.out.mem q (List.mem_of_getElem? hq)).2
      obtain ⟨g, hg, p0⟩ := nums_at (hz.below hb1) HNR.out hq
      subst hg
      have HQ := hid hq
      have hq0 : ¬ (q : Int) < 0 := by omega
      have hq00 : (0 : Int) ≤ (q : Int) := by omega
      have hqi : (q : Int) < (K : Int) := by omega
      have hqn : ¬ (K : Int) ≤ (q : Int) := by omega
      go_upto_region 10 with fail
      by_cases hi0z : i = 0
      · have hiz : ¬ (0 : Int) < (i : Int) := by omega
        have hizd : decide ((0 : Int) < (i : Int)) = false := decide_eq_false hiz
        have hizn : ¬ 0 < i := by omega
        have hize : decide (0 < i) = false := decide_eq_false hizn
        have HI0 := hid hi0z
        clear hi0z
        have s0 := fun z : BW wr => bkeep z.below p0
        refine wp_region_qb (by kernel_rfl) (by kernel_rfl) fun hc => ?_
        repeat (go_big_quiet_step (fail))
        refine wpQuiet_nil ?_
        intro w4 hb
        replace hb1 := bnext (w := w3) hb1 hb
        replace how := owns_below how hb
        clear hb p0 s0
        go_upto_region 12 with fail
        obtain ⟨s, hs⟩ : ∃ s, l[q]? = some s := ⟨_, List.getElem?_eq_getElem (by rw [HN.out]; exact hqK)⟩
        obtain ⟨b', hb', p0, hcc, hii2⟩ := sg_row (show RowsAt 8 w4 (.slice sa l.length sc) (l.map rowG) by rw [HN.out]; exact hl.below hb1) hs
        subst hb'
        have HE := hid (show chosenG l (castN (r.take i)) ++ [s] = chosenG l (castN (r.take (i + 1))) by rw [chosen_snocN (r.take i) hs, List.take_add_one, HQ.out]; rfl)
        clear hs
        obtain ⟨sid, swl, swh, sbl, sbh, shl, shh, sti⟩ := s
        dsimp only at p0
        have p1 := hcc 1 _ (by decide) rfl
        have p2 := hcc 2 _ (by decide) rfl
        have p3 := hcc 3 _ (by decide) rfl
        have p4 := hcc 4 _ (by decide) rfl
        have p5 := hcc 5 _ (by decide) rfl
        have p6 := hcc 6 _ (by decide) rfl
        have p7 := hcc 7 _ (by decide) rfl
        dsimp only at p1 p2 p3 p4 p5 p6 p7
        clear hcc hii2
        have HCG := hid (new_cellsG w4 (⟨sid, swl, swh, sbl, sbh, shl, shh, sti⟩ : Sg) 33 _ rfl)
        obtain ⟨g2, hg2, r0⟩ := nums_at (hz.below hb1) HNR.out HQ.out
        injection hg2 with hg2
        subst hg2
        go_wp2_with (at_builtin; go_must (refine wpList_append_own _ rfl _ _ 24 rfl w3.heap.size 33 i0 (.agg #[.int .i64 0, .int .i64 0, .int .i64 0, .int .i64 0, .int .i64 0, .int .i64 0, .int .i64 0, .int .i64 0]) 8 64 Try.underlying24 hi0 hz0 hz1 hz2 rfl (by decide) _ _ _ rfl (how.alloc _) ⟨w4.heap.size, 0, none⟩ 1 1 (cellsG (⟨sid, swl, swh, sbl, sbh, shl, shh, sti⟩ : Sg)) rfl rfl HCG.out (one_cellsG _) (by unfold maxLen; omega) (by omega) (by have := hb1.size; simp; omega) ?_; intro v' w5 ho5 hg5 hnil; replace hb1 := Pb.below_grown (hb1.alloc hb1.size _) hg5 (how.alloc _) (by have := hb1.size; simp; omega) (Nat.le_refl _); clear hg5 hnil how))
        go_roundg (NR - (i + 1))
        case measure => have h := HGK.out; omega
        case rel => exact ⟨i + 1, by omega, rfl, by go_num, by rw [← HE.out, List.flatMap_append]; simpa using ho5, hb1⟩
      · obtain ⟨j, hj⟩ : ∃ j, i = j + 1 := ⟨i - 1, by omega⟩
        have hiz : (0 : Int) < (i : Int) := by omega
        have hizd : decide ((0 : Int) < (i : Int)) = true := decide_eq_true hiz
        have hizn : 0 < i := by omega
        have hize : decide (0 < i) = true := decide_eq_true hizn
        obtain ⟨p, hp⟩ : ∃ p, r[j]? = some p := ⟨_, List.getElem?_eq_getElem (by rw [HNR.out]; omega)⟩
        have hpq := rise_up HRI.out hp (by rw [← hj]; exact HQ.out)
        obtain ⟨g2, hg2, j0⟩ := nums_at (hz.below hb1) HNR.out hp
        injection hg2 with hg2
        subst hg2
        have hwj : IntKind.i64.wrap ((i : Int) - 1) = (j : Int) := (IntWalk.i64_in _ (by omega)).trans (by omega)
        have hji : (j : Int) < (NR : Int) := by omega
        have hj00 : (0 : Int) ≤ (j : Int) := by omega
        have hqp : ¬ (q : Int) ≤ (p : Int) := by omega
        have HJ := hid hj
        clear hj hp hpq
        have s0 := fun z : BW wr => bkeep z.below p0
        have s1 := fun z : BW wr => bkeep z.below j0
        refine wp_region_qb (by kernel_rfl) (by kernel_rfl) fun hc => ?_
        repeat (go_big_quiet_step (fail))
        refine wpQuiet_nil ?_
        intro w4 hb
        replace hb1 := bnext (w := w3) hb1 hb
        replace how := owns_below how hb
        clear hb p0 j0 s0 s1
        go_upto_region 12 with fail
        obtain ⟨s, hs⟩ : ∃ s, l[q]? = some s := ⟨_, List.getElem?_eq_getElem (by rw [HN.out]; exact hqK)⟩
        obtain ⟨b', hb', p0, hcc, hii2⟩ := sg_row (show RowsAt 8 w4 (.slice sa l.length sc) (l.map rowG) by rw [HN.out]; exact hl.below hb1) hs
        subst hb'
        have HE := hid (show chosenG l (castN (r.take i)) ++ [s] = chosenG l (castN (r.take (i + 1))) by rw [chosen_snocN (r.take i) hs, List.take_add_one, HQ.out]; rfl)
        clear hs
        obtain ⟨sid, swl, swh, sbl, sbh, shl, shh, sti⟩ := s
        dsimp only at p0
        have p1 := hcc 1 _ (by decide) rfl
        have p2 := hcc 2 _ (by decide) rfl
        have p3 := hcc 3 _ (by decide) rfl
        have p4 := hcc 4 _ (by decide) rfl
        have p5 := hcc 5 _ (by decide) rfl
        have p6 := hcc 6 _ (by decide) rfl
        have p7 := hcc 7 _ (by decide) rfl
        dsimp only at p1 p2 p3 p4 p5 p6 p7
        clear hcc hii2
        have HCG := hid (new_cellsG w4 (⟨sid, swl, swh, sbl, sbh, shl, shh, sti⟩ : Sg) 33 _ rfl)
        obtain ⟨g2, hg2, r0⟩ := nums_at (hz.below hb1) HNR.out HQ.out
        injection hg2 with hg2
        subst hg2
        go_wp2_with (at_builtin; go_must (refine wpList_append_own _ rfl _ _ 24 rfl w3.heap.size 33 i0 (.agg #[.int .i64 0, .int .i64 0, .int .i64 0, .int .i64 0, .int .i64 0, .int .i64 0, .int .i64 0, .int .i64 0]) 8 64 Try.underlying24 hi0 hz0 hz1 hz2 rfl (by decide) _ _ _ rfl (how.alloc _) ⟨w4.heap.size, 0, none⟩ 1 1 (cellsG (⟨sid, swl, swh, sbl, sbh, shl, shh, sti⟩ : Sg)) rfl rfl HCG.out (one_cellsG _) (by unfold maxLen; omega) (by omega) (by have := hb1.size; simp; omega) ?_; intro v' w5 ho5 hg5 hnil; replace hb1 := Pb.below_grown (hb1.alloc hb1.size _) hg5 (how.alloc _) (by have := hb1.size; simp; omega) (Nat.le_refl _); clear hg5 hnil how))
        go_roundg (NR - (i + 1))
        case measure => have h := HGK.out; omega
        case rel => exact ⟨i + 1, by omega, rfl, by go_num, by rw [← HE.out, List.flatMap_append]; simpa using ho5, hb1⟩
    · obtain rfl : i = NR := by omega
      have hii : ¬ (i : Int) < (i : Int) := by omega
      rw [List.take_of_length_le (by rw [HNR.out]; exact Nat.le_refl _)] at how
      obtain ⟨hz1, hz2⟩ := rise_cast HRI.out
      have hok1 := listOk_chosen HLK.out (by rw [HN.out]; exact hz1) hz2 (by rw [castN_len, HNR.out]; omega)
      have hca : csA (chosenG l (castN r)) = (true, 0) := by (unfold csA; rw [if_pos hok1, best_stands HBST.out])
      have HCA := hid hca
      have hmost := rows_of_owns (l := chosenG l (castN r)) (by rw [chosen_length, castN_len, HNR.out]; exact how) (i64_chosen (i64_rows hl))
      clear hz1 hz2 hok1 hca how
      replace hB := bnext (w := w) hB hb1
      replace ho := ho.below hb1; replace hl := hl.below hb1
      clear hb1 hz
      go_wp2_with fail
      refine (canP hmost HCA.out).mono ?_
      rintro e v4 ⟨rfl, hb⟩
      dsimp only
      replace hB := bnext (w := w) hB hb
      replace ho := ho.below hb; replace hl := hl.below hb
      clear hb hmost
      go_wp2_with fail
      go_loopg [15, 16] K (fun gk bv iv wq => ∃ j : Nat, j ≤ K ∧ gk = K - j ∧ iv = .int .i64 (j : Int) ∧ wq.ownsRow v4.heap.size 33 8 bv (selL (selB x) j).length ((chosenG l (castN (selL (selB x) j))).flatMap cellsG) ∧ Below v4.heap.size v4 wq)
      case atStart => exact ⟨0, Nat.zero_le _, rfl, rfl, by simpa [chosenG, castN, selL] using World.ownsRow_nil _ _ _ _, Below.refl _ _⟩
      case round =>
        obtain ⟨j, hj, hgk2, rfl, how, hb1⟩ := hrel
        have HGK2 := hid hgk2; clear hgk2
        obtain ⟨NS, hNS⟩ : ∃ N, (selL (selB x) j).length = N := ⟨_, rfl⟩
        have HNS := hid hNS
        have hNSj : NS ≤ j := by rw [← hNS]; exact sel_le _ _
        rw [hNS] at how
        clear hNS
        obtain ⟨va, vc, rfl, hvl⟩ := owns_shape how
        by_cases hlt2 : j < K
        · have hji : (j : Int) < (K : Int) := by omega
          have hj00 : (0 : Int) ≤ (j : Int) := by omega
          go_upto_if 96 with fail
          obtain ⟨b, hbq⟩ : ∃ b, selB x j = b := ⟨_, rfl⟩
          have hsu := selL_succ (selB x) j
          rw [hbq] at hsu
          rw [show (bits BinOp.and IntKind.i64 (x / 2 ^ j) 1 == 1) = b from hbq]
          clear hbq
          cases b
          · have HSU := hid (show selL (selB x) (j + 1) = selL (selB x) j by rw [hsu]; rfl)
            clear hsu
            go_wp2_with fail
            go_roundg (K - (j + 1))
            case measure => have h := HGK2.out; omega
            case rel => exact ⟨j + 1, by omega, rfl, by go_num, by rw [HSU.out, HNS.out]; exact how, hb1⟩
          · have HSU := hid (show selL (selB x) (j + 1) = selL (selB x) j ++ [j] by rw [hsu]; rfl)
            clear hsu
            obtain ⟨s, hs⟩ : ∃ s, l[j]? = some s := ⟨_, List.getElem?_eq_getElem (by rw [HN.out]; exact hlt2)⟩
            obtain ⟨b', hb', p0, hcc, hii2⟩ := sg_row (show RowsAt 8 wr (.slice sa l.length sc) (l.map rowG) by rw [HN.out]; exact hl.below hb1) hs
            subst hb'
            have HE := hid (chosen_snocN (selL (selB x) j) hs)
            clear hs
            obtain ⟨sid, swl, swh, sbl, sbh, shl, shh, sti⟩ := s
            dsimp only at p0
            have p1 := hcc 1 _ (by decide) rfl
            have p2 := hcc 2 _ (by decide) rfl
            have p3 := hcc 3 _ (by decide) rfl
            have p4 := hcc 4 _ (by decide) rfl
            have p5 := hcc 5 _ (by decide) rfl
            have p6 := hcc 6 _ (by decide) rfl
            have p7 := hcc 7 _ (by decide) rfl
            dsimp only at p1 p2 p3 p4 p5 p6 p7
            clear hcc hii2
            have HCG := hid (new_cellsG wr (⟨sid, swl, swh, sbl, sbh, shl, shh, sti⟩ : Sg) 33 _ rfl)
            go_wp2_with (at_builtin; go_must (refine wpList_append_own _ rfl _ _ 24 rfl v4.heap.size 33 i0 (.agg #[.int .i64 0, .int .i64 0, .int .i64 0, .int .i64 0, .int .i64 0, .int .i64 0, .int .i64 0, .int .i64 0]) 8 64 Try.underlying24 hi0 hz0 hz1 hz2 rfl (by decide) _ _ _ rfl (how.alloc _) ⟨wr.heap.size, 0, none⟩ 1 1 (cellsG (⟨sid, swl, swh, sbl, sbh, shl, shh, sti⟩ : Sg)) rfl rfl HCG.out (one_cellsG _) (by unfold maxLen; omega) (by omega) (by have := hb1.size; simp; omega) ?_; intro v' w5 ho5 hg5 hnil; replace hb1 := Pb.below_grown (hb1.alloc hb1.size _) hg5 (how.alloc _) (by have := hb1.size; simp; omega) (Nat.le_refl _); clear hg5 hnil how))
            go_roundg (K - (j + 1))
            case measure => have h := HGK2.out; omega
            case rel => exact ⟨j + 1, by omega, rfl, by go_num, by rw [HSU.out, ← HE.out, List.flatMap_append, List.length_append, HNS.out]; simpa using ho5, hb1⟩
        · obtain rfl : j = K := by omega
          have hjj : ¬ (j : Int) < (j : Int) := by omega
          obtain ⟨y, hy⟩ : ∃ y, selL (selB x) j = y := ⟨_, rfl⟩
          have hyr := selL_rise (selB x) j
          rw [hy] at hyr how
          have HNY := hid (show y.length = NS by rw [← hy]; exact HNS.out)
          have HYR := hid hyr
          obtain ⟨hz1, hz2⟩ := rise_cast hyr
          have hok2 := listOk_chosen HLK.out (by rw [HN.out]; exact hz1) hz2 (by rw [castN_len, HNY.out]; omega)
          have HOK2 := hid hok2
          have hsome := rows_of_owns (l := chosenG l (castN y)) (by rw [chosen_length, castN_len, HNY.out]; exact how) (i64_chosen (i64_rows hl))
          clear hy hyr hz1 hz2 hok2 how
          replace hB := bnext (w := w) hB hb1
          replace ho := ho.below hb1; replace hl := hl.below hb1
          clear hb1
          by_cases hle : NS ≤ i
          · have hlei : (NS : Int) ≤ (i : Int) := by omega
            go_wp2_with fail
            go_ret
            exact ⟨rfl, hB⟩
          · have hlei : ¬ (NS : Int) ≤ (i : Int) := by omega
            go_wp2_with fail
            refine (rShuf_any (n := NS) ho (by omega)).mono ?_
            rintro e w6 ⟨ov, O, rfl, hb, hO, hoo⟩
            replace hB := bnext (w := w) hB hb
            replace hsome := hsome.below hb
            clear hb
            have hOl : O.length = NS := by rw [hO.length_eq, castN_len, List.length_range]
            have hOz : ∀ z ∈ O, 0 ≤ z ∧ z < (NS : Int) := fun z hz => range_in (hO.mem_iff.1 hz)
            have hon := numsAt_of_owns (fun z hz => by have := hOz z hz; exact I64.mk (by omega) (by omega)) hoo
            clear hoo
            have hsl2 : (chosenG l (castN y)).length = NS := by rw [chosen_length, castN_len, HNY.out]
            have hOd : O.Pairwise (· ≠ ·) := (hO.pairwise_iff (fun h e => h e.symm)).2 (range_apart _)
            have hset : setA 0 0 (chosenG l (castN y)) O = (((0, 0), chosenG (chosenG l (castN y)) O), 0) := by (unfold setA; rw [if_pos (by decide), if_pos HOK2.out, if_pos ⟨by (intro e; rw [e, List.length_nil] at hOl; omega), idxOk_of (by rw [hsl2]; exact hOz) hOd⟩])
            have hO2 : O.Perm (castN (List.range (chosenG l (castN y)).length)) := by rw [hsl2]; exact hO
            have hbok : bungOk 0 0 (chosenG (chosenG l (castN y)) O) = true := bungOk_mk (by decide) (by rw [chosen_length, hOl]; omega) (listOk_chosen HOK2.out (by rw [hsl2]; exact hOz) hOd (by omega))
            have hno := best_more HBST.out HLK.out (by rw [HN.out]; omega) (by rw [HN.out]; exact HYR.out) (by rw [HNR.out, HNY.out]; omega) hO2
            obtain ⟨z, hz⟩ : ∃ z, stA (chosenG (chosenG l (castN y)) O) = z := ⟨_, rfl⟩
            have hz1 : z ≠ 1 := by rw [← hz]; exact hno
            have hzb : (z != 1) = true := by simpa using hz1
            have HSET := hid hset
            have HST : Hid ((if bungOk 0 0 (chosenG (chosenG l (castN y)) O) = true then (stA (chosenG (chosenG l (castN y)) O), 0) else (0, 31)) = ((z, 0) : Int × Int)) := hid (by rw [if_pos hbok, hz])
            clear hset hO2 hbok hno hz hz1 hO hOd
            obtain ⟨oxa, oxc, rfl, -⟩ := hon.shape
            rw [hOl] at hon
            (try rw [hOl])
            have hons : NumsAt w6 (.slice oxa NS oxc) O := hon
            go_wp2_with fail
            refine (setP hsome hons HSET.out).mono ?_
            unfold BgRes
            rintro e w7 ⟨bv, rfl, hb, hbr⟩
            dsimp only at hbr ⊢
            replace hB := bnext (w := w) hB hb
            clear hb hon hons hsome
            obtain ⟨m, hm⟩ : ∃ m, chosenG (chosenG l (castN y)) O = m := ⟨_, rfl⟩
            rw [hm] at hbr HST
            clear HSET hm
            obtain ⟨ba, bc, rfl, -⟩ := hbr.shape
            rw [List.length_map] at hbr ⊢
            go_upto_region 23 with fail
            generalize hW : World.alloc w7 _ = w8
            have yb : CellsAt w8 w7.heap.size [.int .i64 0, .int .i64 0, .slice ba m.length bc] := by rw [← hW]; exact CellsAt.new w7 _ 26
            have hb : Below w7.heap.size w7 w8 := by rw [← hW]; exact (Below.refl _ _).alloc (Nat.le_refl _) _
            clear hW
            replace hbr := hbr.below hb
            replace hB := bnext (w := w) hB hb
            clear hb
            have q0 := (yb 0 _ rfl).1; have q1 := (yb 1 _ rfl).1; have q2 := (yb 2 _ rfl).1
            go_wp2_with fail
            refine (Stands_any hbr HST.out).mono ?_
            rintro e w9 ⟨rfl, hb⟩
            dsimp only
            replace hB := bnext (w := w) hB hb
            clear hb q0 q1 q2 yb hbr HST
            go_wp2_with fail
            go_ret
            exact ⟨rfl, hB⟩

end Go.Proofs.Ytnchhleokdkejaa
