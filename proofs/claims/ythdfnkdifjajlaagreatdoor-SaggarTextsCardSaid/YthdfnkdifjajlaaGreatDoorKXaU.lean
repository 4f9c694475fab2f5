/- Part of a claim. -/
import Derived.Lib.SplitLaws
import Derived.Lib.FieldsP
import Derived.Lib.IndexBytes
import Derived.Lib.DecodeN
import Derived.Laws.RangeAny
import Derived.Test.YthdfnkdifjajlaaGreatDoorKSdU
import Derived.RangeFuncNested
import Derived.RangeFuncBound
import Derived.Test.YthdfnkdifjajlaaGreatDoorKLibU
import Derived.RangeFuncBox
import Derived.RangeFuncFrom
import Derived.Shelf.Strings.Builder1
import Derived.Lib.OthersKept
import Derived.Test.YthdfnkdifjajlaaGreatDoorProg
import Derived.Laws.CopyOwn
import Derived.Shelf.Small.Bits
import Derived.Shelf.SlSortCmp.SmallK
import Derived.Ground.SlsfProg
set_option linter.unusedVariables false
set_option linter.unusedSimpArgs false
namespace Go.Pb.Txt
open Go Go.Lib


abbrev Bs := List UInt8
def pstep (c : UInt8) (st : List Bs × Bs) (b : UInt8) : List Bs × Bs := if b = c then (st.1 ++ [st.2], []) else (st.1,st.2 ++ [b])
def pfold (c : UInt8) (l : Bs) : List Bs × Bs := l.foldl (pstep c) ([], [])
def piecesL (c : UInt8) (l : Bs) : List Bs := (pfold c l).1 ++ [(pfold c l).2]
def full (l : List Bs) : List Bs := l.filter fun p => !p.isEmpty
def wordsL (l : Bs) : List Bs := full (pfold 32 l).1 ++ (if (pfold 32 l).2 = [] then [] else [(pfold 32 l).2])
theorem pfold_snoc {c b : UInt8} {l : Bs} : pfold c (l ++ [b]) = pstep c (pfold c l) b := by unfold pfold;rw [List.foldl_append];rfl
theorem pfold_take {c : UInt8} {l : Bs} {k : Nat} (h : k < l.length) : pfold c (l.take (k + 1)) = pstep c (pfold c (l.take k)) l[k] := by
 rw [List.take_succ_eq_append_getElem h,pfold_snoc]
theorem pstep_at {c : UInt8} {out : List Bs} {cur : Bs} : pstep c (out,cur) c = (out ++ [cur], []) := by unfold pstep;rw [if_pos rfl]
theorem pstep_no {c b : UInt8} {out : List Bs} {cur : Bs} (h : b ≠ c) : pstep c (out,cur) b = (out,cur ++ [b]) := by unfold pstep;rw [if_neg h]
theorem foldl_out {c : UInt8} : ∀ (l : Bs) (out : List Bs) (cur : Bs),l.foldl (pstep c) (out,cur) = (out ++ (l.foldl (pstep c) ([],cur)).1,(l.foldl (pstep c) ([],cur)).2)
 | [],out,cur => by simp
 | b :: l,out,cur => by
  rw [List.foldl_cons,List.foldl_cons]
  by_cases h : b = c
  ·subst h
   rw [pstep_at,pstep_at,foldl_out l (out ++ [cur]) [],foldl_out l ([] ++ [cur]) []];simp
  ·rw [pstep_no h,pstep_no h,foldl_out l out (cur ++ [b])]
theorem foldl_free {c : UInt8} : ∀ (a : Bs) (out : List Bs) (cur : Bs),c ∉ a → a.foldl (pstep c) (out,cur) = (out,cur ++ a)
 | [],out,cur,_ => by simp
 | b :: a,out,cur,h => by
  rw [List.mem_cons,not_or] at h
  rw [List.foldl_cons,pstep_no (Ne.symm h.1),foldl_free a out (cur ++ [b]) h.2];simp
theorem pieces_free {c : UInt8} {l : Bs} (h : c ∉ l) : piecesL c l = [l] := by unfold piecesL pfold;rw [foldl_free l [] [] h];simp
theorem pieces_hit {c : UInt8} {a b : Bs} (h : c ∉ a) : piecesL c (a ++ c :: b) = a :: piecesL c b := by
 unfold piecesL pfold
 rw [List.foldl_append,foldl_free a [] [] h,List.foldl_cons]
 have : pstep c ([], [] ++ a) c = ([a], []) := by rw [pstep_at];simp
 rw [this,foldl_out]
 simp
theorem indexByte_hit {c : UInt8} : ∀ {a b : Bs},c ∉ a → indexByte (a ++ c :: b) c = (a.length : Int)
 | [],b,_ => by simp [indexByte]
 | x :: a,b,h => by
  rw [List.mem_cons,not_or] at h
  have h1 : x ≠ c := Ne.symm h.1
  have h2 := indexByte_hit (a := a) (b := b) h.2
  rw [List.cons_append]
  simp [indexByte,h1,h2]
theorem parted {c : UInt8} : ∀ (l : Bs),c ∉ l ∨ ∃ a b,l = a ++ c :: b ∧ c ∉ a
 | [] => .inl (by simp)
 | x :: l => by
  by_cases h : x = c
  ·subst h;exact .inr ⟨[],l,rfl,by simp⟩
  ·rcases parted (c := c) l with h2 | ⟨a,b,rfl,h2⟩
   ·exact .inl (by simp [h2,Ne.symm h])
   ·exact .inr ⟨x :: a,b,rfl,by simp [h2,Ne.symm h]⟩
theorem splitK_pieces {c : UInt8} : ∀ (k : Nat) (l : Bs),l.count c = k → splitK [c] 0 k l = piecesL c l
 | 0,l,h => by
  rw [splitK,pieces_free (by rwa [List.count_eq_zero] at h)]
 | k + 1,l,h => by
  rcases parted (c := c) l with h2 | ⟨a,b,rfl,h2⟩
  ·rw [List.count_eq_zero.2 h2] at h;cases h
  ·have hb : b.count c = k := by
    rw [List.count_append,List.count_eq_zero.2 h2,List.count_cons_self] at h;omega
   rw [splitK,index_one,indexByte_hit h2,pieces_hit h2,if_neg (by simp)]
   have e1 : ((a.length : Int)).toNat = a.length := Int.toNat_natCast _
   rw [e1,Nat.add_zero,List.take_left',List.length_singleton]
   ·have e2 : (a ++ c :: b).drop (a.length + 1) = b := by
     rw [show a ++ c :: b = (a ++ [c]) ++ b by simp,List.drop_left' (by simp)]
    rw [e2,splitK_pieces k b hb]
   ·rfl
theorem piece_le {c : UInt8} : ∀ (n : Nat) (l : Bs),l.length ≤ n → ∀ p ∈ piecesL c l,p.length ≤ l.length
 | n,l,hn,p,hp => by
  rcases parted (c := c) l with h | ⟨a,b,rfl,h⟩
  ·rw [pieces_free h,List.mem_singleton] at hp;rw [hp];exact Nat.le_refl _
  ·rw [pieces_hit h] at hp
   rw [List.length_append,List.length_cons] at hn ⊢
   match n with
   | 0 => omega
   | n + 1 =>
    rcases List.mem_cons.1 hp with rfl | hp
    ·omega
    ·have := piece_le n b (by omega) p hp
     omega
theorem splitB_pieces {c : UInt8} {s : ByteArray} : (splitB ⟨#[c]⟩ 0 (countB s ⟨#[c]⟩) s).map (·.data.toList) = piecesL c s.data.toList := by
 rw [splitB_data]
 refine splitK_pieces _ _ ?_
 show s.data.toList.count c = Lib.count s.data.toList [c]
 rw [count_one]
theorem pfold_run {c : UInt8} {l : Bs} {pos : Nat} : ∀ (k : Nat),pos + k ≤ l.length → (∀ j,j < k → ∀ b,l[pos + j]? = some b → b ≠ c) → pfold c (l.take (pos + k)) = ((pfold c (l.take pos)).1,(pfold c (l.take pos)).2 ++ (l.drop pos).take k)
 | 0,_,_ => by simp
 | k + 1,h,hf => by
  have ih := pfold_run (c := c) (l := l) (pos := pos) k (by omega) (fun j hj => hf j (by omega))
  rw [← Nat.add_assoc,pfold_take (by omega),ih]
  have hb := hf k (by omega) l[pos + k] (List.getElem?_eq_getElem (by omega))
  unfold pstep
  dsimp only
  rw [if_neg hb,List.take_succ_eq_append_getElem (show k < (l.drop pos).length by rw [List.length_drop];omega)]
  simp
theorem inner_bytes (n b0 b1 b2 b3 : Nat) : (2 ≤ (decodeN n b0 b1 b2 b3).2 → 128 ≤ b1 ∧ 1 < n) ∧ (3 ≤ (decodeN n b0 b1 b2 b3).2 → 128 ≤ b2 ∧ 2 < n) ∧ (4 ≤ (decodeN n b0 b1 b2 b3).2 → 128 ≤ b3 ∧ 3 < n) ∧ (decodeN n b0 b1 b2 b3).2 ≤ 4 := by
 unfold decodeN
 repeat' split
 all_goals (dsimp only;omega)
def isSp (r : Nat) : Bool := r == 32
theorem rune_bytes {s : ByteArray} {pos : Nat} (h : pos < s.size) :
  (isSp (Utf8.decode s pos).1 = true ∧ (Utf8.decode s pos).2 = 1 ∧ s.data.toList[pos]? = some 32) ∨
  (isSp (Utf8.decode s pos).1 = false ∧ 1 ≤ (Utf8.decode s pos).2 ∧ pos + (Utf8.decode s pos).2 ≤ s.size ∧ ∀ j,j < (Utf8.decode s pos).2 → ∀ b,s.data.toList[pos + j]? = some b → b ≠ 32) := by
 have hat : s.data.toList[pos]? = some s[pos] := by
  rw [List.getElem?_eq_getElem (by simpa using h)];rfl
 by_cases ha : (s[pos]'h).toNat < 128
 ·have e := decode_ascii s pos h ha
  rw [e]
  dsimp only
  by_cases h32 : (s[pos]'h).toNat = 32
  ·left
   have : s[pos] = 32 := UInt8.toNat_inj.1 h32
   exact ⟨by unfold isSp;rw [h32];rfl,rfl,by rw [hat,this]⟩
  ·right
   refine ⟨by unfold isSp;simpa using h32,Nat.le_refl _,h,fun j hj b hb => ?_⟩
   obtain rfl : j = 0 := by omega
   rw [Nat.add_zero,hat] at hb
   intro e2
   subst e2
   have e3 := Option.some.inj hb
   exact h32 (by rw [e3];rfl)
 ·right
  obtain ⟨h1,h2⟩ := decode_high s pos h (by omega)
  obtain ⟨c1,c2,c3,c4⟩ := inner_bytes (s.size - pos) (s.get! pos).toNat (s.get! (pos + 1)).toNat (s.get! (pos + 2)).toNat (s.get! (pos + 3)).toNat
  rw [← decode_at] at c1 c2 c3 c4
  generalize (Utf8.decode s pos).2 = n at *
  refine ⟨by unfold isSp;simp;omega,h2,by omega,fun j hj b hb e => ?_⟩
  subst e
  have hg : ∀ i,s.data.toList[i]? = some 32 → (s.get! i).toNat = 32 := fun i hi => by
   obtain ⟨hlt,he⟩ := List.getElem?_eq_some_iff.1 hi
   have hlt2 : i < s.size := by simpa using hlt
   have e3 : s.get! i = s[i] := by simp [ByteArray.get!,getElem!_pos,hlt2];rfl
   rw [e3,show s[i] = s.data.toList[i] from rfl,he];rfl
  have h3 := hg _ hb
  have hj4 : j = 0 ∨ j = 1 ∨ j = 2 ∨ j = 3 := by omega
  rcases hj4 with rfl | rfl | rfl | rfl
  ·rw [Nat.add_zero,hat] at hb
   have e3 := Option.some.inj hb
   rw [e3] at ha
   exact ha (by decide)
  ·have := (c1 (by omega)).1;omega
  ·have := (c2 (by omega)).1;omega
  ·have := (c3 (by omega)).1;omega
def extL (s : ByteArray) (x : Nat × Nat) : Bs := (s.extract x.1 x.2).data.toList
theorem extL_eq {s : ByteArray} {a b : Nat} : extL s (a,b) = (s.data.toList.take b).drop a := by
 unfold extL
 dsimp only
 rw [extract_data]
 simp [List.drop_take]
def SpanRel (s : ByteArray) (pos : Nat) (st : Option Nat) (acc : List (Nat × Nat)) : Prop := acc.map (extL s) = full (pfold 32 (s.data.toList.take pos)).1 ∧
 (st = none → (pfold 32 (s.data.toList.take pos)).2 = []) ∧ ∀ a,st = some a → a < pos ∧ (s.data.toList.take pos).drop a = (pfold 32 (s.data.toList.take pos)).2
theorem spans_words {s : ByteArray} : ∀ (f pos : Nat) (st : Option Nat) (acc : List (Nat × Nat)),s.size ≤ pos + f → pos ≤ s.size → SpanRel s pos st acc → (closeSpans s (spansFromP isSp s f pos st acc)).map (extL s) = wordsL s.data.toList := by
 have hl : s.data.toList.length = s.size := by simp
 have fin : ∀ st acc,SpanRel s s.size st acc → (closeSpans s (acc,st)).map (extL s) = wordsL s.data.toList := by
  rintro st acc ⟨h1,h2,h3⟩
  rw [List.take_of_length_le (by omega)] at h1 h2 h3
  unfold closeSpans wordsL
  dsimp only
  cases st with
  | none => rw [h1,h2 rfl,if_pos rfl,List.append_nil]
  | some a =>
   obtain ⟨h4,h5⟩ := h3 a rfl
   have h6 : (pfold 32 s.data.toList).2 ≠ [] := by
    rw [← h5];intro e;have := congrArg List.length e;rw [List.length_drop,hl] at this;simp at this;omega
   rw [if_neg h6,List.map_append,h1,List.map_singleton,extL_eq,List.take_of_length_le (by omega),h5]
 intro f
 induction f with
 | zero => intro pos st acc h1 h2 h3;obtain rfl : pos = s.size := (by omega);exact (by rw [spansFromP_end _ _ _ _ _ _ (by omega)];exact fin st acc h3)
 | succ f ih =>
  intro pos st acc h1 h2 h3
  by_cases hp : pos < s.size
  ·obtain ⟨r1,r2,r3⟩ := h3
   unfold spansFromP
   rw [if_pos hp]
   rcases rune_bytes hp with ⟨hs,hw,hb⟩ | ⟨hs,hw,hle,hb⟩
   ·rw [if_pos hs,hw]
    have hg : s.data.toList[pos]'(by omega) = 32 := (List.getElem?_eq_some_iff.1 hb).2
    have hpf : pfold 32 (s.data.toList.take (pos + 1)) = ((pfold 32 (s.data.toList.take pos)).1 ++ [(pfold 32 (s.data.toList.take pos)).2], []) := by
     rw [pfold_take (by omega),hg];unfold pstep;rw [if_pos rfl]
    have hfull : ∀ (l : List Bs) (p : Bs),full (l ++ [p]) = full l ++ (if p = [] then [] else [p]) := fun l p => by
     unfold full;rw [List.filter_append];cases p <;> simp
    cases st with
    | none =>
     refine ih _ _ _ (by omega) (by omega) ⟨?_,fun _ => by rw [hpf],fun a e => by cases e⟩
     rw [hpf];dsimp only
     rw [hfull,r2 rfl,if_pos rfl,List.append_nil,r1]
    | some a =>
     obtain ⟨h4,h5⟩ := r3 a rfl
     refine ih _ _ _ (by omega) (by omega) ⟨?_,fun _ => by rw [hpf],fun a e => by cases e⟩
     have h6 : (pfold 32 (s.data.toList.take pos)).2 ≠ [] := by
      rw [← h5];intro e;have := congrArg List.length e;rw [List.length_drop,List.length_take,hl] at this;simp at this;omega
     rw [hpf];dsimp only
     rw [hfull,if_neg h6,List.map_append,r1,List.map_singleton,extL_eq,h5]
   ·rw [if_neg (by rw [hs];simp)]
    obtain ⟨n,hn⟩ : ∃ n,(Utf8.decode s pos).2 = n := ⟨_,rfl⟩
    rw [hn] at hw hle hb ⊢
    have hpf := pfold_run (c := 32) (l := s.data.toList) (pos := pos) n (by omega) hb
    cases st with
    | none =>
     refine ih _ _ _ (by omega) (by omega) ⟨?_,fun e => (by cases e),fun a e => ?_⟩
     ·rw [hpf];exact r1
     ·injection e with e;subst e
      refine ⟨by omega, ?_⟩
      rw [hpf,r2 rfl];dsimp only
      rw [List.nil_append,List.drop_take];congr 1;omega
    | some a =>
     obtain ⟨h4,h5⟩ := r3 a rfl
     refine ih _ _ _ (by omega) (by omega) ⟨?_,fun e => (by cases e),fun a' e => ?_⟩
     ·rw [hpf];exact r1
     ·injection e with e;subst e
      refine ⟨by omega, ?_⟩
      rw [hpf];dsimp only
      rw [← h5,List.take_add,List.drop_append_of_le_length (by rw [List.length_take];omega)]
  ·obtain rfl : pos = s.size := by omega
   rw [spansFromP_end _ _ _ _ _ _ hp]
   exact fin st acc h3
theorem fields_words {s : ByteArray} : (goFieldsP isSp s).map (·.data.toList) = wordsL s.data.toList := by
 unfold goFieldsP spansOfP
 rw [List.map_map]
 exact spans_words s.size 0 none [] (by omega) (Nat.zero_le _) ⟨by simp [pfold,full],fun _ => by simp [pfold],fun a e => by cases e⟩
end Go.Pb.Txt
namespace Go.Pb.Sag
open Go Go.Pb Go.Pb.Ware Go.RowKit

def troubleA (s : Bx) (fs : List Ft) (kind : Int) : Bool := if kind = 5 then !fitsB s fs else troubleB s fs kind
theorem troubleA_5 (s : Bx) (fs : List Ft) : troubleA s fs 5 = !fitsB s fs := rfl
theorem troubleA_B {s : Bx} {fs : List Ft} {k : Int} (h : k ≠ 5) : troubleA s fs k = troubleB s fs k := if_neg h
def idxs (n : Nat) : List Int := (List.range n).map fun k : Nat => (k : Int)
theorem idxs_len (n : Nat) : (idxs n).length = n := by simp [idxs]
theorem idxs_at {n k : Nat} (h : k < n) : (idxs n)[k]? = some (k : Int) := by simp [idxs,h]
theorem idxs_mem {n : Nat} {z : Int} (h : z ∈ idxs n) : 0 ≤ z ∧ z < (n : Int) := by
 unfold idxs at h
 obtain ⟨k,hk,rfl⟩ := List.mem_map.1 h
 have := List.mem_range.1 hk
 omega
def needStep (s : Bx) (fs : List Ft) (kind : Int) (l : List Int) (i : Nat) : List Int := if troubleA s (chosenL fs (l.eraseIdx i)) kind = true then l.eraseIdx i else l
def needLoop (s : Bx) (fs : List Ft) (kind : Int) : Nat → List Int → List Int
 | 0,l => l
 | i + 1,l => needLoop s fs kind i (needStep s fs kind l i)
def neededL (s : Bx) (fs : List Ft) (kind : Int) : List Int := needLoop s fs kind fs.length (idxs fs.length)
theorem erase_mem {l : List Int} {i : Nat} {z : Int} (h : z ∈ l.eraseIdx i) : z ∈ l := List.mem_of_mem_eraseIdx h
theorem made_any {w : World} {base n : Nat} {B e : Nat} {z : Value} (hz : z.cells = #[z]) (h : w.ownsRow base e 1 (.slice (some ⟨B,0,none⟩) n n) n (madeCells z.cells (n * 1)).toList) : ∀ i,i < n → w.cell? ⟨B,i,none⟩ = some z ∧ w.frozen? ⟨B,i,none⟩ = false := by
 intro i hk
 refine ⟨?_,owns_frozen h rfl i⟩
 have h2 := h.cells (g := B) rfl i z (by
  rw [Array.getElem?_toList]
  unfold madeCells
  rw [Array.getElem?_map,Array.getElem?_range,if_pos (show i < n * 1 by omega),hz]
  show some (#[z] : Array Value)[i % 1]! = _
  rw [Nat.mod_one];rfl)
 rw [Go.WideShapes.add_plain,Nat.zero_add] at h2
 exact h2
def IdxAt (B n k : Nat) (W : World) : Prop := ∀ j,j < n → W.cell? ⟨B,j,none⟩ = some (.int .i64 (if j < k then (j : Int) else 0)) ∧ W.frozen? ⟨B,j,none⟩ = false
theorem IdxAt.set {B n k : Nat} {W : World} (h : IdxAt B n k W) (hk : k < n) : IdxAt B n (k + 1) (W.setCell ⟨B,k,none⟩ (.int .i64 (k : Int))) := by
 intro j hj
 have h1 := h j hj
 refine ⟨?_,set_free h1.1 h1.2⟩
 by_cases e : j = k
 ·subst e;rw [if_pos (by omega)];exact setc_same h1.1
 ·rw [setc_other h1.1 e]
  by_cases e2 : j < k
  ·rw [if_pos e2,if_pos (by omega)]
  ·rw [if_neg e2,if_neg (by omega)]
theorem IdxAt.nums {B n : Nat} {W : World} (h : IdxAt B n n W) (hn : n ≤ 1000) : NumsAt W (.slice (some ⟨B,0,none⟩) n n) (idxs n) := by
 refine .inr ⟨⟨B,0,none⟩,n,by rw [idxs_len],by rw [idxs_len];exact Nat.le_refl _,by omega,fun k z hz => ?_⟩
 have hk : k < n := by have := (List.getElem?_eq_some_iff.1 hz).1;rwa [idxs_len] at this
 rw [idxs_at hk] at hz
 injection hz with hz
 subst hz
 have h1 := (h k hk).1
 rw [if_pos hk] at h1
 rw [Go.WideShapes.add_plain,Nat.zero_add]
 exact ⟨h1,I64.mk (by omega) (by omega)⟩
end Go.Pb.Sag
namespace Go.Pb.Sag
open Go Go.Pb Go.Pb.Ware Go.RowKit

def putF (s : Bx) (fs : List Ft) (most : Nat) : Nat → Nat → List (List Int) → Option (List (List Int))
 | 0,_,gs => some gs
 | d + 1,i,gs =>
  match (List.range gs.length).findSome? (fun k => if fitsB s (chosenL fs (gs.getD k [] ++ [(i : Int)])) = true then putF s fs most d (i + 1) (gs.set k (gs.getD k [] ++ [(i : Int)])) else none) with
  | some r => some r
  | none => if gs.length = most then none else putF s fs most d (i + 1) (gs ++ [[(i : Int)]])
theorem find_here {α : Type} {f : Nat → Option α} {n k : Nat} {r : α} (hk : k < n) (h0 : ∀ j,j < k → f j = none) (h : f k = some r) : (List.range n).findSome? f = some r := by
 induction n generalizing k with
 | zero => omega
 | succ n ih =>
  rw [List.range_succ,List.findSome?_append]
  rcases Nat.lt_or_ge k n with h1 | h1
  ·rw [ih h1 h0 h];rfl
  ·have e : k = n := by omega
   subst e
   rw [List.findSome?_eq_none_iff.2 (fun j hj => h0 j (List.mem_range.1 hj))]
   simp [h]
theorem find_no {α : Type} {f : Nat → Option α} {n : Nat} (h0 : ∀ j,j < n → f j = none) : (List.range n).findSome? f = none := List.findSome?_eq_none_iff.2 (fun j hj => h0 j (List.mem_range.1 hj))
structure Good (i : Nat) (gs : List (List Int)) : Prop where
 one : ∀ (k : Nat) (g : List Int),gs[k]? = some g → ∃ x,g[0]? = some x
 lt : ∀ g ∈ gs, ∀ z ∈ g,0 ≤ z ∧ z < (i : Int)
 len : ∀ g ∈ gs,g.length ≤ i
 many : gs.length ≤ i
 apart : ∀ (j k : Nat) (g h : List Int) (x y : Int),j ≠ k → gs[j]? = some g → gs[k]? = some h → g[0]? = some x → h[0]? = some y → x ≠ y
theorem Good.nil : Good 0 [] := ⟨fun k g h => (by simp at h),fun g h => (by cases h),fun g h => (by cases h),Nat.le_refl _,fun j k g h x y _ h1 => (by simp at h1)⟩
theorem head_snoc {g : List Int} {x z : Int} (h : g[0]? = some x) : (g ++ [z])[0]? = some x := by
 cases g with
 | nil => simp at h
 | cons a l => simpa using h
theorem Good.push {i k : Nat} {gs : List (List Int)} {g : List Int} (h : Good i gs) (hg : gs[k]? = some g) : Good (i + 1) (gs.set k (g ++ [(i : Int)])) := by
 have hk : k < gs.length := (List.getElem?_eq_some_iff.1 hg).1
 have key : ∀ (j : Nat) (g' : List Int) (x : Int),(gs.set k (g ++ [(i : Int)]))[j]? = some g' → g'[0]? = some x → ∃ g0,gs[j]? = some g0 ∧ g0[0]? = some x := by
  intro j g' x h1 h2
  by_cases e : j = k
  ·subst e
   rw [List.getElem?_set_self hk] at h1
   obtain rfl : g ++ [(i : Int)] = g' := by simpa using h1
   obtain ⟨y,hy⟩ := h.one j g hg
   rw [head_snoc hy] at h2
   exact ⟨g,hg,by rw [hy];exact h2⟩
  ·rw [List.getElem?_set_ne (Ne.symm e)] at h1
   exact ⟨g',h1,h2⟩
 refine ⟨fun j g' h1 => ?_,fun g' hm z hz => ?_,fun g' hm => ?_,by rw [List.length_set];have := h.many;omega,fun j l g' h' x y hne h1 h2 h3 h4 => ?_⟩
 ·by_cases e : j = k
  ·subst e
   rw [List.getElem?_set_self hk] at h1
   obtain rfl : g ++ [(i : Int)] = g' := by simpa using h1
   obtain ⟨y,hy⟩ := h.one j g hg
   exact ⟨y,head_snoc hy⟩
  ·rw [List.getElem?_set_ne (Ne.symm e)] at h1
   exact h.one j g' h1
 ·rcases List.mem_or_eq_of_mem_set hm with h1 | rfl
  ·have := h.lt g' h1 z hz;omega
  ·rcases List.mem_append.1 hz with h1 | h1
   ·have := h.lt g (List.mem_of_getElem? hg) z h1;omega
   ·simp at h1;omega
 ·rcases List.mem_or_eq_of_mem_set hm with h1 | rfl
  ·have := h.len g' h1;omega
  ·have := h.len g (List.mem_of_getElem? hg);rw [List.length_append,List.length_singleton];omega
 ·obtain ⟨a,ha,ha2⟩ := key j g' x h1 h3
  obtain ⟨b,hb,hb2⟩ := key l h' y h2 h4
  exact h.apart j l a b x y hne ha hb ha2 hb2
theorem Good.snoc {i : Nat} {gs : List (List Int)} (h : Good i gs) : Good (i + 1) (gs ++ [[(i : Int)]]) := by
 have key : ∀ (j : Nat) (g : List Int),(gs ++ [[(i : Int)]])[j]? = some g → (j < gs.length ∧ gs[j]? = some g) ∨ (j = gs.length ∧ g = [(i : Int)]) := by
  intro j g h1
  rcases Nat.lt_or_ge j gs.length with h2 | h2
  ·rw [List.getElem?_append_left h2] at h1;exact .inl ⟨h2,h1⟩
  ·rw [List.getElem?_append_right h2] at h1
   have h3 := (List.getElem?_eq_some_iff.1 h1).1
   simp at h3
   have e : j = gs.length := by omega
   subst e
   simp at h1
   exact .inr ⟨rfl,h1.symm⟩
 have low : ∀ (j : Nat) (g : List Int) (x : Int),gs[j]? = some g → g[0]? = some x → x < (i : Int) := fun j g x h1 h2 => (h.lt g (List.mem_of_getElem? h1) x (List.mem_of_getElem? h2)).2
 refine ⟨fun j g h1 => ?_,fun g hm z hz => ?_,fun g hm => ?_,by rw [List.length_append,List.length_singleton];have := h.many;omega,fun j k g g' x y hne h1 h2 h3 h4 => ?_⟩
 ·rcases key j g h1 with ⟨_,h2⟩ | ⟨_,rfl⟩
  ·exact h.one j g h2
  ·exact ⟨_,rfl⟩
 ·rcases List.mem_append.1 hm with h1 | h1
  ·have := h.lt g h1 z hz;omega
  ·simp at h1;subst h1;simp at hz;omega
 ·rcases List.mem_append.1 hm with h1 | h1
  ·have := h.len g h1;omega
  ·simp at h1;subst h1;simp
 ·rcases key j g h1 with ⟨_,h5⟩ | ⟨e1,rfl⟩ <;> rcases key k g' h2 with ⟨_,h6⟩ | ⟨e2,rfl⟩
  ·exact h.apart j k g g' x y hne h5 h6 h3 h4
  ·have := low j g x h5 h3;simp at h4;omega
  ·have := low k g' y h6 h4;simp at h3;omega
  ·omega
theorem Good.mono {i j : Nat} {gs : List (List Int)} (h : Good i gs) (hij : i ≤ j) : Good j gs := ⟨h.one,fun g hm z hz => (by have := h.lt g hm z hz;omega),fun g hm => (by have := h.len g hm;omega),(by have := h.many;omega),h.apart⟩
theorem apart_heads {W : World} {b1 b2 T n1 n2 : Nat} {v u x y : Value} {xs ys : List Value} (h1 : W.ownsRow b1 T 1 v n1 xs) (h2 : W.ownsRow b2 T 1 u n2 ys) (hx : xs[0]? = some x) (hy : ys[0]? = some y) (hne : x ≠ y) : v.ownBlock = none ∨ v.ownBlock ≠ u.ownBlock := by
 rcases h1.2 with ⟨rfl,_⟩ | ⟨g,cap,cur,rfl,_,hg,_,_,_,ht⟩
 ·exact .inl rfl
 ·refine .inr fun e => ?_
  rcases h2.2 with ⟨rfl,_⟩ | ⟨g',cap',cur',rfl,_,hg',_,_,_,ht'⟩
  ·simp [Value.ownBlock] at e
  ·have e2 : g = g' := by simpa [Value.ownBlock] using e
   subst e2
   rw [hg] at hg'
   injection hg' with e3
   injection e3 with e3
   subst e3
   rw [← ht,List.getElem?_take] at hx
   rw [← ht',List.getElem?_take] at hy
   split at hx
   ·split at hy
    ·rw [hx] at hy;injection hy with hy;exact hne hy
    ·cases hy
   ·cases hx
theorem apart_types {W : World} {b1 b2 T1 T2 s1 s2 n1 n2 : Nat} {v u : Value} {xs ys : List Value} (h1 : W.ownsRow b1 T1 s1 v n1 xs) (h2 : W.ownsRow b2 T2 s2 u n2 ys) (hne : T1 ≠ T2) : v.ownBlock = none ∨ v.ownBlock ≠ u.ownBlock := by
 rcases h1.2 with ⟨rfl,_⟩ | ⟨g,cap,cur,rfl,_,hg,_⟩
 ·exact .inl rfl
 ·refine .inr fun e => ?_
  rcases h2.2 with ⟨rfl,_⟩ | ⟨g',cap',cur',rfl,_,hg',_⟩
  ·simp [Value.ownBlock] at e
  ·have e2 : g = g' := by simpa [Value.ownBlock] using e
   subst e2
   rw [hg] at hg'
   injection hg' with e3
   injection e3 with _ e4
   exact hne e4
theorem row_take {W : World} {lo T n m cap g : Nat} {xs : List Value} (h : W.ownsRow lo T 1 (.slice (some ⟨g,0,none⟩) n cap) n xs) (hm : m ≤ n) : W.ownsRow lo T 1 (.slice (some ⟨g,0,none⟩) m cap) m (xs.take m) := by
 refine ⟨by rw [List.length_take,h.1];omega, ?_⟩
 rcases h.2 with ⟨h1,_⟩ | ⟨g',cap',cur,h1,h2,h3,h4,h5,h6,h7⟩
 ·cases h1
 ·injection h1 with e1 _ e2
  injection e1 with e1
  injection e1 with e1
  subst e1;subst e2
  refine .inr ⟨g,cap,cur,rfl,h2,h3,by omega,h5,h6, ?_⟩
  rw [← h7,List.take_take]
  congr 1;omega
theorem row_set {W : World} {lo T n cap g k : Nat} {xs : List Value} {v : Value} (h : W.ownsRow lo T 1 (.slice (some ⟨g,0,none⟩) n cap) n xs) (hk : k < n) : (W.setCell ⟨g,k,none⟩ v).ownsRow lo T 1 (.slice (some ⟨g,0,none⟩) n cap) n (xs.set k v) := by
 refine ⟨by rw [List.length_set];exact h.1, ?_⟩
 rcases h.2 with ⟨h1,_⟩ | ⟨g',cap',cur,h1,h2,h3,h4,h5,h6,h7⟩
 ·cases h1
 ·injection h1 with e1 _ e2
  injection e1 with e1
  injection e1 with e1
  subst e1;subst e2
  refine .inr ⟨g,cap,cur.setIfInBounds k v,rfl,h2, ?_,h4,h5,by rw [Array.size_setIfInBounds];exact h6, ?_⟩
  ·rw [Go.Sort.setCell_eq]
   unfold Go.Sort.mapBlock
   rw [Array.getElem?_modify,if_pos rfl,h3];rfl
  ·rw [Array.toList_setIfInBounds,List.take_set,h7]
end Go.Pb.Sag
namespace Go.Pb.Sag
open Go Go.Pb Go.Pb.Ware Go.RowKit

def RowsIn (lo T : Nat) (W : World) (vs : List Value) (gs : List (List Int)) : Prop := ∀ (k : Nat) (v : Value) (g : List Int),vs[k]? = some v → gs[k]? = some g → W.ownsRow lo T 1 v g.length (g.map (Value.int .i64))
def PutAt (G TO TI : Nat) (gs : List (List Int)) (W : World) : Prop := ∃ (gv : Value) (vs : List Value),(W.cell? ⟨G,8,none⟩ = some gv ∧ W.frozen? ⟨G,8,none⟩ = false) ∧ W.ownsRow (G + 1) TO 1 gv gs.length vs ∧ RowsIn (G + 1) TI W vs gs
theorem PutAt.next {G TO TI : Nat} {gs : List (List Int)} {W W' : World} (h : PutAt G TO TI gs W) (hb : Below W.heap.size W W') : PutAt G TO TI gs W' := by
 obtain ⟨gv,vs,⟨c1,c2⟩,ho,hr⟩ := h
 exact ⟨gv,vs,⟨bkeep hb c1,bfree hb c1 c2⟩,owns_below ho hb,fun k v g h1 h2 => owns_below (hr k v g h1 h2) hb⟩
theorem own_ge {W : World} {lo T s n : Nat} {v : Value} {xs : List Value} (h : W.ownsRow lo T s v n xs) : ∀ b,v.ownBlock = some b → lo ≤ b := fun b e => (World.ownsRow.lt h b e).1
theorem set_own {W : World} {lo T s n B o : Nat} {v u : Value} {xs : List Value} (h : W.ownsRow lo T s v n xs) (hne : v.ownBlock = none ∨ v.ownBlock ≠ some B) : (W.setCell ⟨B,o,none⟩ u).ownsRow lo T s v n xs := h.kept (grown_setc W ⟨B,o,none⟩ u) hne
theorem PutAt.push {G TO TI i k : Nat} (hT : TO ≠ TI) {gs : List (List Int)} {g : List Int} {W w2 w3 : World} {v v' : Value} {vs : List Value} {gb cap : Nat} (hG : Good i gs) (hg : gs[k]? = some g) (hv : vs[k]? = some v)
  (c8 : W.cell? ⟨G,8,none⟩ = some (.slice (some ⟨gb,0,none⟩) gs.length cap) ∧ W.frozen? ⟨G,8,none⟩ = false) (ho : W.ownsRow (G + 1) TO 1 (.slice (some ⟨gb,0,none⟩) gs.length cap) gs.length vs) (hr : RowsIn (G + 1) TI W vs gs)
  (hb : Below W.heap.size W w2) (hg3 : w2.grownBy w3 v.ownBlock) (ho3 : w3.ownsRow (G + 1) TI 1 v' (g.length + 1) (g.map (Value.int .i64) ++ [.int .i64 (i : Int)])) :
  (w3.cell? ⟨gb,k,none⟩ = some v ∧ w3.frozen? ⟨gb,k,none⟩ = false) ∧ PutAt G TO TI (gs.set k (g ++ [(i : Int)])) (w3.setCell ⟨gb,k,none⟩ v') ∧ Below (G + 1) W (w3.setCell ⟨gb,k,none⟩ v') := by
 have hk : k < gs.length := (List.getElem?_eq_some_iff.1 hg).1
 have hGW : G < W.heap.size := World.block_lt_of_cell? W _ c8.1
 have hrow := hr k v g hv hg
 have ho2 := owns_below ho hb
 have hrow2 := owns_below hrow hb
 have hgb : G + 1 ≤ gb := own_ge ho gb rfl
 have a1 : (Value.slice (some ⟨gb,0,none⟩) gs.length cap).ownBlock = none ∨ (Value.slice (some ⟨gb,0,none⟩) gs.length cap).ownBlock ≠ v.ownBlock := apart_types ho2 hrow2 hT
 have ho4 : w3.ownsRow (G + 1) TO 1 (.slice (some ⟨gb,0,none⟩) gs.length cap) gs.length vs := ho2.kept hg3 a1
 have hlo : ∀ r,v.ownBlock = some r → G + 1 ≤ r := own_ge hrow
 have hbw : Below (G + 1) W w3 := (hb.mono (by omega)).grown hg3 (by have := hb.size;omega) hlo
 have a2 : some gb ≠ v.ownBlock := by rcases a1 with h | h;cases h;exact h
 have hcell : w3.cell? ⟨gb,k,none⟩ = some v := by
  have h1 := ho4.cells (g := gb) rfl k v hv
  rw [Go.WideShapes.add_plain,Nat.zero_add] at h1
  exact h1
 refine ⟨⟨hcell,owns_frozen ho4 rfl k⟩,⟨.slice (some ⟨gb,0,none⟩) gs.length cap,vs.set k v',⟨?_, ?_⟩, ?_, ?_⟩,hbw.setCell (p := ⟨gb,k,none⟩) hgb v'⟩
 ·exact setc_block ((hbw.cell (p := ⟨G,8,none⟩) (by simp)).trans c8.1) (by omega)
 ·exact set_free ((hbw.cell (p := ⟨G,8,none⟩) (by simp)).trans c8.1) ((hbw.frozen (p := ⟨G,8,none⟩) (by simp)).trans c8.2)
 ·rw [List.length_set];exact row_set ho4 hk
 ·intro j u g' hu hg'
  have hts : ∀ {u : Value} {n : Nat} {xs : List Value},w3.ownsRow (G + 1) TI 1 u n xs → u.ownBlock = none ∨ u.ownBlock ≠ some gb := fun h => apart_types h ho4 (Ne.symm hT)
  by_cases e : j = k
  ·subst e
   have hvl : j < vs.length := (List.getElem?_eq_some_iff.1 hv).1
   rw [List.getElem?_set_self hvl] at hu
   rw [List.getElem?_set_self hk] at hg'
   obtain rfl : v' = u := by simpa using hu
   obtain rfl : g ++ [(i : Int)] = g' := by simpa using hg'
   have h1 := set_own (o := j) (u := v') ho3 (hts ho3)
   simpa using h1
  ·rw [List.getElem?_set_ne (Ne.symm e)] at hu hg'
   have hj := hr j u g' hu hg'
   obtain ⟨x,hx⟩ := hG.one j g' hg'
   obtain ⟨y,hy⟩ := hG.one k g hg
   have hxy := hG.apart j k g' g x y e hg' hg hx hy
   have h1 : (g'.map (Value.int .i64))[0]? = some (.int .i64 x) := by rw [List.getElem?_map,hx];rfl
   have h2 : (g.map (Value.int .i64))[0]? = some (.int .i64 y) := by rw [List.getElem?_map,hy];rfl
   have h3 := (owns_below hj hb).kept hg3 (apart_heads (owns_below hj hb) hrow2 h1 h2 (fun h => hxy (by injection h)))
   exact set_own h3 (hts h3)
theorem PutAt.pop {G TO TI i k : Nat} (hT : TO ≠ TI) {gs : List (List Int)} {g : List Int} {W : World} {gb gcap b cap n : Nat} {vs : List Value} (hgs : gs[k]? = some g) (hn : gs.length = n)
  (c8 : W.cell? ⟨G,8,none⟩ = some (.slice (some ⟨gb,0,none⟩) n gcap) ∧ W.frozen? ⟨G,8,none⟩ = false) (ho : W.ownsRow (G + 1) TO 1 (.slice (some ⟨gb,0,none⟩) n gcap) n vs) (hr : RowsIn (G + 1) TI W vs (gs.set k (g ++ [(i : Int)])))
  (hv : vs[k]? = some (.slice (some ⟨b,0,none⟩) (g.length + 1) cap)) :
  PutAt G TO TI gs (W.setCell ⟨gb,k,none⟩ (.slice (some ⟨b,0,none⟩) g.length cap)) ∧ Below (G + 1) W (W.setCell ⟨gb,k,none⟩ (.slice (some ⟨b,0,none⟩) g.length cap)) := by
 subst hn
 have hk : k < gs.length := (List.getElem?_eq_some_iff.1 hgs).1
 have hgb : G + 1 ≤ gb := own_ge ho gb rfl
 have hts : ∀ {u : Value} {n : Nat} {xs : List Value},W.ownsRow (G + 1) TI 1 u n xs → u.ownBlock = none ∨ u.ownBlock ≠ some gb := fun h => apart_types h ho (Ne.symm hT)
 refine ⟨⟨.slice (some ⟨gb,0,none⟩) gs.length gcap,vs.set k (.slice (some ⟨b,0,none⟩) g.length cap),⟨setc_block c8.1 (by omega),set_free c8.1 c8.2⟩,row_set ho hk, ?_⟩,(Below.refl _ _).setCell (p := ⟨gb,k,none⟩) hgb _⟩
 intro j u g' hu hg'
 by_cases e : j = k
 ·subst e
  have hvl : j < vs.length := (List.getElem?_eq_some_iff.1 hv).1
  rw [List.getElem?_set_self hvl] at hu
  rw [hgs] at hg'
  obtain rfl : Value.slice (some ⟨b,0,none⟩) g.length cap = u := by simpa using hu
  obtain rfl : g = g' := by simpa using hg'
  have h1 := hr j _ _ hv (List.getElem?_set_self hk)
  rw [List.length_append,List.length_singleton] at h1
  have h2 := row_take (m := g.length) h1 (by omega)
  rw [List.map_append,List.take_append_of_le_length (by simp),List.take_of_length_le (by simp)] at h2
  exact set_own h2 (hts h2)
 ·rw [List.getElem?_set_ne (Ne.symm e)] at hu
  have h1 := hr j u g' hu (by rw [List.getElem?_set_ne (Ne.symm e)];exact hg')
  exact set_own h1 (hts h1)
theorem PutAt.grow {G TO TI i n : Nat} (hT : TO ≠ TI) {gs : List (List Int)} {W w3 : World} {gv gv' : Value} {vs : List Value} (hG : Good i gs) (hn : gs.length = n)
  (c8 : W.cell? ⟨G,8,none⟩ = some gv ∧ W.frozen? ⟨G,8,none⟩ = false) (ho : W.ownsRow (G + 1) TO 1 gv n vs) (hr : RowsIn (G + 1) TI W vs gs)
  (hg3 : ((W.alloc (.cells #[.int .i64 (i : Int)] TI)).alloc (.cells #[.slice (some ⟨W.heap.size,0,none⟩) 1 1] TO)).grownBy w3 gv.ownBlock) (ho3 : w3.ownsRow (G + 1) TO 1 gv' (n + 1) (vs ++ [.slice (some ⟨W.heap.size,0,none⟩) 1 1])) :
  (w3.cell? ⟨G,8,none⟩ = some gv ∧ w3.frozen? ⟨G,8,none⟩ = false) ∧ PutAt G TO TI (gs ++ [[(i : Int)]]) (w3.setCell ⟨G,8,none⟩ gv') ∧ Below (G + 1) W w3 := by
 subst hn
 have hGW : G < W.heap.size := World.block_lt_of_cell? W _ c8.1
 have hb : Below W.heap.size W ((W.alloc (.cells #[.int .i64 (i : Int)] TI)).alloc (.cells #[.slice (some ⟨W.heap.size,0,none⟩) 1 1] TO)) := ((Below.refl _ W).alloc (Nat.le_refl _) _).alloc (by simp) _
 have hbw : Below (G + 1) W w3 := (hb.mono (by omega)).grown hg3 (by simp;omega) (own_ge ho)
 have hG8 : w3.cell? ⟨G,8,none⟩ = some gv ∧ w3.frozen? ⟨G,8,none⟩ = false := ⟨(hbw.cell (p := ⟨G,8,none⟩) (by simp)).trans c8.1,(hbw.frozen (p := ⟨G,8,none⟩) (by simp)).trans c8.2⟩
 have far : ∀ {T n : Nat} {v : Value} {xs : List Value},w3.ownsRow (G + 1) T 1 v n xs → v.ownBlock = none ∨ v.ownBlock ≠ some G := fun h => .inr fun e => by have := own_ge h G e;omega
 have hvl : vs.length = gs.length := by have := ho.1;omega
 refine ⟨hG8,⟨gv',vs ++ [.slice (some ⟨W.heap.size,0,none⟩) 1 1],⟨setc_same hG8.1,set_free hG8.1 hG8.2⟩, ?_, ?_⟩,hbw⟩
 ·rw [List.length_append,List.length_singleton];exact set_own ho3 (far ho3)
 ·intro k v g hv hg
  rcases Nat.lt_or_ge k gs.length with h1 | h1
  ·rw [List.getElem?_append_left (by omega)] at hv
   rw [List.getElem?_append_left h1] at hg
   have h2 := owns_below (hr k v g hv hg) hb
   have h3 := h2.kept hg3 (apart_types h2 (owns_below ho hb) (Ne.symm hT))
   exact set_own h3 (far h3)
  ·rw [List.getElem?_append_right (by omega),hvl] at hv
   rw [List.getElem?_append_right h1] at hg
   have h4 := (List.getElem?_eq_some_iff.1 hg).1
   simp at h4
   have e : k = gs.length := by omega
   subst e
   simp at hv hg
   subst hv;subst hg
   have h2 : ((W.alloc (.cells #[.int .i64 (i : Int)] TI)).alloc (.cells #[.slice (some ⟨W.heap.size,0,none⟩) 1 1] TO)).ownsRow (G + 1) TI 1 (.slice (some ⟨W.heap.size,0,none⟩) 1 1) 1 [.int .i64 (i : Int)] := by
    refine ⟨rfl, .inr ⟨W.heap.size,1,#[.int .i64 (i : Int)],rfl,by omega, ?_,Nat.le_refl _,by unfold maxLen;omega,rfl,rfl⟩⟩
    rw [Below.heap_alloc _ _ _ (by simp)]
    exact World.alloc_heap_new W _
   have h3 := h2.kept hg3 (apart_types h2 (owns_below ho hb) (Ne.symm hT))
   exact set_own h3 (far h3)
theorem PutAt.shrink {G TO TI n gb cap : Nat} {gs : List (List Int)} {g : List Int} {W : World} {vs : List Value} (hn : gs.length = n)
  (c8 : W.cell? ⟨G,8,none⟩ = some (.slice (some ⟨gb,0,none⟩) (n + 1) cap) ∧ W.frozen? ⟨G,8,none⟩ = false) (ho : W.ownsRow (G + 1) TO 1 (.slice (some ⟨gb,0,none⟩) (n + 1) cap) (n + 1) vs) (hr : RowsIn (G + 1) TI W vs (gs ++ [g])) :
  PutAt G TO TI gs (W.setCell ⟨G,8,none⟩ (.slice (some ⟨gb,0,none⟩) n cap)) := by
 subst hn
 have far : ∀ {T n : Nat} {v : Value} {xs : List Value},W.ownsRow (G + 1) T 1 v n xs → v.ownBlock = none ∨ v.ownBlock ≠ some G := fun h => .inr fun e => by have := own_ge h G e;omega
 have h1 := row_take (m := gs.length) ho (by omega)
 refine ⟨.slice (some ⟨gb,0,none⟩) gs.length cap,vs.take gs.length,⟨setc_same c8.1,set_free c8.1 c8.2⟩,set_own h1 (far h1), ?_⟩
 intro k v g' hv hg
 have hk : k < gs.length := (List.getElem?_eq_some_iff.1 hg).1
 rw [List.getElem?_take,if_pos hk] at hv
 have h2 := hr k v g' hv (by rw [List.getElem?_append_left hk];exact hg)
 exact set_own h2 (far h2)
def GAt (G : Nat) (gc : List Value) (W : World) : Prop := ∀ o u,gc[o]? = some u → W.cell? ⟨G,o,none⟩ = some u ∧ W.frozen? ⟨G,o,none⟩ = false
theorem GAt.below {G : Nat} {gc : List Value} {W W' : World} (h : GAt G gc W) (hb : Below (G + 1) W W') : GAt G gc W' := fun o u hu => ⟨(hb.cell (p := ⟨G,o,none⟩) (by simp)).trans (h o u hu).1,(hb.frozen (p := ⟨G,o,none⟩) (by simp)).trans (h o u hu).2⟩
theorem GAt.set {G : Nat} {gc : List Value} {W : World} {v : Value} (h : GAt G gc W) (hl : gc.length ≤ 8) : GAt G gc (W.setCell ⟨G,8,none⟩ v) := fun o u hu => ⟨setc_other (h o u hu).1 (by have := (List.getElem?_eq_some_iff.1 hu).1;omega),set_free (h o u hu).1 (h o u hu).2⟩
theorem own_some {W : World} {lo T s n : Nat} {v : Value} {xs : List Value} (h : W.ownsRow lo T s v n xs) (hn : 0 < n) : ∃ g cap,v = .slice (some ⟨g,0,none⟩) n cap ∧ n ≤ cap ∧ cap ≤ 9223372036854775807 := by
 rcases h.2 with ⟨_,h0⟩ | ⟨g,cap,_,rfl,_,_,h4,h5,_⟩
 ·omega
 ·exact ⟨g,cap,rfl,h4,by unfold maxLen at h5;omega⟩
end Go.Pb.Sag
namespace Go.Pb
open Go Go.RowKit

variable {F : Fence} {n : Nat} {P : Program}
def SeqMem {α : Type} (F : Fence) (n : Nat) (P : Program) (g : Nat) (lb : Array Value) (encs : α → Array Value) (Kp : World → World → Prop) (M : α → World → Prop) (Nx : List α → α → Prop) (S Sp : List α → Prop) (w : World) : Prop :=
 ∀ (l : Nat) (J Jx : List α → World → Prop) (W : World),Below w.heap.size w W → AbidesFrom W.heap.size J → AbidesFrom W.heap.size Jx →
  (∀ pre x V,J pre V → M x V → Nx pre x → YieldAt F (n - 1) P l (encs x) V fun e V' => (e = .returned (.bool true) ∧ J (pre ++ [x]) V' ∧ Kp V V') ∨ (e = .returned (.bool false) ∧ Jx (pre ++ [x]) V')) →
  J [] W → CallsIn F n P g (#[.func (.yield l) #[] #[]] ++ lb) W fun e V => (∃ v,e = .returned v) ∧ ((∃ xs,S xs ∧ J xs V) ∨ (∃ pre,Sp pre ∧ Jx pre V))
def Book (D : Nat) (r : Loop) (W : World) : Prop := W.heap[D + 1]? = some (.loop r) ∧ W.heap[D]? = some (.deferred (some []))
theorem Book.lt {D : Nat} {r : Loop} {W : World} (h : Book D r W) : D + 1 < W.heap.size := (Array.getElem?_eq_some_iff.1 h.1).1
theorem Book.walk {D : Nat} {r : Loop} {W W' : World} {row : Option Nat} (h : Book D r W) (hg : W.grownBy W' row) (hr : ∀ k,row = some k → ∃ o : Obj,W.heap[k]? = some o ∧ o.isWalk = true) : Book D r W' :=
 ⟨(grownBy_keeps hg hr h.1 rfl).trans h.1,(grownBy_keeps hg hr h.2 rfl).trans h.2⟩
theorem Book.keep {D : Nat} {r : Loop} {W W' : World} (h : Book D r W) (hk : KeepsFrom D W W') : Book D r W' := ⟨hk.same _ _ (Nat.le_succ D) h.1 rfl,hk.same _ _ (Nat.le_refl D) h.2 rfl⟩
theorem Book.turn {D : Nat} {r : Loop} {W : World} (h : Book D r W) (r' : Loop) : Book D r' (W.putObj (D + 1) (.loop r')) := ⟨World.putObj_heap_same h.lt,(World.putObj_heap_other (by omega)).trans h.2⟩
theorem wpIn_rangeFunc_mem {α : Type} {g : Operand} {ps : Array Tmp} {assign body : Code} {Q : Exit → Act → World → Prop} {a : Act} {w : World} (hro : F.round = none) (h1 : 1 ≤ n)
  {gf : Nat} {lb : Array Value} (hg : a.eval g = .func (.func gf) #[] lb) (hFg : F.fn gf) (eg : ∀ args w,(callFunc gf args).run P w = .ok (.enter gf args) w)
  {encs : α → Array Value} {Kp : World → World → Prop} {M : α → World → Prop} {Nx : List α → α → Prop} {S Sp : List α → Prop} {w0 : World} (hseq : SeqMem F (n - 1) P gf lb encs Kp M Nx S Sp w0)
  (hKt : ∀ {A B C : World},Kp A B → Kp B C → Kp A C) (hKb : ∀ (W : World) (l : Nat) (o o' : Obj),w.heap.size ≤ l → W.heap[l]? = some o → o.isCells = false → o.isWalk = false → Kp W (W.putObj l o'))
  (hb0 : Below w0.heap.size w0 w) (hps : ∀ x,(encs x).size = ps.size) (I : List α → World → Prop) (Ix : Code → List α → World → Prop) (hI : OwnFrom w.heap.size I) (hIx : ∀ c,OwnFrom w.heap.size (Ix c)) (hM : OwnFrom w.heap.size M) (h0 : I [] w) (a₁ : α → Act)
  (hassign : ∀ (l : Nat) (x : α) (W : World) (K : Act → World → Prop),K (a₁ x) W → assign.wpIn (F.inRound l) (n - 1 - 1) P (Exit.then K (fun _ _ _ => False)) { tmps := (ps.zip (encs x)).foldl (fun t (p,v) => t.setIfInBounds p v) a.tmps,defers := [] } W)
  (hbody : ∀ (l : Nat) (pre : List α) (x : α) (W : World),w.heap.size ≤ l → I pre W → M x W → Nx pre x → body.wpIn (F.inRound l) (n - 1 - 1) P (ownPostG w.heap.size Kp I Ix (pre ++ [x]) W) (a₁ x) W)
  (hdone : ∀ (D : Nat) (xs : List α) (W : World),w.heap.size ≤ D → S xs → I xs W → W.heap[D]? = some (.deferred (some [])) → Q .normal { a with defers := { target := .collected D,args := #[] } :: a.defers } W)
  (hstop : ∀ (D : Nat) (c : Code) (pre : List α) (W : World),w.heap.size ≤ D → Sp pre → Ix c pre W → W.heap[D]? = some (.deferred (some [])) → c.wpIn F n P Q { a with defers := { target := .collected D,args := #[] } :: a.defers } W) :
  (Code.rangeFunc g ps assign body).wpIn F n P Q a w := by
 refine wpIn_rangeFunc fun fn hfn => ?_
 rw [hro]
 obtain ⟨D,hD⟩ : ∃ D,w.heap.size = D := ⟨_,rfl⟩
 obtain ⟨rc,hrc⟩ : ∃ f : LoopState → Option Code → Loop,f = fun st pe => { state := st,pending := pe,fn,tmps := a.tmps,params := ps,assign,body,defers := w.heap.size } := ⟨_,rfl⟩
 have start : Book D (rc .ready none) ((w.alloc (.deferred (some []))).alloc (.loop (rc .ready none))) := by
  subst hD
  refine ⟨?_,(Below.heap_alloc _ _ _ (by simp)).trans (World.alloc_heap_new w _)⟩
  have h := World.alloc_heap_new (w.alloc (.deferred (some []))) (.loop (rc .ready none))
  rwa [World.size_alloc] at h
 obtain ⟨V0,hV0⟩ : ∃ V,(w.alloc (.deferred (some []))).alloc (.loop (rc .ready none)) = V := ⟨_,rfl⟩
 have hB0 : Below w0.heap.size w0 V0 := by rw [← hV0];exact hb0.trans ((((Below.refl _ w).alloc (Nat.le_refl _) _).alloc (by simp) _).mono hb0.size)
 have hI0 : I [] V0 := by rw [← hV0];exact hI.alloc _ (hI.alloc _ h0)
 have hsz : D ≤ V0.heap.size := by rw [← hV0];simp;omega
 refine ⟨D + 1, [{ target := .collected D,args := #[] }],V0, { target := .fn (.func gf) lb,args := #[.func (.yield (D + 1)) #[] #[]] },V0,gf,#[.func (.yield (D + 1)) #[] #[]] ++ lb,V0, ?_, ?_, ?_, ?_,fun _ => h1, ?_⟩
 ·subst hD;rw [← hV0,hrc];exact run_enterLoop_outer _ _ _ _ _
 ·simp only [resolve,hg];simp [go_sem]
 ·intro f' hf';simp [Target.leads] at hf';subst hf';exact hFg
 ·simp [invoke,go_sem,eg]
 rw [hV0] at start
 have far : ∀ {A : World} {row : Option Nat},(∀ r,row = some r → V0.heap.size ≤ r ∧ ∃ o : Obj,A.heap[r]? = some o ∧ o.isWalk = true) → ∀ r,row = some r → w.heap.size ≤ r ∧ ∃ o : Obj,A.heap[r]? = some o ∧ o.isCells = false :=
  fun hr r e => by
   obtain ⟨p,o,q,s⟩ := hr r e
   exact ⟨by omega,o,q,Obj.not_cells_of_walk s⟩
 refine (hseq (D + 1) (fun pre W => I pre W ∧ Book D (rc .ready none) W) (fun pre W => ∃ c,Ix c pre W ∧ Book D (rc .done (some c)) W) V0 hB0
  (fun s A B row hs hg' hr => ⟨hI s A B row hs.1 hg' (far hr),hs.2.walk hg' fun k e => (hr k e).2⟩)
  (fun s A B row hs hg' hr => hs.imp fun c hc => ⟨hIx c s A B row hc.1 hg' (far hr),hc.2.walk hg' fun k e => (hr k e).2⟩) ?_ ⟨hI0,start⟩).mono ?_
 ·rintro pre x V ⟨hi,hk⟩ hm hx
  have hy := run_yield (P := P) (args := encs x) hk.1 (by rw [hrc];exact hps x)
  rw [hrc] at hy
  refine ⟨fn,_,assign,body,hy,roundIn_of_wpIn hfn (hassign _ x V _ ?_)⟩
  clear hy
  refine ⟨_,run_beginRound hk.1 (by rw [hrc]), ?_⟩
  have hkb := hk.turn { rc .ready none with state := .busy }
  have turn : ∀ {W : World} {r r' : Loop} {Z : List α → World → Prop} {ys : List α},OwnFrom w.heap.size Z → Z ys W → Book D r W → Z ys (W.putObj (D + 1) (.loop r')) := fun hZ hz hb => hZ.putObj _ hz (by omega) hb.1 rfl
  have hkp : Kp V (V.putObj (D + 1) (.loop { rc .ready none with state := .busy })) := hKb _ _ _ _ (by omega) hk.1 rfl rfl
  refine wpIn_mono (hbody _ pre x _ (by omega) (turn hI hi hk) (hM.putObj _ hm (by omega) hk.1 rfl) hx) ?_
  have ends : ∀ (j : Option Code) (W : World),Book D { rc .ready none with state := .busy } W → (Instr.endRound (D + 1) j).run P W = .ok (.bool j.isNone) (W.putObj (D + 1) (.loop (rc (if j.isNone then .ready else .done) j))) := fun j W hb => by
   have h := run_endRound (P := P) j hb.1
   rw [hrc] at h ⊢
   exact h
  have leave : ∀ (c : Code) (W : World),KeepsFrom w.heap.size (V.putObj (D + 1) (.loop { rc .ready none with state := .busy })) W → Ix c (pre ++ [x]) W →
    ∃ v W',(Instr.endRound (D + 1) (some c)).run P W = .ok v W' ∧ ((Ending.returned v = .returned (.bool true) ∧ (I (pre ++ [x]) W' ∧ Book D (rc .ready none) W') ∧ Kp V W') ∨ (Ending.returned v = .returned (.bool false) ∧ ∃ c,Ix c (pre ++ [x]) W' ∧ Book D (rc .done (some c)) W')) := fun c W hkf hc => by
   have hb := hkb.keep (hD ▸ hkf)
   exact ⟨_,_,ends (some c) W hb, .inr ⟨rfl,c,turn (hIx c) hc hb,hb.turn _⟩⟩
  rintro e a3 W hp
  cases e with
  | normal =>
   obtain ⟨hkf,hkp3,hi3⟩ := hp
   have hb := hkb.keep (hD ▸ hkf)
   exact ⟨_,_,ends none W hb, .inl ⟨rfl,⟨turn hI hi3 hb,hb.turn _⟩,hKt hkp (hKt hkp3 (hKb _ _ _ _ (by omega) hb.1 rfl rfl))⟩⟩
  | ret => exact leave _ W hp.1 hp.2
  | exit id => exact leave _ W hp.1 hp.2
  | goto t => exact leave _ W hp.1 hp.2
  | panic ch => exact hp.elim
  | outgrown => exact hp.elim
 ·have over : ∀ {W : World} {r : Loop},Book D r W → r.state ≠ .busy → (Instr.endLoop (D + 1)).run P W = .ok r.pending (W.putObj (D + 1) (.loop { r with state := .exhausted })) := fun hb hs => run_endLoop hb.1 hs
  rintro e W ⟨⟨v,rfl⟩,⟨xs,hS,hi,hb⟩ | ⟨pre,hSp,c,hi,hb⟩⟩
  ·have h := over hb (by rw [hrc];simp)
   rw [show (rc .ready none).pending = none by rw [hrc]] at h
   exact ⟨none,_,h,hdone _ xs _ (by omega) hS (hI.putObj _ hi (by omega) hb.1 rfl) (hb.turn _).2⟩
  ·have h := over hb (by rw [hrc];simp)
   rw [show (rc .done (some c)).pending = some c by rw [hrc]] at h
   exact ⟨some c,_,h,hstop _ c pre _ (by omega) hSp ((hIx c).putObj _ hi (by omega) hb.1 rfl) (hb.turn _).2⟩
end Go.Pb
namespace Go.Pb.Txt
open Go Go.Pb Go.Pb.Ware Go.Pb.Sag Go.RowKit


def strV (l : Bs) : Value := .string ⟨l.toArray⟩
theorem strV_eta (s : ByteArray) : strV s.data.toList = .string s := by cases s;simp [strV]
theorem map_str {ls : List ByteArray} {ws : List Bs} (h : ls.map (·.data.toList) = ws) : ls.map Value.string = ws.map strV := by
 rw [← h,List.map_map]
 exact List.map_congr_left fun s _ => (strV_eta s).symm
def StrsAt (B T : Nat) (v : Value) (ws : List Bs) (W : World) : Prop := W.ownsRow B T 1 v ws.length (ws.map strV)
def sayW (l : Bs) : List Bs := if l.head? = some 35 then [] else wordsL l
def digitW (w : Bs) : Option Nat := match w with
 | [c] => if 48 ≤ c.toNat ∧ c.toNat ≤ 57 then some (c.toNat - 48) else none
 | _ => none
def standWord : Bs := [115,116,97,110,100]
def turnedWord : Bs := [116,117,114,110,101,100]
def turnedB (ws : List Bs) : Bool := decide (ws.length = 4) && decide (ws[3]? = some turnedWord)
def formB (ws : List Bs) : Bool := decide (ws[0]? = some standWord) && (decide (ws.length = 3) || turnedB ws)
def standW (ws : List Bs) : Option Sq := if formB ws = true then (digitW (ws.getD 1 [])).bind (fun y : Nat => (digitW (ws.getD 2 [])).map fun x : Nat => (⟨(y : Int),(x : Int),turnedB ws⟩ : Sq)) else none
def inB (q : Sq) : Bool := btw q.y 0 5 && btw q.x 0 5
def textB (qs : List Sq) : Bool := decide (qs.length ≤ 5) && qs.all inB
def endR (qs : List Sq) : List Sq × Int × Int := if textB qs = true then (qs,0,0) else ([],0,23)
def readL : Nat → List Bs → List Sq → List Sq × Int × Int
 | _, [],acc => endR acc
 | i,l :: ls,acc => if sayW l = [] then readL (i + 1) ls acc else (standW (sayW l)).elim ([],(i : Int) + 1,5) fun q => readL (i + 1) ls (acc ++ [q])
def parseA (s : Bs) : List Sq × Int × Int := if s.length > 400 then ([],0,2) else readL 0 (piecesL 10 s) []
def lineQ (q : Sq) : Bs := standWord ++ [32,UInt8.ofNat (48 + q.y.toNat),32,UInt8.ofNat (48 + q.x.toNat)] ++ (if q.turned = true then 32 :: turnedWord else []) ++ [10]
def printA (qs : List Sq) : Bs := qs.flatMap lineQ
theorem sayW_nil : sayW [] = [] := by decide
theorem readL_drop : ∀ (ls : List Bs) (i : Nat) (acc : List Sq),readL i (ls ++ [[]]) acc = readL i ls acc
 | [],i,acc => by
  show readL i [[]] acc = readL i [] acc
  simp only [readL,sayW_nil,if_true]
 | l :: ls,i,acc => by
  rw [List.cons_append,readL,readL,readL_drop ls]
  split
  ·rfl
  ·cases standW (sayW l) with
   | none => rfl
   | some q => exact readL_drop ls _ _
theorem line_dec : ∀ (y x : Fin 6) (t : Bool),(standW (sayW ((lineQ ⟨(y.val : Int),(x.val : Int),t⟩).dropLast))).map (fun q => (q.y,q.x,q.turned)) = some ((y.val : Int),(x.val : Int),t) ∧ sayW ((lineQ ⟨(y.val : Int),(x.val : Int),t⟩).dropLast) ≠ [] ∧ ¬ 10 ∈ (lineQ ⟨(y.val : Int),(x.val : Int),t⟩).dropLast ∧ (lineQ ⟨(y.val : Int),(x.val : Int),t⟩).length ≤ 17 := by decide +kernel
theorem line_say (y x : Fin 6) (t : Bool) : standW (sayW ((lineQ ⟨(y.val : Int),(x.val : Int),t⟩).dropLast)) = some ⟨(y.val : Int),(x.val : Int),t⟩ ∧ sayW ((lineQ ⟨(y.val : Int),(x.val : Int),t⟩).dropLast) ≠ [] ∧ ¬ 10 ∈ (lineQ ⟨(y.val : Int),(x.val : Int),t⟩).dropLast ∧ (lineQ ⟨(y.val : Int),(x.val : Int),t⟩).length ≤ 17 := by
 obtain ⟨h1,h2⟩ := line_dec y x t
 refine ⟨?_,h2⟩
 cases h : standW (sayW ((lineQ ⟨(y.val : Int),(x.val : Int),t⟩).dropLast)) with
 | none => rw [h] at h1;cases h1
 | some q =>
  rw [h] at h1
  obtain ⟨a,b,c⟩ := q
  have h3 := Option.some.inj h1
  injection h3 with e1 e2
  injection e2 with e2 e3
  dsimp only at e1 e2 e3
  rw [e1,e2,e3]
theorem in_fin {q : Sq} (h : inB q = true) : ∃ (y x : Fin 6),q = ⟨(y.val : Int),(x.val : Int),q.turned⟩ := by
 unfold inB at h
 rw [Bool.and_eq_true,btw_iff,btw_iff] at h
 obtain ⟨⟨h1,h2⟩,h3,h4⟩ := h
 refine ⟨⟨q.y.toNat,by omega⟩,⟨q.x.toNat,by omega⟩, ?_⟩
 cases q
 dsimp only at *
 rw [Int.toNat_of_nonneg h1,Int.toNat_of_nonneg h3]
theorem lineQ_cut (q : Sq) : (lineQ q).dropLast ++ [10] = lineQ q := by unfold lineQ;rw [List.dropLast_concat]
theorem read_print : ∀ (qs : List Sq) (i : Nat) (acc : List Sq),qs.all inB = true → readL i (piecesL 10 (printA qs)) acc = endR (acc ++ qs)
 | [],i,acc,_ => by
  show readL i (piecesL 10 []) acc = _
  rw [show piecesL 10 [] = [[]] from rfl]
  simp only [readL,sayW_nil,if_true,List.append_nil]
 | q :: qs,i,acc,h => by
  rw [List.all_cons,Bool.and_eq_true] at h
  obtain ⟨y,x,hq⟩ := in_fin h.1
  obtain ⟨h1,h2,h3, -⟩ := line_say y x q.turned
  rw [← hq] at h1 h2 h3
  have e : printA (q :: qs) = (lineQ q).dropLast ++ 10 :: printA qs := by
   unfold printA;rw [List.flatMap_cons, ← lineQ_cut q,List.append_assoc,List.dropLast_concat];rfl
  rw [e,pieces_hit h3,readL,if_neg h2,h1]
  show readL (i + 1) _ (acc ++ [q]) = _
  rw [read_print qs _ _ h.2,List.append_assoc];rfl
theorem print_len {qs : List Sq} (h : qs.all inB = true) : (printA qs).length ≤ 17 * qs.length := by
 induction qs with
 | nil => simp [printA]
 | cons q qs ih =>
  rw [List.all_cons,Bool.and_eq_true] at h
  obtain ⟨y,x,hq⟩ := in_fin h.1
  have h4 := (line_say y x q.turned).2.2.2
  rw [← hq] at h4
  have := ih h.2
  unfold printA at this ⊢
  rw [List.flatMap_cons,List.length_append,List.length_cons]
  omega
theorem parse_print {qs : List Sq} (h : textB qs = true) : parseA (printA qs) = (qs,0,0) := by
 have h' := h
 unfold textB at h'
 rw [Bool.and_eq_true,decide_eq_true_eq] at h'
 have hl := print_len h'.2
 unfold parseA
 rw [if_neg (by omega),read_print qs 0 [] h'.2,List.nil_append,endR,if_pos h]
theorem all_in {qs : List Sq} {k : Nat} (hk : k < qs.length) (h0 : (qs.take k).all inB = true) (h : inB qs[k] = true) : (qs.take (k + 1)).all inB = true := by
 rw [List.take_succ_eq_append_getElem hk,List.all_append,h0,Bool.true_and];simp [h]
theorem all_out {qs : List Sq} {k : Nat} (hk : k < qs.length) (h : inB qs[k] = false) : qs.all inB = false := by
 rw [List.all_eq_false];exact ⟨qs[k],List.getElem_mem hk,by rw [h];simp⟩
theorem StrsAt.below {B T : Nat} {v : Value} {ws : List Bs} {W W' : World} (h : StrsAt B T v ws W) (hb : Below W.heap.size W W') : StrsAt B T v ws W' := owns_below h hb
theorem StrsAt.base {B B2 T : Nat} {v : Value} {ws : List Bs} {W : World} (h : StrsAt B T v ws W) (hb : B2 ≤ B) : StrsAt B2 T v ws W := owns_base hb h
theorem StrsAt.shape {B T : Nat} {v : Value} {ws : List Bs} {W : World} (h : StrsAt B T v ws W) : ∃ (a : Option Addr) (cap : Nat),v = .slice a ws.length cap ∧ ws.length ≤ 9223372036854775807 := owns_shape h
theorem StrsAt.elem {B T cap k : Nat} {a : Option Addr} {ws : List Bs} {W : World} (h : StrsAt B T (.slice a ws.length cap) ws W) (hk : k < ws.length) : ∃ g,a = some ⟨g,0,none⟩ ∧ W.cell? ⟨g,k,none⟩ = some (strV ws[k]) := by
 obtain ⟨g,c,e, -, -⟩ := own_some h (by omega)
 injection e with e1 _ e2
 subst e1;subst e2
 refine ⟨g,rfl, ?_⟩
 have h2 := World.ownsRow.cells h (g := g) rfl k (strV ws[k]) (by rw [List.getElem?_map,List.getElem?_eq_getElem hk];rfl)
 rwa [Go.WideShapes.add_plain,Nat.zero_add] at h2
theorem piece_facts {c : UInt8} {l : Bs} {PS : List Bs} {ps : List ByteArray} (h : ps.map (·.data.toList) = PS) (hPS : piecesL c l = PS) {k : Nat} {p : ByteArray} (hk : ps[k]? = some p) : p.size ≤ l.length ∧ PS.getD k [] = p.data.toList := by
 have h1 : PS[k]? = some p.data.toList := by rw [← h,List.getElem?_map,hk];rfl
 refine ⟨?_,by rw [List.getD_eq_getElem?_getD,h1];rfl⟩
 have h2 := piece_le (c := c) _ l (Nat.le_refl _) p.data.toList (by rw [hPS];exact List.mem_of_getElem? h1)
 simpa using h2
def saysUp (PS : List Bs) : Nat → List (Nat × List Bs)
 | 0 => []
 | k + 1 => saysUp PS k ++ (if sayW (PS.getD k []) = [] then [] else [(k,sayW (PS.getD k []))])
abbrev Ln := Nat × List Bs × Value
def encY (x : Ln) : Array Value := #[.int .i64 ((x.1 : Int) + 1),x.2.2]
def projY (x : Ln) : Nat × List Bs := (x.1,x.2.1)
def MemY (B T : Nat) (x : Ln) (W : World) : Prop := StrsAt B T x.2.2 x.2.1 W
def NextY (PS : List Bs) (pre : List Ln) (x : Ln) : Prop := x.1 < PS.length ∧ pre.map projY = saysUp PS x.1 ∧ x.2.1 = sayW (PS.getD x.1 []) ∧ x.2.1 ≠ []
def KeepT (n0 T : Nat) (W W' : World) : Prop := W.heap.size ≤ W'.heap.size ∧ ∀ j,n0 ≤ j → ∀ c fz,W.heap[j]? = some (.cells c T fz) → W'.heap[j]? = some (.cells c T fz)
theorem KeepT.refl {n0 T : Nat} {W : World} : KeepT n0 T W W := ⟨Nat.le_refl _,fun _ _ _ _ h => h⟩
theorem KeepT.trans {n0 T : Nat} {A B C : World} (h : KeepT n0 T A B) (k : KeepT n0 T B C) : KeepT n0 T A C := ⟨Nat.le_trans h.1 k.1,fun j hj c fz hc => k.2 j hj c fz (h.2 j hj c fz hc)⟩
theorem KeepT.of_below {n0 T : Nat} {W W' : World} (h : Below W.heap.size W W') : KeepT n0 T W W' := ⟨h.size,fun j _ c fz hc => (h.block j (Array.getElem?_eq_some_iff.1 hc).1).trans hc⟩
theorem KeepT.grown {n0 T : Nat} {W W' : World} {row : Option Nat} (hg : W.grownBy W' row) (hr : ∀ r,row = some r → n0 ≤ r → ∀ c fz,W.heap[r]? ≠ some (.cells c T fz)) : KeepT n0 T W W' :=
 ⟨hg.size,fun j hj c fz hc => (hg.block j (Array.getElem?_eq_some_iff.1 hc).1 (fun e => hr j e.symm hj c fz hc)).trans hc⟩
theorem keepT_b {n0 T : Nat} (W : World) (l : Nat) (o o' : Obj) (h : W.heap[l]? = some o) (hc : o.isCells = false) : KeepT n0 T W (W.putObj l o') :=
 KeepT.grown (grownBy_putObj' W l o') fun r e _ c fz h2 => by
  injection e with e
  subst e
  rw [h] at h2
  have := Option.some.inj h2
  subst this
  cases hc
theorem keepT_own {n0 T B s n : Nat} {v : Value} {xs : List Value} {W W' : World} (h : W.ownsRow B T s v n xs) (hB : n0 ≤ B) (hk : KeepT n0 T W W') : W'.ownsRow B T s v n xs := by
 refine ⟨h.1, ?_⟩
 rcases h.2 with h0 | ⟨g,cap,cur,rfl,hb,hg,rest⟩
 ·exact .inl h0
 ·exact .inr ⟨g,cap,cur,rfl,hb,hk.2 g (by omega) _ _ hg,rest⟩
theorem StrsAt.keep {n0 B T : Nat} {v : Value} {ws : List Bs} {W W' : World} (h : StrsAt B T v ws W) (hB : n0 ≤ B) (hk : KeepT n0 T W W') : StrsAt B T v ws W' := keepT_own h hB hk
theorem heap_cell {W : World} {b k T : Nat} {cs : List Value} {fz : Nat × Nat} {u : Value} (h : W.heap[b]? = some (.cells cs.toArray T fz)) (hk : cs[k]? = some u) : W.cell? ⟨b,k,none⟩ = some u := by
 simp [World.cell?,h,hk]
theorem grown_belowT {W W' : World} {row : Option Nat} (h : Below W.heap.size W W') : W.grownBy W' row := ⟨h.os,h.tape,h.output,h.size,fun k hk _ => h.block k hk⟩
end Go.Pb.Txt
namespace Go.Pb.Txt
open Go Go.Pb Go.Pb.Ware Go.Pb.Sag Go.RowKit


theorem word_le {l x : Bs} (h : x ∈ wordsL l) : x.length ≤ l.length := by
 refine piece_le (c := 32) _ l (Nat.le_refl _) x ?_
 unfold wordsL full at h
 unfold piecesL
 rcases List.mem_append.1 h with h | h
 ·exact List.mem_append_left _ ((List.mem_filter.1 h).1)
 ·split at h
  ·simp at h
  ·exact List.mem_append_right _ h
theorem say_le {l x : Bs} (h : x ∈ sayW l) : x.length ≤ l.length := by
 unfold sayW at h
 split at h
 ·simp at h
 ·exact word_le h
theorem pieces_len {c : UInt8} : ∀ (n : Nat) (l : Bs),l.length ≤ n → (piecesL c l).length ≤ l.length + 1
 | n,l,hn => by
  rcases parted (c := c) l with h | ⟨a,b,rfl,h⟩
  ·rw [pieces_free h,List.length_singleton];omega
  ·rw [pieces_hit h]
   rw [List.length_append,List.length_cons] at hn ⊢
   rw [List.length_cons]
   match n with
   | 0 => omega
   | n + 1 => have := pieces_len (c := c) n b (by omega);omega
theorem getD_le {s : Bs} {PS : List Bs} {k : Nat} (hPS : piecesL 10 s = PS) (hk : k < PS.length) : (PS.getD k []).length ≤ s.length := by
 refine piece_le (c := 10) _ s (Nat.le_refl _) _ ?_
 rw [hPS,List.getD_eq_getElem?_getD,List.getElem?_eq_getElem hk]
 exact List.getElem_mem hk
theorem says_len {PS : List Bs} : ∀ k,(saysUp PS k).length ≤ k
 | 0 => Nat.le_refl _
 | k + 1 => by
  have := says_len (PS := PS) k
  rw [saysUp,List.length_append]
  split <;> simp <;> omega
def AccOf (pre : List Ln) (acc : List Sq) : Prop := pre.map (fun x => standW x.2.1) = acc.map some
theorem AccOf.nil : AccOf [] [] := rfl
theorem AccOf.snoc {pre : List Ln} {acc : List Sq} {x : Ln} {q : Sq} (h : AccOf pre acc) (hx : standW x.2.1 = some q) : AccOf (pre ++ [x]) (acc ++ [q]) := by
 unfold AccOf at h ⊢
 rw [List.map_append,List.map_append,h,List.map_singleton,hx];rfl
theorem AccOf.len {pre : List Ln} {acc : List Sq} (h : AccOf pre acc) : acc.length = pre.length := by
 have := congrArg List.length h
 simpa using this.symm
theorem readL_up {PS : List Bs} : ∀ (k : Nat) (acc : List Sq),k ≤ PS.length → (saysUp PS k).map (fun y => standW y.2) = acc.map some → readL 0 PS [] = readL k (PS.drop k) acc
 | 0,acc,_,h => by
  cases acc with
  | nil => rfl
  | cons a l => simp [saysUp] at h
 | k + 1,acc,hk,h => by
  have hk2 : k < PS.length := hk
  have hd : PS.drop k = PS[k] :: PS.drop (k + 1) := List.drop_eq_getElem_cons hk2
  have hg : PS.getD k [] = PS[k] := by rw [List.getD_eq_getElem?_getD,List.getElem?_eq_getElem hk2];rfl
  rw [saysUp,List.map_append,hg] at h
  by_cases h0 : sayW PS[k] = []
  ·rw [if_pos h0,List.map_nil,List.append_nil] at h
   rw [readL_up k acc (by omega) h,hd,readL,if_pos h0]
  ·rw [if_neg h0,List.map_singleton] at h
   obtain ⟨a1,a2,rfl,e1,e2⟩ := List.map_eq_append_iff.1 h.symm
   obtain ⟨q,rfl,e3⟩ : ∃ q,a2 = [q] ∧ some q = standW (sayW PS[k]) := by
    cases a2 with
    | nil => simp at e2
    | cons q a3 => cases a3 with
     | nil => exact ⟨q,rfl,by simpa using e2⟩
     | cons q2 a4 => simp at e2
   rw [readL_up k a1 (by omega) e1.symm,hd,readL,if_neg h0, ← e3]
   rfl
theorem up_of {pre : List Ln} {acc : List Sq} {PS : List Bs} {k : Nat} (h : pre.map projY = saysUp PS k) (hA : AccOf pre acc) : (saysUp PS k).map (fun y => standW y.2) = acc.map some := by
 rw [← h,List.map_map];exact hA
theorem acc_len {pre : List Ln} {acc : List Sq} {PS : List Bs} {k : Nat} (h : pre.map projY = saysUp PS k) (hA : AccOf pre acc) : acc.length ≤ k := by
 rw [hA.len, ← List.length_map (f := projY),h];exact says_len k
theorem parse_done {s : Bs} {pre : List Ln} {acc : List Sq} {PS : List Bs} (hs : s.length ≤ 400) (hPS : piecesL 10 s = PS) (h : pre.map projY = saysUp PS PS.length) (hA : AccOf pre acc) : parseA s = endR acc := by
 unfold parseA
 rw [if_neg (by omega),hPS,readL_up PS.length acc (Nat.le_refl _) (up_of h hA),List.drop_length];rfl
theorem parse_stop {s : Bs} {pre : List Ln} {acc : List Sq} {PS : List Bs} {x : Ln} (hs : s.length ≤ 400) (hPS : piecesL 10 s = PS) (h : NextY PS pre x) (hA : AccOf pre acc) (hx : standW x.2.1 = none) : parseA s = ([],(x.1 : Int) + 1,5) := by
 obtain ⟨h1,h2,h3,h4⟩ := h
 have hd : PS.drop x.1 = PS[x.1] :: PS.drop (x.1 + 1) := List.drop_eq_getElem_cons h1
 have hg : PS.getD x.1 [] = PS[x.1] := by rw [List.getD_eq_getElem?_getD,List.getElem?_eq_getElem h1];rfl
 rw [hg] at h3
 rw [h3] at h4 hx
 unfold parseA
 rw [if_neg (by omega),hPS,readL_up x.1 acc (by omega) (up_of h2 hA),hd,readL,if_neg h4,hx];rfl
theorem box_below {W W' : World} {b t : Nat} {v : Value} (h : Boxed W b t v) (hb : Below W.heap.size W W') : Boxed W' b t v := (hb.block b h.lt).trans h
theorem box_put {W : World} {b t D : Nat} {v : Value} {o o' : Obj} (h : Boxed W b t v) (hD : W.heap[D]? = some o) (hc : o.isCells = false) : Boxed (W.putObj D o') b t v := h.kept (grownBy_putObj' W D o') fun e => by
 injection e with e
 subst e
 rw [show W.heap[b]? = _ from h] at hD
 cases hD
 cases hc
theorem box_off {W : World} {b c t : Nat} {v : Value} (h : Boxed W b t v) (hne : b ≠ c) (u : Value) : Boxed (W.setCell ⟨c,0,none⟩ u) b t v := h.kept (grownBy_setCell' W c u) (by simpa using hne)
def ParI (n0 : Nat) (w0 : World) (T1 T2 T3 T4 : Nat) (pre : List Ln) (W : World) : Prop :=
 Below n0 w0 W ∧ Boxed W n0 T1 (.slice none 0 0) ∧ Boxed W (n0 + 1) T2 (.int .i64 0) ∧ Boxed W (n0 + 2) T3 (.int .i64 0) ∧
  ∃ acc,AccOf pre acc ∧ ∃ v,Boxed W (n0 + 3) T1 v ∧ W.ownsRow n0 T4 3 v acc.length (acc.flatMap cellsQ) ∧ True
def ParX (n0 : Nat) (w0 : World) (T1 T2 T3 : Nat) (s : Bs) (c : Code) (pre : List Ln) (W : World) : Prop :=
 c = .ret ∧ Below n0 w0 W ∧ Boxed W n0 T1 (.slice none 0 0) ∧ ∃ k : Nat,parseA s = ([],(k : Int) + 1,5) ∧ Boxed W (n0 + 1) T2 (.int .i64 ((k : Int) + 1)) ∧ Boxed W (n0 + 2) T3 (.int .i64 5)
theorem box_own {B : Nat} {X Y : World} {row : Option Nat} {b t : Nat} {v : Value} (h : Boxed X b t v) (hg : X.grownBy Y row) (hr : ∀ r,row = some r → B ≤ r ∧ ∃ o : Obj,X.heap[r]? = some o ∧ o.isCells = false) : Boxed Y b t v := h.kept hg fun e => by
 obtain ⟨-,o,ho,hc⟩ := hr b e.symm
 rw [show X.heap[b]? = _ from h] at ho
 cases ho
 cases hc
theorem parI_own {n0 B T1 T2 T3 T4 : Nat} {w0 : World} (hn : n0 ≤ w0.heap.size) (hB : n0 ≤ B) : OwnFrom B (ParI n0 w0 T1 T2 T3 T4) := by
 rintro s X Y row ⟨h1,h2,h3,h4,acc,hA,h5⟩ hg hr
 exact ⟨h1.grown hg (Nat.le_trans hn h1.size) (fun k e => Nat.le_trans hB (hr k e).1),box_own h2 hg hr,box_own h3 hg hr,box_own h4 hg hr,acc,hA,holdsRow_own n0 (n0 + 3) T1 T4 3 (fun acc : List Sq => acc.length) (fun acc => acc.flatMap cellsQ) (fun _ _ => True) acc X Y row h5 hg (fun r e => (hr r e).2)⟩
theorem parX_own {n0 B T1 T2 T3 : Nat} {w0 : World} {s : Bs} {c : Code} (hn : n0 ≤ w0.heap.size) (hB : n0 ≤ B) : OwnFrom B (ParX n0 w0 T1 T2 T3 s c) := by
 rintro x X Y row ⟨hc,h1,h2,k,hk,h3,h4⟩ hg hr
 exact ⟨hc,h1.grown hg (Nat.le_trans hn h1.size) (fun k e => Nat.le_trans hB (hr k e).1),box_own h2 hg hr,k,hk,box_own h3 hg hr,box_own h4 hg hr⟩
theorem memY_own {n0 B T : Nat} : OwnFrom B (MemY n0 T) := by
 rintro x X Y row h hg hr
 refine StrsAt.keep (n0 := n0) h (Nat.le_refl _) (KeepT.grown hg fun r e _ c fz h2 => ?_)
 obtain ⟨-,o,ho,hc⟩ := hr r e
 rw [h2] at ho
 cases ho
 cases hc
theorem parX_put {n0 T1 T2 T3 : Nat} {w0 W : World} {s : Bs} {pre : List Ln} {k : Nat} {v1 v2 v3 : Value} (hn : n0 ≤ w0.heap.size) (h1 : Below n0 w0 W) (h2 : Boxed W n0 T1 v1) (h3 : Boxed W (n0 + 1) T2 v2) (h4 : Boxed W (n0 + 2) T3 v3) (hp : parseA s = ([],(k : Int) + 1,5)) :
  ParX n0 w0 T1 T2 T3 s .ret pre (((W.setCell ⟨n0,0,none⟩ (.slice none 0 0)).setCell ⟨n0 + 1,0,none⟩ (.int .i64 ((k : Int) + 1))).setCell ⟨n0 + 2,0,none⟩ (.int .i64 5)) := by
 refine ⟨rfl,((h1.setCell (p := ⟨n0,0,none⟩) (Nat.le_refl _) _).setCell (p := ⟨n0 + 1,0,none⟩) (Nat.le_succ _) _).setCell (p := ⟨n0 + 2,0,none⟩) (by show n0 ≤ n0 + 2;omega) _, ?_,k,hp, ?_, ?_⟩
 ·exact box_off (box_off (Boxed.set _ h2) (by omega) _) (by omega) _
 ·exact box_off (Boxed.set _ (box_off h3 (by omega) _)) (by omega) _
 ·exact Boxed.set _ (box_off (box_off h4 (by omega) _) (by omega) _)
theorem keeps3 {W : World} {a b c : Addr} {u v x : Value} : KeepsOthers W (((W.setCell a u).setCell b v).setCell c x) := ((KeepsOthers.setCell _ _ _).trans (KeepsOthers.setCell _ _ _)).trans (KeepsOthers.setCell _ _ _)
theorem ParI.push {n0 T1 T2 T3 T4 T B : Nat} {w0 W w1 : World} {pre : List Ln} {x : Ln} {acc : List Sq} {q : Sq} {v v' : Value} {tmp : Obj} (hT : T1 ≠ T4 ∧ T2 ≠ T4 ∧ T3 ≠ T4 ∧ T ≠ T4) (hn : n0 ≤ w0.heap.size) (h1 : Below n0 w0 W) (h2 : Boxed W n0 T1 (.slice none 0 0)) (h3 : Boxed W (n0 + 1) T2 (.int .i64 0)) (h4 : Boxed W (n0 + 2) T3 (.int .i64 0))
  (hA : AccOf pre acc) (hx : standW x.2.1 = some q) (hv : Boxed W (n0 + 3) T1 v) (ho : W.ownsRow n0 T4 3 v acc.length (acc.flatMap cellsQ)) (hB : n0 + 3 < B)
  (hown : w1.ownsRow n0 T4 3 v' (acc.length + 1) (acc.flatMap cellsQ ++ cellsQ q)) (hg : (W.alloc tmp).grownBy w1 v.ownBlock) :
  (Boxed w1 (n0 + 3) T1 v) ∧ ParI n0 w0 T1 T2 T3 T4 (pre ++ [x]) (w1.setCell ⟨n0 + 3,0,none⟩ v') ∧ KeepsOthers W (w1.setCell ⟨n0 + 3,0,none⟩ v') ∧ KeepT B T W (w1.setCell ⟨n0 + 3,0,none⟩ v') := by
 have hsz := h1.size
 obtain ⟨a1,a2,a3,a4,a5⟩ := hv.appended hT.1 ho (by omega) (by omega) hown hg
 refine ⟨a1,⟨h1.trans a5,box_off ((h2.alloc tmp).kept hg (h2.not_row hT.1 ho)) (by omega) _,box_off ((h3.alloc tmp).kept hg (h3.not_row hT.2.1 ho)) (by omega) _,box_off ((h4.alloc tmp).kept hg (h4.not_row hT.2.2.1 ho)) (by omega) _,acc ++ [q],hA.snoc hx,v',a2,by rw [List.length_append,List.flatMap_append];simpa using a3,trivial⟩,a4, ?_⟩
 refine (KeepT.of_below ((Below.refl _ W).alloc (Nat.le_refl _) tmp)).trans (KeepT.trans (KeepT.grown hg fun r e _ c fz h5 => ?_) (KeepT.grown (grownBy_setCell' w1 (n0 + 3) v') fun r e hr c fz _ => by injection e with e;omega))
 rcases (ho.alloc tmp).2 with ⟨rfl,_⟩ | ⟨g,cap,cur,rfl,_,hgb,_⟩
 ·simp [Value.ownBlock] at e
 ·have e2 : g = r := by simpa [Value.ownBlock] using e
  subst e2
  rw [hgb] at h5
  injection h5 with h5
  injection h5 with _ h5
  exact hT.2.2.2 h5.symm
end Go.Pb.Txt
namespace Go.Proofs.YthdfnkdifjajlaaGreatDoor
open Go Go.RowKit Go.Pb


theorem Tryz.infoU : (Tryz.prog.info? 5).map (fun i => (i.zero,i.size,i.bytes)) = some (some (.int .u8 0),1,1) := by kernel_rfl
theorem own_kind {w : World} {B n : Nat} {e : TypeId} {v : Value} {xs : List Value} (h : w.ownsRow B e 1 v n xs) : ∀ g,v.ownBlock = some g → ∃ c fz,w.heap[g]? = some (.cells c e fz) := by
 intro g hg
 rcases h.2 with ⟨rfl,_⟩ | ⟨g',cap,cur,rfl,_,h3,_⟩
 ·cases hg
 ·injection hg with hg;subst hg;exact ⟨_,_,h3⟩
theorem heap_lt {w : World} {b : Nat} {o : Obj} (h : w.heap[b]? = some o) : b < w.heap.size := (Array.getElem?_eq_some_iff.1 h).1
theorem Tryz.sizeB : (Tryz.prog.info? 35).map (·.size) = some 2 := by kernel_rfl
theorem Tryz.liesB : liesAt Tryz.prog Tryz.prog.depth 35 (2 / Tryz.prog.cellsOf 35) 0 35 1 = true := by kernel_rfl
set_option maxRecDepth 100000 in
set_option maxHeartbeats 1000000 in
theorem copyCheck_any {w : World} {B b : Nat} {bs : List Value} (h : Lib.IsBuilder 35 5 B b bs w) (hBw : B ≤ w.heap.size) :
  Calls Tryz.prog 31 #[.pointer (some ⟨b,0,none⟩)] w (fun e w' => e = .returned (.tuple #[]) ∧ Lib.BuilderAt 35 5 B b (.pointer (some ⟨b,0,none⟩)) (bs) w' ∧ Below B w w' ∧ Lib.OthersKept 5 (some b) w w') := by
 have u32 := run_underlying (P := Tryz.prog) Tryz.underlying32
 have u107 := run_underlying (P := Tryz.prog) Tryz.underlying107
 obtain ⟨j,hj,hjs⟩ := Option.map_eq_some_iff.1 Tryz.sizeB
 rcases h with h | h
 ·have c0 := h.cell0
  have f0 := h.frozen0
  have hsh := h.shape
  go_enter Tryz.func31,Tryz.ntmps31
  go_wp2
  rw [Lib.run_to_unsafe w ⟨b,0,none⟩ Tryz.underlying32 Tryz.underlying107 hj (by rw [hjs];decide) hsh (Nat.zero_lt_succ 1)]
  simp only [Result.andThen]
  rw [Oper.upon_value]
  go_wp2
  rw [run_callFunc_extern Tryz.func49 (by kernel_rfl) (by kernel_rfl) (by kernel_rfl) (e := Extern.AbiNoEscape.same) (by kernel_rfl)]
  rw [Lib.run_noEscape]
  simp only [Result.andThen]
  rw [Oper.upon_value]
  go_wp2
  rw [Lib.run_from_unsafe w ⟨b,0,none⟩ Tryz.underlying107 Tryz.underlying32 hj hsh Tryz.liesB]
  simp only [Result.andThen]
  rw [Oper.upon_value]
  go_wp2
  go_end0
  exact ⟨rfl,h.used _,(Below.refl B w).setCell (p := ⟨b,0,none⟩) h.1 _,(Lib.OthersKept.refl _ _ _).setCell ⟨b,0,none⟩ rfl _⟩
 ·have c0 := h.cell0
  go_enter Tryz.func31,Tryz.ntmps31
  go_wp2
  rw [Lib.run_neq_ptr_same w _ Tryz.underlying32 hj]
  go_wp2
  go_end0
  exact ⟨rfl,h,Below.refl _ _,Lib.OthersKept.refl _ _ _⟩
set_option maxRecDepth 100000 in
set_option maxHeartbeats 1000000 in
theorem writeString_any {w : World} {B b : Nat} {bs : List Value} (h : Lib.IsBuilder 35 5 B b bs w) (hBw : B ≤ w.heap.size) {s : ByteArray} (hlen : bs.length + s.size ≤ 100000) :
  Calls Tryz.prog 11 #[.pointer (some ⟨b,0,none⟩), .string s] w (fun e w' => e = .returned (.tuple #[.int .i64 (s.size : Int), .nilIface]) ∧ Lib.IsBuilder 35 5 B b (bs ++ Lib.strCells s) w' ∧ Below B w w' ∧ Lib.OthersKept 5 (some b) w w') := by
 obtain ⟨i0,hi,hz0,hz1,hz2⟩ := info_parts Tryz.infoU
 have u35 := run_underlying (P := Tryz.prog) Tryz.underlying35
 have u5 := run_underlying (P := Tryz.prog) Tryz.underlying5
 have u33 := run_underlying (P := Tryz.prog) Tryz.underlying33
 have u9 := run_underlying (P := Tryz.prog) Tryz.underlying9
 have u32 := run_underlying (P := Tryz.prog) Tryz.underlying32
 go_enter Tryz.func11,Tryz.ntmps11
 go_wp2_with (go_at_call 31;refine (copyCheck_any h hBw).mono ?_)
 rintro e w1 ⟨rfl,h1,hb1,hk1⟩
 obtain ⟨hB,v,hbk,hown,hne⟩ := h1
 have hs1 := hb1.size
 have c0 : w1.cell? ⟨b,0,none⟩ = some (.pointer (some ⟨b,0,none⟩)) := by rw [Lib.cell_of_heap hbk];rfl
 have c1 : w1.cell? ⟨b,1,none⟩ = some v := by rw [Lib.cell_of_heap hbk];rfl
 have hlt := heap_lt hbk
 go_wp2_with (at_builtin;refine Lib.wpList_append_own_string _ rfl _ _ 33 9 rfl B 5 i0 Tryz.underlying33 Tryz.underlying9 hi hz0 hz1 hz2 _ _ _ rfl hown s rfl (by unfold maxLen;omega) (by omega) (by omega) ?_)
 intro v' w2 ho2 hg _
 have hb2 : w2.heap[b]? = some (.cells #[.pointer (some ⟨b,0,none⟩),v] 35 (0,0)) := by rw [hg.block b hlt (fun e => hne e.symm)];exact hbk
 have d0 : w2.cell? ⟨b,0,none⟩ = some (.pointer (some ⟨b,0,none⟩)) := by rw [Lib.cell_of_heap hb2];rfl
 have d1 : w2.cell? ⟨b,1,none⟩ = some v := by rw [Lib.cell_of_heap hb2];rfl
 have f1 : w2.frozen? ⟨b,1,none⟩ = false := Lib.frozen_of_heap hb2 1
 obtain ⟨ao,ac,rfl, -⟩ := Pb.owns_shape ho2
 go_wp2
 go_ret2
 refine ⟨rfl, .inr (Lib.BuilderAt.put (T := 35) (e := 5) hB hb2 (bs' := bs ++ Lib.strCells s) (by simpa [Lib.strCells_length] using ho2) (by decide)), ?_,(hk1.grown hg (own_kind hown)).setCell ⟨b,1,none⟩ rfl _⟩
 exact (hb1.grown hg (by omega) (fun k hk => (World.ownsRow.lt hown k hk).1)).setCell (p := ⟨b,1,none⟩) hB _
set_option maxRecDepth 100000 in
set_option maxHeartbeats 1000000 in
theorem writeByte_any {w : World} {B b : Nat} {bs : List Value} (h : Lib.IsBuilder 35 5 B b bs w) (hBw : B ≤ w.heap.size) {c : Int} (hlen : bs.length + 1 ≤ 100000) :
  Calls Tryz.prog 13 #[.pointer (some ⟨b,0,none⟩), .int .u8 c] w (fun e w' => e = .returned (.nilIface) ∧ Lib.IsBuilder 35 5 B b (bs ++ [.int .u8 c]) w' ∧ Below B w w' ∧ Lib.OthersKept 5 (some b) w w') := by
 obtain ⟨i0,hi,hz0,hz1,hz2⟩ := info_parts Tryz.infoU
 have u35 := run_underlying (P := Tryz.prog) Tryz.underlying35
 have u5 := run_underlying (P := Tryz.prog) Tryz.underlying5
 have u33 := run_underlying (P := Tryz.prog) Tryz.underlying33
 have u9 := run_underlying (P := Tryz.prog) Tryz.underlying9
 have u32 := run_underlying (P := Tryz.prog) Tryz.underlying32
 go_enter Tryz.func13,Tryz.ntmps13
 go_wp2_with (go_at_call 31;refine (copyCheck_any h hBw).mono ?_)
 rintro e w1 ⟨rfl,h1,hb1,hk1⟩
 obtain ⟨hB,v,hbk,hown,hne⟩ := h1
 have hs1 := hb1.size
 have c0 : w1.cell? ⟨b,0,none⟩ = some (.pointer (some ⟨b,0,none⟩)) := by rw [Lib.cell_of_heap hbk];rfl
 have c1 : w1.cell? ⟨b,1,none⟩ = some v := by rw [Lib.cell_of_heap hbk];rfl
 have hlt := heap_lt hbk
 go_wp2_with (at_builtin;refine wpList_append_own _ rfl _ _ 33 rfl B 5 i0 (.int .u8 0) 1 1 Tryz.underlying33 hi hz0 hz1 hz2 rfl (by decide) _ _ _ rfl (hown.alloc _) ⟨w1.heap.size,0,none⟩ 1 1 [.int .u8 c] rfl rfl (fun j u hj => by cases j with | zero => (injection hj with hj;subst hj;rw [Go.WideShapes.add_plain];simp [go_sem]) | succ j => simp at hj) (fun u hu => by simp at hu;subst hu;rfl) (by unfold maxLen;omega) (by omega) (by simp;omega) ?_)
 intro v' w2 ho2 hg _
 have hb2 : w2.heap[b]? = some (.cells #[.pointer (some ⟨b,0,none⟩),v] 35 (0,0)) := by rw [hg.block b (by simp;omega) (fun e => hne e.symm),Lib.alloc_old w1 _ b hlt];exact hbk
 have d0 : w2.cell? ⟨b,0,none⟩ = some (.pointer (some ⟨b,0,none⟩)) := by rw [Lib.cell_of_heap hb2];rfl
 have d1 : w2.cell? ⟨b,1,none⟩ = some v := by rw [Lib.cell_of_heap hb2];rfl
 have f1 : w2.frozen? ⟨b,1,none⟩ = false := Lib.frozen_of_heap hb2 1
 obtain ⟨ao,ac,rfl, -⟩ := Pb.owns_shape ho2
 go_wp2
 go_ret
 refine ⟨rfl, .inr (Lib.BuilderAt.put (T := 35) (e := 5) hB hb2 (bs' := bs ++ [.int .u8 c]) (by simpa using ho2) (by decide)), ?_,((hk1.alloc _).grown hg (own_kind (hown.alloc _))).setCell ⟨b,1,none⟩ rfl _⟩
 exact ((hb1.alloc (by omega) _).grown hg (by simp;omega) (fun k hk => (World.ownsRow.lt hown k hk).1)).setCell (p := ⟨b,1,none⟩) hB _
end Go.Proofs.YthdfnkdifjajlaaGreatDoor
namespace Go.Pb.Txt
open Go Go.Pb Go.Pb.Ware Go.Pb.Sag Go.RowKit


def linesR (l : Bs) : List Bs := (pfold 10 l).1 ++ (if (pfold 10 l).2 = [] then [] else [(pfold 10 l).2])
theorem read_lines (l : Bs) : readL 0 (piecesL 10 l) [] = readL 0 (linesR l) [] := by
 unfold piecesL linesR
 split
 ·rename_i h;rw [h,readL_drop,List.append_nil]
 ·rfl
theorem linesR_le {l x : Bs} (h : x ∈ linesR l) : x.length ≤ l.length := by
 refine piece_le (c := 10) _ l (Nat.le_refl _) x ?_
 unfold linesR at h
 unfold piecesL
 rcases List.mem_append.1 h with h | h
 ·exact List.mem_append_left _ h
 ·split at h
  ·simp at h
  ·exact List.mem_append_right _ h
theorem linesR_len (l : Bs) : (linesR l).length ≤ l.length + 1 := by
 have h := pieces_len (c := 10) _ l (Nat.le_refl _)
 unfold linesR
 unfold piecesL at h
 split
 ·rw [List.append_nil];rw [List.length_append] at h;omega
 ·exact h
theorem drop_at {LS : List Bs} {k : Nat} {l : Bs} (hk : LS[k]? = some l) : LS.drop k = l :: LS.drop (k + 1) := by
 obtain ⟨h,rfl⟩ := List.getElem?_eq_some_iff.1 hk
 exact List.drop_eq_getElem_cons h
theorem rd_skip {LS : List Bs} {k : Nat} {l : Bs} {acc : List Sq} {r : List Sq × Int × Int} (h : r = readL k (LS.drop k) acc) (hk : LS[k]? = some l) (h0 : sayW l = []) : r = readL (k + 1) (LS.drop (k + 1)) acc := by
 rw [h,drop_at hk,readL,if_pos h0]
theorem rd_bad {LS : List Bs} {k : Nat} {l : Bs} {acc : List Sq} {r : List Sq × Int × Int} (h : r = readL k (LS.drop k) acc) (hk : LS[k]? = some l) (h0 : sayW l ≠ []) (hs : standW (sayW l) = none) : r = ([],(k : Int) + 1,5) := by
 rw [h,drop_at hk,readL,if_neg h0,hs];rfl
theorem rd_good {LS : List Bs} {k : Nat} {l : Bs} {acc : List Sq} {q : Sq} {r : List Sq × Int × Int} (h : r = readL k (LS.drop k) acc) (hk : LS[k]? = some l) (h0 : sayW l ≠ []) (hs : standW (sayW l) = some q) : r = readL (k + 1) (LS.drop (k + 1)) (acc ++ [q]) := by
 rw [h,drop_at hk,readL,if_neg h0,hs];rfl
theorem rd_end {LS : List Bs} {acc : List Sq} {r : List Sq × Int × Int} (h : r = readL LS.length (LS.drop LS.length) acc) : r = endR acc := by
 rw [h,List.drop_length];rfl
theorem rd_start {s : Bs} {r : List Sq × Int × Int} (hs : s.length ≤ 400) (h : parseA s = r) : r = readL 0 ((linesR s).drop 0) [] := by
 rw [← h,parseA,if_neg (by omega),read_lines];rfl
theorem full_snoc (ps : List Bs) (p : Bs) : full (ps ++ [p]) = full ps ++ (if p = [] then [] else [p]) := by
 unfold full
 rw [List.filter_append]
 cases p <;> simp
theorem pf_other {c : UInt8} {s : ByteArray} {k : Nat} (hk : k < s.size) (h : s[k] ≠ c) : pfold c (s.data.toList.take (k + 1)) = ((pfold c (s.data.toList.take k)).1,(pfold c (s.data.toList.take k)).2 ++ [s[k]]) := by
 have hk2 : k < s.data.toList.length := by simpa using hk
 have e : s.data.toList[k]'hk2 = s[k] := by simp;rfl
 rw [pfold_take hk2,e,pstep,if_neg h]
theorem pf_hit {c : UInt8} {s : ByteArray} {k : Nat} (hk : k < s.size) (h : s[k] = c) : pfold c (s.data.toList.take (k + 1)) = ((pfold c (s.data.toList.take k)).1 ++ [(pfold c (s.data.toList.take k)).2], []) := by
 have hk2 : k < s.data.toList.length := by simpa using hk
 have e : s.data.toList[k]'hk2 = s[k] := by simp;rfl
 rw [pfold_take hk2,e,pstep,if_pos h]
theorem pf_all {c : UInt8} {s : ByteArray} : pfold c (s.data.toList.take s.size) = pfold c s.data.toList := by
 rw [List.take_of_length_le (by simp)]
theorem pf_len {c : UInt8} : ∀ (l : Bs),(pfold c l).2.length ≤ l.length ∧ (pfold c l).1.length ≤ l.length := by
 intro l
 refine ⟨?_, ?_⟩
 ·have h := piece_le (c := c) _ l (Nat.le_refl _) (pfold c l).2 (by unfold piecesL;simp)
  exact h
 ·have h := pieces_len (c := c) _ l (Nat.le_refl _)
  unfold piecesL at h
  rw [List.length_append,List.length_singleton] at h
  omega
theorem pf_bounds {c : UInt8} {l : Bs} {k : Nat} {ps : List Bs} {cur : Bs} (h : pfold c (l.take k) = (ps,cur)) : (full ps).length ≤ k ∧ cur.length ≤ k ∧ ps.length ≤ k := by
 have h1 := pf_len (c := c) (l.take k)
 rw [h] at h1
 have h2 : (l.take k).length ≤ k := by rw [List.length_take];omega
 have h3 : (full ps).length ≤ ps.length := List.length_filter_le ..
 dsimp only at h1
 omega
theorem one_cell (w : World) (x : Value) (t : TypeId) (n : Nat) (hn : w.heap.size = n) : ∀ j u, [x][j]? = some u → (w.alloc (.cells #[x] t)).cell? ((⟨n,0,none⟩ : Addr).add j) = some u := by
 intro j u h
 cases j with
 | zero =>
  injection h with h
  subst h
  subst hn
  rw [Go.WideShapes.add_plain,Nat.zero_add]
  exact heap_cell (cs := [x]) (World.alloc_heap_new w _) rfl
 | succ j => simp at h
theorem ext_one {s : ByteArray} {k : Nat} (hk : k < s.size) (cur : Bs) : (⟨cur.toArray⟩ : ByteArray) ++ s.extract k (k + 1) = (⟨(cur ++ [s[k]]).toArray⟩ : ByteArray) := by
 have hk2 : k < s.data.toList.length := by simpa using hk
 have e : s.data.toList[k]'hk2 = s[k] := by simp;rfl
 have h := extL_eq (s := s) (a := k) (b := k + 1)
 unfold extL at h
 refine ByteArray.ext (Array.toList_inj.1 ?_)
 rw [ByteArray.data_append,Array.toList_append,h,List.take_succ_eq_append_getElem hk2,List.drop_append_of_le_length (by rw [List.length_take];omega),List.drop_eq_nil_of_le (by rw [List.length_take];omega),e]
 simp
theorem ext_to {s : ByteArray} {a b : Nat} : s.extract a b = (⟨((s.data.toList.take b).drop a).toArray⟩ : ByteArray) := by
 have h := extL_eq (s := s) (a := a) (b := b)
 unfold extL at h
 refine ByteArray.ext (Array.toList_inj.1 ?_)
 rw [h]
end Go.Pb.Txt
namespace Go.Pb.Sag
open Go Go.Pb Go.Pb.Ware Go.RowKit

theorem copy_owns {w : World} {lo T B m : Nat} {cur : Array Value} {cs : List Value} (hg : w.heap[B]? = some (.cells cur T (0,0))) (hlo : lo ≤ B) (hs : cur.size = m) (hm : m ≤ maxLen) (hc : cs.length = m) :
  (w.setRow B (cur.toList.take 0 ++ (cs ++ cur.toList.drop (0 + cs.length))).toArray).ownsRow lo T 1 (.slice (some ⟨B,0,none⟩) m m) m cs := by
 have e : cur.toList.take 0 ++ (cs ++ cur.toList.drop (0 + cs.length)) = cs := by
  rw [List.take_zero,List.nil_append,Nat.zero_add,List.drop_of_length_le (by rw [Array.length_toList];omega),List.append_nil]
 rw [e]
 refine ⟨by omega, .inr ⟨B,m,cs.toArray,rfl,hlo,setRow_heap w B cur _ T (0,0) hg,Nat.le_refl _,hm,by simp;omega, ?_⟩⟩
 rw [Nat.mul_one,List.take_of_length_le (by simp;omega)]
def groupsF (s : Bx) (fs : List Ft) : Option (List (List Int)) := (List.range (fs.length + 1)).findSome? fun m => putF s fs m fs.length 0 []
def groupsA (ss bs : List (List Int)) (s : Bx) (xs : List It) : List (List Int) × Int :=
 if ckL ss bs s xs = 0 then (if (feetV ss bs s xs).all (fun f => fitsB s [f]) = true then ((groupsF s (feetV ss bs s xs)).getD [],0) else ([],24)) else ([],ckL ss bs s xs)
theorem find_some {α : Type} {f : Nat → Option α} {n : Nat} {r : α} (h : (List.range n).findSome? f = some r) : ∃ k,k < n ∧ f k = some r := by
 obtain ⟨k,hk,h2⟩ := List.exists_of_findSome?_eq_some h
 exact ⟨k,List.mem_range.1 hk,h2⟩
end Go.Pb.Sag
namespace Go.Pb.Sag
open Go Go.Pb Go.Pb.Ware Go.RowKit

def putG (does : List Int → Bool) (most : Nat) : Nat → Nat → List (List Int) → Option (List (List Int))
 | 0,_,gs => some gs
 | d + 1,i,gs =>
  match (List.range gs.length).findSome? (fun k => if does (gs.getD k [] ++ [(i : Int)]) = true then putG does most d (i + 1) (gs.set k (gs.getD k [] ++ [(i : Int)])) else none) with
  | some r => some r
  | none => if gs.length = most then none else (if does [(i : Int)] = true then putG does most d (i + 1) (gs ++ [[(i : Int)]]) else none)
def tryG (does : List Int → Bool) (most d i : Nat) (gs : List (List Int)) (k : Nat) : Option (List (List Int)) := if does (gs.getD k [] ++ [(i : Int)]) = true then putG does most d (i + 1) (gs.set k (gs.getD k [] ++ [(i : Int)])) else none
theorem tryG_last (does : List Int → Bool) (most d i : Nat) (gs : List (List Int)) : tryG does most d i (gs ++ [[]]) gs.length = if does [(i : Int)] = true then putG does most d (i + 1) (gs ++ [[(i : Int)]]) else none := by
 unfold tryG
 rw [List.getD_eq_getElem?_getD,List.getElem?_append_right (Nat.le_refl _),Nat.sub_self,List.set_append_right _ _ (Nat.le_refl _),Nat.sub_self]
 rfl
theorem putG_succ (does : List Int → Bool) (most d i : Nat) (gs : List (List Int)) : putG does most (d + 1) i gs = match (List.range gs.length).findSome? (tryG does most d i gs) with
  | some r => some r
  | none => if gs.length = most then none else tryG does most d i (gs ++ [[]]) gs.length := by rw [tryG_last,putG];rfl
theorem putG_F {s : Bx} {fs : List Ft} {most : Nat} : ∀ (d i : Nat) (gs : List (List Int)),(∀ j,i ≤ j → j < i + d → fitsB s (chosenL fs [(j : Int)]) = true) → putG (fun g => fitsB s (chosenL fs g)) most d i gs = putF s fs most d i gs
 | 0,i,gs,_ => by rw [putG,putF]
 | d + 1,i,gs,h => by
  have ih : ∀ gs,putG (fun g => fitsB s (chosenL fs g)) most d (i + 1) gs = putF s fs most d (i + 1) gs := fun gs => putG_F d (i + 1) gs fun j h1 h2 => h j (by omega) (by omega)
  rw [putG,putF]
  simp only [ih,h i (Nat.le_refl _) (by omega),if_true]
  try (generalize (List.range gs.length).findSome? _ = r;cases r <;> rfl)
theorem putG_some {does : List Int → Bool} {most : Nat} : ∀ (d i : Nat) (gs : List (List Int)),(∀ j,i ≤ j → j < i + d → does [(j : Int)] = true) → i + d ≤ most → gs.length ≤ i → ∃ r,putG does most d i gs = some r
 | 0,i,gs,_,_,_ => ⟨gs,rfl⟩
 | d + 1,i,gs,h,h1,h2 => by
  rw [putG_succ]
  cases hf : (List.range gs.length).findSome? (tryG does most d i gs) with
  | some r => exact ⟨r,rfl⟩
  | none =>
   dsimp only
   rw [if_neg (by omega),tryG_last,if_pos (h i (Nat.le_refl _) (by omega))]
   exact putG_some d (i + 1) _ (fun j h3 h4 => h j (by omega) (by omega)) (by omega) (by rw [List.length_append,List.length_singleton];omega)
def GoodR (i : Nat) (gs : List (List Int)) : Prop := Good i gs ∧ ∀ g ∈ gs,g.Pairwise (· < ·)
theorem GoodR.nil : GoodR 0 [] := ⟨Good.nil,fun g h => by cases h⟩
theorem rise_snoc {i : Nat} {g : List Int} (h : g.Pairwise (· < ·)) (hl : ∀ z ∈ g,0 ≤ z ∧ z < (i : Int)) : (g ++ [(i : Int)]).Pairwise (· < ·) := by
 rw [List.pairwise_append]
 exact ⟨h,List.pairwise_singleton _ _,fun a ha b hb => by rw [List.mem_singleton.1 hb];exact (hl a ha).2⟩
theorem GoodR.push {i k : Nat} {gs : List (List Int)} {g : List Int} (h : GoodR i gs) (hg : gs[k]? = some g) : GoodR (i + 1) (gs.set k (g ++ [(i : Int)])) := by
 refine ⟨h.1.push hg,fun g' hm => ?_⟩
 have hgm := List.mem_of_getElem? hg
 rcases List.mem_or_eq_of_mem_set hm with h1 | rfl
 ·exact h.2 g' h1
 ·exact rise_snoc (h.2 g hgm) (h.1.lt g hgm)
theorem GoodR.snoc {i : Nat} {gs : List (List Int)} (h : GoodR i gs) : GoodR (i + 1) (gs ++ [[(i : Int)]]) := by
 refine ⟨h.1.snoc,fun g hm => ?_⟩
 rcases List.mem_append.1 hm with h1 | h1
 ·exact h.2 g h1
 ·simp at h1;subst h1;exact List.pairwise_singleton _ _
theorem set_last (gs : List (List Int)) (g : List Int) : (gs ++ [[]]).set gs.length g = gs ++ [g] := by
 rw [List.set_append_right _ _ (Nat.le_refl _),Nat.sub_self];rfl
theorem putG_good {does : List Int → Bool} {most : Nat} : ∀ (d i : Nat) (gs rs : List (List Int)),GoodR i gs → gs.length ≤ most → putG does most d i gs = some rs → GoodR (i + d) rs ∧ rs.length ≤ most
 | 0,i,gs,rs,hG,hm,h => by
  rw [putG] at h;injection h with h;subst h;exact ⟨hG,hm⟩
 | d + 1,i,gs,rs,hG,hm,h => by
  rw [putG_succ] at h
  cases hf : (List.range gs.length).findSome? (tryG does most d i gs) with
  | some r =>
   rw [hf] at h
   injection h with h
   subst h
   obtain ⟨k,hk,h2⟩ := find_some hf
   unfold tryG at h2
   split at h2
   ·have hg : gs[k]? = some gs[k] := List.getElem?_eq_getElem hk
    rw [List.getD_eq_getElem?_getD,hg,Option.getD_some] at h2
    have := putG_good d (i + 1) _ _ (hG.push hg) (by rw [List.length_set];exact hm) h2
    rw [show i + 1 + d = i + (d + 1) by omega] at this
    exact this
   ·cases h2
  | none =>
   rw [hf] at h
   dsimp only at h
   split at h
   ·cases h
   ·rw [tryG_last] at h
    split at h
    ·have := putG_good d (i + 1) _ _ hG.snoc (by rw [List.length_append,List.length_singleton];omega) h
     rw [show i + 1 + d = i + (d + 1) by omega] at this
     exact this
    ·cases h
def fewG (does : List Int → Bool) (n : Nat) : Option (List (List Int)) :=
 if (List.range n).all (fun j => does [(j : Int)]) = true then (List.range (n + 1)).findSome? (fun m => putG does m n 0 []) else none
structure Above (B : Nat) (W W' : World) : Prop where
 size : W.heap.size ≤ W'.heap.size
 block : ∀ b,B ≤ b → b < W.heap.size → W'.heap[b]? = W.heap[b]?
theorem Above.of_below {B : Nat} {W W' : World} (h : Below W.heap.size W W') : Above B W W' := ⟨h.size,fun b _ h1 => h.block b h1⟩
theorem Above.cell {B b o : Nat} {W W' : World} {v : Value} (h : Above B W W') (hb : B ≤ b) (hc : W.cell? ⟨b,o,none⟩ = some v) : W'.cell? ⟨b,o,none⟩ = some v :=
 (World.cell?_of_block (a := ⟨b,o,none⟩) (h.block b hb (World.block_lt_of_cell? W _ hc))).trans hc
theorem Above.free {B b o : Nat} {W W' : World} {v : Value} (h : Above B W W') (hb : B ≤ b) (hc : W.cell? ⟨b,o,none⟩ = some v) (hf : W.frozen? ⟨b,o,none⟩ = false) : W'.frozen? ⟨b,o,none⟩ = false :=
 (World.frozen?_of_block (a := ⟨b,o,none⟩) (h.block b hb (World.block_lt_of_cell? W _ hc))).trans hf
theorem owns_above {B lo e s n : Nat} {W W' : World} {v : Value} {xs : List Value} (h : W.ownsRow lo e s v n xs) (hB : B ≤ lo) (ha : Above B W W') : W'.ownsRow lo e s v n xs := by
 refine ⟨h.1, ?_⟩
 rcases h.2 with hn | ⟨g,cap,cur,h1,h2,h3,h4⟩
 ·exact .inl hn
 ·exact .inr ⟨g,cap,cur,h1,h2,(ha.block g (by omega) (Array.getElem?_eq_some_iff.1 h3).1).trans h3,h4⟩
def Apart (vs : List Value) : Prop := ∀ (j k : Nat) (u v : Value),j ≠ k → vs[j]? = some u → vs[k]? = some v → u.ownBlock = none ∨ u.ownBlock ≠ v.ownBlock
def PartsAt (B TO TI : Nat) (gs : List (List Int)) (W : World) : Prop := ∃ (gv : Value) (vs : List Value),(W.cell? ⟨B + 3,0,none⟩ = some gv ∧ W.frozen? ⟨B + 3,0,none⟩ = false) ∧ W.ownsRow (B + 6) TO 1 gv gs.length vs ∧ RowsIn (B + 6) TI W vs gs ∧ Apart vs ∧ B + 6 ≤ W.heap.size
theorem PartsAt.keep {B TO TI : Nat} {gs : List (List Int)} {W W' : World} (h : PartsAt B TO TI gs W) (ha : Above B W W') : PartsAt B TO TI gs W' := by
 obtain ⟨gv,vs,⟨c1,c2⟩,ho,hr,hA,hs⟩ := h
 exact ⟨gv,vs,⟨ha.cell (by omega) c1,ha.free (by omega) c1 c2⟩,owns_above ho (by omega) ha,fun k v g h1 h2 => owns_above (hr k v g h1 h2) (by omega) ha,hA,by have := ha.size;omega⟩
def BoxesAt (B : Nat) (a0 a1 a2 a4 a5 : Value) (W : World) : Prop := W.cell? ⟨B,0,none⟩ = some a0 ∧ W.cell? ⟨B + 1,0,none⟩ = some a1 ∧ W.cell? ⟨B + 2,0,none⟩ = some a2 ∧ W.cell? ⟨B + 4,0,none⟩ = some a4 ∧ W.cell? ⟨B + 5,0,none⟩ = some a5
theorem BoxesAt.keep {B : Nat} {a0 a1 a2 a4 a5 : Value} {W W' : World} (h : BoxesAt B a0 a1 a2 a4 a5 W) (hb : ∀ b,B ≤ b → b < B + 6 → b ≠ B + 3 → W'.heap[b]? = W.heap[b]?) : BoxesAt B a0 a1 a2 a4 a5 W' := by
 obtain ⟨h0,h1,h2,h4,h5⟩ := h
 have key : ∀ {b : Nat} {v : Value},B ≤ b → b < B + 6 → b ≠ B + 3 → W.cell? ⟨b,0,none⟩ = some v → W'.cell? ⟨b,0,none⟩ = some v := fun h1 h2 h3 h4 => (World.cell?_of_block (a := ⟨_,0,none⟩) (hb _ h1 h2 h3)).trans h4
 exact ⟨key (by omega) (by omega) (by omega) h0,key (by omega) (by omega) (by omega) h1,key (by omega) (by omega) (by omega) h2,key (by omega) (by omega) (by omega) h4,key (by omega) (by omega) (by omega) h5⟩
theorem BoxesAt.above {B : Nat} {a0 a1 a2 a4 a5 : Value} {W W' : World} (h : BoxesAt B a0 a1 a2 a4 a5 W) (hs : B + 6 ≤ W.heap.size) (ha : Above B W W') : BoxesAt B a0 a1 a2 a4 a5 W' := h.keep fun b h1 h2 _ => ha.block b h1 (by omega)
theorem BoxesAt.below {B : Nat} {a0 a1 a2 a4 a5 : Value} {W W' : World} (h : BoxesAt B a0 a1 a2 a4 a5 W) (hb : Below (B + 6) W W') : BoxesAt B a0 a1 a2 a4 a5 W' := h.keep fun b h1 h2 _ => hb.block b h2
theorem BoxesAt.set {B : Nat} {a0 a1 a2 a4 a5 v : Value} {W : World} (h : BoxesAt B a0 a1 a2 a4 a5 W) : BoxesAt B a0 a1 a2 a4 a5 (W.setCell ⟨B + 3,0,none⟩ v) := h.keep fun b h1 h2 h3 => Below.heap_setCell _ _ _ _ h3
theorem PartsAt.push {B TO TI i k : Nat} (hT : TO ≠ TI) {gs : List (List Int)} {g : List Int} {W w2 w3 : World} {v v' : Value} {vs : List Value} {gb cap : Nat} (hG : Good (i + 1) (gs.set k (g ++ [(i : Int)]))) (hg : gs[k]? = some g) (hv : vs[k]? = some v)
  (c8 : W.cell? ⟨B + 3,0,none⟩ = some (.slice (some ⟨gb,0,none⟩) gs.length cap) ∧ W.frozen? ⟨B + 3,0,none⟩ = false) (ho : W.ownsRow (B + 6) TO 1 (.slice (some ⟨gb,0,none⟩) gs.length cap) gs.length vs) (hr : RowsIn (B + 6) TI W vs gs) (hA : Apart vs) (hsz : B + 6 ≤ W.heap.size)
  (hb : Below W.heap.size W w2) (hg3 : w2.grownBy w3 v.ownBlock) (ho3 : w3.ownsRow (B + 6) TI 1 v' (g.length + 1) (g.map (Value.int .i64) ++ [.int .i64 (i : Int)])) :
  (w3.cell? ⟨gb,k,none⟩ = some v ∧ w3.frozen? ⟨gb,k,none⟩ = false) ∧ PartsAt B TO TI (gs.set k (g ++ [(i : Int)])) (w3.setCell ⟨gb,k,none⟩ v') ∧ Below (B + 6) W (w3.setCell ⟨gb,k,none⟩ v') := by
 have hk : k < gs.length := (List.getElem?_eq_some_iff.1 hg).1
 have hrow := hr k v g hv hg
 have ho2 := owns_below ho hb
 have hrow2 := owns_below hrow hb
 have hgb : B + 6 ≤ gb := own_ge ho gb rfl
 have a1 : (Value.slice (some ⟨gb,0,none⟩) gs.length cap).ownBlock = none ∨ (Value.slice (some ⟨gb,0,none⟩) gs.length cap).ownBlock ≠ v.ownBlock := apart_types ho2 hrow2 hT
 have ho4 : w3.ownsRow (B + 6) TO 1 (.slice (some ⟨gb,0,none⟩) gs.length cap) gs.length vs := ho2.kept hg3 a1
 have hbw : Below (B + 6) W w3 := (hb.mono hsz).grown hg3 (by have := hb.size;omega) (own_ge hrow)
 have a2 : some gb ≠ v.ownBlock := by rcases a1 with h | h;cases h;exact h
 have hcell : w3.cell? ⟨gb,k,none⟩ = some v := by
  have h1 := ho4.cells (g := gb) rfl k v hv
  rw [Go.WideShapes.add_plain,Nat.zero_add] at h1
  exact h1
 have hvl : k < vs.length := (List.getElem?_eq_some_iff.1 hv).1
 have hts : ∀ {u : Value} {n : Nat} {xs : List Value},w3.ownsRow (B + 6) TI 1 u n xs → u.ownBlock = none ∨ u.ownBlock ≠ some gb := fun h => apart_types h ho4 (Ne.symm hT)
 have hrj : ∀ (j : Nat) (u : Value) (g' : List Int),j ≠ k → vs[j]? = some u → gs[j]? = some g' → w3.ownsRow (B + 6) TI 1 u g'.length (g'.map (Value.int .i64)) := fun j u g' e hu hg' =>
  (owns_below (hr j u g' hu hg') hb).kept hg3 (hA j k u v e hu hv)
 have hkey : ∀ (j : Nat) (u : Value),j ≠ k → vs[j]? = some u → (v'.ownBlock = none ∨ v'.ownBlock ≠ u.ownBlock) ∧ (u.ownBlock = none ∨ u.ownBlock ≠ v'.ownBlock) := fun j u e hu => by
  have hjl : j < gs.length := by have h1 := ho.1;have h2 := (List.getElem?_eq_some_iff.1 hu).1;omega
  have hg' : gs[j]? = some gs[j] := List.getElem?_eq_getElem hjl
  have hj := hrj j u _ e hu hg'
  obtain ⟨x,hx⟩ := hG.one j gs[j] (by rw [List.getElem?_set_ne (Ne.symm e)];exact hg')
  obtain ⟨y,hy⟩ := hG.one k (g ++ [(i : Int)]) (List.getElem?_set_self hk)
  have hxy := hG.apart j k gs[j] (g ++ [(i : Int)]) x y e (by rw [List.getElem?_set_ne (Ne.symm e)];exact hg') (List.getElem?_set_self hk) hx hy
  have h1 : (gs[j].map (Value.int .i64))[0]? = some (.int .i64 x) := by rw [List.getElem?_map,hx];rfl
  have h2 : (g.map (Value.int .i64) ++ [.int .i64 (i : Int)])[0]? = some (.int .i64 y) := by
   have h3 : ((g ++ [(i : Int)]).map (Value.int .i64))[0]? = some (.int .i64 y) := by rw [List.getElem?_map,hy];rfl
   simpa using h3
  exact ⟨apart_heads ho3 hj h2 h1 (fun h => hxy (by injection h with _ h;exact h.symm)),apart_heads hj ho3 h1 h2 (fun h => hxy (by injection h))⟩
 refine ⟨⟨hcell,owns_frozen ho4 rfl k⟩,⟨.slice (some ⟨gb,0,none⟩) gs.length cap,vs.set k v',⟨?_, ?_⟩, ?_, ?_, ?_, ?_⟩,hbw.setCell (p := ⟨gb,k,none⟩) hgb v'⟩
 ·exact setc_block ((hbw.cell (p := ⟨B + 3,0,none⟩) (by simp)).trans c8.1) (by omega)
 ·exact set_free ((hbw.cell (p := ⟨B + 3,0,none⟩) (by simp)).trans c8.1) ((hbw.frozen (p := ⟨B + 3,0,none⟩) (by simp)).trans c8.2)
 ·rw [List.length_set];exact row_set ho4 hk
 ·intro j u g' hu hg'
  by_cases e : j = k
  ·subst e
   rw [List.getElem?_set_self hvl] at hu
   rw [List.getElem?_set_self hk] at hg'
   obtain rfl : v' = u := by simpa using hu
   obtain rfl : g ++ [(i : Int)] = g' := by simpa using hg'
   have h1 := set_own (o := j) (u := v') ho3 (hts ho3)
   simpa using h1
  ·rw [List.getElem?_set_ne (Ne.symm e)] at hu hg'
   have h3 := hrj j u g' e hu hg'
   exact set_own h3 (hts h3)
 ·intro j l u x hne hu hx
  by_cases e : j = k
  ·subst e
   rw [List.getElem?_set_self hvl] at hu
   rw [List.getElem?_set_ne hne] at hx
   obtain rfl : v' = u := by simpa using hu
   exact (hkey l x (Ne.symm hne) hx).1
  ·rw [List.getElem?_set_ne (Ne.symm e)] at hu
   by_cases e2 : l = k
   ·subst e2
    rw [List.getElem?_set_self hvl] at hx
    obtain rfl : v' = x := by simpa using hx
    exact (hkey j u e hu).2
   ·rw [List.getElem?_set_ne (Ne.symm e2)] at hx
    exact hA j l u x hne hu hx
 ·have := hbw.size;show B + 6 ≤ (w3.setCell _ _).heap.size;simp;omega
theorem PartsAt.pop {B TO TI i k : Nat} (hT : TO ≠ TI) {gs : List (List Int)} {g : List Int} {W : World} {gb gcap b cap n : Nat} {vs : List Value} (hgs : gs[k]? = some g) (hn : gs.length = n)
  (c8 : W.cell? ⟨B + 3,0,none⟩ = some (.slice (some ⟨gb,0,none⟩) n gcap) ∧ W.frozen? ⟨B + 3,0,none⟩ = false) (ho : W.ownsRow (B + 6) TO 1 (.slice (some ⟨gb,0,none⟩) n gcap) n vs) (hr : RowsIn (B + 6) TI W vs (gs.set k (g ++ [(i : Int)]))) (hA : Apart vs) (hsz : B + 6 ≤ W.heap.size)
  (hv : vs[k]? = some (.slice (some ⟨b,0,none⟩) (g.length + 1) cap)) :
  PartsAt B TO TI gs (W.setCell ⟨gb,k,none⟩ (.slice (some ⟨b,0,none⟩) g.length cap)) ∧ Below (B + 6) W (W.setCell ⟨gb,k,none⟩ (.slice (some ⟨b,0,none⟩) g.length cap)) := by
 subst hn
 have hk : k < gs.length := (List.getElem?_eq_some_iff.1 hgs).1
 have hvl : k < vs.length := (List.getElem?_eq_some_iff.1 hv).1
 have hgb : B + 6 ≤ gb := own_ge ho gb rfl
 have hts : ∀ {u : Value} {n : Nat} {xs : List Value},W.ownsRow (B + 6) TI 1 u n xs → u.ownBlock = none ∨ u.ownBlock ≠ some gb := fun h => apart_types h ho (Ne.symm hT)
 refine ⟨⟨.slice (some ⟨gb,0,none⟩) gs.length gcap,vs.set k (.slice (some ⟨b,0,none⟩) g.length cap),⟨setc_block c8.1 (by omega),set_free c8.1 c8.2⟩,row_set ho hk, ?_, ?_,by simpa using hsz⟩,(Below.refl _ _).setCell (p := ⟨gb,k,none⟩) hgb _⟩
 ·intro j u g' hu hg'
  by_cases e : j = k
  ·subst e
   rw [List.getElem?_set_self hvl] at hu
   rw [hgs] at hg'
   obtain rfl : Value.slice (some ⟨b,0,none⟩) g.length cap = u := by simpa using hu
   obtain rfl : g = g' := by simpa using hg'
   have h1 := hr j _ _ hv (List.getElem?_set_self hk)
   rw [List.length_append,List.length_singleton] at h1
   have h2 := row_take (m := g.length) h1 (by omega)
   rw [List.map_append,List.take_append_of_le_length (by simp),List.take_of_length_le (by simp)] at h2
   exact set_own h2 (hts h2)
  ·rw [List.getElem?_set_ne (Ne.symm e)] at hu
   have h1 := hr j u g' hu (by rw [List.getElem?_set_ne (Ne.symm e)];exact hg')
   exact set_own h1 (hts h1)
 ·have blk : ∀ (j : Nat) (u : Value),(vs.set k (.slice (some ⟨b,0,none⟩) g.length cap))[j]? = some u → ∃ u0,vs[j]? = some u0 ∧ u0.ownBlock = u.ownBlock := fun j u hu => by
   by_cases e : j = k
   ·subst e
    rw [List.getElem?_set_self hvl] at hu
    injection hu with hu
    subst hu
    exact ⟨_,hv,rfl⟩
   ·rw [List.getElem?_set_ne (Ne.symm e)] at hu
    exact ⟨u,hu,rfl⟩
  intro j l u x hne hu hx
  obtain ⟨u0,h1,h2⟩ := blk j u hu
  obtain ⟨x0,h3,h4⟩ := blk l x hx
  rw [← h2, ← h4]
  exact hA j l u0 x0 hne h1 h3
theorem PartsAt.grow {B TO TI n : Nat} {gs : List (List Int)} {W w2 w3 : World} {gv gv' : Value} {vs : List Value} (hT : TO ≠ TI) (hn : gs.length = n)
  (c8 : W.cell? ⟨B + 3,0,none⟩ = some gv ∧ W.frozen? ⟨B + 3,0,none⟩ = false) (ho : W.ownsRow (B + 6) TO 1 gv n vs) (hr : RowsIn (B + 6) TI W vs gs) (hA : Apart vs) (hsz : B + 6 ≤ W.heap.size)
  (hb : Below W.heap.size W w2) (hg3 : w2.grownBy w3 gv.ownBlock) (ho3 : w3.ownsRow (B + 6) TO 1 gv' (n + 1) (vs ++ [.slice none 0 0])) :
  (w3.cell? ⟨B + 3,0,none⟩ = some gv ∧ w3.frozen? ⟨B + 3,0,none⟩ = false) ∧ PartsAt B TO TI (gs ++ [[]]) (w3.setCell ⟨B + 3,0,none⟩ gv') ∧ Below (B + 6) W w3 := by
 subst hn
 have hbw : Below (B + 6) W w3 := (hb.mono hsz).grown hg3 (by have := hb.size;omega) (own_ge ho)
 have hG8 : w3.cell? ⟨B + 3,0,none⟩ = some gv ∧ w3.frozen? ⟨B + 3,0,none⟩ = false := ⟨(hbw.cell (p := ⟨B + 3,0,none⟩) (by simp)).trans c8.1,(hbw.frozen (p := ⟨B + 3,0,none⟩) (by simp)).trans c8.2⟩
 have far : ∀ {T n : Nat} {v : Value} {xs : List Value},w3.ownsRow (B + 6) T 1 v n xs → v.ownBlock = none ∨ v.ownBlock ≠ some (B + 3) := fun h => .inr fun e => by have := own_ge h _ e;omega
 have hvl : vs.length = gs.length := by have := ho.1;omega
 refine ⟨hG8,⟨gv',vs ++ [.slice none 0 0],⟨setc_same hG8.1,set_free hG8.1 hG8.2⟩, ?_, ?_, ?_, ?_⟩,hbw⟩
 ·rw [List.length_append,List.length_singleton];exact set_own ho3 (far ho3)
 ·intro k v g hv hg
  rcases Nat.lt_or_ge k gs.length with h1 | h1
  ·rw [List.getElem?_append_left (by omega)] at hv
   rw [List.getElem?_append_left h1] at hg
   have h2 := owns_below (hr k v g hv hg) hb
   have h3 := h2.kept hg3 (apart_types h2 (owns_below ho hb) (Ne.symm hT))
   exact set_own h3 (far h3)
  ·rw [List.getElem?_append_right (by omega),hvl] at hv
   rw [List.getElem?_append_right h1] at hg
   have h4 := (List.getElem?_eq_some_iff.1 hg).1
   simp at h4
   have e : k = gs.length := by omega
   subst e
   simp at hv hg
   subst hv;subst hg
   exact World.ownsRow_nil _ _ _ _
 ·intro j k u v hne hu hv
  rcases Nat.lt_or_ge j vs.length with h1 | h1
  ·rw [List.getElem?_append_left h1] at hu
   rcases Nat.lt_or_ge k vs.length with h2 | h2
   ·rw [List.getElem?_append_left h2] at hv
    exact hA j k u v hne hu hv
   ·rw [List.getElem?_append_right h2] at hv
    have h4 := (List.getElem?_eq_some_iff.1 hv).1
    simp at h4
    rw [show k - vs.length = 0 by omega] at hv
    simp at hv
    subst hv
    cases hob : u.ownBlock with
    | none => exact .inl rfl
    | some b => exact .inr (by simp [Value.ownBlock])
  ·rw [List.getElem?_append_right h1] at hu
   have h4 := (List.getElem?_eq_some_iff.1 hu).1
   simp at h4
   rw [show j - vs.length = 0 by omega] at hu
   simp at hu
   subst hu
   exact .inl rfl
 ·have := hbw.size;show B + 6 ≤ (w3.setCell _ _).heap.size;simp;omega
theorem PartsAt.shrink {B TO TI n gb cap : Nat} {gs : List (List Int)} {g : List Int} {W : World} {vs : List Value} (hn : gs.length = n)
  (c8 : W.cell? ⟨B + 3,0,none⟩ = some (.slice (some ⟨gb,0,none⟩) (n + 1) cap) ∧ W.frozen? ⟨B + 3,0,none⟩ = false) (ho : W.ownsRow (B + 6) TO 1 (.slice (some ⟨gb,0,none⟩) (n + 1) cap) (n + 1) vs) (hr : RowsIn (B + 6) TI W vs (gs ++ [g])) (hA : Apart vs) (hsz : B + 6 ≤ W.heap.size) :
  PartsAt B TO TI gs (W.setCell ⟨B + 3,0,none⟩ (.slice (some ⟨gb,0,none⟩) n cap)) := by
 subst hn
 have far : ∀ {T n : Nat} {v : Value} {xs : List Value},W.ownsRow (B + 6) T 1 v n xs → v.ownBlock = none ∨ v.ownBlock ≠ some (B + 3) := fun h => .inr fun e => by have := own_ge h _ e;omega
 have h1 := row_take (m := gs.length) ho (by omega)
 refine ⟨.slice (some ⟨gb,0,none⟩) gs.length cap,vs.take gs.length,⟨setc_same c8.1,set_free c8.1 c8.2⟩,set_own h1 (far h1), ?_, ?_,by simpa using hsz⟩
 ·intro k v g' hv hg
  have hk : k < gs.length := (List.getElem?_eq_some_iff.1 hg).1
  rw [List.getElem?_take,if_pos hk] at hv
  have h2 := hr k v g' hv (by rw [List.getElem?_append_left hk];exact hg)
  exact set_own h2 (far h2)
 ·intro j k u v hne hu hv
  rw [List.getElem?_take] at hu hv
  split at hu
  ·split at hv
   ·exact hA j k u v hne hu hv
   ·cases hv
  ·cases hu
def PutsRes (B TO TI : Nat) (a0 a1 a2 a4 a5 : Value) (Q : World → Prop) (gs : List (List Int)) (r : Option (List (List Int))) (e : Ending) (w' : World) : Prop :=
 Q w' ∧ BoxesAt B a0 a1 a2 a4 a5 w' ∧ ((∃ rs,r = some rs ∧ e = .returned (.bool true) ∧ PartsAt B TO TI rs w') ∨ (r = none ∧ e = .returned (.bool false) ∧ PartsAt B TO TI gs w'))
theorem PutsRes.yes {B TO TI : Nat} {a0 a1 a2 a4 a5 : Value} {Q : World → Prop} {gs rs : List (List Int)} {r : Option (List (List Int))} {e : Ending} {w' : World} (hq : Q w') (hB : BoxesAt B a0 a1 a2 a4 a5 w') (hr : r = some rs) (he : e = .returned (.bool true)) (hP : PartsAt B TO TI rs w') : PutsRes B TO TI a0 a1 a2 a4 a5 Q gs r e w' := ⟨hq,hB, .inl ⟨rs,hr,he,hP⟩⟩
theorem PutsRes.no {B TO TI : Nat} {a0 a1 a2 a4 a5 : Value} {Q : World → Prop} {gs : List (List Int)} {r : Option (List (List Int))} {e : Ending} {w' : World} (hq : Q w') (hB : BoxesAt B a0 a1 a2 a4 a5 w') (hr : r = none) (he : e = .returned (.bool false)) (hP : PartsAt B TO TI gs w') : PutsRes B TO TI a0 a1 a2 a4 a5 Q gs r e w' := ⟨hq,hB, .inr ⟨hr,he,hP⟩⟩
theorem Above.trans {B : Nat} {a b c : World} (h : Above B a b) (k : Above B b c) : Above B a c :=
 ⟨Nat.le_trans h.size k.size,fun i h1 h2 => (k.block i h1 (Nat.lt_of_lt_of_le h2 h.size)).trans (h.block i h1 h2)⟩
theorem Above.mono {B B' : Nat} {a b : World} (h : Above B a b) (hB : B ≤ B') : Above B' a b := ⟨h.size,fun i h1 h2 => h.block i (by omega) h2⟩
theorem wpAny_Rs {P : Program} {Q : Exit → Act → World → Prop} {a : Act} {w0 w : World} {l : List Oper} {L : Array Bool} {n : Nat} (ps : List (Nat × (Value → World → Prop))) (hs : List Nat) (g : Nat) (hn : hs.length + g = n) (hkeep : ∀ x ∈ ps,Keeps x.2)
  (hB : (groupB .any l.toArray L hs && pairsB .any l.toArray ((ps.map (·.1)).contains ·) hs && plainsB l.toArray ((ps.map (·.1)).contains ·) hs) = true) (hw : Below w0.heap.size w0 w)
  (h : wpS P .any l.toArray w0 ((ps.map (·.1)).contains ·) (pOf ps) (fun Γ' a' => ∀ w',All w0 (pOf ps) Γ' w' → wpAny P .any l.toArray Q g (mark hs L) a' w') (numbered l.toArray hs) (fun _ => none) a) :
  wpAny P .any l.toArray Q n L a w := by
 subst hn
 refine wpAny_R (ps.map (·.1)) hs g (pOf_keeps hkeep) hB hw (wpR_of_wpS (fun k hk => ?_) h)
 simp only [groupB,Bool.and_eq_true] at hB
 obtain ⟨_,hmem,_⟩ := orderB_spec hB.1.1.2
 exact (hmem k hk).2.2
end Go.Pb.Sag
namespace Go.Pb

open Go Go.RowKit
section
variable {P : Program} {md : Region.Mode} {ops : Array Oper} {Q : Exit → Act → World → Prop} {C : World → Prop}
def wpAnyC (P : Program) (md : Region.Mode) (ops : Array Oper) (Q : Exit → Act → World → Prop) (C : World → Prop) : Nat → Array Bool → Act → World → Prop
 | 0,L,a,w => C w ∧ Region.ready md ops L = [] ∧ Q .normal a w
 | n + 1,L,a,w => C w ∧ (Region.ready md ops L = [] → Q .normal a w) ∧ ∀ i ∈ Region.ready md ops L,wpOp P ops Q i (wpAnyC P md ops Q C n (L.setIfInBounds i true)) a w
theorem wpAnyC_any : ∀ {n : Nat} {L : Array Bool} {a : Act} {w : World},wpAnyC P md ops Q C n L a w → wpAny P md ops Q n L a w
 | 0,_,_,_,h => h.2
 | n + 1,_,_,_,h => ⟨h.2.1,fun i hi => wpOp_mono (fun _ _ h => wpAnyC_any h) (h.2.2 i hi)⟩
theorem wpAnyC_ready {n r : Nat} {L : Array Bool} {a : Act} {w : World} (hC : C w) (hr : Region.ready md ops L = [r]) (h : wpOp P ops Q r (wpAnyC P md ops Q C n (L.setIfInBounds r true)) a w) : wpAnyC P md ops Q C (n + 1) L a w :=
 ⟨hC,fun h0 => (by rw [hr] at h0;cases h0),fun i hi => by rw [hr,List.mem_singleton] at hi;subst hi;exact h⟩
theorem wpAnyC_op {n r : Nat} {o : Oper} {L : Array Bool} {a : Act} {w : World} (hC : C w) (hr : Region.ready md ops L = [r]) (ho : ops[r]? = some o) (hw : Region.wanted o (yielded ops a.tmps) = true)
  (h : ∀ K : Act → World → Prop,(∀ a' w',wpAnyC P md ops Q C n (L.setIfInBounds r true) a' w' → K a' w') → o.wp P a w K Q) : wpAnyC P md ops Q C (n + 1) L a w := by
 refine wpAnyC_ready hC hr ?_
 unfold wpOp
 simp only [ho,hw,if_true]
 exact .inl (h _ fun _ _ h => h)
theorem wpAnyC_end {L : Array Bool} {a : Act} {w : World} (hC : C w) (hr : Region.ready md ops L = []) (h : Q .normal a w) : wpAnyC P md ops Q C 0 L a w := ⟨hC,hr,h⟩
theorem wpAnyC_at {n : Nat} {L : Array Bool} {a : Act} {w : World} (h : wpAnyC P md ops Q C n L a w) : C w := by cases n <;> exact h.1
def LoadsC (P : Program) (ops : Array Oper) (C : World → Prop) (o : Oper) (v : Value) (a : Act) : Prop := Region.wanted o (yielded ops a.tmps) = true ∧ ∀ w,C w → (execOp a.eval o).run P w = .ok (.value v) w
theorem wpOp_keep {R : Act → Prop} {j : Nat} {oj : Oper} (hj : ops[j]? = some oj) {K : Act → World → Prop} {a : Act} {w : World} (hk : ∀ u,R (a.put oj.dst u)) (hkD : ∀ d u,R (({ a with defers := d :: a.defers } : Act).put oj.dst u))
  (h : wpOp P ops Q j K a w) : wpOp P ops Q j (fun a' w' => R a' ∧ K a' w') a w := by
 unfold wpOp at *
 simp only [hj] at *
 split
 ·rename_i hw
  simp only [hw,if_true] at h
  rcases h with h | h
  ·left
   unfold Oper.wp at *
   generalize (execOp a.eval oj).run P w = r at *
   cases r with
   | ok n w' =>
    cases n <;> simp only [Oper.upon] at h ⊢
    case value u => exact ⟨hk u,h⟩
    case skip => exact ⟨hk _,h⟩
    case defer d => exact ⟨hkD d _,h⟩
    case enter f args =>
     refine Calls.mono h fun e w'' he => ?_
     cases e with
     | returned u => exact ⟨hk u,he⟩
     | panicked c => exact he
     | outgrown => exact he
    case row row args => exact Rows.mono h fun u w'' he => ⟨hk u,he⟩
   | halt x w' => cases x <;> exact h
  ·exact .inr h
 ·rename_i hw
  simp only [hw] at h
  exact ⟨hk _,h⟩
theorem wpOp_putC {j : Nat} {oi oj : Oper} {v : Value} (hj : ops[j]? = some oj) (hap : oi.apart ops oj = true) (hsi : ∀ cs b,oi.op ≠ .select cs b) (hsj : ∀ cs b,oj.op ≠ .select cs b) {K : Act → World → Prop} {a : Act} {w : World}
  (hy : LoadsC P ops C oi v a) (h : wpOp P ops (Only Q) j K (a.put oi.dst v) w) : wpOp P ops (Only Q) j (fun a' w' => LoadsC P ops C oi v a' ∧ K (a'.put oi.dst v) w') a w := by
 obtain ⟨h1,h2,h3⟩ := Oper.apart_spec hap
 refine wpOp_keep hj (fun u => ?_) (fun d u => ?_) ?_
 ·exact ⟨by rw [wanted_put oi a oj.dst u h3];exact hy.1,fun w hC => by rw [execOp_put oi hsi a oj.dst u h3];exact hy.2 w hC⟩
 ·exact ⟨by rw [wanted_put oi _ oj.dst u h3];exact hy.1,fun w hC => by rw [execOp_put oi hsi _ oj.dst u h3];exact hy.2 w hC⟩
 ·unfold wpOp at *
  simp only [hj] at *
  rw [wanted_put oj a oi.dst v h1] at h
  split
  ·rename_i hw
   simp only [hw,if_true] at h
   rcases h with h | ⟨_,hl⟩
   ·left
    unfold Oper.wp at *
    rw [execOp_put oj hsj a oi.dst v h1] at h
    generalize (execOp a.eval oj).run P w = r at *
    cases r with
    | ok n w' =>
     cases n <;> simp only [Oper.upon] at h ⊢
     case value u => rw [← Act.put_comm a v u h2];exact h
     case skip => rw [← Act.put_comm a v undef h2];exact h
     case defer d => rw [← Act.put_comm _ v undef h2, ← Act.put_defers];exact h
     case enter f args =>
      refine Calls.mono h fun e w'' he => ?_
      cases e with
      | returned u => show K _ _;rw [← Act.put_comm a v u h2];exact he
      | panicked c => exact absurd he.1 (by simp)
      | outgrown => exact absurd he only_lets
     case row row args => exact Rows.mono h fun u w'' he => by rw [← Act.put_comm a v u h2];exact he
    | halt x w' =>
     cases x <;> simp only [Oper.upon] at h ⊢
     case panic u => exact absurd h.1 (by simp)
   ·exact absurd hl only_lets
  ·rename_i hw
   simp only [hw] at h
   rw [← Act.put_comm a v undef h2];exact h
theorem LoadsC.op {i : Nat} {o : Oper} {v : Value} {a : Act} (hi : ops[i]? = some o) (hy : LoadsC P ops C o v a) {K : Act → World → Prop} {w : World} (hC : C w) (h : K (a.put o.dst v) w) : wpOp P ops Q i K a w := by
 unfold wpOp
 simp only [hi,hy.1,if_true]
 left
 unfold Oper.wp
 rw [hy.2 w hC]
 exact h
theorem wpAnyC_first {i : Nat} {oi : Oper} {v : Value} (hi : ops[i]? = some oi) (hsel : ∀ (j : Nat) (o : Oper) cs b,ops[j]? = some o → o.op ≠ .select cs b) :
  ∀ (n : Nat) (L : Array Bool) (a : Act) (w : World),
   (∀ j oj,ops[j]? = some oj → j ≠ i → L.getD j true = false → (∀ e ∈ oj.after,Region.binds md e = true → e.on ≠ i) → oi.apart ops oj = true) →
   i ∈ Region.ready md ops L → LoadsC P ops C oi v a → C w →
   wpAnyC P md ops (Only Q) C n (L.setIfInBounds i true) (a.put oi.dst v) w → wpAnyC P md ops (Only Q) C (n + 1) L a w := by
 intro n
 induction n with
 | zero =>
  intro L a w _ hr hy hC H
  refine ⟨hC,fun h => (by rw [h] at hr;cases hr),fun j hj => ?_⟩
  by_cases hji : j = i
  ·subst hji;exact hy.op hi hC H
  ·have := ready_mono hj hji
   rw [H.2.1] at this
   cases this
 | succ n ih =>
  intro L a w hfree hr hy hC H
  refine ⟨hC,fun h => (by rw [h] at hr;cases hr),fun j hj => ?_⟩
  by_cases hji : j = i
  ·subst hji;exact hy.op hi hC H
  ·have h1 := H.2.2 j (ready_mono hj hji)
   obtain ⟨hjun,oj,hoj,hall⟩ := mem_ready.1 hj
   have hnot : ∀ e ∈ oj.after,Region.binds md e = true → e.on ≠ i := fun e he hb heq => by
    have h2 := hall e he hb
    have h0 := (mem_ready.1 hr).1
    rw [heq] at h2
    rcases Nat.lt_or_ge i L.size with h' | h'
    ·simp [h'] at h0 h2;rw [h0] at h2;cases h2
    ·simp [Array.getElem?_eq_none h'] at h2
   have h2 := wpOp_putC hoj (hfree j oj hoj hji hjun hnot) (fun cs b => hsel i oi cs b hi) (fun cs b => hsel j oj cs b hoj) hy h1
   have hfree' : ∀ k ok,ops[k]? = some ok → k ≠ i → (L.setIfInBounds j true).getD k true = false → (∀ e ∈ ok.after,Region.binds md e = true → e.on ≠ i) → oi.apart ops ok = true := fun k ok hk hki hun hno => by
    refine hfree k ok hk hki ?_ hno
    by_cases hjk : j = k
    ·subst hjk;exact hjun
    ·rw [getD_set_ne true hjk] at hun;exact hun
   have key : ∀ a' w',LoadsC P ops C oi v a' → wpAnyC P md ops (Only Q) C n ((L.setIfInBounds i true).setIfInBounds j true) (a'.put oi.dst v) w' → wpAnyC P md ops (Only Q) C (n + 1) (L.setIfInBounds j true) a' w' := by
    intro a' w' hy' H'
    rw [Array.setIfInBounds_comm _ _ (Ne.symm hji)] at H'
    have hr' := ready_mono hr (Ne.symm hji)
    exact ih (L.setIfInBounds j true) a' w' hfree' hr' hy' (wpAnyC_at H') H'
   exact wpOp_mono (fun a' w' h3 => key a' w' h3.1 h3.2) h2
end
section
variable {P : Program} {md : Region.Mode} {ops : Array Oper} {w0 : World} {fr : Nat → Bool} {p : Nat → Value → World → Prop} {C : World → Prop}
theorem wpAnyC_of_wpR {Q : Exit → Act → World → Prop} (hC : ∀ w,Below w0.heap.size w0 w → C w) {g : Nat} {hs : List Nat} {L : Array Bool} (hsel : Region.noSelect ops = true) (hplain : ∀ h o,h ∈ hs → fr h = false → ops[h]? = some o → plainOp o.op = true)
  (hkeep : ∀ i v w1 w2,p i v w1 → Below w1.heap.size w1 w2 → p i v w2) (hL : L.size = ops.size) :
  ∀ (f : Nat) (M : Array Bool) (l : List Nat) (Γ : Known) (a : Act) (w : World),l.length = f → l.Nodup → l.Pairwise (Pair md ops fr) → (∀ j ∈ l,M.getD j true = false) →
   (∀ j ∈ hs,j ∈ l ∨ M.getD j true = true) → (∀ h ∈ l, Γ h = none) → Hered md ops hs f M → All w0 p Γ w → mark l M = mark hs L →
   wpR P md ops w0 fr p (fun Γ' a' => ∀ w',All w0 p Γ' w' → wpAnyC P md ops Q C g (mark hs L) a' w') l Γ a → wpAnyC P md ops Q C (f + g) M a w := by
 intro f
 induction f with
 | zero =>
  intro M l Γ a w hlen _ _ _ _ _ _ hall hmk H
  obtain rfl := List.length_eq_zero_iff.1 hlen
  rw [Nat.zero_add,show M = mark hs L from hmk]
  exact H w hall
 | succ f ih =>
  intro M l Γ a w hlen hnd hpw hun hcov hΓ hh hall hmk H
  rw [show f + 1 + g = (f + g) + 1 by omega]
  refine ⟨hC _ hall.1,fun h0 => absurd h0 hh.1,fun i hi => ?_⟩
  obtain ⟨hiu,oi,hoi,hdeps⟩ := mem_ready.1 hi
  have hil : i ∈ l := by
   rcases hcov i (hh.2.1 i hi) with h1 | h1
   ·exact h1
   ·rw [h1] at hiu;cases hiu
  have hiM : i < M.size := by
   rcases Nat.lt_or_ge i M.size with h' | h'
   ·exact h'
   ·simp [Array.getElem?_eq_none h'] at hiu
  have H1 := wpR_pull hsel hkeep hoi l Γ a hil hnd hpw (fun j hj => waits_dep hdeps (hun j hj)) hΓ ⟨w,hall⟩ H
  have hle : (l.erase i).length = f := by rw [List.length_erase_of_mem hil];omega
  have next : ∀ Γ' a' w',(∀ h ∈ l.erase i, Γ' h = none) → All w0 p Γ' w' → wpR P md ops w0 fr p (fun Γ' a' => ∀ w',All w0 p Γ' w' → wpAnyC P md ops Q C g (mark hs L) a' w') (l.erase i) Γ' a' →
    wpAnyC P md ops Q C (f + g) (M.setIfInBounds i true) a' w' := fun Γ' a' w' hΓ' hall' H' =>
   ih (M.setIfInBounds i true) (l.erase i) Γ' a' w' hle (hnd.erase i) (hpw.sublist List.erase_sublist) (fun j hj => by
     have hne : j ≠ i := by rintro rfl;exact (List.Nodup.not_mem_erase hnd) hj
     rw [getD_set_ne true (Ne.symm hne)];exact hun j (List.mem_of_mem_erase hj))
    (fun j hj => by
     by_cases hji : j = i
     ·subst hji;right;simp
     ·rcases hcov j hj with h1 | h1
      ·left;exact (List.mem_erase_of_ne hji).2 h1
      ·right;rw [getD_set_ne true (Ne.symm hji)];exact h1)
    hΓ' (hh.2.2.2 i hi) hall' (by
     rw [← hmk]
     have key : ∀ (l : List Nat) (M : Array Bool),i ∈ l → mark l M = mark (l.erase i) (M.setIfInBounds i true) := by
      intro l
      induction l with
      | nil => intro M h;cases h
      | cons x l ihl =>
       intro M h
       by_cases hx : x = i
       ·subst hx;simp [mark]
       ·rw [List.erase_cons_tail (by simpa using hx)]
        simp only [mark,List.foldl_cons]
        have h2 := ihl (M.setIfInBounds x true) (by simpa [Ne.symm hx] using h)
        simp only [mark] at h2
        rw [h2,Array.setIfInBounds_comm _ _ hx]
     exact (key l M hil).symm) H'
  have hΓe : ∀ h ∈ l.erase i, Γ h = none := fun h hh' => hΓ h (List.mem_of_mem_erase hh')
  unfold wpR oneR at H1
  simp only [hoi] at H1
  unfold wpOp
  simp only [hoi]
  split
  ·rename_i hwant
   rw [if_pos hwant] at H1
   left
   split at H1
   ·rename_i hf
    obtain ⟨h1,h2⟩ := H1
    have h3 := h1 w (hall.cl oi)
    have go : ∀ u w'',Below w.heap.size w w'' → p i u w'' → wpAnyC P md ops Q C (f + g) (M.setIfInBounds i true) (a.put oi.dst u) w'' := by
     intro u w'' hb hq
     have hall' : All w0 p (upd Γ i u) w'' := ⟨hall.1.trans (hb.mono hall.1.size),fun k v hk => by
      unfold upd at hk
      by_cases hki : k = i
      ·subst hki;rw [if_pos rfl] at hk;cases hk;exact hq
      ·rw [if_neg hki] at hk;exact hkeep _ _ _ _ (hall.2 k v hk) hb⟩
     refine next _ _ _ (fun k hk => ?_) hall' (h2 u ⟨w'',hall'⟩)
     unfold upd
     rw [if_neg (by rintro rfl;exact (List.Nodup.not_mem_erase hnd) hk)]
     exact hΓe k hk
    unfold freshAt at h3
    unfold Oper.wp
    generalize (execOp a.eval oi).run P w = r at h3 ⊢
    cases r with
    | halt x w' => exact h3.elim
    | ok n w' =>
     cases n <;> simp only at h3
     case value u => exact go u w' h3.1 h3.2
     case enter fn args =>
      obtain ⟨rfl,hc⟩ := h3
      exact hc.mono fun e w'' ⟨u,he,hb,hq⟩ => by subst he;exact go u w'' hb hq
   ·rename_i hf
    obtain ⟨v,h1,h2⟩ := H1 ⟨w,hall.cl oi⟩
    have h3 := h1 w (hall.cl oi)
    unfold Oper.quietAt at h3
    unfold Oper.wp
    generalize hr : (execOp a.eval oi).run P w = r at h3 ⊢
    cases r with
    | halt x w' => simp only [Oper.quietUpon] at h3
    | ok n w' =>
     cases n <;> simp only [Oper.quietUpon] at h3
     case value u =>
      obtain ⟨rfl,rfl⟩ := h3
      exact next _ _ _ hΓe hall h2
     case skip =>
      obtain ⟨rfl,rfl⟩ := h3
      exact next _ _ _ hΓe hall h2
     case enter fn args => exact absurd hr (plain_ne (hplain i oi (hh.2.1 i hi) (by simpa using hf) hoi) _)
  ·rename_i hwant
   rw [if_neg hwant] at H1
   exact next _ _ _ hΓe hall H1
theorem wpAnyC_R {Q : Exit → Act → World → Prop} (hC : ∀ w,Below w0.heap.size w0 w → C w) {L : Array Bool} {a : Act} {w : World} (fs : List Nat) (hs : List Nat) (g : Nat)
  (hkeep : ∀ i v w1 w2,p i v w1 → Below w1.heap.size w1 w2 → p i v w2)
  (hB : (groupB md ops L hs && pairsB md ops (fs.contains ·) hs && plainsB ops (fs.contains ·) hs) = true) (hw : Below w0.heap.size w0 w)
  (h : wpR P md ops w0 (fs.contains ·) p (fun Γ' a' => ∀ w',All w0 p Γ' w' → wpAnyC P md ops Q C g (mark hs L) a' w') hs (fun _ => none) a) : wpAnyC P md ops Q C (hs.length + g) L a w := by
 simp only [Bool.and_eq_true] at hB
 obtain ⟨⟨hG,hP⟩,hPl⟩ := hB
 have hG' := hG
 simp only [groupB,Bool.and_eq_true,decide_eq_true_eq] at hG'
 obtain ⟨⟨⟨⟨hsz,hsel⟩,hcl⟩,hout⟩,hord⟩ := hG'
 obtain ⟨hnd,hmem,hpre⟩ := orderB_spec hord
 have hleft : left hs L = hs.length := by
  unfold left
  rw [List.filter_eq_self.2 (fun j hj => by rw [(hmem j hj).2.1];rfl)]
 have hsh : Shut md ops L := by
  intro j o ho hj e he hb
  have hjo : j < ops.size := by
   rcases Nat.lt_or_ge j ops.size with h' | h'
   ·exact h'
   ·simp [Array.getElem?_eq_none h'] at ho
  have h1 := List.all_eq_true.1 hcl j (List.mem_range.2 hjo)
  simp only [hj,ho,Bool.not_true,Bool.false_or] at h1
  simpa [hb] using Array.all_eq_true'.1 h1 e he
 have hh := hered_of hG hs.length L hleft hsh hsz (fun j hj => .inl hj) (fun j hj => hj)
 refine wpAnyC_of_wpR hC (hs := hs) (L := L) hsel (fun k o hk hf ho => ?_) hkeep hsz hs.length L hs (fun _ => none) a w rfl hnd (pairs_of hP) (fun j hj => (hmem j hj).2.1)
  (fun j hj => .inl hj) (fun _ _ => rfl) hh ⟨hw,fun _ _ hg => by cases hg⟩ rfl h
 have := List.all_eq_true.1 hPl k hk
 simp only [show (fs.contains k) = false from hf,ho,Bool.false_or] at this
 exact this
end
section
variable {P : Program} {md : Region.Mode} {ops : Array Oper} {C : World → Prop}
def wpFirstC (P : Program) (ops : Array Oper) (C : World → Prop) : List Nat → (Act → Prop) → Act → Prop
 | [],H,a => H a
 | i :: is,H,a => ∃ o v,ops[i]? = some o ∧ LoadsC P ops C o v a ∧ wpFirstC P ops C is H (a.put o.dst v)
theorem wpFirstC_any {Q : Exit → Act → World → Prop} (hsel : Region.noSelect ops = true) {w : World} (hC : C w) {n : Nat} {H : Act → Prop} : ∀ (fs : List Nat) (L : Array Bool) (a : Act),firstB md ops fs L = true →
  (∀ a,H a → wpAnyC P md ops (Only Q) C n (mark fs L) a w) → wpFirstC P ops C fs H a → wpAnyC P md ops (Only Q) C (fs.length + n) L a w
 | [],L,a,_,hH,h => by simpa using hH a h
 | i :: is,L,a,hb,hH,h => by
  obtain ⟨o,v,ho,hy,h⟩ := h
  simp only [firstB,Bool.and_eq_true,ho] at hb
  obtain ⟨⟨hr,hf⟩,hb⟩ := hb
  have hr2 : i ∈ Region.ready md ops L := by simpa using hr
  have ih := wpFirstC_any hsel hC is (L.setIfInBounds i true) _ hb hH h
  rw [List.length_cons,show is.length + 1 + n = is.length + n + 1 by omega]
  exact wpAnyC_first ho (Region.noSelect_spec hsel) _ L a w (fun j oj hj hne hun hno => freeB_spec ho hf hr2 j oj hj hne hun hno) hr2 hy hC ih
end
theorem wpAny_G {P : Program} {Q : Exit → Act → World → Prop} {a : Act} {w : World} {l : List Oper} (C : World → Prop) (hC : ∀ w',Below w.heap.size w w' → C w') (fs : List Nat)
  (hF : (Region.noSelect l.toArray && firstB .any l.toArray fs (Array.replicate l.length false)) = true)
  (ps : List (Nat × (Value → World → Prop))) (hs : List Nat) (g : Nat)
  (hn : fs.length + (hs.length + g) = l.length) (hkeep : ∀ x ∈ ps,Keeps x.2)
  (hB : (groupB .any l.toArray (mark fs (Array.replicate l.length false)) hs && pairsB .any l.toArray ((ps.map (·.1)).contains ·) hs && plainsB l.toArray ((ps.map (·.1)).contains ·) hs) = true)
  (h : wpFirstC P l.toArray C fs (fun a => wpS P .any l.toArray w ((ps.map (·.1)).contains ·) (pOf ps) (fun Γ' a' => ∀ w',All w (pOf ps) Γ' w' → wpAnyC P .any l.toArray (Only Q) C g (mark hs (mark fs (Array.replicate l.length false))) a' w') (numbered l.toArray hs) (fun _ => none) a) a) :
  wpAny P .any l.toArray (Only Q) l.toArray.size (Array.replicate l.toArray.size false) a w.drew := by
 simp only [Bool.and_eq_true] at hF
 have h1 := wpFirstC_any (P := P) (Q := Q) (md := .any) (C := C) hF.1 (w := w.drew) (hC _ (Below.refl _ w).drew) (n := hs.length + g) fs (Array.replicate l.length false) a hF.2 (fun a h => ?_) h
 ·rw [hn] at h1
  simpa using wpAnyC_any h1
 ·have h2 := wpR_of_wpS (fun k hk => by
   simp only [groupB,Bool.and_eq_true] at hB
   obtain ⟨_,hmem,_⟩ := orderB_spec hB.1.1.2
   exact (hmem k hk).2.2) h
  exact wpAnyC_R (P := P) (Q := Only Q) (w0 := w) (w := w.drew) (a := a) hC (ps.map (·.1)) hs g (pOf_keeps hkeep) hB (Below.refl _ w).drew h2
theorem wp_region_G {P : Program} {id : Nat} {Q : Exit → Act → World → Prop} {a : Act} {w : World} {l : List Oper} (C : World → Prop) (hC : ∀ w',Below w.heap.size w w' → C w') (fs : List Nat)
  (hF : (Region.noSelect l.toArray && firstB .any l.toArray fs (Array.replicate l.length false)) = true)
  (ps : List (Nat × (Value → World → Prop))) (hs : List Nat) (g : Nat) (hm : P.follows .mixedOrders = true)
  (hn : fs.length + (hs.length + g) = l.length) (hkeep : ∀ x ∈ ps,Keeps x.2)
  (hB : (groupB .any l.toArray (mark fs (Array.replicate l.length false)) hs && pairsB .any l.toArray ((ps.map (·.1)).contains ·) hs && plainsB l.toArray ((ps.map (·.1)).contains ·) hs) = true)
  (h : wpFirstC P l.toArray C fs (fun a => wpS P .any l.toArray w ((ps.map (·.1)).contains ·) (pOf ps) (fun Γ' a' => ∀ w',All w (pOf ps) Γ' w' → wpAnyC P .any l.toArray (Only Q) C g (mark hs (mark fs (Array.replicate l.length false))) a' w') (numbered l.toArray hs) (fun _ => none) a) a) :
  (Code.region id l.toArray true).wp P Q a w := wp_region_any hm (wpAny_only (wpAny_G C hC fs hF ps hs g hn hkeep hB h))
theorem wpIn_region_G {P : Program} {id : Nat} {Q : Exit → Act → World → Prop} {a : Act} {w : World} {l : List Oper} {lv n : Nat} (hd : noDefer l = true) (C : World → Prop) (hC : ∀ w',Below w.heap.size w w' → C w') (fs : List Nat)
  (hF : (Region.noSelect l.toArray && firstB .any l.toArray fs (Array.replicate l.length false)) = true)
  (ps : List (Nat × (Value → World → Prop))) (hs : List Nat) (g : Nat) (hm : P.follows .mixedOrders = true)
  (hn : fs.length + (hs.length + g) = l.length) (hkeep : ∀ x ∈ ps,Keeps x.2)
  (hB : (groupB .any l.toArray (mark fs (Array.replicate l.length false)) hs && pairsB .any l.toArray ((ps.map (·.1)).contains ·) hs && plainsB l.toArray ((ps.map (·.1)).contains ·) hs) = true)
  (h : wpFirstC P l.toArray C fs (fun a => wpS P .any l.toArray w ((ps.map (·.1)).contains ·) (pOf ps) (fun Γ' a' => ∀ w',All w (pOf ps) Γ' w' → wpAnyC P .any l.toArray (Only Q) C g (mark hs (mark fs (Array.replicate l.length false))) a' w') (numbered l.toArray hs) (fun _ => none) a) a) :
  (Code.region id l.toArray true).wpIn (Fence.wide.inRound lv) n P Q a w :=
 Go.wpIn_mono (Q := Only Q) (wpIn_region_any hm (wpAny_inRound (fun i o ho => noDefer_ne hd ho) (fun h => only_lets h) _ _ _ _ (wpAny_G C hC fs hF ps hs g hn hkeep hB h))) (fun e a w h => by obtain ⟨rfl,h⟩ := h;exact h)
end Go.Pb
namespace Go.Pb

open Go Go.RowKit
def NewList (B0 n : Nat) (cs : List Value) (v : Value) (W : World) : Prop :=
 ∃ B,B0 ≤ B ∧ v = .slice (some ⟨B,0,none⟩) n n ∧ ∀ o c,cs[o]? = some c → W.cell? ⟨B,o,none⟩ = some c ∧ W.frozen? ⟨B,o,none⟩ = false
theorem keeps_list {B0 n : Nat} {cs : List Value} : Keeps (NewList B0 n cs) := fun _ _ _ ⟨B,h1,h2,h3⟩ hb =>
 ⟨B,h1,h2,fun o c hc => ⟨bkeep hb (h3 o c hc).1,bfree hb (h3 o c hc).1 (h3 o c hc).2⟩⟩
theorem list_of {w w' : World} {n : Nat} {cs : List Value} {t : TypeId} (hb : Below w.heap.size w w') :
  Below w'.heap.size w' (w'.alloc (.cells cs.toArray t)) ∧ NewList w.heap.size n cs (.slice (some ⟨w'.heap.size,0,none⟩) n n) (w'.alloc (.cells cs.toArray t)) :=
 ⟨(Below.refl _ _).alloc (Nat.le_refl _) _,w'.heap.size,hb.size,rfl,fun o c hc => by
  refine ⟨?_,World.frozen?_alloc_new w' cs.toArray t o⟩
  rw [World.cell?_alloc_new];simpa using hc⟩
theorem keeps_owns {base size n : Nat} {e : TypeId} {xs : List Value} : Keeps (fun v w => w.ownsRow base e size v n xs) := fun _ _ _ h hb => owns_below h hb
end Go.Pb
namespace Go.Pb.Ware
open Go Go.Pb Go.RowKit
end Go.Pb.Ware
namespace Go.Pb
end Go.Pb
namespace Go.Pb.Ware
open Go Go.Pb Go.RowKit
end Go.Pb.Ware
namespace Go.Proofs
open Go.Shelf
def Tryz.lays125_ren : Go.Shelf.Ren := ⟨fun | 125 => 120 | 128 => 138 | 129 => 106 | n => n,fun | 46 => 183 | 3 => 3 | 51 => 181 | 53 => 129 | 4 => 4 | 5 => 5 | 9 => 9 | n => n,fun | n => n⟩
theorem Tryz.lays125 : Go.Proofs.Lays.n125 Tryz.prog Tryz.lays125_ren := {
 mixed := by kernel_rfl
 f125 := Tryz.func120.trans (congrArg some (by kernel_rfl))
 f128 := Tryz.func138.trans (congrArg some (by kernel_rfl))
 f129 := Tryz.func106.trans (congrArg some (by kernel_rfl))
 t3 := Tryz.underlying3
 a3 := Tryz.isAgg3
 z3 := Tryz.sizeOf3
 v3 := Tryz.zeroValue3
 t4 := Tryz.underlying4
 a4 := Tryz.isAgg4
 z4 := Tryz.sizeOf4
 v4 := Tryz.zeroValue4
 t5 := Tryz.underlying5
 a5 := Tryz.isAgg5
 z5 := Tryz.sizeOf5
 v5 := Tryz.zeroValue5
 t9 := Tryz.underlying9
 a9 := Tryz.isAgg9
 z9 := Tryz.sizeOf9
 v9 := Tryz.zeroValue9
 t46 := Tryz.underlying183
 a46 := Tryz.isAgg183
 z46 := Tryz.sizeOf183
 v46 := Tryz.zeroValue183
 t51 := Tryz.underlying181
 a51 := Tryz.isAgg181
 z51 := Tryz.sizeOf181
 v51 := Tryz.zeroValue181
 t53 := Tryz.underlying129
 a53 := Tryz.isAgg129
 z53 := Tryz.sizeOf129
 v53 := Tryz.zeroValue129 }
theorem Tryz.bits_Len (x : Int) (w : World) (h0 : 0 ≤ x) (h1 : x ≤ 18446744073709551615) :
  Calls Tryz.prog 120 #[.int .u64 x] w fun e w' => e = .returned (.int .i64 (Lib.bitLen x.toNat)) ∧ w' = w := Any.bits_Len Tryz.lays125 x w h0 h1
def Tryz.sortFeet_ren : Go.Shelf.Ren := ⟨fun | 6 => 99 | 15 => 120 | 14 => 119 | 28 => 138 | 29 => 106 | 20 => 130 | 21 => 131 | 22 => 132 | 23 => 133 | 24 => 134 | 25 => 135 | 26 => 136 | 27 => 137 | 46 => 142 | 47 => 143 | 48 => 144 | 49 => 145 | 50 => 146 | 57 => 147 | n => n,fun | 22 => 95 | 24 => 66 | 25 => 173 | 3 => 3 | 39 => 183 | 0 => 0 | 53 => 181 | 55 => 129 | 4 => 4 | 46 => 202 | 45 => 201 | 50 => 53 | 5 => 5 | 9 => 9 | 66 => 216 | 70 => 220 | 76 => 222 | 77 => 193 | n => n,fun | n => n⟩
theorem Tryz.sortFeet : Go.Proofs.SlLaysF0.n6 Tryz.prog Tryz.sortFeet_ren := {
 mixed := by kernel_rfl
 f6 := ⟨Tryz.f99.name,by decide,Tryz.func99.trans (congrArg some (by kernel_rfl))⟩
 f14 := ⟨Tryz.f119.name,by decide,Tryz.func119.trans (congrArg some (by kernel_rfl))⟩
 f15 := Tryz.func120.trans (congrArg some (by kernel_rfl))
 f20 := ⟨Tryz.f130.name,by decide,Tryz.func130.trans (congrArg some (by kernel_rfl))⟩
 f21 := ⟨Tryz.f131.name,by decide,Tryz.func131.trans (congrArg some (by kernel_rfl))⟩
 f22 := ⟨Tryz.f132.name,by decide,Tryz.func132.trans (congrArg some (by kernel_rfl))⟩
 f23 := ⟨Tryz.f133.name,by decide,Tryz.func133.trans (congrArg some (by kernel_rfl))⟩
 f24 := ⟨Tryz.f134.name,by decide,Tryz.func134.trans (congrArg some (by kernel_rfl))⟩
 f25 := ⟨Tryz.f135.name,by decide,Tryz.func135.trans (congrArg some (by kernel_rfl))⟩
 f26 := ⟨Tryz.f136.name,by decide,Tryz.func136.trans (congrArg some (by kernel_rfl))⟩
 f27 := ⟨Tryz.f137.name,by decide,Tryz.func137.trans (congrArg some (by kernel_rfl))⟩
 f28 := Tryz.func138.trans (congrArg some (by kernel_rfl))
 f29 := Tryz.func106.trans (congrArg some (by kernel_rfl))
 f46 := ⟨Tryz.f142.name,by decide,Tryz.func142.trans (congrArg some (by kernel_rfl))⟩
 f47 := Tryz.func143.trans (congrArg some (by kernel_rfl))
 f48 := Tryz.func144.trans (congrArg some (by kernel_rfl))
 f49 := ⟨Tryz.f145.name,by decide,Tryz.func145.trans (congrArg some (by kernel_rfl))⟩
 f50 := ⟨Tryz.f146.name,by decide,Tryz.func146.trans (congrArg some (by kernel_rfl))⟩
 f57 := ⟨Tryz.f147.name,by decide,Tryz.func147.trans (congrArg some (by kernel_rfl))⟩
 t0 := Tryz.underlying0
 a0 := Tryz.isAgg0
 z0 := Tryz.sizeOf0
 v0 := Tryz.zeroValue0
 t3 := Tryz.underlying3
 a3 := Tryz.isAgg3
 z3 := Tryz.sizeOf3
 v3 := Tryz.zeroValue3
 t4 := Tryz.underlying4
 a4 := Tryz.isAgg4
 z4 := Tryz.sizeOf4
 v4 := Tryz.zeroValue4
 t5 := Tryz.underlying5
 a5 := Tryz.isAgg5
 z5 := Tryz.sizeOf5
 v5 := Tryz.zeroValue5
 t9 := Tryz.underlying9
 a9 := Tryz.isAgg9
 z9 := Tryz.sizeOf9
 v9 := Tryz.zeroValue9
 t22 := Tryz.underlying95
 a22 := Tryz.isAgg95
 z22 := Tryz.sizeOf95
 v22 := Tryz.zeroValue95
 t25 := Tryz.underlying173
 a25 := Tryz.isAgg173
 z25 := Tryz.sizeOf173
 v25 := Tryz.zeroValue173
 t39 := Tryz.underlying183
 a39 := Tryz.isAgg183
 z39 := Tryz.sizeOf183
 v39 := Tryz.zeroValue183
 t45 := Tryz.underlying201
 a45 := Tryz.isAgg201
 z45 := Tryz.sizeOf201
 v45 := Tryz.zeroValue201
 t46 := Tryz.underlying202
 a46 := Tryz.isAgg202
 z46 := Tryz.sizeOf202
 v46 := Tryz.zeroValue202
 t50 := Tryz.underlying53
 a50 := Tryz.isAgg53
 z50 := Tryz.sizeOf53
 v50 := Tryz.zeroValue53
 t53 := Tryz.underlying181
 a53 := Tryz.isAgg181
 z53 := Tryz.sizeOf181
 v53 := Tryz.zeroValue181
 t55 := Tryz.underlying129
 a55 := Tryz.isAgg129
 z55 := Tryz.sizeOf129
 v55 := Tryz.zeroValue129
 t66 := Tryz.underlying216
 a66 := Tryz.isAgg216
 z66 := Tryz.sizeOf216
 v66 := Tryz.zeroValue216
 t70 := Tryz.underlying220
 a70 := Tryz.isAgg220
 z70 := Tryz.sizeOf220
 v70 := Tryz.zeroValue220
 t76 := Tryz.underlying222
 a76 := Tryz.isAgg222
 z76 := Tryz.sizeOf222
 v76 := Tryz.zeroValue222
 t77 := Tryz.underlying193
 a77 := Tryz.isAgg193
 z77 := Tryz.sizeOf193
 v77 := Tryz.zeroValue193 }
end Go.Proofs
namespace Go.Pb.Sag
open Go Go.Pb Go.Pb.Ware Go.RowKit
def exRows : List (List Int) := [[1,100,102,100,102,50,51,10,200,210,1000], [2,190,200,90,100,30,30,0,500,500,0]]
def exL : List It := [⟨2,1,5⟩,⟨2,1,5⟩,⟨1,2,4⟩]
end Go.Pb.Sag