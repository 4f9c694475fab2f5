/- Regions of a law whose orders are checked apart from its walk. -/
import Derived.Test.YtpmlnbjogmngfaaProg
import Derived.Test.YtpmlnbjogmngfaaKLibT
namespace Go.Pb
open Go
/-- The operations of a region of a function, by its number. -/
def opsOf (n : Nat) : Code → Option (List Oper)
  | .region i ops _ => if i == n then some ops.toList else none
  | .seq a b => match opsOf n a with
    | some l => some l
    | none => opsOf n b
  | .cond _ a b => match opsOf n a with
    | some l => some l
    | none => opsOf n b
  | .block _ b => opsOf n b
  | .loop b => opsOf n b
  | .rangeFunc _ _ a b => match opsOf n a with
    | some l => some l
    | none => opsOf n b
  | .scope b => opsOf n b
  | _ => none
def regionOf (f : Func) (n : Nat) : List Oper := match f.body with
  | some c => (opsOf n c).getD []
  | none => []
theorem lexAs {l l' : List Oper} (h : l = l') (h2 : Region.lexB .any l'.toArray = true) : Region.lexB .any l.toArray = true := h ▸ h2
/-- What is asked of a group of operations, some of which make memory. -/
def grpB (l : List Oper) (fr hs : List Nat) : Bool := groupB .any l.toArray (Array.replicate l.length false) hs && pairsB .any l.toArray (fr.contains ·) hs && plainsB l.toArray (fr.contains ·) hs
theorem grpAs {l l' : List Oper} {fr hs : List Nat} (h : l = l') (h2 : grpB l' fr hs = true) : grpB l fr hs = true := h ▸ h2
theorem wp_region_Rc {P : Program} {id : Nat} {Q : Exit → Act → World → Prop} {a : Act} {w : World} {l : List Oper} (ps : List (Nat × (Value → World → Prop))) (fr hs : List Nat) (g : Nat) (hm : P.follows .mixedOrders = true)
    (hn : hs.length + g = l.length) (hkeep : ∀ x ∈ ps, Keeps x.2) (hfr : ps.map (·.1) = fr) (hB : grpB l fr hs = true)
    (h : wpS P .any l.toArray w ((ps.map (·.1)).contains ·) (pOf ps) (fun Γ' a' => ∀ w', All w (pOf ps) Γ' w' → wpAny P .any l.toArray Q g (mark hs (Array.replicate l.length false)) a' w') (numbered l.toArray hs) (fun _ => none) a) :
    (Code.region id l.toArray true).wp P Q a w := wp_region_Rs ps hs g hm hn hkeep (by rw [hfr]; exact hB) h
end Go.Pb
namespace Go.Proofs.Ytpmlnbjogmngfaa
open Go Go.Pb
set_option maxRecDepth 100000
theorem lex39 : Region.lexB .any (regionOf Try.f4 39).toArray = true := by kernel_rfl
theorem grp7 : grpB (regionOf Try.f4 7) [8, 9] [0, 1, 2, 3, 4, 5, 6, 7, 8, 9, 10, 11, 12, 13, 14] = true := by kernel_rfl
theorem grp37 : grpB (regionOf Try.f4 37) [26] [0, 1, 2, 3, 4, 5, 6, 7, 8, 9, 10, 11, 12, 13, 14, 15, 16, 17, 18, 19, 20, 21, 22, 23, 24, 25, 26] = true := by kernel_rfl
theorem lex48 : Region.lexB .any (regionOf Try.f4 48).toArray = true := by kernel_rfl
theorem lex49 : Region.lexB .any (regionOf Try.f4 49).toArray = true := by kernel_rfl
end Go.Proofs.Ytpmlnbjogmngfaa
