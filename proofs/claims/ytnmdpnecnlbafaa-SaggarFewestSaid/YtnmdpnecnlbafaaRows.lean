/-
  No cell of these rows narrows 'for every input' (looked for: loops, veiled, ifaces, maps, wideKeys, modest, calm, conditions, laid).
  DERIVED. THE GIVEN ROWS OF THIS SEAT. 4 by the template 'for every input the law returns true; each argument reads behind the call as it read before'; 0 by the template 'total and deterministic' (their statements: YtnmdpnecnlbafaaTotals.lean).
  GIVEN WITH THE SEED: the statements are not yours to turn. If you find one false, say at which input.
  Laid BY PROGRAM, IN A SANDBOX (cutbox-rows.mjs): the forced cells as the released guide's own fill.sh prints them over the translation 39df49101acf3154… (all of the seat's roots in one cut). By AI agents, Wed Nov 11 2026. No macro, syntax, notation, axiom, sorry.
-/
import Derived.Test.YtnmdpnecnlbafaaChecked
import GoSem.Claim
import GoSem.ClaimJoined
import GoSem.ClaimMapViews
import Derived.JoinedTies
import Derived.KernelRfl
namespace Go.Proofs.Ytnmdpnecnlbafaa
/- THE CELL 'sum', in the pinned program and in every row, IS THE sha256 OF THE DUMP (.gsa) THAT YtnmdpnecnlbafaaProg.lean LOADS. Nothing in Lean hashes anything: it is a label: what it is worth is what the hold of that sum in a sandbox is worth. -/
noncomputable def Try.pinned : Pinned := { name := "ytnmdpnecnlbafaa", sum := "39df49101acf31541e93a6d85d4736be4f278cf154857de636231b8eee4ec892", checked := Try.checked }
namespace Rows
def none {H : Type} : Left H := { results := [], args := [] }

/-- 'potbanklaw02.SaggarEither': WHATEVER THE INPUT: true; the input reads as it did. -/
def saggarEitherSpec : ChangeSpec := { name := "saggarEither", fn := fun _ => fun
  | [d1, d2, d3] => { results := [.lit (.bool true)], args := [d1, d2, d3] }
  | _ => none }
def saggarEitherRow : OpenClaim := { program := "ytnmdpnecnlbafaa", sum := "39df49101acf31541e93a6d85d4736be4f278cf154857de636231b8eee4ec892", func := "potbank/potbanklaw02.SaggarEither", spec := "saggarEither", unfollowed := true, recurses := true, apart := false }
def SaggarEitherSaid : Prop := saggarEitherRow.holds Try.pinned (OpenSpec.ofChange saggarEitherSpec)

/-- ITS FALSE NEIGHBOUR: 'it returns false'. Refute it at one input. -/
def saggarEitherWrong : ChangeSpec := { name := "saggarEither", fn := fun _ => fun
  | [d1, d2, d3] => { results := [.lit (.bool false)], args := [d1, d2, d3] }
  | _ => none }
def SaggarEitherWrongFalsely : Prop := saggarEitherRow.holds Try.pinned (OpenSpec.ofChange saggarEitherWrong)

/-- 'potbanklaw02.SaggarTrue': WHATEVER THE INPUT: true; the input reads as it did. -/
def saggarTrueSpec : ChangeSpec := { name := "saggarTrue", fn := fun _ => fun
  | [d1, d2, d3] => { results := [.lit (.bool true)], args := [d1, d2, d3] }
  | _ => none }
def saggarTrueRow : OpenClaim := { program := "ytnmdpnecnlbafaa", sum := "39df49101acf31541e93a6d85d4736be4f278cf154857de636231b8eee4ec892", func := "potbank/potbanklaw02.SaggarTrue", spec := "saggarTrue", unfollowed := true, recurses := true, apart := false }
def SaggarTrueSaid : Prop := saggarTrueRow.holds Try.pinned (OpenSpec.ofChange saggarTrueSpec)

/-- ITS FALSE NEIGHBOUR: 'it returns false'. Refute it at one input. -/
def saggarTrueWrong : ChangeSpec := { name := "saggarTrue", fn := fun _ => fun
  | [d1, d2, d3] => { results := [.lit (.bool false)], args := [d1, d2, d3] }
  | _ => none }
def SaggarTrueWrongFalsely : Prop := saggarTrueRow.holds Try.pinned (OpenSpec.ofChange saggarTrueWrong)

/-- 'potbanklaw02.SaggarOrder': WHATEVER THE INPUT: true; the input reads as it did. -/
def saggarOrderSpec : ChangeSpec := { name := "saggarOrder", fn := fun _ => fun
  | [d1, d2, d3] => { results := [.lit (.bool true)], args := [d1, d2, d3] }
  | _ => none }
def saggarOrderRow : OpenClaim := { program := "ytnmdpnecnlbafaa", sum := "39df49101acf31541e93a6d85d4736be4f278cf154857de636231b8eee4ec892", func := "potbank/potbanklaw02.SaggarOrder", spec := "saggarOrder", unfollowed := true, recurses := true, apart := false }
def SaggarOrderSaid : Prop := saggarOrderRow.holds Try.pinned (OpenSpec.ofChange saggarOrderSpec)

/-- ITS FALSE NEIGHBOUR: 'it returns false'. Refute it at one input. -/
def saggarOrderWrong : ChangeSpec := { name := "saggarOrder", fn := fun _ => fun
  | [d1, d2, d3] => { results := [.lit (.bool false)], args := [d1, d2, d3] }
  | _ => none }
def SaggarOrderWrongFalsely : Prop := saggarOrderRow.holds Try.pinned (OpenSpec.ofChange saggarOrderWrong)

/-- 'potbanklaw02.SaggarFewest': WHATEVER THE INPUT: true; the input reads as it did. -/
def saggarFewestSpec : ChangeSpec := { name := "saggarFewest", fn := fun _ => fun
  | [d1, d2] => { results := [.lit (.bool true)], args := [d1, d2] }
  | _ => none }
def saggarFewestRow : OpenClaim := { program := "ytnmdpnecnlbafaa", sum := "39df49101acf31541e93a6d85d4736be4f278cf154857de636231b8eee4ec892", func := "potbank/potbanklaw02.SaggarFewest", spec := "saggarFewest", unfollowed := true, recurses := true, apart := false }
def SaggarFewestSaid : Prop := saggarFewestRow.holds Try.pinned (OpenSpec.ofChange saggarFewestSpec)

/-- ITS FALSE NEIGHBOUR: 'it returns false'. Refute it at one input. -/
def saggarFewestWrong : ChangeSpec := { name := "saggarFewest", fn := fun _ => fun
  | [d1, d2] => { results := [.lit (.bool false)], args := [d1, d2] }
  | _ => none }
def SaggarFewestWrongFalsely : Prop := saggarFewestRow.holds Try.pinned (OpenSpec.ofChange saggarFewestWrong)

/- THE SECOND FORM. 'bulk': how many values and letters a reading holds, each counted each time it is reached (what is shared counts as often as it is met; a slice's spare places count too). A statement '..UptoSaid' is the law's where the arguments, and the package variables that the reading takes, are together of bulk at most 1048576: NARROWER than '..Said'. Prove '..Said' where nothing that the law and all that it calls make is longer than what came in: it says more and counts as full. Else prove '..UptoSaid'. A law counts once. -/
mutual
def uptoBulk {H : Type} : DataW H → Nat
  | .lit (.string bytes) => bytes.length + 1
  | .lit _ => 1
  | .nil => 1
  | .ptr d => uptoBulk d + 1
  | .slice elems spare => uptoBulkAll elems + uptoBulkAll spare + 1
  | .agg parts => uptoBulkAll parts + 1
  | .iface _ d => uptoBulk d + 1
  | .map entries => uptoBulkEntries entries + 1
  | .held _ => 1
def uptoBulkAll {H : Type} : List (DataW H) → Nat
  | [] => 0
  | d :: r => uptoBulk d + uptoBulkAll r
def uptoBulkEntries {H : Type} : List (Lit × DataW H) → Nat
  | [] => 0
  | x :: r => uptoBulkEntry x + uptoBulkEntries r
def uptoBulkEntry {H : Type} : Lit × DataW H → Nat
  | (.string bytes, d) => bytes.length + uptoBulk d + 1
  | (_, d) => uptoBulk d + 1
 end
def uptoSmall : (H : Type) → List (DataW H) → Bool := fun _ ds => decide (uptoBulkAll ds ≤ 1048576)
def OpenSpec.upto (s : _root_.Go.ChangeSpec) : _root_.Go.OpenSpec := { _root_.Go.OpenSpec.ofChange s with cond := some uptoSmall }

/-- 'potbanklaw02.SaggarEither', WHERE WHAT IT READS IS OF BULK AT MOST 1048576: true; the input reads as it did. -/
def saggarEitherUptoRow : OpenClaim := { program := "ytnmdpnecnlbafaa", sum := "39df49101acf31541e93a6d85d4736be4f278cf154857de636231b8eee4ec892", func := "potbank/potbanklaw02.SaggarEither", spec := "saggarEither", unfollowed := true, recurses := true, apart := false, narrowed := true }
def SaggarEitherUptoSaid : Prop := saggarEitherUptoRow.holds Try.pinned (OpenSpec.upto saggarEitherSpec)

/-- 'potbanklaw02.SaggarTrue', WHERE WHAT IT READS IS OF BULK AT MOST 1048576: true; the input reads as it did. -/
def saggarTrueUptoRow : OpenClaim := { program := "ytnmdpnecnlbafaa", sum := "39df49101acf31541e93a6d85d4736be4f278cf154857de636231b8eee4ec892", func := "potbank/potbanklaw02.SaggarTrue", spec := "saggarTrue", unfollowed := true, recurses := true, apart := false, narrowed := true }
def SaggarTrueUptoSaid : Prop := saggarTrueUptoRow.holds Try.pinned (OpenSpec.upto saggarTrueSpec)

/-- 'potbanklaw02.SaggarOrder', WHERE WHAT IT READS IS OF BULK AT MOST 1048576: true; the input reads as it did. -/
def saggarOrderUptoRow : OpenClaim := { program := "ytnmdpnecnlbafaa", sum := "39df49101acf31541e93a6d85d4736be4f278cf154857de636231b8eee4ec892", func := "potbank/potbanklaw02.SaggarOrder", spec := "saggarOrder", unfollowed := true, recurses := true, apart := false, narrowed := true }
def SaggarOrderUptoSaid : Prop := saggarOrderUptoRow.holds Try.pinned (OpenSpec.upto saggarOrderSpec)

/-- 'potbanklaw02.SaggarFewest', WHERE WHAT IT READS IS OF BULK AT MOST 1048576: true; the input reads as it did. -/
def saggarFewestUptoRow : OpenClaim := { program := "ytnmdpnecnlbafaa", sum := "39df49101acf31541e93a6d85d4736be4f278cf154857de636231b8eee4ec892", func := "potbank/potbanklaw02.SaggarFewest", spec := "saggarFewest", unfollowed := true, recurses := true, apart := false, narrowed := true }
def SaggarFewestUptoSaid : Prop := saggarFewestUptoRow.holds Try.pinned (OpenSpec.upto saggarFewestSpec)

end Rows
end Go.Proofs.Ytnmdpnecnlbafaa
