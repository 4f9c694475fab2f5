/-
  No cell of these rows narrows 'for every input' (looked for: loops, veiled, ifaces, maps, wideKeys, modest, calm, conditions, laid).
  DERIVED. THE GIVEN ROWS OF THIS SEAT. 9 by the template 'for every input the law returns true; each argument reads behind the call as it read before'; 0 by the template 'total and deterministic' (their statements: YtodmidchpbcnpaaGreatTotals.lean).
  GIVEN WITH THE SEED: the statements are not yours to turn. If you find one false, say at which input.
  Laid BY PROGRAM, IN A SANDBOX (cutbox-rows.mjs): the forced cells as the released guide's own fill.sh prints them over the translation 0d323659f4df83b8… (all of the seat's roots in one cut). By AI agents, Wed Nov 11 2026. No macro, syntax, notation, axiom, sorry.
-/
import Derived.Test.YtodmidchpbcnpaaGreatChecked
import GoSem.Claim
import GoSem.ClaimJoined
import GoSem.ClaimMapViews
import Derived.JoinedTies
import Derived.KernelRfl
namespace Go.Proofs.YtodmidchpbcnpaaGreat
/- THE CELL 'sum', in the pinned program and in every row, IS THE sha256 OF THE DUMP (.gsa) THAT YtodmidchpbcnpaaGreatProg.lean LOADS. Nothing in Lean hashes anything: it is a label: what it is worth is what the hold of that sum in a sandbox is worth. -/
noncomputable def Tryz.pinned : Pinned := { name := "ytodmidchpbcnpaagreat", sum := "0d323659f4df83b8aad3078b01c8b4202c468f0423e8504bc1ee85f521adc9ec", checked := Tryz.checked }
namespace Rows
def none {H : Type} : Left H := { results := [], args := [] }

/-- 'potbanklaw02.SaggarFeet': WHATEVER THE INPUT: true; the input reads as it did. -/
def saggarFeetSpec : ChangeSpec := { name := "saggarFeet", fn := fun _ => fun
  | [d1, d2] => { results := [.lit (.bool true)], args := [d1, d2] }
  | _ => none }
def saggarFeetRow : OpenClaim := { program := "ytodmidchpbcnpaagreat", sum := "0d323659f4df83b8aad3078b01c8b4202c468f0423e8504bc1ee85f521adc9ec", func := "potbank/potbanklaw02.SaggarFeet", spec := "saggarFeet", unfollowed := true, recurses := true, apart := false }
def SaggarFeetSaid : Prop := saggarFeetRow.holds Tryz.pinned (OpenSpec.ofChange saggarFeetSpec)

/-- ITS FALSE NEIGHBOUR: 'it returns false'. Refute it at one input. -/
def saggarFeetWrong : ChangeSpec := { name := "saggarFeet", fn := fun _ => fun
  | [d1, d2] => { results := [.lit (.bool false)], args := [d1, d2] }
  | _ => none }
def SaggarFeetWrongFalsely : Prop := saggarFeetRow.holds Tryz.pinned (OpenSpec.ofChange saggarFeetWrong)

/-- 'potbanklaw02.SaggarPacks': WHATEVER THE INPUT: true; the input reads as it did. -/
def saggarPacksSpec : ChangeSpec := { name := "saggarPacks", fn := fun _ => fun
  | [d1, d2] => { results := [.lit (.bool true)], args := [d1, d2] }
  | _ => none }
def saggarPacksRow : OpenClaim := { program := "ytodmidchpbcnpaagreat", sum := "0d323659f4df83b8aad3078b01c8b4202c468f0423e8504bc1ee85f521adc9ec", func := "potbank/potbanklaw02.SaggarPacks", spec := "saggarPacks", unfollowed := true, recurses := true, apart := false }
def SaggarPacksSaid : Prop := saggarPacksRow.holds Tryz.pinned (OpenSpec.ofChange saggarPacksSpec)

/-- ITS FALSE NEIGHBOUR: 'it returns false'. Refute it at one input. -/
def saggarPacksWrong : ChangeSpec := { name := "saggarPacks", fn := fun _ => fun
  | [d1, d2] => { results := [.lit (.bool false)], args := [d1, d2] }
  | _ => none }
def SaggarPacksWrongFalsely : Prop := saggarPacksRow.holds Tryz.pinned (OpenSpec.ofChange saggarPacksWrong)

/-- 'potbanklaw02.SaggarGrids': WHATEVER THE INPUT: true; the input reads as it did. -/
def saggarGridsSpec : ChangeSpec := { name := "saggarGrids", fn := fun _ => fun
  | [d1, d2, d3] => { results := [.lit (.bool true)], args := [d1, d2, d3] }
  | _ => none }
def saggarGridsRow : OpenClaim := { program := "ytodmidchpbcnpaagreat", sum := "0d323659f4df83b8aad3078b01c8b4202c468f0423e8504bc1ee85f521adc9ec", func := "potbank/potbanklaw02.SaggarGrids", spec := "saggarGrids", unfollowed := true, recurses := true, apart := false }
def SaggarGridsSaid : Prop := saggarGridsRow.holds Tryz.pinned (OpenSpec.ofChange saggarGridsSpec)

/-- ITS FALSE NEIGHBOUR: 'it returns false'. Refute it at one input. -/
def saggarGridsWrong : ChangeSpec := { name := "saggarGrids", fn := fun _ => fun
  | [d1, d2, d3] => { results := [.lit (.bool false)], args := [d1, d2, d3] }
  | _ => none }
def SaggarGridsWrongFalsely : Prop := saggarGridsRow.holds Tryz.pinned (OpenSpec.ofChange saggarGridsWrong)

/-- 'potbanklaw02.SaggarRefuses': WHATEVER THE INPUT: true; the input reads as it did. -/
def saggarRefusesSpec : ChangeSpec := { name := "saggarRefuses", fn := fun _ => fun
  | [d1, d2, d3] => { results := [.lit (.bool true)], args := [d1, d2, d3] }
  | _ => none }
def saggarRefusesRow : OpenClaim := { program := "ytodmidchpbcnpaagreat", sum := "0d323659f4df83b8aad3078b01c8b4202c468f0423e8504bc1ee85f521adc9ec", func := "potbank/potbanklaw02.SaggarRefuses", spec := "saggarRefuses", unfollowed := true, recurses := true, apart := false }
def SaggarRefusesSaid : Prop := saggarRefusesRow.holds Tryz.pinned (OpenSpec.ofChange saggarRefusesSpec)

/-- ITS FALSE NEIGHBOUR: 'it returns false'. Refute it at one input. -/
def saggarRefusesWrong : ChangeSpec := { name := "saggarRefuses", fn := fun _ => fun
  | [d1, d2, d3] => { results := [.lit (.bool false)], args := [d1, d2, d3] }
  | _ => none }
def SaggarRefusesWrongFalsely : Prop := saggarRefusesRow.holds Tryz.pinned (OpenSpec.ofChange saggarRefusesWrong)

/-- 'potbanklaw02.SaggarGroups': WHATEVER THE INPUT: true; the input reads as it did. -/
def saggarGroupsSpec : ChangeSpec := { name := "saggarGroups", fn := fun _ => fun
  | [d1, d2] => { results := [.lit (.bool true)], args := [d1, d2] }
  | _ => none }
def saggarGroupsRow : OpenClaim := { program := "ytodmidchpbcnpaagreat", sum := "0d323659f4df83b8aad3078b01c8b4202c468f0423e8504bc1ee85f521adc9ec", func := "potbank/potbanklaw02.SaggarGroups", spec := "saggarGroups", unfollowed := true, recurses := true, apart := false }
def SaggarGroupsSaid : Prop := saggarGroupsRow.holds Tryz.pinned (OpenSpec.ofChange saggarGroupsSpec)

/-- ITS FALSE NEIGHBOUR: 'it returns false'. Refute it at one input. -/
def saggarGroupsWrong : ChangeSpec := { name := "saggarGroups", fn := fun _ => fun
  | [d1, d2] => { results := [.lit (.bool false)], args := [d1, d2] }
  | _ => none }
def SaggarGroupsWrongFalsely : Prop := saggarGroupsRow.holds Tryz.pinned (OpenSpec.ofChange saggarGroupsWrong)

/-- 'potbanklaw02.SaggarEither': WHATEVER THE INPUT: true; the input reads as it did. -/
def saggarEitherSpec : ChangeSpec := { name := "saggarEither", fn := fun _ => fun
  | [d1, d2, d3] => { results := [.lit (.bool true)], args := [d1, d2, d3] }
  | _ => none }
def saggarEitherRow : OpenClaim := { program := "ytodmidchpbcnpaagreat", sum := "0d323659f4df83b8aad3078b01c8b4202c468f0423e8504bc1ee85f521adc9ec", func := "potbank/potbanklaw02.SaggarEither", spec := "saggarEither", unfollowed := true, recurses := true, apart := false }
def SaggarEitherSaid : Prop := saggarEitherRow.holds Tryz.pinned (OpenSpec.ofChange saggarEitherSpec)

/-- ITS FALSE NEIGHBOUR: 'it returns false'. Refute it at one input. -/
def saggarEitherWrong : ChangeSpec := { name := "saggarEither", fn := fun _ => fun
  | [d1, d2, d3] => { results := [.lit (.bool false)], args := [d1, d2, d3] }
  | _ => none }
def SaggarEitherWrongFalsely : Prop := saggarEitherRow.holds Tryz.pinned (OpenSpec.ofChange saggarEitherWrong)

/-- 'potbanklaw02.SaggarOrder': WHATEVER THE INPUT: true; the input reads as it did. -/
def saggarOrderSpec : ChangeSpec := { name := "saggarOrder", fn := fun _ => fun
  | [d1, d2, d3] => { results := [.lit (.bool true)], args := [d1, d2, d3] }
  | _ => none }
def saggarOrderRow : OpenClaim := { program := "ytodmidchpbcnpaagreat", sum := "0d323659f4df83b8aad3078b01c8b4202c468f0423e8504bc1ee85f521adc9ec", func := "potbank/potbanklaw02.SaggarOrder", spec := "saggarOrder", unfollowed := true, recurses := true, apart := false }
def SaggarOrderSaid : Prop := saggarOrderRow.holds Tryz.pinned (OpenSpec.ofChange saggarOrderSpec)

/-- ITS FALSE NEIGHBOUR: 'it returns false'. Refute it at one input. -/
def saggarOrderWrong : ChangeSpec := { name := "saggarOrder", fn := fun _ => fun
  | [d1, d2, d3] => { results := [.lit (.bool false)], args := [d1, d2, d3] }
  | _ => none }
def SaggarOrderWrongFalsely : Prop := saggarOrderRow.holds Tryz.pinned (OpenSpec.ofChange saggarOrderWrong)

/-- 'potbanklaw02.SaggarMore': WHATEVER THE INPUT: true; the input reads as it did. -/
def saggarMoreSpec : ChangeSpec := { name := "saggarMore", fn := fun _ => fun
  | [d1, d2, d3] => { results := [.lit (.bool true)], args := [d1, d2, d3] }
  | _ => none }
def saggarMoreRow : OpenClaim := { program := "ytodmidchpbcnpaagreat", sum := "0d323659f4df83b8aad3078b01c8b4202c468f0423e8504bc1ee85f521adc9ec", func := "potbank/potbanklaw02.SaggarMore", spec := "saggarMore", unfollowed := true, recurses := true, apart := false }
def SaggarMoreSaid : Prop := saggarMoreRow.holds Tryz.pinned (OpenSpec.ofChange saggarMoreSpec)

/-- ITS FALSE NEIGHBOUR: 'it returns false'. Refute it at one input. -/
def saggarMoreWrong : ChangeSpec := { name := "saggarMore", fn := fun _ => fun
  | [d1, d2, d3] => { results := [.lit (.bool false)], args := [d1, d2, d3] }
  | _ => none }
def SaggarMoreWrongFalsely : Prop := saggarMoreRow.holds Tryz.pinned (OpenSpec.ofChange saggarMoreWrong)

/-- 'potbanklaw02.SaggarFewest': WHATEVER THE INPUT: true; the input reads as it did. -/
def saggarFewestSpec : ChangeSpec := { name := "saggarFewest", fn := fun _ => fun
  | [d1, d2] => { results := [.lit (.bool true)], args := [d1, d2] }
  | _ => none }
def saggarFewestRow : OpenClaim := { program := "ytodmidchpbcnpaagreat", sum := "0d323659f4df83b8aad3078b01c8b4202c468f0423e8504bc1ee85f521adc9ec", func := "potbank/potbanklaw02.SaggarFewest", spec := "saggarFewest", unfollowed := true, recurses := true, apart := false }
def SaggarFewestSaid : Prop := saggarFewestRow.holds Tryz.pinned (OpenSpec.ofChange saggarFewestSpec)

/-- ITS FALSE NEIGHBOUR: 'it returns false'. Refute it at one input. -/
def saggarFewestWrong : ChangeSpec := { name := "saggarFewest", fn := fun _ => fun
  | [d1, d2] => { results := [.lit (.bool false)], args := [d1, d2] }
  | _ => none }
def SaggarFewestWrongFalsely : Prop := saggarFewestRow.holds Tryz.pinned (OpenSpec.ofChange saggarFewestWrong)

/- THE SECOND FORM. 'bulk': how many values and letters a reading holds, each counted each time it is reached (what is shared counts as often as it is met; a slice's spare places count too). A statement '..UptoSaid' is the law's where the arguments, and the package variables that the reading takes, are together of bulk at most 1048576: NARROWER than '..Said'. Prove '..Said' where nothing that the law and all that it calls make is longer than what came in: it says more and counts as full. Else prove '..UptoSaid'. A law counts once. -/
mutual
def uptoBulk {H : Type} : DataW H → Nat
  | .lit (.string bytes) => bytes.length + 1
  | .lit _ => 1
  | .nil => 1
  | .ptr d => uptoBulk d + 1
  | .slice elems spare => uptoBulkAll elems + uptoBulkAll spare + 1
  | .agg parts => uptoBulkAll parts + 1
  | .iface _ d => uptoBulk d + 1
  | .map entries => uptoBulkEntries entries + 1
  | .held _ => 1
def uptoBulkAll {H : Type} : List (DataW H) → Nat
  | [] => 0
  | d :: r => uptoBulk d + uptoBulkAll r
def uptoBulkEntries {H : Type} : List (Lit × DataW H) → Nat
  | [] => 0
  | x :: r => uptoBulkEntry x + uptoBulkEntries r
def uptoBulkEntry {H : Type} : Lit × DataW H → Nat
  | (.string bytes, d) => bytes.length + uptoBulk d + 1
  | (_, d) => uptoBulk d + 1
 end
def uptoSmall : (H : Type) → List (DataW H) → Bool := fun _ ds => decide (uptoBulkAll ds ≤ 1048576)
def OpenSpec.upto (s : _root_.Go.ChangeSpec) : _root_.Go.OpenSpec := { _root_.Go.OpenSpec.ofChange s with cond := some uptoSmall }

/-- 'potbanklaw02.SaggarFeet', WHERE WHAT IT READS IS OF BULK AT MOST 1048576: true; the input reads as it did. -/
def saggarFeetUptoRow : OpenClaim := { program := "ytodmidchpbcnpaagreat", sum := "0d323659f4df83b8aad3078b01c8b4202c468f0423e8504bc1ee85f521adc9ec", func := "potbank/potbanklaw02.SaggarFeet", spec := "saggarFeet", unfollowed := true, recurses := true, apart := false, narrowed := true }
def SaggarFeetUptoSaid : Prop := saggarFeetUptoRow.holds Tryz.pinned (OpenSpec.upto saggarFeetSpec)

/-- 'potbanklaw02.SaggarPacks', WHERE WHAT IT READS IS OF BULK AT MOST 1048576: true; the input reads as it did. -/
def saggarPacksUptoRow : OpenClaim := { program := "ytodmidchpbcnpaagreat", sum := "0d323659f4df83b8aad3078b01c8b4202c468f0423e8504bc1ee85f521adc9ec", func := "potbank/potbanklaw02.SaggarPacks", spec := "saggarPacks", unfollowed := true, recurses := true, apart := false, narrowed := true }
def SaggarPacksUptoSaid : Prop := saggarPacksUptoRow.holds Tryz.pinned (OpenSpec.upto saggarPacksSpec)

/-- 'potbanklaw02.SaggarGrids', WHERE WHAT IT READS IS OF BULK AT MOST 1048576: true; the input reads as it did. -/
def saggarGridsUptoRow : OpenClaim := { program := "ytodmidchpbcnpaagreat", sum := "0d323659f4df83b8aad3078b01c8b4202c468f0423e8504bc1ee85f521adc9ec", func := "potbank/potbanklaw02.SaggarGrids", spec := "saggarGrids", unfollowed := true, recurses := true, apart := false, narrowed := true }
def SaggarGridsUptoSaid : Prop := saggarGridsUptoRow.holds Tryz.pinned (OpenSpec.upto saggarGridsSpec)

/-- 'potbanklaw02.SaggarRefuses', WHERE WHAT IT READS IS OF BULK AT MOST 1048576: true; the input reads as it did. -/
def saggarRefusesUptoRow : OpenClaim := { program := "ytodmidchpbcnpaagreat", sum := "0d323659f4df83b8aad3078b01c8b4202c468f0423e8504bc1ee85f521adc9ec", func := "potbank/potbanklaw02.SaggarRefuses", spec := "saggarRefuses", unfollowed := true, recurses := true, apart := false, narrowed := true }
def SaggarRefusesUptoSaid : Prop := saggarRefusesUptoRow.holds Tryz.pinned (OpenSpec.upto saggarRefusesSpec)

/-- 'potbanklaw02.SaggarGroups', WHERE WHAT IT READS IS OF BULK AT MOST 1048576: true; the input reads as it did. -/
def saggarGroupsUptoRow : OpenClaim := { program := "ytodmidchpbcnpaagreat", sum := "0d323659f4df83b8aad3078b01c8b4202c468f0423e8504bc1ee85f521adc9ec", func := "potbank/potbanklaw02.SaggarGroups", spec := "saggarGroups", unfollowed := true, recurses := true, apart := false, narrowed := true }
def SaggarGroupsUptoSaid : Prop := saggarGroupsUptoRow.holds Tryz.pinned (OpenSpec.upto saggarGroupsSpec)

/-- 'potbanklaw02.SaggarEither', WHERE WHAT IT READS IS OF BULK AT MOST 1048576: true; the input reads as it did. -/
def saggarEitherUptoRow : OpenClaim := { program := "ytodmidchpbcnpaagreat", sum := "0d323659f4df83b8aad3078b01c8b4202c468f0423e8504bc1ee85f521adc9ec", func := "potbank/potbanklaw02.SaggarEither", spec := "saggarEither", unfollowed := true, recurses := true, apart := false, narrowed := true }
def SaggarEitherUptoSaid : Prop := saggarEitherUptoRow.holds Tryz.pinned (OpenSpec.upto saggarEitherSpec)

/-- 'potbanklaw02.SaggarOrder', WHERE WHAT IT READS IS OF BULK AT MOST 1048576: true; the input reads as it did. -/
def saggarOrderUptoRow : OpenClaim := { program := "ytodmidchpbcnpaagreat", sum := "0d323659f4df83b8aad3078b01c8b4202c468f0423e8504bc1ee85f521adc9ec", func := "potbank/potbanklaw02.SaggarOrder", spec := "saggarOrder", unfollowed := true, recurses := true, apart := false, narrowed := true }
def SaggarOrderUptoSaid : Prop := saggarOrderUptoRow.holds Tryz.pinned (OpenSpec.upto saggarOrderSpec)

/-- 'potbanklaw02.SaggarMore', WHERE WHAT IT READS IS OF BULK AT MOST 1048576: true; the input reads as it did. -/
def saggarMoreUptoRow : OpenClaim := { program := "ytodmidchpbcnpaagreat", sum := "0d323659f4df83b8aad3078b01c8b4202c468f0423e8504bc1ee85f521adc9ec", func := "potbank/potbanklaw02.SaggarMore", spec := "saggarMore", unfollowed := true, recurses := true, apart := false, narrowed := true }
def SaggarMoreUptoSaid : Prop := saggarMoreUptoRow.holds Tryz.pinned (OpenSpec.upto saggarMoreSpec)

/-- 'potbanklaw02.SaggarFewest', WHERE WHAT IT READS IS OF BULK AT MOST 1048576: true; the input reads as it did. -/
def saggarFewestUptoRow : OpenClaim := { program := "ytodmidchpbcnpaagreat", sum := "0d323659f4df83b8aad3078b01c8b4202c468f0423e8504bc1ee85f521adc9ec", func := "potbank/potbanklaw02.SaggarFewest", spec := "saggarFewest", unfollowed := true, recurses := true, apart := false, narrowed := true }
def SaggarFewestUptoSaid : Prop := saggarFewestUptoRow.holds Tryz.pinned (OpenSpec.upto saggarFewestSpec)

end Rows
end Go.Proofs.YtodmidchpbcnpaaGreat
