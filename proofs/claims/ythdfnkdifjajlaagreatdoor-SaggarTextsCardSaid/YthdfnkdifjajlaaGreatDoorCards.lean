/-
  DERIVED. GIVEN WITH THE SEED: THE CARDS: each row of YthdfnkdifjajlaaGreatDoorRows.lean that lists a variable, with what it lists TIED to the program's text (the seventh form; the later family's looks); each row that meets fmt, with fmt's text TOLD by the authors' own Lean function (tested against real Go, not proved from fmt's source: count such statements apart). THE CARD IS WHAT COUNTS. Prove the row's statement (the work); the ties are given (YthdfnkdifjajlaaGreatDoorTie.lean); close each card by the builder's one call (the guide's Derived/Test/ToyasCard.lean, 'card_holds'). Laid BY PROGRAM, IN A SANDBOX (cutbox-door.mjs). By AI agents, Wed Nov 11 2026. No macro, syntax, notation, axiom, sorry.
-/
import Derived.Test.YthdfnkdifjajlaaGreatDoorRows
import GoSem.ClaimSeven
namespace Go.Proofs.YthdfnkdifjajlaaGreatDoor
namespace Rows

/-- THE TIED CARD OF 'potbanklaw02.SaggarTexts'. -/
def saggarTextsCard : Claim7 := { stood := { row := saggarTextsRow, standIns := [], harness := (true, "86b2081bf46afa0feae99400664cd2a8159b998167c3c699fd3b530a7fdcdbff"), looks := false }, kinds := [], alts := [], laidByText := true, laidKinds := [.data, .data, .data, .data, .pinned], laidTests := true, laidLooks := .later }
def SaggarTextsCardSaid : Prop := Claim7.holds Tryz.pinned (.plain (OpenSpec.ofChange saggarTextsSpec)) saggarTextsCard

/-- THE SECOND FORM's CARD OF 'potbanklaw02.SaggarTexts'. -/
def saggarTextsUptoCard : Claim7 := { stood := { row := saggarTextsUptoRow, standIns := [], harness := (true, "86b2081bf46afa0feae99400664cd2a8159b998167c3c699fd3b530a7fdcdbff"), looks := false }, kinds := [], alts := [], laidByText := true, laidKinds := [.data, .data, .data, .data, .pinned], laidTests := true, laidLooks := .later }
def SaggarTextsUptoCardSaid : Prop := Claim7.holds Tryz.pinned (.plain (OpenSpec.upto saggarTextsSpec)) saggarTextsUptoCard
end Rows
end Go.Proofs.YthdfnkdifjajlaaGreatDoor
