/-
  DERIVED. GIVEN WITH THE SEED: THE CARDS: each row of YtnlbjgioleoihaaGreatDoorRows.lean that lists a variable, with what it lists TIED to the program's text (the seventh form; the later family's looks); each row that meets fmt, with fmt's text TOLD by the authors' own Lean function (tested against real Go, not proved from fmt's source: count such statements apart). THE CARD IS WHAT COUNTS. Prove the row's statement (the work); the ties are given (YtnlbjgioleoihaaGreatDoorTie.lean); close each card by the builder's one call (the guide's Derived/Test/ToyasCard.lean, 'card_holds'). Laid BY PROGRAM, IN A SANDBOX (cutbox-door.mjs). By AI agents, Wed Nov 11 2026. No macro, syntax, notation, axiom, sorry.
-/
import Derived.Test.YtnlbjgioleoihaaGreatDoorRows
import GoSem.ClaimSeven
namespace Go.Proofs.YtnlbjgioleoihaaGreatDoor
namespace Rows

/-- THE TIED CARD OF 'patoislaw10.AlexBack'. -/
def alexBackCard : Claim7 := { stood := { row := alexBackRow, standIns := [], harness := (true, "5ed3a3c33c3ed6262a30140b0cda7931041eb20e574c135029d13c178581d65c"), looks := true }, kinds := [], alts := [], laidByText := true, laidKinds := [.data, .data, .data, .data, .sentinel, .sentinel, .sentinel, .sentinel, .sentinel, .sentinel, .sentinel, .sentinel, .sentinel, .sentinel, .sentinel, .sentinel, .sentinel, .sentinel, .sentinel, .sentinel, .sentinel, .data, .pinned], laidTests := true, laidLooks := .later }
def AlexBackCardSaid : Prop := Claim7.holds Tryz.pinned (.plain (OpenSpec.ofChange alexBackSpec)) alexBackCard

/-- THE SECOND FORM's CARD OF 'patoislaw10.AlexBack'. -/
def alexBackUptoCard : Claim7 := { stood := { row := alexBackUptoRow, standIns := [], harness := (true, "5ed3a3c33c3ed6262a30140b0cda7931041eb20e574c135029d13c178581d65c"), looks := true }, kinds := [], alts := [], laidByText := true, laidKinds := [.data, .data, .data, .data, .sentinel, .sentinel, .sentinel, .sentinel, .sentinel, .sentinel, .sentinel, .sentinel, .sentinel, .sentinel, .sentinel, .sentinel, .sentinel, .sentinel, .sentinel, .sentinel, .sentinel, .data, .pinned], laidTests := true, laidLooks := .later }
def AlexBackUptoCardSaid : Prop := Claim7.holds Tryz.pinned (.plain (OpenSpec.upto alexBackSpec)) alexBackUptoCard
end Rows
end Go.Proofs.YtnlbjgioleoihaaGreatDoor
