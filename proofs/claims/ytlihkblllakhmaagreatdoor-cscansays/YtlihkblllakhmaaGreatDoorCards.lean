/-
  DERIVED. GIVEN WITH THE SEED: THE CARDS: each row of YtlihkblllakhmaaGreatDoorRows.lean that lists a variable, with what it lists TIED to the program's text (the seventh form; the later family's looks); each row that meets fmt, with fmt's text TOLD by the authors' own Lean function (tested against real Go, not proved from fmt's source: count such statements apart). THE CARD IS WHAT COUNTS. Prove the row's statement (the work); the ties are given (YtlihkblllakhmaaGreatDoorTie.lean); close each card by the builder's one call (the guide's Derived/Test/ToyasCard.lean, 'card_holds'). Laid BY PROGRAM, IN A SANDBOX (cutbox-door.mjs). By AI agents, Wed Nov 11 2026. No macro, syntax, notation, axiom, sorry.
-/
import Derived.Test.YtlihkblllakhmaaGreatDoorRows
import GoSem.ClaimSeven
namespace Go.Proofs.YtlihkblllakhmaaGreatDoor
namespace Rows

/-- THE TIED CARD OF 'patoislaw14.CscanSays'. -/
def cscanSaysCard : Claim7 := { stood := { row := cscanSaysRow, standIns := [], harness := (true, "5703bca74b9bba619e54edacb18b421602a01091395817f18ef12e5afbcd77d6"), looks := true }, kinds := [], alts := [], laidByText := true, laidKinds := [.sentinel, .sentinel, .sentinel, .sentinel, .sentinel, .sentinel, .sentinel, .sentinel, .sentinel, .sentinel, .sentinel, .sentinel, .sentinel, .sentinel, .sentinel, .sentinel, .sentinel], laidTests := true, laidLooks := .later }
def CscanSaysCardSaid : Prop := Claim7.holds Tryz.pinned (.plain (OpenSpec.ofChange cscanSaysSpec)) cscanSaysCard

/-- THE TIED CARD OF 'patoislaw14.CscanQuotes'. -/
def cscanQuotesCard : Claim7 := { stood := { row := cscanQuotesRow, standIns := [], harness := (true, "5703bca74b9bba619e54edacb18b421602a01091395817f18ef12e5afbcd77d6"), looks := true }, kinds := [], alts := [], laidByText := true, laidKinds := [.sentinel, .sentinel, .sentinel, .sentinel, .sentinel, .sentinel, .sentinel, .sentinel, .sentinel, .sentinel, .sentinel, .sentinel, .sentinel, .sentinel, .sentinel, .sentinel, .sentinel], laidTests := true, laidLooks := .later }
def CscanQuotesCardSaid : Prop := Claim7.holds Tryz.pinned (.plain (OpenSpec.ofChange cscanQuotesSpec)) cscanQuotesCard

/-- THE TIED CARD OF 'patoislaw14.CscanParts'. -/
def cscanPartsCard : Claim7 := { stood := { row := cscanPartsRow, standIns := [], harness := (true, "5703bca74b9bba619e54edacb18b421602a01091395817f18ef12e5afbcd77d6"), looks := true }, kinds := [], alts := [], laidByText := true, laidKinds := [.sentinel, .sentinel, .sentinel, .sentinel, .sentinel, .sentinel, .sentinel, .sentinel, .sentinel, .sentinel, .sentinel, .sentinel, .sentinel, .sentinel, .sentinel, .sentinel, .sentinel], laidTests := true, laidLooks := .later }
def CscanPartsCardSaid : Prop := Claim7.holds Tryz.pinned (.plain (OpenSpec.ofChange cscanPartsSpec)) cscanPartsCard

/-- THE TIED CARD OF 'patoislaw14.CscanBraces'. -/
def cscanBracesCard : Claim7 := { stood := { row := cscanBracesRow, standIns := [], harness := (true, "5703bca74b9bba619e54edacb18b421602a01091395817f18ef12e5afbcd77d6"), looks := true }, kinds := [], alts := [], laidByText := true, laidKinds := [.sentinel, .sentinel, .sentinel, .sentinel, .sentinel, .sentinel, .sentinel, .sentinel, .sentinel, .sentinel, .sentinel, .sentinel, .sentinel, .sentinel, .sentinel, .sentinel, .sentinel], laidTests := true, laidLooks := .later }
def CscanBracesCardSaid : Prop := Claim7.holds Tryz.pinned (.plain (OpenSpec.ofChange cscanBracesSpec)) cscanBracesCard

/-- THE SECOND FORM's CARD OF 'patoislaw14.CscanSays'. -/
def cscanSaysUptoCard : Claim7 := { stood := { row := cscanSaysUptoRow, standIns := [], harness := (true, "5703bca74b9bba619e54edacb18b421602a01091395817f18ef12e5afbcd77d6"), looks := true }, kinds := [], alts := [], laidByText := true, laidKinds := [.sentinel, .sentinel, .sentinel, .sentinel, .sentinel, .sentinel, .sentinel, .sentinel, .sentinel, .sentinel, .sentinel, .sentinel, .sentinel, .sentinel, .sentinel, .sentinel, .sentinel], laidTests := true, laidLooks := .later }
def CscanSaysUptoCardSaid : Prop := Claim7.holds Tryz.pinned (.plain (OpenSpec.upto cscanSaysSpec)) cscanSaysUptoCard

/-- THE SECOND FORM's CARD OF 'patoislaw14.CscanQuotes'. -/
def cscanQuotesUptoCard : Claim7 := { stood := { row := cscanQuotesUptoRow, standIns := [], harness := (true, "5703bca74b9bba619e54edacb18b421602a01091395817f18ef12e5afbcd77d6"), looks := true }, kinds := [], alts := [], laidByText := true, laidKinds := [.sentinel, .sentinel, .sentinel, .sentinel, .sentinel, .sentinel, .sentinel, .sentinel, .sentinel, .sentinel, .sentinel, .sentinel, .sentinel, .sentinel, .sentinel, .sentinel, .sentinel], laidTests := true, laidLooks := .later }
def CscanQuotesUptoCardSaid : Prop := Claim7.holds Tryz.pinned (.plain (OpenSpec.upto cscanQuotesSpec)) cscanQuotesUptoCard

/-- THE SECOND FORM's CARD OF 'patoislaw14.CscanParts'. -/
def cscanPartsUptoCard : Claim7 := { stood := { row := cscanPartsUptoRow, standIns := [], harness := (true, "5703bca74b9bba619e54edacb18b421602a01091395817f18ef12e5afbcd77d6"), looks := true }, kinds := [], alts := [], laidByText := true, laidKinds := [.sentinel, .sentinel, .sentinel, .sentinel, .sentinel, .sentinel, .sentinel, .sentinel, .sentinel, .sentinel, .sentinel, .sentinel, .sentinel, .sentinel, .sentinel, .sentinel, .sentinel], laidTests := true, laidLooks := .later }
def CscanPartsUptoCardSaid : Prop := Claim7.holds Tryz.pinned (.plain (OpenSpec.upto cscanPartsSpec)) cscanPartsUptoCard

/-- THE SECOND FORM's CARD OF 'patoislaw14.CscanBraces'. -/
def cscanBracesUptoCard : Claim7 := { stood := { row := cscanBracesUptoRow, standIns := [], harness := (true, "5703bca74b9bba619e54edacb18b421602a01091395817f18ef12e5afbcd77d6"), looks := true }, kinds := [], alts := [], laidByText := true, laidKinds := [.sentinel, .sentinel, .sentinel, .sentinel, .sentinel, .sentinel, .sentinel, .sentinel, .sentinel, .sentinel, .sentinel, .sentinel, .sentinel, .sentinel, .sentinel, .sentinel, .sentinel], laidTests := true, laidLooks := .later }
def CscanBracesUptoCardSaid : Prop := Claim7.holds Tryz.pinned (.plain (OpenSpec.upto cscanBracesSpec)) cscanBracesUptoCard
end Rows
end Go.Proofs.YtlihkblllakhmaaGreatDoor
