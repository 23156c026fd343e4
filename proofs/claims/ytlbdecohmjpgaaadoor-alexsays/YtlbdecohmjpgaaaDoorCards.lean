/-
  DERIVED. GIVEN WITH THE SEED: THE CARDS: each row of YtlbdecohmjpgaaaDoorRows.lean that lists a variable, with what it lists TIED to the program's text (the seventh form; the later family's looks); each row that meets fmt, with fmt's text TOLD by the authors' own Lean function (tested against real Go, not proved from fmt's source: count such statements apart). THE CARD IS WHAT COUNTS. Prove the row's statement (the work); the ties are given (YtlbdecohmjpgaaaDoorTie.lean); close each card by the builder's one call (the guide's Derived/Test/ToyasCard.lean, 'card_holds'). Laid BY PROGRAM, IN A SANDBOX (cutbox-door.mjs). By AI agents, Wed Nov 11 2026. No macro, syntax, notation, axiom, sorry.
-/
import Derived.Test.YtlbdecohmjpgaaaDoorRows
import GoSem.ClaimSeven
namespace Go.Proofs.YtlbdecohmjpgaaaDoor
namespace Rows

/-- THE TIED CARD OF 'patoislaw10.AlexSays'. -/
def alexSaysCard : Claim7 := { stood := { row := alexSaysRow, standIns := [], harness := (true, "066577b4ae6715aa34c591d7fa67e989883a8e1d9469e3f786d0656983038514"), looks := true }, kinds := [], alts := [], laidByText := true, laidKinds := [.sentinel, .sentinel, .sentinel, .sentinel, .sentinel, .sentinel, .sentinel, .sentinel, .sentinel, .sentinel, .sentinel, .sentinel, .sentinel, .sentinel, .sentinel, .sentinel, .sentinel, .data], laidTests := true, laidLooks := .later }
def AlexSaysCardSaid : Prop := Claim7.holds Tryd.pinned (.plain (OpenSpec.ofChange alexSaysSpec)) alexSaysCard

/-- THE TIED CARD OF 'patoislaw10.AlexPlaces'. -/
def alexPlacesCard : Claim7 := { stood := { row := alexPlacesRow, standIns := [], harness := (true, "066577b4ae6715aa34c591d7fa67e989883a8e1d9469e3f786d0656983038514"), looks := true }, kinds := [], alts := [], laidByText := true, laidKinds := [.sentinel, .sentinel, .sentinel, .sentinel, .sentinel, .sentinel, .sentinel, .sentinel, .sentinel, .sentinel, .sentinel, .sentinel, .sentinel, .sentinel, .sentinel, .sentinel, .sentinel, .data], laidTests := true, laidLooks := .later }
def AlexPlacesCardSaid : Prop := Claim7.holds Tryd.pinned (.plain (OpenSpec.ofChange alexPlacesSpec)) alexPlacesCard

/-- THE TIED CARD OF 'patoislaw10.AlexQuotes'. -/
def alexQuotesCard : Claim7 := { stood := { row := alexQuotesRow, standIns := [], harness := (true, "066577b4ae6715aa34c591d7fa67e989883a8e1d9469e3f786d0656983038514"), looks := true }, kinds := [], alts := [], laidByText := true, laidKinds := [.sentinel, .sentinel, .sentinel, .sentinel, .sentinel, .sentinel, .sentinel, .sentinel, .sentinel, .sentinel, .sentinel, .sentinel, .sentinel, .sentinel, .sentinel, .sentinel, .sentinel, .data], laidTests := true, laidLooks := .later }
def AlexQuotesCardSaid : Prop := Claim7.holds Tryd.pinned (.plain (OpenSpec.ofChange alexQuotesSpec)) alexQuotesCard

/-- THE TIED CARD OF 'patoislaw10.AlexSubs'. -/
def alexSubsCard : Claim7 := { stood := { row := alexSubsRow, standIns := [], harness := (true, "066577b4ae6715aa34c591d7fa67e989883a8e1d9469e3f786d0656983038514"), looks := true }, kinds := [], alts := [], laidByText := true, laidKinds := [.sentinel, .sentinel, .sentinel, .sentinel, .sentinel, .sentinel, .sentinel, .sentinel, .sentinel, .sentinel, .sentinel, .sentinel, .sentinel, .sentinel, .sentinel, .sentinel, .sentinel, .data], laidTests := true, laidLooks := .later }
def AlexSubsCardSaid : Prop := Claim7.holds Tryd.pinned (.plain (OpenSpec.ofChange alexSubsSpec)) alexSubsCard

/-- THE TIED CARD OF 'patoislaw10.AlexNames'. -/
def alexNamesCard : Claim7 := { stood := { row := alexNamesRow, standIns := [], harness := (true, "066577b4ae6715aa34c591d7fa67e989883a8e1d9469e3f786d0656983038514"), looks := true }, kinds := [], alts := [], laidByText := true, laidKinds := [.sentinel, .sentinel, .sentinel, .sentinel, .sentinel, .sentinel, .sentinel, .sentinel, .sentinel, .sentinel, .sentinel, .sentinel, .sentinel, .sentinel, .sentinel, .sentinel, .sentinel, .data], laidTests := true, laidLooks := .later }
def AlexNamesCardSaid : Prop := Claim7.holds Tryd.pinned (.plain (OpenSpec.ofChange alexNamesSpec)) alexNamesCard

/-- THE SECOND FORM's CARD OF 'patoislaw10.AlexSays'. -/
def alexSaysUptoCard : Claim7 := { stood := { row := alexSaysUptoRow, standIns := [], harness := (true, "066577b4ae6715aa34c591d7fa67e989883a8e1d9469e3f786d0656983038514"), looks := true }, kinds := [], alts := [], laidByText := true, laidKinds := [.sentinel, .sentinel, .sentinel, .sentinel, .sentinel, .sentinel, .sentinel, .sentinel, .sentinel, .sentinel, .sentinel, .sentinel, .sentinel, .sentinel, .sentinel, .sentinel, .sentinel, .data], laidTests := true, laidLooks := .later }
def AlexSaysUptoCardSaid : Prop := Claim7.holds Tryd.pinned (.plain (OpenSpec.upto alexSaysSpec)) alexSaysUptoCard

/-- THE SECOND FORM's CARD OF 'patoislaw10.AlexPlaces'. -/
def alexPlacesUptoCard : Claim7 := { stood := { row := alexPlacesUptoRow, standIns := [], harness := (true, "066577b4ae6715aa34c591d7fa67e989883a8e1d9469e3f786d0656983038514"), looks := true }, kinds := [], alts := [], laidByText := true, laidKinds := [.sentinel, .sentinel, .sentinel, .sentinel, .sentinel, .sentinel, .sentinel, .sentinel, .sentinel, .sentinel, .sentinel, .sentinel, .sentinel, .sentinel, .sentinel, .sentinel, .sentinel, .data], laidTests := true, laidLooks := .later }
def AlexPlacesUptoCardSaid : Prop := Claim7.holds Tryd.pinned (.plain (OpenSpec.upto alexPlacesSpec)) alexPlacesUptoCard

/-- THE SECOND FORM's CARD OF 'patoislaw10.AlexQuotes'. -/
def alexQuotesUptoCard : Claim7 := { stood := { row := alexQuotesUptoRow, standIns := [], harness := (true, "066577b4ae6715aa34c591d7fa67e989883a8e1d9469e3f786d0656983038514"), looks := true }, kinds := [], alts := [], laidByText := true, laidKinds := [.sentinel, .sentinel, .sentinel, .sentinel, .sentinel, .sentinel, .sentinel, .sentinel, .sentinel, .sentinel, .sentinel, .sentinel, .sentinel, .sentinel, .sentinel, .sentinel, .sentinel, .data], laidTests := true, laidLooks := .later }
def AlexQuotesUptoCardSaid : Prop := Claim7.holds Tryd.pinned (.plain (OpenSpec.upto alexQuotesSpec)) alexQuotesUptoCard

/-- THE SECOND FORM's CARD OF 'patoislaw10.AlexSubs'. -/
def alexSubsUptoCard : Claim7 := { stood := { row := alexSubsUptoRow, standIns := [], harness := (true, "066577b4ae6715aa34c591d7fa67e989883a8e1d9469e3f786d0656983038514"), looks := true }, kinds := [], alts := [], laidByText := true, laidKinds := [.sentinel, .sentinel, .sentinel, .sentinel, .sentinel, .sentinel, .sentinel, .sentinel, .sentinel, .sentinel, .sentinel, .sentinel, .sentinel, .sentinel, .sentinel, .sentinel, .sentinel, .data], laidTests := true, laidLooks := .later }
def AlexSubsUptoCardSaid : Prop := Claim7.holds Tryd.pinned (.plain (OpenSpec.upto alexSubsSpec)) alexSubsUptoCard

/-- THE SECOND FORM's CARD OF 'patoislaw10.AlexNames'. -/
def alexNamesUptoCard : Claim7 := { stood := { row := alexNamesUptoRow, standIns := [], harness := (true, "066577b4ae6715aa34c591d7fa67e989883a8e1d9469e3f786d0656983038514"), looks := true }, kinds := [], alts := [], laidByText := true, laidKinds := [.sentinel, .sentinel, .sentinel, .sentinel, .sentinel, .sentinel, .sentinel, .sentinel, .sentinel, .sentinel, .sentinel, .sentinel, .sentinel, .sentinel, .sentinel, .sentinel, .sentinel, .data], laidTests := true, laidLooks := .later }
def AlexNamesUptoCardSaid : Prop := Claim7.holds Tryd.pinned (.plain (OpenSpec.upto alexNamesSpec)) alexNamesUptoCard
end Rows
end Go.Proofs.YtlbdecohmjpgaaaDoor
