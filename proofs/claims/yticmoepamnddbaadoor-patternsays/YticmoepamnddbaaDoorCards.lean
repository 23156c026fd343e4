/-
  DERIVED. GIVEN WITH THE SEED: THE CARDS: each row of YticmoepamnddbaaDoorRows.lean that lists a variable, with what it lists TIED to the program's text (the seventh form; the later family's looks); each row that meets fmt, with fmt's text TOLD by the authors' own Lean function (tested against real Go, not proved from fmt's source: count such statements apart). THE CARD IS WHAT COUNTS. Prove the row's statement (the work); the ties are given (YticmoepamnddbaaDoorTie.lean); close each card by the builder's one call (the guide's Derived/Test/ToyasCard.lean, 'card_holds'). Laid BY PROGRAM, IN A SANDBOX (cutbox-door.mjs). By AI agents, Wed Nov 11 2026. No macro, syntax, notation, axiom, sorry.
-/
import Derived.Test.YticmoepamnddbaaDoorRows
import GoSem.ClaimSeven
namespace Go.Proofs.YticmoepamnddbaaDoor
namespace Rows

/-- THE TIED CARD OF 'patoislaw2.PatternSays'. -/
def patternSaysCard : Claim7 := { stood := { row := patternSaysRow, standIns := [], harness := (true, "e420d2337200ff238ca4546eeaec9e76535456b7ef8b90c201fdb23accb0f163"), looks := false }, kinds := [], alts := [], laidByText := true, laidKinds := [.data, .pinned], laidTests := true, laidLooks := .later }
def PatternSaysCardSaid : Prop := Claim7.holds Tryd.pinned (.plain (OpenSpec.ofChange patternSaysSpec)) patternSaysCard

/-- THE TIED CARD OF 'patoislaw2.PatternEscapes'. -/
def patternEscapesCard : Claim7 := { stood := { row := patternEscapesRow, standIns := [], harness := (true, "e420d2337200ff238ca4546eeaec9e76535456b7ef8b90c201fdb23accb0f163"), looks := false }, kinds := [], alts := [], laidByText := true, laidKinds := [.data, .pinned], laidTests := true, laidLooks := .later }
def PatternEscapesCardSaid : Prop := Claim7.holds Tryd.pinned (.plain (OpenSpec.ofChange patternEscapesSpec)) patternEscapesCard

/-- THE TIED CARD OF 'patoislaw2.PatternStars'. -/
def patternStarsCard : Claim7 := { stood := { row := patternStarsRow, standIns := [], harness := (true, "e420d2337200ff238ca4546eeaec9e76535456b7ef8b90c201fdb23accb0f163"), looks := false }, kinds := [], alts := [], laidByText := true, laidKinds := [.data, .pinned], laidTests := true, laidLooks := .later }
def PatternStarsCardSaid : Prop := Claim7.holds Tryd.pinned (.plain (OpenSpec.ofChange patternStarsSpec)) patternStarsCard

/-- THE TIED CARD OF 'patoislaw2.PatternParts'. -/
def patternPartsCard : Claim7 := { stood := { row := patternPartsRow, standIns := [], harness := (true, "e420d2337200ff238ca4546eeaec9e76535456b7ef8b90c201fdb23accb0f163"), looks := false }, kinds := [], alts := [], laidByText := true, laidKinds := [.data, .pinned], laidTests := true, laidLooks := .later }
def PatternPartsCardSaid : Prop := Claim7.holds Tryd.pinned (.plain (OpenSpec.ofChange patternPartsSpec)) patternPartsCard

/-- THE SECOND FORM's CARD OF 'patoislaw2.PatternSays'. -/
def patternSaysUptoCard : Claim7 := { stood := { row := patternSaysUptoRow, standIns := [], harness := (true, "e420d2337200ff238ca4546eeaec9e76535456b7ef8b90c201fdb23accb0f163"), looks := false }, kinds := [], alts := [], laidByText := true, laidKinds := [.data, .pinned], laidTests := true, laidLooks := .later }
def PatternSaysUptoCardSaid : Prop := Claim7.holds Tryd.pinned (.plain (OpenSpec.upto patternSaysSpec)) patternSaysUptoCard

/-- THE SECOND FORM's CARD OF 'patoislaw2.PatternEscapes'. -/
def patternEscapesUptoCard : Claim7 := { stood := { row := patternEscapesUptoRow, standIns := [], harness := (true, "e420d2337200ff238ca4546eeaec9e76535456b7ef8b90c201fdb23accb0f163"), looks := false }, kinds := [], alts := [], laidByText := true, laidKinds := [.data, .pinned], laidTests := true, laidLooks := .later }
def PatternEscapesUptoCardSaid : Prop := Claim7.holds Tryd.pinned (.plain (OpenSpec.upto patternEscapesSpec)) patternEscapesUptoCard

/-- THE SECOND FORM's CARD OF 'patoislaw2.PatternStars'. -/
def patternStarsUptoCard : Claim7 := { stood := { row := patternStarsUptoRow, standIns := [], harness := (true, "e420d2337200ff238ca4546eeaec9e76535456b7ef8b90c201fdb23accb0f163"), looks := false }, kinds := [], alts := [], laidByText := true, laidKinds := [.data, .pinned], laidTests := true, laidLooks := .later }
def PatternStarsUptoCardSaid : Prop := Claim7.holds Tryd.pinned (.plain (OpenSpec.upto patternStarsSpec)) patternStarsUptoCard

/-- THE SECOND FORM's CARD OF 'patoislaw2.PatternParts'. -/
def patternPartsUptoCard : Claim7 := { stood := { row := patternPartsUptoRow, standIns := [], harness := (true, "e420d2337200ff238ca4546eeaec9e76535456b7ef8b90c201fdb23accb0f163"), looks := false }, kinds := [], alts := [], laidByText := true, laidKinds := [.data, .pinned], laidTests := true, laidLooks := .later }
def PatternPartsUptoCardSaid : Prop := Claim7.holds Tryd.pinned (.plain (OpenSpec.upto patternPartsSpec)) patternPartsUptoCard
end Rows
end Go.Proofs.YticmoepamnddbaaDoor
