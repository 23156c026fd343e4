/-
  DERIVED. GIVEN WITH THE SEED: THE CARDS: each row of YtddekcohfbnmbaaDoorRows.lean that lists a variable, with what it lists TIED to the program's text (the seventh form; the later family's looks); each row that meets fmt, with fmt's text TOLD by the authors' own Lean function (tested against real Go, not proved from fmt's source: count such statements apart). THE CARD IS WHAT COUNTS. Prove the row's statement (the work); the ties are given (YtddekcohfbnmbaaDoorTie.lean); close each card by the builder's one call (the guide's Derived/Test/ToyasCard.lean, 'card_holds'). Laid BY PROGRAM, IN A SANDBOX (cutbox-door.mjs). By AI agents, Wed Nov 11 2026. No macro, syntax, notation, axiom, sorry.
-/
import Derived.Test.YtddekcohfbnmbaaDoorRows
import GoSem.ClaimSeven
namespace Go.Proofs.YtddekcohfbnmbaaDoor
namespace Rows

/-- THE TIED CARD OF 'patoislaw12.BlexSays'. -/
def blexSaysCard : Claim7 := { stood := { row := blexSaysRow, standIns := [], harness := (true, "d0dd17a305b3d0b56e3b18cc274e7b2eb3e0fce4d75352c4b3469b85684e45a8"), looks := true }, kinds := [], alts := [], laidByText := true, laidKinds := [.data, .sentinel, .sentinel, .sentinel, .sentinel, .sentinel, .sentinel, .sentinel, .sentinel, .sentinel, .sentinel, .sentinel, .sentinel, .sentinel, .sentinel, .sentinel, .sentinel, .sentinel, .data, .pinned], laidTests := true, laidLooks := .later }
def BlexSaysCardSaid : Prop := Claim7.holds Tryd.pinned (.plain (OpenSpec.ofChange blexSaysSpec)) blexSaysCard

/-- THE TIED CARD OF 'patoislaw12.BlexBack'. -/
def blexBackCard : Claim7 := { stood := { row := blexBackRow, standIns := [], harness := (true, "d0dd17a305b3d0b56e3b18cc274e7b2eb3e0fce4d75352c4b3469b85684e45a8"), looks := true }, kinds := [], alts := [], laidByText := true, laidKinds := [.data, .data, .data, .data, .sentinel, .sentinel, .sentinel, .sentinel, .sentinel, .sentinel, .sentinel, .sentinel, .sentinel, .sentinel, .sentinel, .sentinel, .sentinel, .sentinel, .sentinel, .sentinel, .sentinel, .data, .pinned], laidTests := true, laidLooks := .later }
def BlexBackCardSaid : Prop := Claim7.holds Tryd.pinned (.plain (OpenSpec.ofChange blexBackSpec)) blexBackCard

/-- THE TIED CARD OF 'patoislaw12.BlexQuotes'. -/
def blexQuotesCard : Claim7 := { stood := { row := blexQuotesRow, standIns := [], harness := (true, "d0dd17a305b3d0b56e3b18cc274e7b2eb3e0fce4d75352c4b3469b85684e45a8"), looks := true }, kinds := [], alts := [], laidByText := true, laidKinds := [.data, .sentinel, .sentinel, .sentinel, .sentinel, .sentinel, .sentinel, .sentinel, .sentinel, .sentinel, .sentinel, .sentinel, .sentinel, .sentinel, .sentinel, .sentinel, .sentinel, .sentinel, .data, .pinned], laidTests := true, laidLooks := .later }
def BlexQuotesCardSaid : Prop := Claim7.holds Tryd.pinned (.plain (OpenSpec.ofChange blexQuotesSpec)) blexQuotesCard

/-- THE TIED CARD OF 'patoislaw12.BlexPlaces'. -/
def blexPlacesCard : Claim7 := { stood := { row := blexPlacesRow, standIns := [], harness := (true, "d0dd17a305b3d0b56e3b18cc274e7b2eb3e0fce4d75352c4b3469b85684e45a8"), looks := true }, kinds := [], alts := [], laidByText := true, laidKinds := [.data, .sentinel, .sentinel, .sentinel, .sentinel, .sentinel, .sentinel, .sentinel, .sentinel, .sentinel, .sentinel, .sentinel, .sentinel, .sentinel, .sentinel, .sentinel, .sentinel, .sentinel, .data, .pinned], laidTests := true, laidLooks := .later }
def BlexPlacesCardSaid : Prop := Claim7.holds Tryd.pinned (.plain (OpenSpec.ofChange blexPlacesSpec)) blexPlacesCard

/-- THE SECOND FORM's CARD OF 'patoislaw12.BlexSays'. -/
def blexSaysUptoCard : Claim7 := { stood := { row := blexSaysUptoRow, standIns := [], harness := (true, "d0dd17a305b3d0b56e3b18cc274e7b2eb3e0fce4d75352c4b3469b85684e45a8"), looks := true }, kinds := [], alts := [], laidByText := true, laidKinds := [.data, .sentinel, .sentinel, .sentinel, .sentinel, .sentinel, .sentinel, .sentinel, .sentinel, .sentinel, .sentinel, .sentinel, .sentinel, .sentinel, .sentinel, .sentinel, .sentinel, .sentinel, .data, .pinned], laidTests := true, laidLooks := .later }
def BlexSaysUptoCardSaid : Prop := Claim7.holds Tryd.pinned (.plain (OpenSpec.upto blexSaysSpec)) blexSaysUptoCard

/-- THE SECOND FORM's CARD OF 'patoislaw12.BlexBack'. -/
def blexBackUptoCard : Claim7 := { stood := { row := blexBackUptoRow, standIns := [], harness := (true, "d0dd17a305b3d0b56e3b18cc274e7b2eb3e0fce4d75352c4b3469b85684e45a8"), looks := true }, kinds := [], alts := [], laidByText := true, laidKinds := [.data, .data, .data, .data, .sentinel, .sentinel, .sentinel, .sentinel, .sentinel, .sentinel, .sentinel, .sentinel, .sentinel, .sentinel, .sentinel, .sentinel, .sentinel, .sentinel, .sentinel, .sentinel, .sentinel, .data, .pinned], laidTests := true, laidLooks := .later }
def BlexBackUptoCardSaid : Prop := Claim7.holds Tryd.pinned (.plain (OpenSpec.upto blexBackSpec)) blexBackUptoCard

/-- THE SECOND FORM's CARD OF 'patoislaw12.BlexQuotes'. -/
def blexQuotesUptoCard : Claim7 := { stood := { row := blexQuotesUptoRow, standIns := [], harness := (true, "d0dd17a305b3d0b56e3b18cc274e7b2eb3e0fce4d75352c4b3469b85684e45a8"), looks := true }, kinds := [], alts := [], laidByText := true, laidKinds := [.data, .sentinel, .sentinel, .sentinel, .sentinel, .sentinel, .sentinel, .sentinel, .sentinel, .sentinel, .sentinel, .sentinel, .sentinel, .sentinel, .sentinel, .sentinel, .sentinel, .sentinel, .data, .pinned], laidTests := true, laidLooks := .later }
def BlexQuotesUptoCardSaid : Prop := Claim7.holds Tryd.pinned (.plain (OpenSpec.upto blexQuotesSpec)) blexQuotesUptoCard

/-- THE SECOND FORM's CARD OF 'patoislaw12.BlexPlaces'. -/
def blexPlacesUptoCard : Claim7 := { stood := { row := blexPlacesUptoRow, standIns := [], harness := (true, "d0dd17a305b3d0b56e3b18cc274e7b2eb3e0fce4d75352c4b3469b85684e45a8"), looks := true }, kinds := [], alts := [], laidByText := true, laidKinds := [.data, .sentinel, .sentinel, .sentinel, .sentinel, .sentinel, .sentinel, .sentinel, .sentinel, .sentinel, .sentinel, .sentinel, .sentinel, .sentinel, .sentinel, .sentinel, .sentinel, .sentinel, .data, .pinned], laidTests := true, laidLooks := .later }
def BlexPlacesUptoCardSaid : Prop := Claim7.holds Tryd.pinned (.plain (OpenSpec.upto blexPlacesSpec)) blexPlacesUptoCard
end Rows
end Go.Proofs.YtddekcohfbnmbaaDoor
