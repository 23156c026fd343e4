/-
  DERIVED. GIVEN WITH THE SEED: THE CARDS: each row of YtfakelaibijgkaaDoorRows.lean that lists a variable, with what it lists TIED to the program's text (the seventh form; the later family's looks); each row that meets fmt, with fmt's text TOLD by the authors' own Lean function (tested against real Go, not proved from fmt's source: count such statements apart). THE CARD IS WHAT COUNTS. Prove the row's statement (the work); the ties are given (YtfakelaibijgkaaDoorTie.lean); close each card by the builder's one call (the guide's Derived/Test/ToyasCard.lean, 'card_holds'). Laid BY PROGRAM, IN A SANDBOX (cutbox-door.mjs). By AI agents, Wed Nov 11 2026. No macro, syntax, notation, axiom, sorry.
-/
import Derived.Test.YtfakelaibijgkaaDoorRows
import GoSem.ClaimSeven
namespace Go.Proofs.YtfakelaibijgkaaDoor
namespace Rows

/-- THE TIED CARD OF 'patoislaw18.DeadOwn'. -/
def deadOwnCard : Claim7 := { stood := { row := deadOwnRow, standIns := [], harness := (true, "6cb77187247e5b63df4428100ac37054fad3684ad975e87527ef64cf465dc1dd"), looks := false }, kinds := [], alts := [], laidByText := true, laidKinds := [.data, .sentinel, .sentinel, .sentinel, .pinned], laidTests := true, laidLooks := .later }
def DeadOwnCardSaid : Prop := Claim7.holds Tryd.pinned (.plain (OpenSpec.ofChange deadOwnSpec)) deadOwnCard

/-- THE TIED CARD OF 'patoislaw18.DeadAgain'. -/
def deadAgainCard : Claim7 := { stood := { row := deadAgainRow, standIns := [], harness := (true, "6cb77187247e5b63df4428100ac37054fad3684ad975e87527ef64cf465dc1dd"), looks := false }, kinds := [], alts := [], laidByText := true, laidKinds := [.data, .sentinel, .sentinel, .sentinel, .pinned], laidTests := true, laidLooks := .later }
def DeadAgainCardSaid : Prop := Claim7.holds Tryd.pinned (.plain (OpenSpec.ofChange deadAgainSpec)) deadAgainCard

/-- THE TIED CARD OF 'patoislaw18.DeadKeeps'. -/
def deadKeepsCard : Claim7 := { stood := { row := deadKeepsRow, standIns := [], harness := (true, "6cb77187247e5b63df4428100ac37054fad3684ad975e87527ef64cf465dc1dd"), looks := false }, kinds := [], alts := [], laidByText := true, laidKinds := [.data, .sentinel, .sentinel, .sentinel, .pinned], laidTests := true, laidLooks := .later }
def DeadKeepsCardSaid : Prop := Claim7.holds Tryd.pinned (.plain (OpenSpec.ofChange deadKeepsSpec)) deadKeepsCard

/-- THE TIED CARD OF 'patoislaw18.DeadSilent'. -/
def deadSilentCard : Claim7 := { stood := { row := deadSilentRow, standIns := [], harness := (true, "6cb77187247e5b63df4428100ac37054fad3684ad975e87527ef64cf465dc1dd"), looks := false }, kinds := [], alts := [], laidByText := true, laidKinds := [.data, .sentinel, .sentinel, .sentinel, .pinned], laidTests := true, laidLooks := .later }
def DeadSilentCardSaid : Prop := Claim7.holds Tryd.pinned (.plain (OpenSpec.ofChange deadSilentSpec)) deadSilentCard

/-- THE SECOND FORM's CARD OF 'patoislaw18.DeadOwn'. -/
def deadOwnUptoCard : Claim7 := { stood := { row := deadOwnUptoRow, standIns := [], harness := (true, "6cb77187247e5b63df4428100ac37054fad3684ad975e87527ef64cf465dc1dd"), looks := false }, kinds := [], alts := [], laidByText := true, laidKinds := [.data, .sentinel, .sentinel, .sentinel, .pinned], laidTests := true, laidLooks := .later }
def DeadOwnUptoCardSaid : Prop := Claim7.holds Tryd.pinned (.plain (OpenSpec.upto deadOwnSpec)) deadOwnUptoCard

/-- THE SECOND FORM's CARD OF 'patoislaw18.DeadAgain'. -/
def deadAgainUptoCard : Claim7 := { stood := { row := deadAgainUptoRow, standIns := [], harness := (true, "6cb77187247e5b63df4428100ac37054fad3684ad975e87527ef64cf465dc1dd"), looks := false }, kinds := [], alts := [], laidByText := true, laidKinds := [.data, .sentinel, .sentinel, .sentinel, .pinned], laidTests := true, laidLooks := .later }
def DeadAgainUptoCardSaid : Prop := Claim7.holds Tryd.pinned (.plain (OpenSpec.upto deadAgainSpec)) deadAgainUptoCard

/-- THE SECOND FORM's CARD OF 'patoislaw18.DeadKeeps'. -/
def deadKeepsUptoCard : Claim7 := { stood := { row := deadKeepsUptoRow, standIns := [], harness := (true, "6cb77187247e5b63df4428100ac37054fad3684ad975e87527ef64cf465dc1dd"), looks := false }, kinds := [], alts := [], laidByText := true, laidKinds := [.data, .sentinel, .sentinel, .sentinel, .pinned], laidTests := true, laidLooks := .later }
def DeadKeepsUptoCardSaid : Prop := Claim7.holds Tryd.pinned (.plain (OpenSpec.upto deadKeepsSpec)) deadKeepsUptoCard

/-- THE SECOND FORM's CARD OF 'patoislaw18.DeadSilent'. -/
def deadSilentUptoCard : Claim7 := { stood := { row := deadSilentUptoRow, standIns := [], harness := (true, "6cb77187247e5b63df4428100ac37054fad3684ad975e87527ef64cf465dc1dd"), looks := false }, kinds := [], alts := [], laidByText := true, laidKinds := [.data, .sentinel, .sentinel, .sentinel, .pinned], laidTests := true, laidLooks := .later }
def DeadSilentUptoCardSaid : Prop := Claim7.holds Tryd.pinned (.plain (OpenSpec.upto deadSilentSpec)) deadSilentUptoCard
end Rows
end Go.Proofs.YtfakelaibijgkaaDoor
