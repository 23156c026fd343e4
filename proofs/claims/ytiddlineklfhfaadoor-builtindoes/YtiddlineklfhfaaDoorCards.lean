/-
  DERIVED. GIVEN WITH THE SEED: THE CARDS: each row of YtiddlineklfhfaaDoorRows.lean that lists a variable, with what it lists TIED to the program's text (the seventh form; the later family's looks); each row that meets fmt, with fmt's text TOLD by the authors' own Lean function (tested against real Go, not proved from fmt's source: count such statements apart). THE CARD IS WHAT COUNTS. Prove the row's statement (the work); the ties are given (YtiddlineklfhfaaDoorTie.lean); close each card by the builder's one call (the guide's Derived/Test/ToyasCard.lean, 'card_holds'). Laid BY PROGRAM, IN A SANDBOX (cutbox-door.mjs). By AI agents, Wed Nov 11 2026. No macro, syntax, notation, axiom, sorry.
-/
import Derived.Test.YtiddlineklfhfaaDoorRows
import GoSem.ClaimSeven
namespace Go.Proofs.YtiddlineklfhfaaDoor
namespace Rows

/-- THE TIED CARD OF 'patoislaw8.BuiltinDoes'. -/
def builtinDoesCard : Claim7 := { stood := { row := builtinDoesRow, standIns := [], harness := (true, "2aa194ef05938b20841a1ad3fb39ebdd43825e0995fe0665e9a435882a4eab4f"), looks := false }, kinds := [], alts := [], laidByText := true, laidKinds := [.data, .data, .data], laidTests := true, laidLooks := .later }
def BuiltinDoesCardSaid : Prop := Claim7.holds Tryd.pinned (.plain (OpenSpec.ofChange builtinDoesSpec)) builtinDoesCard

/-- THE TIED CARD OF 'patoislaw8.BuiltinReads'. -/
def builtinReadsCard : Claim7 := { stood := { row := builtinReadsRow, standIns := [], harness := (true, "2aa194ef05938b20841a1ad3fb39ebdd43825e0995fe0665e9a435882a4eab4f"), looks := false }, kinds := [], alts := [], laidByText := true, laidKinds := [.data, .data, .data], laidTests := true, laidLooks := .later }
def BuiltinReadsCardSaid : Prop := Claim7.holds Tryd.pinned (.plain (OpenSpec.ofChange builtinReadsSpec)) builtinReadsCard

/-- THE TIED CARD OF 'patoislaw8.BuiltinCounts'. -/
def builtinCountsCard : Claim7 := { stood := { row := builtinCountsRow, standIns := [], harness := (true, "2aa194ef05938b20841a1ad3fb39ebdd43825e0995fe0665e9a435882a4eab4f"), looks := false }, kinds := [], alts := [], laidByText := true, laidKinds := [.data, .data, .data], laidTests := true, laidLooks := .later }
def BuiltinCountsCardSaid : Prop := Claim7.holds Tryd.pinned (.plain (OpenSpec.ofChange builtinCountsSpec)) builtinCountsCard

/-- THE TIED CARD OF 'patoislaw8.BuiltinSays'. -/
def builtinSaysCard : Claim7 := { stood := { row := builtinSaysRow, standIns := [], harness := (true, "2aa194ef05938b20841a1ad3fb39ebdd43825e0995fe0665e9a435882a4eab4f"), looks := false }, kinds := [], alts := [], laidByText := true, laidKinds := [.data, .data, .data], laidTests := true, laidLooks := .later }
def BuiltinSaysCardSaid : Prop := Claim7.holds Tryd.pinned (.plain (OpenSpec.ofChange builtinSaysSpec)) builtinSaysCard

/-- THE TIED CARD OF 'patoislaw8.BuiltinTests'. -/
def builtinTestsCard : Claim7 := { stood := { row := builtinTestsRow, standIns := [], harness := (true, "2aa194ef05938b20841a1ad3fb39ebdd43825e0995fe0665e9a435882a4eab4f"), looks := false }, kinds := [], alts := [], laidByText := true, laidKinds := [.data, .data, .data], laidTests := true, laidLooks := .later }
def BuiltinTestsCardSaid : Prop := Claim7.holds Tryd.pinned (.plain (OpenSpec.ofChange builtinTestsSpec)) builtinTestsCard

/-- THE SECOND FORM's CARD OF 'patoislaw8.BuiltinDoes'. -/
def builtinDoesUptoCard : Claim7 := { stood := { row := builtinDoesUptoRow, standIns := [], harness := (true, "2aa194ef05938b20841a1ad3fb39ebdd43825e0995fe0665e9a435882a4eab4f"), looks := false }, kinds := [], alts := [], laidByText := true, laidKinds := [.data, .data, .data], laidTests := true, laidLooks := .later }
def BuiltinDoesUptoCardSaid : Prop := Claim7.holds Tryd.pinned (.plain (OpenSpec.upto builtinDoesSpec)) builtinDoesUptoCard

/-- THE SECOND FORM's CARD OF 'patoislaw8.BuiltinReads'. -/
def builtinReadsUptoCard : Claim7 := { stood := { row := builtinReadsUptoRow, standIns := [], harness := (true, "2aa194ef05938b20841a1ad3fb39ebdd43825e0995fe0665e9a435882a4eab4f"), looks := false }, kinds := [], alts := [], laidByText := true, laidKinds := [.data, .data, .data], laidTests := true, laidLooks := .later }
def BuiltinReadsUptoCardSaid : Prop := Claim7.holds Tryd.pinned (.plain (OpenSpec.upto builtinReadsSpec)) builtinReadsUptoCard

/-- THE SECOND FORM's CARD OF 'patoislaw8.BuiltinCounts'. -/
def builtinCountsUptoCard : Claim7 := { stood := { row := builtinCountsUptoRow, standIns := [], harness := (true, "2aa194ef05938b20841a1ad3fb39ebdd43825e0995fe0665e9a435882a4eab4f"), looks := false }, kinds := [], alts := [], laidByText := true, laidKinds := [.data, .data, .data], laidTests := true, laidLooks := .later }
def BuiltinCountsUptoCardSaid : Prop := Claim7.holds Tryd.pinned (.plain (OpenSpec.upto builtinCountsSpec)) builtinCountsUptoCard

/-- THE SECOND FORM's CARD OF 'patoislaw8.BuiltinSays'. -/
def builtinSaysUptoCard : Claim7 := { stood := { row := builtinSaysUptoRow, standIns := [], harness := (true, "2aa194ef05938b20841a1ad3fb39ebdd43825e0995fe0665e9a435882a4eab4f"), looks := false }, kinds := [], alts := [], laidByText := true, laidKinds := [.data, .data, .data], laidTests := true, laidLooks := .later }
def BuiltinSaysUptoCardSaid : Prop := Claim7.holds Tryd.pinned (.plain (OpenSpec.upto builtinSaysSpec)) builtinSaysUptoCard

/-- THE SECOND FORM's CARD OF 'patoislaw8.BuiltinTests'. -/
def builtinTestsUptoCard : Claim7 := { stood := { row := builtinTestsUptoRow, standIns := [], harness := (true, "2aa194ef05938b20841a1ad3fb39ebdd43825e0995fe0665e9a435882a4eab4f"), looks := false }, kinds := [], alts := [], laidByText := true, laidKinds := [.data, .data, .data], laidTests := true, laidLooks := .later }
def BuiltinTestsUptoCardSaid : Prop := Claim7.holds Tryd.pinned (.plain (OpenSpec.upto builtinTestsSpec)) builtinTestsUptoCard
end Rows
end Go.Proofs.YtiddlineklfhfaaDoor
