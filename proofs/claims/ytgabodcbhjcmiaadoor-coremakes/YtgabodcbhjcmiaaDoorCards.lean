/-
  DERIVED. GIVEN WITH THE SEED: THE CARDS: each row of YtgabodcbhjcmiaaDoorRows.lean that lists a variable, with what it lists TIED to the program's text (the seventh form; the later family's looks); each row that meets fmt, with fmt's text TOLD by the authors' own Lean function (tested against real Go, not proved from fmt's source: count such statements apart). THE CARD IS WHAT COUNTS. Prove the row's statement (the work); the ties are given (YtgabodcbhjcmiaaDoorTie.lean); close each card by the builder's one call (the guide's Derived/Test/ToyasCard.lean, 'card_holds'). Laid BY PROGRAM, IN A SANDBOX (cutbox-door.mjs). By AI agents, Wed Nov 11 2026. No macro, syntax, notation, axiom, sorry.
-/
import Derived.Test.YtgabodcbhjcmiaaDoorRows
import GoSem.ClaimSeven
namespace Go.Proofs.YtgabodcbhjcmiaaDoor
namespace Rows

/-- THE TIED CARD OF 'patoislaw5.CoreMakes'. -/
def coreMakesCard : Claim7 := { stood := { row := coreMakesRow, standIns := [], harness := (true, "d693f7d91b7a8c4bd1ed486915a396b0850114252f0165a0c8cb6ac08cb0ca18"), looks := true }, kinds := [], alts := [], laidByText := true, laidKinds := [.data, .sentinel, .sentinel, .sentinel, .sentinel, .sentinel, .sentinel, .sentinel, .sentinel, .sentinel, .sentinel, .sentinel, .sentinel, .sentinel, .sentinel, .sentinel, .sentinel, .sentinel, .pinned], laidTests := true, laidLooks := .later }
def CoreMakesCardSaid : Prop := Claim7.holds Tryd.pinned (.plain (OpenSpec.ofChange coreMakesSpec)) coreMakesCard

/-- THE TIED CARD OF 'patoislaw5.CoreNests'. -/
def coreNestsCard : Claim7 := { stood := { row := coreNestsRow, standIns := [], harness := (true, "d693f7d91b7a8c4bd1ed486915a396b0850114252f0165a0c8cb6ac08cb0ca18"), looks := true }, kinds := [], alts := [], laidByText := true, laidKinds := [.data, .sentinel, .sentinel, .sentinel, .sentinel, .sentinel, .sentinel, .sentinel, .sentinel, .sentinel, .sentinel, .sentinel, .sentinel, .sentinel, .sentinel, .sentinel, .sentinel, .sentinel, .pinned], laidTests := true, laidLooks := .later }
def CoreNestsCardSaid : Prop := Claim7.holds Tryd.pinned (.plain (OpenSpec.ofChange coreNestsSpec)) coreNestsCard

/-- THE TIED CARD OF 'patoislaw5.CoreMany'. -/
def coreManyCard : Claim7 := { stood := { row := coreManyRow, standIns := [], harness := (true, "d693f7d91b7a8c4bd1ed486915a396b0850114252f0165a0c8cb6ac08cb0ca18"), looks := true }, kinds := [], alts := [], laidByText := true, laidKinds := [.data, .sentinel, .sentinel, .sentinel, .sentinel, .sentinel, .sentinel, .sentinel, .sentinel, .sentinel, .sentinel, .sentinel, .sentinel, .sentinel, .sentinel, .sentinel, .sentinel, .sentinel, .pinned], laidTests := true, laidLooks := .later }
def CoreManyCardSaid : Prop := Claim7.holds Tryd.pinned (.plain (OpenSpec.ofChange coreManySpec)) coreManyCard

/-- THE TIED CARD OF 'patoislaw5.CoreAgain'. -/
def coreAgainCard : Claim7 := { stood := { row := coreAgainRow, standIns := [], harness := (true, "d693f7d91b7a8c4bd1ed486915a396b0850114252f0165a0c8cb6ac08cb0ca18"), looks := true }, kinds := [], alts := [], laidByText := true, laidKinds := [.data, .sentinel, .sentinel, .sentinel, .sentinel, .sentinel, .sentinel, .sentinel, .sentinel, .sentinel, .sentinel, .sentinel, .sentinel, .sentinel, .sentinel, .sentinel, .sentinel, .sentinel, .pinned], laidTests := true, laidLooks := .later }
def CoreAgainCardSaid : Prop := Claim7.holds Tryd.pinned (.plain (OpenSpec.ofChange coreAgainSpec)) coreAgainCard

/-- THE TIED CARD OF 'patoislaw5.CoreKinds'. -/
def coreKindsCard : Claim7 := { stood := { row := coreKindsRow, standIns := [], harness := (true, "d693f7d91b7a8c4bd1ed486915a396b0850114252f0165a0c8cb6ac08cb0ca18"), looks := true }, kinds := [], alts := [], laidByText := true, laidKinds := [.data, .sentinel, .sentinel, .sentinel, .sentinel, .sentinel, .sentinel, .sentinel, .sentinel, .sentinel, .sentinel, .sentinel, .sentinel, .sentinel, .sentinel, .sentinel, .sentinel, .sentinel, .pinned], laidTests := true, laidLooks := .later }
def CoreKindsCardSaid : Prop := Claim7.holds Tryd.pinned (.plain (OpenSpec.ofChange coreKindsSpec)) coreKindsCard

/-- THE SECOND FORM's CARD OF 'patoislaw5.CoreMakes'. -/
def coreMakesUptoCard : Claim7 := { stood := { row := coreMakesUptoRow, standIns := [], harness := (true, "d693f7d91b7a8c4bd1ed486915a396b0850114252f0165a0c8cb6ac08cb0ca18"), looks := true }, kinds := [], alts := [], laidByText := true, laidKinds := [.data, .sentinel, .sentinel, .sentinel, .sentinel, .sentinel, .sentinel, .sentinel, .sentinel, .sentinel, .sentinel, .sentinel, .sentinel, .sentinel, .sentinel, .sentinel, .sentinel, .sentinel, .pinned], laidTests := true, laidLooks := .later }
def CoreMakesUptoCardSaid : Prop := Claim7.holds Tryd.pinned (.plain (OpenSpec.upto coreMakesSpec)) coreMakesUptoCard

/-- THE SECOND FORM's CARD OF 'patoislaw5.CoreNests'. -/
def coreNestsUptoCard : Claim7 := { stood := { row := coreNestsUptoRow, standIns := [], harness := (true, "d693f7d91b7a8c4bd1ed486915a396b0850114252f0165a0c8cb6ac08cb0ca18"), looks := true }, kinds := [], alts := [], laidByText := true, laidKinds := [.data, .sentinel, .sentinel, .sentinel, .sentinel, .sentinel, .sentinel, .sentinel, .sentinel, .sentinel, .sentinel, .sentinel, .sentinel, .sentinel, .sentinel, .sentinel, .sentinel, .sentinel, .pinned], laidTests := true, laidLooks := .later }
def CoreNestsUptoCardSaid : Prop := Claim7.holds Tryd.pinned (.plain (OpenSpec.upto coreNestsSpec)) coreNestsUptoCard

/-- THE SECOND FORM's CARD OF 'patoislaw5.CoreMany'. -/
def coreManyUptoCard : Claim7 := { stood := { row := coreManyUptoRow, standIns := [], harness := (true, "d693f7d91b7a8c4bd1ed486915a396b0850114252f0165a0c8cb6ac08cb0ca18"), looks := true }, kinds := [], alts := [], laidByText := true, laidKinds := [.data, .sentinel, .sentinel, .sentinel, .sentinel, .sentinel, .sentinel, .sentinel, .sentinel, .sentinel, .sentinel, .sentinel, .sentinel, .sentinel, .sentinel, .sentinel, .sentinel, .sentinel, .pinned], laidTests := true, laidLooks := .later }
def CoreManyUptoCardSaid : Prop := Claim7.holds Tryd.pinned (.plain (OpenSpec.upto coreManySpec)) coreManyUptoCard

/-- THE SECOND FORM's CARD OF 'patoislaw5.CoreAgain'. -/
def coreAgainUptoCard : Claim7 := { stood := { row := coreAgainUptoRow, standIns := [], harness := (true, "d693f7d91b7a8c4bd1ed486915a396b0850114252f0165a0c8cb6ac08cb0ca18"), looks := true }, kinds := [], alts := [], laidByText := true, laidKinds := [.data, .sentinel, .sentinel, .sentinel, .sentinel, .sentinel, .sentinel, .sentinel, .sentinel, .sentinel, .sentinel, .sentinel, .sentinel, .sentinel, .sentinel, .sentinel, .sentinel, .sentinel, .pinned], laidTests := true, laidLooks := .later }
def CoreAgainUptoCardSaid : Prop := Claim7.holds Tryd.pinned (.plain (OpenSpec.upto coreAgainSpec)) coreAgainUptoCard

/-- THE SECOND FORM's CARD OF 'patoislaw5.CoreKinds'. -/
def coreKindsUptoCard : Claim7 := { stood := { row := coreKindsUptoRow, standIns := [], harness := (true, "d693f7d91b7a8c4bd1ed486915a396b0850114252f0165a0c8cb6ac08cb0ca18"), looks := true }, kinds := [], alts := [], laidByText := true, laidKinds := [.data, .sentinel, .sentinel, .sentinel, .sentinel, .sentinel, .sentinel, .sentinel, .sentinel, .sentinel, .sentinel, .sentinel, .sentinel, .sentinel, .sentinel, .sentinel, .sentinel, .sentinel, .pinned], laidTests := true, laidLooks := .later }
def CoreKindsUptoCardSaid : Prop := Claim7.holds Tryd.pinned (.plain (OpenSpec.upto coreKindsSpec)) coreKindsUptoCard
end Rows
end Go.Proofs.YtgabodcbhjcmiaaDoor
