/-
  DERIVED. GIVEN WITH THE SEED: THE CARDS: each row of YthlmgpllapccfaaGreatDoorRows.lean that lists a variable, with what it lists TIED to the program's text (the seventh form; the later family's looks); each row that meets fmt, with fmt's text TOLD by the authors' own Lean function (tested against real Go, not proved from fmt's source: count such statements apart). THE CARD IS WHAT COUNTS. Prove the row's statement (the work); the ties are given (YthlmgpllapccfaaGreatDoorTie.lean); close each card by the builder's one call (the guide's Derived/Test/ToyasCard.lean, 'card_holds'). Laid BY PROGRAM, IN A SANDBOX (cutbox-door.mjs). By AI agents, Wed Nov 11 2026. No macro, syntax, notation, axiom, sorry.
-/
import Derived.Test.YthlmgpllapccfaaGreatDoorRows
import GoSem.ClaimSeven
namespace Go.Proofs.YthlmgpllapccfaaGreatDoor
namespace Rows

/-- THE TIED CARD OF 'segmentslaw.Systems'. -/
def systemsCard : Claim7 := { stood := { row := systemsRow, standIns := [], harness := (true, "96a46c333c484247801d0ce534cef77f3d94ac4f4b7b00cca2ade548cce1501e"), looks := true }, kinds := [], alts := [], laidByText := true, laidKinds := [.handle], laidTests := true, laidLooks := .later }
def SystemsCardSaid : Prop := Claim7.holds Tryz.pinned (.plain (OpenSpec.ofChange systemsSpec)) systemsCard

/-- THE TIED CARD OF 'segmentskeep.Common'. -/
def commonCard : Claim7 := { stood := { row := commonRow, standIns := [], harness := (true, "96a46c333c484247801d0ce534cef77f3d94ac4f4b7b00cca2ade548cce1501e"), looks := true }, kinds := [], alts := [], laidByText := true, laidKinds := [.handle], laidTests := true, laidLooks := .later }
def CommonCardSaid : Prop := Claim7.holds Tryz.pinned (.plain (OpenSpec.ofChange commonSpec)) commonCard

/-- THE TIED CARD OF 'segmentskeep.Rooted'. -/
def rootedCard : Claim7 := { stood := { row := rootedRow, standIns := [], harness := (true, "96a46c333c484247801d0ce534cef77f3d94ac4f4b7b00cca2ade548cce1501e"), looks := true }, kinds := [], alts := [], laidByText := true, laidKinds := [.handle], laidTests := true, laidLooks := .later }
def RootedCardSaid : Prop := Claim7.holds Tryz.pinned (.plain (OpenSpec.ofChange rootedSpec)) rootedCard

/-- THE TIED CARD OF 'segmentskeep.Parted'. -/
def partedCard : Claim7 := { stood := { row := partedRow, standIns := [], harness := (true, "96a46c333c484247801d0ce534cef77f3d94ac4f4b7b00cca2ade548cce1501e"), looks := true }, kinds := [], alts := [], laidByText := true, laidKinds := [.handle], laidTests := true, laidLooks := .later }
def PartedCardSaid : Prop := Claim7.holds Tryz.pinned (.plain (OpenSpec.ofChange partedSpec)) partedCard

/-- THE TIED CARD OF 'segmentskeep.Merged'. -/
def mergedCard : Claim7 := { stood := { row := mergedRow, standIns := [], harness := (true, "96a46c333c484247801d0ce534cef77f3d94ac4f4b7b00cca2ade548cce1501e"), looks := true }, kinds := [], alts := [], laidByText := true, laidKinds := [.handle], laidTests := true, laidLooks := .later }
def MergedCardSaid : Prop := Claim7.holds Tryz.pinned (.plain (OpenSpec.ofChange mergedSpec)) mergedCard

/-- THE TIED CARD OF 'segmentskeep.Kept'. -/
def keptCard : Claim7 := { stood := { row := keptRow, standIns := [], harness := (true, "96a46c333c484247801d0ce534cef77f3d94ac4f4b7b00cca2ade548cce1501e"), looks := true }, kinds := [], alts := [], laidByText := true, laidKinds := [.handle], laidTests := true, laidLooks := .later }
def KeptCardSaid : Prop := Claim7.holds Tryz.pinned (.plain (OpenSpec.ofChange keptSpec)) keptCard

/-- THE TIED CARD OF 'segmentslaw.All'. -/
def allCard : Claim7 := { stood := { row := allRow, standIns := [], harness := (true, "96a46c333c484247801d0ce534cef77f3d94ac4f4b7b00cca2ade548cce1501e"), looks := true }, kinds := [], alts := [], laidByText := true, laidKinds := [.handle], laidTests := true, laidLooks := .later }
def AllCardSaid : Prop := Claim7.holds Tryz.pinned (.plain (OpenSpec.ofChange allSpec)) allCard

/-- THE SECOND FORM's CARD OF 'segmentslaw.Systems'. -/
def systemsUptoCard : Claim7 := { stood := { row := systemsUptoRow, standIns := [], harness := (true, "96a46c333c484247801d0ce534cef77f3d94ac4f4b7b00cca2ade548cce1501e"), looks := true }, kinds := [], alts := [], laidByText := true, laidKinds := [.handle], laidTests := true, laidLooks := .later }
def SystemsUptoCardSaid : Prop := Claim7.holds Tryz.pinned (.plain (OpenSpec.upto systemsSpec)) systemsUptoCard

/-- THE SECOND FORM's CARD OF 'segmentskeep.Common'. -/
def commonUptoCard : Claim7 := { stood := { row := commonUptoRow, standIns := [], harness := (true, "96a46c333c484247801d0ce534cef77f3d94ac4f4b7b00cca2ade548cce1501e"), looks := true }, kinds := [], alts := [], laidByText := true, laidKinds := [.handle], laidTests := true, laidLooks := .later }
def CommonUptoCardSaid : Prop := Claim7.holds Tryz.pinned (.plain (OpenSpec.upto commonSpec)) commonUptoCard

/-- THE SECOND FORM's CARD OF 'segmentskeep.Rooted'. -/
def rootedUptoCard : Claim7 := { stood := { row := rootedUptoRow, standIns := [], harness := (true, "96a46c333c484247801d0ce534cef77f3d94ac4f4b7b00cca2ade548cce1501e"), looks := true }, kinds := [], alts := [], laidByText := true, laidKinds := [.handle], laidTests := true, laidLooks := .later }
def RootedUptoCardSaid : Prop := Claim7.holds Tryz.pinned (.plain (OpenSpec.upto rootedSpec)) rootedUptoCard

/-- THE SECOND FORM's CARD OF 'segmentskeep.Parted'. -/
def partedUptoCard : Claim7 := { stood := { row := partedUptoRow, standIns := [], harness := (true, "96a46c333c484247801d0ce534cef77f3d94ac4f4b7b00cca2ade548cce1501e"), looks := true }, kinds := [], alts := [], laidByText := true, laidKinds := [.handle], laidTests := true, laidLooks := .later }
def PartedUptoCardSaid : Prop := Claim7.holds Tryz.pinned (.plain (OpenSpec.upto partedSpec)) partedUptoCard

/-- THE SECOND FORM's CARD OF 'segmentskeep.Merged'. -/
def mergedUptoCard : Claim7 := { stood := { row := mergedUptoRow, standIns := [], harness := (true, "96a46c333c484247801d0ce534cef77f3d94ac4f4b7b00cca2ade548cce1501e"), looks := true }, kinds := [], alts := [], laidByText := true, laidKinds := [.handle], laidTests := true, laidLooks := .later }
def MergedUptoCardSaid : Prop := Claim7.holds Tryz.pinned (.plain (OpenSpec.upto mergedSpec)) mergedUptoCard

/-- THE SECOND FORM's CARD OF 'segmentskeep.Kept'. -/
def keptUptoCard : Claim7 := { stood := { row := keptUptoRow, standIns := [], harness := (true, "96a46c333c484247801d0ce534cef77f3d94ac4f4b7b00cca2ade548cce1501e"), looks := true }, kinds := [], alts := [], laidByText := true, laidKinds := [.handle], laidTests := true, laidLooks := .later }
def KeptUptoCardSaid : Prop := Claim7.holds Tryz.pinned (.plain (OpenSpec.upto keptSpec)) keptUptoCard

/-- THE SECOND FORM's CARD OF 'segmentslaw.All'. -/
def allUptoCard : Claim7 := { stood := { row := allUptoRow, standIns := [], harness := (true, "96a46c333c484247801d0ce534cef77f3d94ac4f4b7b00cca2ade548cce1501e"), looks := true }, kinds := [], alts := [], laidByText := true, laidKinds := [.handle], laidTests := true, laidLooks := .later }
def AllUptoCardSaid : Prop := Claim7.holds Tryz.pinned (.plain (OpenSpec.upto allSpec)) allUptoCard
end Rows
end Go.Proofs.YthlmgpllapccfaaGreatDoor
