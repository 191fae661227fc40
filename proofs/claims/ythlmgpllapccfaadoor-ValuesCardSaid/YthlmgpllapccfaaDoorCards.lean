/-
  DERIVED. GIVEN WITH THE SEED: THE CARDS: each row of YthlmgpllapccfaaDoorRows.lean that lists a variable, with what it lists TIED to the program's text (the seventh form; the later family's looks); each row that meets fmt, with fmt's text TOLD by the authors' own Lean function (tested against real Go, not proved from fmt's source: count such statements apart). THE CARD IS WHAT COUNTS. Prove the row's statement (the work); the ties are given (YthlmgpllapccfaaDoorTie.lean); close each card by the builder's one call (the guide's Derived/Test/ToyasCard.lean, 'card_holds'). Laid BY PROGRAM, IN A SANDBOX (cutbox-door.mjs). By AI agents, Wed Nov 11 2026. No macro, syntax, notation, axiom, sorry.
-/
import Derived.Test.YthlmgpllapccfaaDoorRows
import GoSem.ClaimSeven
namespace Go.Proofs.YthlmgpllapccfaaDoor
namespace Rows

/-- THE TIED CARD OF 'segmentslaw.Canons'. -/
def canonsCard : Claim7 := { stood := { row := canonsRow, standIns := [], harness := (true, "de91fc91640b9c987a08eeef19824d0f4cf06336a136806cba3f6f1c2bfd1efd"), looks := true }, kinds := [], alts := [], laidByText := true, laidKinds := [.data, .data, .data, .handle], laidTests := true, laidLooks := .later }
def CanonsCardSaid : Prop := Claim7.holds Tryd.pinned (.plain (OpenSpec.ofChange canonsSpec)) canonsCard

/-- THE TIED CARD OF 'segmentslaw.Values'. -/
def valuesCard : Claim7 := { stood := { row := valuesRow, standIns := [], harness := (true, "de91fc91640b9c987a08eeef19824d0f4cf06336a136806cba3f6f1c2bfd1efd"), looks := true }, kinds := [], alts := [], laidByText := true, laidKinds := [.handle], laidTests := true, laidLooks := .later }
def ValuesCardSaid : Prop := Claim7.holds Tryd.pinned (.plain (OpenSpec.ofChange valuesSpec)) valuesCard

/-- THE TIED CARD OF 'segmentskeep.Again'. -/
def againCard : Claim7 := { stood := { row := againRow, standIns := [], harness := (true, "de91fc91640b9c987a08eeef19824d0f4cf06336a136806cba3f6f1c2bfd1efd"), looks := true }, kinds := [], alts := [], laidByText := true, laidKinds := [.data, .data, .data, .handle], laidTests := true, laidLooks := .later }
def AgainCardSaid : Prop := Claim7.holds Tryd.pinned (.plain (OpenSpec.ofChange againSpec)) againCard

/-- THE TIED CARD OF 'segmentskeep.Added'. -/
def addedCard : Claim7 := { stood := { row := addedRow, standIns := [], harness := (true, "de91fc91640b9c987a08eeef19824d0f4cf06336a136806cba3f6f1c2bfd1efd"), looks := true }, kinds := [], alts := [], laidByText := true, laidKinds := [.data, .data, .data, .handle], laidTests := true, laidLooks := .later }
def AddedCardSaid : Prop := Claim7.holds Tryd.pinned (.plain (OpenSpec.ofChange addedSpec)) addedCard

/-- THE SECOND FORM's CARD OF 'segmentslaw.Canons'. -/
def canonsUptoCard : Claim7 := { stood := { row := canonsUptoRow, standIns := [], harness := (true, "de91fc91640b9c987a08eeef19824d0f4cf06336a136806cba3f6f1c2bfd1efd"), looks := true }, kinds := [], alts := [], laidByText := true, laidKinds := [.data, .data, .data, .handle], laidTests := true, laidLooks := .later }
def CanonsUptoCardSaid : Prop := Claim7.holds Tryd.pinned (.plain (OpenSpec.upto canonsSpec)) canonsUptoCard

/-- THE SECOND FORM's CARD OF 'segmentslaw.Values'. -/
def valuesUptoCard : Claim7 := { stood := { row := valuesUptoRow, standIns := [], harness := (true, "de91fc91640b9c987a08eeef19824d0f4cf06336a136806cba3f6f1c2bfd1efd"), looks := true }, kinds := [], alts := [], laidByText := true, laidKinds := [.handle], laidTests := true, laidLooks := .later }
def ValuesUptoCardSaid : Prop := Claim7.holds Tryd.pinned (.plain (OpenSpec.upto valuesSpec)) valuesUptoCard

/-- THE SECOND FORM's CARD OF 'segmentskeep.Again'. -/
def againUptoCard : Claim7 := { stood := { row := againUptoRow, standIns := [], harness := (true, "de91fc91640b9c987a08eeef19824d0f4cf06336a136806cba3f6f1c2bfd1efd"), looks := true }, kinds := [], alts := [], laidByText := true, laidKinds := [.data, .data, .data, .handle], laidTests := true, laidLooks := .later }
def AgainUptoCardSaid : Prop := Claim7.holds Tryd.pinned (.plain (OpenSpec.upto againSpec)) againUptoCard

/-- THE SECOND FORM's CARD OF 'segmentskeep.Added'. -/
def addedUptoCard : Claim7 := { stood := { row := addedUptoRow, standIns := [], harness := (true, "de91fc91640b9c987a08eeef19824d0f4cf06336a136806cba3f6f1c2bfd1efd"), looks := true }, kinds := [], alts := [], laidByText := true, laidKinds := [.data, .data, .data, .handle], laidTests := true, laidLooks := .later }
def AddedUptoCardSaid : Prop := Claim7.holds Tryd.pinned (.plain (OpenSpec.upto addedSpec)) addedUptoCard
end Rows
end Go.Proofs.YthlmgpllapccfaaDoor
