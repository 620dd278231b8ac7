/-
  DERIVED. GIVEN WITH THE SEED: THE CARDS: each row of YthpgmlijfcfddaaGreatDoorRows.lean that lists a variable, with what it lists TIED to the program's text (the seventh form; the later family's looks); each row that meets fmt, with fmt's text TOLD by the authors' own Lean function (tested against real Go, not proved from fmt's source: count such statements apart). THE CARD IS WHAT COUNTS. Prove the row's statement (the work); the ties are given (YthpgmlijfcfddaaGreatDoorTie.lean); close each card by the builder's one call (the guide's Derived/Test/ToyasCard.lean, 'card_holds'). Laid BY PROGRAM, IN A SANDBOX (cutbox-door.mjs). By AI agents, Wed Nov 11 2026. No macro, syntax, notation, axiom, sorry.
-/
import Derived.Test.YthpgmlijfcfddaaGreatDoorRows
import GoSem.ClaimSeven
namespace Go.Proofs.YthpgmlijfcfddaaGreatDoor
namespace Rows

/-- THE TIED CARD OF 'terrierlaw08.LinesNeighbour'. -/
def linesNeighbourCard : Claim7 := { stood := { row := linesNeighbourRow, standIns := [], harness := (true, "b6bdb0f9727c7c539dd1f34da5ea4860ed4e2717158c65e37e4f73c2a60ec1c6"), looks := true }, kinds := [], alts := [], laidByText := true, laidKinds := [.data, .data, .data, .data, .handle, .sentinel, .sentinel, .pinned], laidTests := true, laidLooks := .later }
def LinesNeighbourCardSaid : Prop := Claim7.holds Tryz.pinned (.plain (OpenSpec.ofChange linesNeighbourSpec)) linesNeighbourCard

/-- THE TIED CARD OF 'terrierlaw08.LinesLease'. -/
def linesLeaseCard : Claim7 := { stood := { row := linesLeaseRow, standIns := [], harness := (true, "b6bdb0f9727c7c539dd1f34da5ea4860ed4e2717158c65e37e4f73c2a60ec1c6"), looks := true }, kinds := [], alts := [], laidByText := true, laidKinds := [.data, .data, .data, .data, .handle, .sentinel, .sentinel, .pinned], laidTests := true, laidLooks := .later }
def LinesLeaseCardSaid : Prop := Claim7.holds Tryz.pinned (.plain (OpenSpec.ofChange linesLeaseSpec)) linesLeaseCard

/-- THE TIED CARD OF 'terrierlaw08.LinesTable'. -/
def linesTableCard : Claim7 := { stood := { row := linesTableRow, standIns := [], harness := (true, "b6bdb0f9727c7c539dd1f34da5ea4860ed4e2717158c65e37e4f73c2a60ec1c6"), looks := true }, kinds := [], alts := [], laidByText := true, laidKinds := [.data, .data, .data, .data, .handle, .sentinel, .sentinel, .pinned], laidTests := true, laidLooks := .later }
def LinesTableCardSaid : Prop := Claim7.holds Tryz.pinned (.plain (OpenSpec.ofChange linesTableSpec)) linesTableCard

/-- THE SECOND FORM's CARD OF 'terrierlaw08.LinesNeighbour'. -/
def linesNeighbourUptoCard : Claim7 := { stood := { row := linesNeighbourUptoRow, standIns := [], harness := (true, "b6bdb0f9727c7c539dd1f34da5ea4860ed4e2717158c65e37e4f73c2a60ec1c6"), looks := true }, kinds := [], alts := [], laidByText := true, laidKinds := [.data, .data, .data, .data, .handle, .sentinel, .sentinel, .pinned], laidTests := true, laidLooks := .later }
def LinesNeighbourUptoCardSaid : Prop := Claim7.holds Tryz.pinned (.plain (OpenSpec.upto linesNeighbourSpec)) linesNeighbourUptoCard

/-- THE SECOND FORM's CARD OF 'terrierlaw08.LinesLease'. -/
def linesLeaseUptoCard : Claim7 := { stood := { row := linesLeaseUptoRow, standIns := [], harness := (true, "b6bdb0f9727c7c539dd1f34da5ea4860ed4e2717158c65e37e4f73c2a60ec1c6"), looks := true }, kinds := [], alts := [], laidByText := true, laidKinds := [.data, .data, .data, .data, .handle, .sentinel, .sentinel, .pinned], laidTests := true, laidLooks := .later }
def LinesLeaseUptoCardSaid : Prop := Claim7.holds Tryz.pinned (.plain (OpenSpec.upto linesLeaseSpec)) linesLeaseUptoCard

/-- THE SECOND FORM's CARD OF 'terrierlaw08.LinesTable'. -/
def linesTableUptoCard : Claim7 := { stood := { row := linesTableUptoRow, standIns := [], harness := (true, "b6bdb0f9727c7c539dd1f34da5ea4860ed4e2717158c65e37e4f73c2a60ec1c6"), looks := true }, kinds := [], alts := [], laidByText := true, laidKinds := [.data, .data, .data, .data, .handle, .sentinel, .sentinel, .pinned], laidTests := true, laidLooks := .later }
def LinesTableUptoCardSaid : Prop := Claim7.holds Tryz.pinned (.plain (OpenSpec.upto linesTableSpec)) linesTableUptoCard
end Rows
end Go.Proofs.YthpgmlijfcfddaaGreatDoor
