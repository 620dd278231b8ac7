/-
  DERIVED. GIVEN WITH THE SEED: THE CARDS: each row of YthpgmlijfcfddaaDoorRows.lean that lists a variable, with what it lists TIED to the program's text (the seventh form; the later family's looks); each row that meets fmt, with fmt's text TOLD by the authors' own Lean function (tested against real Go, not proved from fmt's source: count such statements apart). THE CARD IS WHAT COUNTS. Prove the row's statement (the work); the ties are given (YthpgmlijfcfddaaDoorTie.lean); close each card by the builder's one call (the guide's Derived/Test/ToyasCard.lean, 'card_holds'). Laid BY PROGRAM, IN A SANDBOX (cutbox-door.mjs). By AI agents, Wed Nov 11 2026. No macro, syntax, notation, axiom, sorry.
-/
import Derived.Test.YthpgmlijfcfddaaDoorRows
import GoSem.ClaimSeven
namespace Go.Proofs.YthpgmlijfcfddaaDoor
namespace Rows

/-- THE TIED CARD OF 'terrierlaw08.LinesWrap'. -/
def linesWrapCard : Claim7 := { stood := { row := linesWrapRow, standIns := [], harness := (true, "c82c258c02a54d5ad7503df11f56d3c6434d512a719539304fb06fd96520f1ca"), looks := true }, kinds := [], alts := [], laidByText := true, laidKinds := [.data, .data, .data, .data, .handle, .sentinel, .sentinel, .pinned], laidTests := true, laidLooks := .later }
def LinesWrapCardSaid : Prop := Claim7.holds Tryd.pinned (.plain (OpenSpec.ofChange linesWrapSpec)) linesWrapCard

/-- THE TIED CARD OF 'terrierlaw08.LinesStation'. -/
def linesStationCard : Claim7 := { stood := { row := linesStationRow, standIns := [], harness := (true, "c82c258c02a54d5ad7503df11f56d3c6434d512a719539304fb06fd96520f1ca"), looks := true }, kinds := [], alts := [], laidByText := true, laidKinds := [.data, .data, .data, .data, .handle, .sentinel, .sentinel, .pinned], laidTests := true, laidLooks := .later }
def LinesStationCardSaid : Prop := Claim7.holds Tryd.pinned (.plain (OpenSpec.ofChange linesStationSpec)) linesStationCard

/-- THE SECOND FORM's CARD OF 'terrierlaw08.LinesWrap'. -/
def linesWrapUptoCard : Claim7 := { stood := { row := linesWrapUptoRow, standIns := [], harness := (true, "c82c258c02a54d5ad7503df11f56d3c6434d512a719539304fb06fd96520f1ca"), looks := true }, kinds := [], alts := [], laidByText := true, laidKinds := [.data, .data, .data, .data, .handle, .sentinel, .sentinel, .pinned], laidTests := true, laidLooks := .later }
def LinesWrapUptoCardSaid : Prop := Claim7.holds Tryd.pinned (.plain (OpenSpec.upto linesWrapSpec)) linesWrapUptoCard

/-- THE SECOND FORM's CARD OF 'terrierlaw08.LinesStation'. -/
def linesStationUptoCard : Claim7 := { stood := { row := linesStationUptoRow, standIns := [], harness := (true, "c82c258c02a54d5ad7503df11f56d3c6434d512a719539304fb06fd96520f1ca"), looks := true }, kinds := [], alts := [], laidByText := true, laidKinds := [.data, .data, .data, .data, .handle, .sentinel, .sentinel, .pinned], laidTests := true, laidLooks := .later }
def LinesStationUptoCardSaid : Prop := Claim7.holds Tryd.pinned (.plain (OpenSpec.upto linesStationSpec)) linesStationUptoCard
end Rows
end Go.Proofs.YthpgmlijfcfddaaDoor
