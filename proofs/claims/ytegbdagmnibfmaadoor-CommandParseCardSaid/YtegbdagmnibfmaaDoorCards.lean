/-
  DERIVED. GIVEN WITH THE SEED: THE CARDS: each row of YtegbdagmnibfmaaDoorRows.lean that lists a variable, with what it lists TIED to the program's text (the seventh form; the later family's looks); each row that meets fmt, with fmt's text TOLD by the authors' own Lean function (tested against real Go, not proved from fmt's source: count such statements apart). THE CARD IS WHAT COUNTS. Prove the row's statement (the work); the ties are given (YtegbdagmnibfmaaDoorTie.lean); close each card by the builder's one call (the guide's Derived/Test/ToyasCard.lean, 'card_holds'). Laid BY PROGRAM, IN A SANDBOX (cutbox-door.mjs). By AI agents, Wed Nov 11 2026. No macro, syntax, notation, axiom, sorry.
-/
import Derived.Test.YtegbdagmnibfmaaDoorRows
import GoSem.ClaimSeven
namespace Go.Proofs.YtegbdagmnibfmaaDoor
namespace Rows

/-- THE TIED CARD OF 'terrierlaw17.CommandParse'. -/
def commandParseCard : Claim7 := { stood := { row := commandParseRow, standIns := [], harness := (true, "a65db20372070b788c5a24ffa38839ff6b183bfae2c832a360ef692bce8b3029"), looks := true }, kinds := [], alts := [], laidByText := true, laidKinds := [.data, .data, .data, .data, .handle, .pinned], laidTests := true, laidLooks := .later }
def CommandParseCardSaid : Prop := Claim7.holds Tryd.pinned (.plain (OpenSpec.ofChange commandParseSpec)) commandParseCard

/-- THE TIED CARD OF 'terrierlaw17.CommandLong'. -/
def commandLongCard : Claim7 := { stood := { row := commandLongRow, standIns := [], harness := (true, "a65db20372070b788c5a24ffa38839ff6b183bfae2c832a360ef692bce8b3029"), looks := true }, kinds := [], alts := [], laidByText := true, laidKinds := [.data, .data, .data, .data, .handle, .pinned], laidTests := true, laidLooks := .later }
def CommandLongCardSaid : Prop := Claim7.holds Tryd.pinned (.plain (OpenSpec.ofChange commandLongSpec)) commandLongCard

/-- THE TIED CARD OF 'terrierlaw17.CommandWhere'. -/
def commandWhereCard : Claim7 := { stood := { row := commandWhereRow, standIns := [], harness := (true, "a65db20372070b788c5a24ffa38839ff6b183bfae2c832a360ef692bce8b3029"), looks := true }, kinds := [], alts := [], laidByText := true, laidKinds := [.data, .data, .data, .data, .handle, .pinned], laidTests := true, laidLooks := .later }
def CommandWhereCardSaid : Prop := Claim7.holds Tryd.pinned (.plain (OpenSpec.ofChange commandWhereSpec)) commandWhereCard

/-- THE TIED CARD OF 'terrierlaw17.CommandApart'. -/
def commandApartCard : Claim7 := { stood := { row := commandApartRow, standIns := [], harness := (true, "a65db20372070b788c5a24ffa38839ff6b183bfae2c832a360ef692bce8b3029"), looks := true }, kinds := [], alts := [], laidByText := true, laidKinds := [.data, .data, .data, .data, .handle, .pinned], laidTests := true, laidLooks := .later }
def CommandApartCardSaid : Prop := Claim7.holds Tryd.pinned (.plain (OpenSpec.ofChange commandApartSpec)) commandApartCard

/-- THE SECOND FORM's CARD OF 'terrierlaw17.CommandParse'. -/
def commandParseUptoCard : Claim7 := { stood := { row := commandParseUptoRow, standIns := [], harness := (true, "a65db20372070b788c5a24ffa38839ff6b183bfae2c832a360ef692bce8b3029"), looks := true }, kinds := [], alts := [], laidByText := true, laidKinds := [.data, .data, .data, .data, .handle, .pinned], laidTests := true, laidLooks := .later }
def CommandParseUptoCardSaid : Prop := Claim7.holds Tryd.pinned (.plain (OpenSpec.upto commandParseSpec)) commandParseUptoCard

/-- THE SECOND FORM's CARD OF 'terrierlaw17.CommandLong'. -/
def commandLongUptoCard : Claim7 := { stood := { row := commandLongUptoRow, standIns := [], harness := (true, "a65db20372070b788c5a24ffa38839ff6b183bfae2c832a360ef692bce8b3029"), looks := true }, kinds := [], alts := [], laidByText := true, laidKinds := [.data, .data, .data, .data, .handle, .pinned], laidTests := true, laidLooks := .later }
def CommandLongUptoCardSaid : Prop := Claim7.holds Tryd.pinned (.plain (OpenSpec.upto commandLongSpec)) commandLongUptoCard

/-- THE SECOND FORM's CARD OF 'terrierlaw17.CommandWhere'. -/
def commandWhereUptoCard : Claim7 := { stood := { row := commandWhereUptoRow, standIns := [], harness := (true, "a65db20372070b788c5a24ffa38839ff6b183bfae2c832a360ef692bce8b3029"), looks := true }, kinds := [], alts := [], laidByText := true, laidKinds := [.data, .data, .data, .data, .handle, .pinned], laidTests := true, laidLooks := .later }
def CommandWhereUptoCardSaid : Prop := Claim7.holds Tryd.pinned (.plain (OpenSpec.upto commandWhereSpec)) commandWhereUptoCard

/-- THE SECOND FORM's CARD OF 'terrierlaw17.CommandApart'. -/
def commandApartUptoCard : Claim7 := { stood := { row := commandApartUptoRow, standIns := [], harness := (true, "a65db20372070b788c5a24ffa38839ff6b183bfae2c832a360ef692bce8b3029"), looks := true }, kinds := [], alts := [], laidByText := true, laidKinds := [.data, .data, .data, .data, .handle, .pinned], laidTests := true, laidLooks := .later }
def CommandApartUptoCardSaid : Prop := Claim7.holds Tryd.pinned (.plain (OpenSpec.upto commandApartSpec)) commandApartUptoCard
end Rows
end Go.Proofs.YtegbdagmnibfmaaDoor
