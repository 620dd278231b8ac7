/-
  No cell of these rows narrows 'for every input' (looked for: loops, veiled, ifaces, maps, wideKeys, modest, calm, conditions, laid).
  DERIVED. THE GIVEN ROWS OF THIS SEAT. 6 by the template 'for every input the law returns true; each argument reads behind the call as it read before'; 0 by the template 'total and deterministic' (their statements: YtafmcnnbeoffdaaTotals.lean).
  GIVEN WITH THE SEED: the statements are not yours to turn. If you find one false, say at which input.
  Laid BY PROGRAM, IN A SANDBOX (cutbox-rows.mjs): the forced cells as the released guide's own fill.sh prints them over the translation 4785700ba1a9d6e9… (all of the seat's roots in one cut). By AI agents, Wed Nov 11 2026. No macro, syntax, notation, axiom, sorry.
-/
import Derived.Test.YtafmcnnbeoffdaaChecked
import GoSem.Claim
import GoSem.ClaimJoined
import GoSem.ClaimMapViews
import Derived.JoinedTies
import Derived.KernelRfl
namespace Go.Proofs.Ytafmcnnbeoffdaa
/- THE CELL 'sum', in the pinned program and in every row, IS THE sha256 OF THE DUMP (.gsa) THAT YtafmcnnbeoffdaaProg.lean LOADS. Nothing in Lean hashes anything: it is a label: what it is worth is what the hold of that sum in a sandbox is worth. -/
noncomputable def Try.pinned : Pinned := { name := "ytafmcnnbeoffdaa", sum := "4785700ba1a9d6e98d892dd8547c046e202d134d5e1353113ff26188f6de1efe", checked := Try.checked }
namespace Rows
def none {H : Type} : Left H := { results := [], args := [] }

/-- 'terrierlaw11.HeldScript': WHATEVER THE INPUT: true; the input reads as it did. -/
def heldScriptSpec : ChangeSpec := { name := "heldScript", fn := fun _ => fun
  | [d] => { results := [.lit (.bool true)], args := [d] }
  | _ => none }
def heldScriptRow : OpenClaim := { program := "ytafmcnnbeoffdaa", sum := "4785700ba1a9d6e98d892dd8547c046e202d134d5e1353113ff26188f6de1efe", func := "terrier/terrierlaw11.HeldScript", spec := "heldScript", apart := false }
def HeldScriptSaid : Prop := heldScriptRow.holds Try.pinned (OpenSpec.ofChange heldScriptSpec)

/-- ITS FALSE NEIGHBOUR: 'it returns false'. Refute it at one input. -/
def heldScriptWrong : ChangeSpec := { name := "heldScript", fn := fun _ => fun
  | [d] => { results := [.lit (.bool false)], args := [d] }
  | _ => none }
def HeldScriptWrongFalsely : Prop := heldScriptRow.holds Try.pinned (OpenSpec.ofChange heldScriptWrong)

/-- 'terrierlaw11.HeldMay': WHATEVER THE INPUT: true; the input reads as it did. -/
def heldMaySpec : ChangeSpec := { name := "heldMay", fn := fun _ => fun
  | [d1, d2] => { results := [.lit (.bool true)], args := [d1, d2] }
  | _ => none }
def heldMayRow : OpenClaim := { program := "ytafmcnnbeoffdaa", sum := "4785700ba1a9d6e98d892dd8547c046e202d134d5e1353113ff26188f6de1efe", func := "terrier/terrierlaw11.HeldMay", spec := "heldMay", apart := false }
def HeldMaySaid : Prop := heldMayRow.holds Try.pinned (OpenSpec.ofChange heldMaySpec)

/-- ITS FALSE NEIGHBOUR: 'it returns false'. Refute it at one input. -/
def heldMayWrong : ChangeSpec := { name := "heldMay", fn := fun _ => fun
  | [d1, d2] => { results := [.lit (.bool false)], args := [d1, d2] }
  | _ => none }
def HeldMayWrongFalsely : Prop := heldMayRow.holds Try.pinned (OpenSpec.ofChange heldMayWrong)

/-- 'terrierlaw11.HeldRight': WHATEVER THE INPUT: true; the input reads as it did. -/
def heldRightSpec : ChangeSpec := { name := "heldRight", fn := fun _ => fun
  | [d1, d2, d3] => { results := [.lit (.bool true)], args := [d1, d2, d3] }
  | _ => none }
def heldRightRow : OpenClaim := { program := "ytafmcnnbeoffdaa", sum := "4785700ba1a9d6e98d892dd8547c046e202d134d5e1353113ff26188f6de1efe", func := "terrier/terrierlaw11.HeldRight", spec := "heldRight", apart := false }
def HeldRightSaid : Prop := heldRightRow.holds Try.pinned (OpenSpec.ofChange heldRightSpec)

/-- ITS FALSE NEIGHBOUR: 'it returns false'. Refute it at one input. -/
def heldRightWrong : ChangeSpec := { name := "heldRight", fn := fun _ => fun
  | [d1, d2, d3] => { results := [.lit (.bool false)], args := [d1, d2, d3] }
  | _ => none }
def HeldRightWrongFalsely : Prop := heldRightRow.holds Try.pinned (OpenSpec.ofChange heldRightWrong)

/-- 'terrierlaw11.HeldNext': WHATEVER THE INPUT: true; the input reads as it did. -/
def heldNextSpec : ChangeSpec := { name := "heldNext", fn := fun _ => fun
  | [d1, d2, d3, d4] => { results := [.lit (.bool true)], args := [d1, d2, d3, d4] }
  | _ => none }
def heldNextRow : OpenClaim := { program := "ytafmcnnbeoffdaa", sum := "4785700ba1a9d6e98d892dd8547c046e202d134d5e1353113ff26188f6de1efe", func := "terrier/terrierlaw11.HeldNext", spec := "heldNext", apart := false }
def HeldNextSaid : Prop := heldNextRow.holds Try.pinned (OpenSpec.ofChange heldNextSpec)

/-- ITS FALSE NEIGHBOUR: 'it returns false'. Refute it at one input. -/
def heldNextWrong : ChangeSpec := { name := "heldNext", fn := fun _ => fun
  | [d1, d2, d3, d4] => { results := [.lit (.bool false)], args := [d1, d2, d3, d4] }
  | _ => none }
def HeldNextWrongFalsely : Prop := heldNextRow.holds Try.pinned (OpenSpec.ofChange heldNextWrong)

/-- 'terrierlaw11.HeldTurns': WHATEVER THE INPUT: true; the input reads as it did. -/
def heldTurnsSpec : ChangeSpec := { name := "heldTurns", fn := fun _ => fun
  | [d1, d2] => { results := [.lit (.bool true)], args := [d1, d2] }
  | _ => none }
def heldTurnsRow : OpenClaim := { program := "ytafmcnnbeoffdaa", sum := "4785700ba1a9d6e98d892dd8547c046e202d134d5e1353113ff26188f6de1efe", func := "terrier/terrierlaw11.HeldTurns", spec := "heldTurns", apart := false }
def HeldTurnsSaid : Prop := heldTurnsRow.holds Try.pinned (OpenSpec.ofChange heldTurnsSpec)

/-- ITS FALSE NEIGHBOUR: 'it returns false'. Refute it at one input. -/
def heldTurnsWrong : ChangeSpec := { name := "heldTurns", fn := fun _ => fun
  | [d1, d2] => { results := [.lit (.bool false)], args := [d1, d2] }
  | _ => none }
def HeldTurnsWrongFalsely : Prop := heldTurnsRow.holds Try.pinned (OpenSpec.ofChange heldTurnsWrong)

/-- 'terrierlaw11.HeldUsed': WHATEVER THE INPUT: true; the input reads as it did. -/
def heldUsedSpec : ChangeSpec := { name := "heldUsed", fn := fun _ => fun
  | [d1, d2, d3] => { results := [.lit (.bool true)], args := [d1, d2, d3] }
  | _ => none }
def heldUsedRow : OpenClaim := { program := "ytafmcnnbeoffdaa", sum := "4785700ba1a9d6e98d892dd8547c046e202d134d5e1353113ff26188f6de1efe", func := "terrier/terrierlaw11.HeldUsed", spec := "heldUsed", apart := false }
def HeldUsedSaid : Prop := heldUsedRow.holds Try.pinned (OpenSpec.ofChange heldUsedSpec)

/-- ITS FALSE NEIGHBOUR: 'it returns false'. Refute it at one input. -/
def heldUsedWrong : ChangeSpec := { name := "heldUsed", fn := fun _ => fun
  | [d1, d2, d3] => { results := [.lit (.bool false)], args := [d1, d2, d3] }
  | _ => none }
def HeldUsedWrongFalsely : Prop := heldUsedRow.holds Try.pinned (OpenSpec.ofChange heldUsedWrong)

/- THE SECOND FORM. 'bulk': how many values and letters a reading holds, each counted each time it is reached (what is shared counts as often as it is met; a slice's spare places count too). A statement '..UptoSaid' is the law's where the arguments, and the package variables that the reading takes, are together of bulk at most 1048576: NARROWER than '..Said'. Prove '..Said' where nothing that the law and all that it calls make is longer than what came in: it says more and counts as full. Else prove '..UptoSaid'. A law counts once. -/
mutual
def uptoBulk {H : Type} : DataW H → Nat
  | .lit (.string bytes) => bytes.length + 1
  | .lit _ => 1
  | .nil => 1
  | .ptr d => uptoBulk d + 1
  | .slice elems spare => uptoBulkAll elems + uptoBulkAll spare + 1
  | .agg parts => uptoBulkAll parts + 1
  | .iface _ d => uptoBulk d + 1
  | .map entries => uptoBulkEntries entries + 1
  | .held _ => 1
def uptoBulkAll {H : Type} : List (DataW H) → Nat
  | [] => 0
  | d :: r => uptoBulk d + uptoBulkAll r
def uptoBulkEntries {H : Type} : List (Lit × DataW H) → Nat
  | [] => 0
  | x :: r => uptoBulkEntry x + uptoBulkEntries r
def uptoBulkEntry {H : Type} : Lit × DataW H → Nat
  | (.string bytes, d) => bytes.length + uptoBulk d + 1
  | (_, d) => uptoBulk d + 1
 end
def uptoSmall : (H : Type) → List (DataW H) → Bool := fun _ ds => decide (uptoBulkAll ds ≤ 1048576)
def OpenSpec.upto (s : _root_.Go.ChangeSpec) : _root_.Go.OpenSpec := { _root_.Go.OpenSpec.ofChange s with cond := some uptoSmall }

/-- 'terrierlaw11.HeldScript', WHERE WHAT IT READS IS OF BULK AT MOST 1048576: true; the input reads as it did. -/
def heldScriptUptoRow : OpenClaim := { program := "ytafmcnnbeoffdaa", sum := "4785700ba1a9d6e98d892dd8547c046e202d134d5e1353113ff26188f6de1efe", func := "terrier/terrierlaw11.HeldScript", spec := "heldScript", apart := false, narrowed := true }
def HeldScriptUptoSaid : Prop := heldScriptUptoRow.holds Try.pinned (OpenSpec.upto heldScriptSpec)

/-- 'terrierlaw11.HeldMay', WHERE WHAT IT READS IS OF BULK AT MOST 1048576: true; the input reads as it did. -/
def heldMayUptoRow : OpenClaim := { program := "ytafmcnnbeoffdaa", sum := "4785700ba1a9d6e98d892dd8547c046e202d134d5e1353113ff26188f6de1efe", func := "terrier/terrierlaw11.HeldMay", spec := "heldMay", apart := false, narrowed := true }
def HeldMayUptoSaid : Prop := heldMayUptoRow.holds Try.pinned (OpenSpec.upto heldMaySpec)

/-- 'terrierlaw11.HeldRight', WHERE WHAT IT READS IS OF BULK AT MOST 1048576: true; the input reads as it did. -/
def heldRightUptoRow : OpenClaim := { program := "ytafmcnnbeoffdaa", sum := "4785700ba1a9d6e98d892dd8547c046e202d134d5e1353113ff26188f6de1efe", func := "terrier/terrierlaw11.HeldRight", spec := "heldRight", apart := false, narrowed := true }
def HeldRightUptoSaid : Prop := heldRightUptoRow.holds Try.pinned (OpenSpec.upto heldRightSpec)

/-- 'terrierlaw11.HeldNext', WHERE WHAT IT READS IS OF BULK AT MOST 1048576: true; the input reads as it did. -/
def heldNextUptoRow : OpenClaim := { program := "ytafmcnnbeoffdaa", sum := "4785700ba1a9d6e98d892dd8547c046e202d134d5e1353113ff26188f6de1efe", func := "terrier/terrierlaw11.HeldNext", spec := "heldNext", apart := false, narrowed := true }
def HeldNextUptoSaid : Prop := heldNextUptoRow.holds Try.pinned (OpenSpec.upto heldNextSpec)

/-- 'terrierlaw11.HeldTurns', WHERE WHAT IT READS IS OF BULK AT MOST 1048576: true; the input reads as it did. -/
def heldTurnsUptoRow : OpenClaim := { program := "ytafmcnnbeoffdaa", sum := "4785700ba1a9d6e98d892dd8547c046e202d134d5e1353113ff26188f6de1efe", func := "terrier/terrierlaw11.HeldTurns", spec := "heldTurns", apart := false, narrowed := true }
def HeldTurnsUptoSaid : Prop := heldTurnsUptoRow.holds Try.pinned (OpenSpec.upto heldTurnsSpec)

/-- 'terrierlaw11.HeldUsed', WHERE WHAT IT READS IS OF BULK AT MOST 1048576: true; the input reads as it did. -/
def heldUsedUptoRow : OpenClaim := { program := "ytafmcnnbeoffdaa", sum := "4785700ba1a9d6e98d892dd8547c046e202d134d5e1353113ff26188f6de1efe", func := "terrier/terrierlaw11.HeldUsed", spec := "heldUsed", apart := false, narrowed := true }
def HeldUsedUptoSaid : Prop := heldUsedUptoRow.holds Try.pinned (OpenSpec.upto heldUsedSpec)

end Rows
end Go.Proofs.Ytafmcnnbeoffdaa
