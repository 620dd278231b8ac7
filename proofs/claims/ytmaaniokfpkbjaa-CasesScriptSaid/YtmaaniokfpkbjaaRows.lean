/-
  No cell of these rows narrows 'for every input' (looked for: loops, veiled, ifaces, maps, wideKeys, modest, calm, conditions, laid).
  DERIVED. THE GIVEN ROWS OF THIS SEAT. 7 by the template 'for every input the law returns true; each argument reads behind the call as it read before'; 0 by the template 'total and deterministic' (their statements: YtmaaniokfpkbjaaTotals.lean).
  GIVEN WITH THE SEED: the statements are not yours to turn. If you find one false, say at which input.
  Laid BY PROGRAM, IN A SANDBOX (cutbox-rows.mjs): the forced cells as the released guide's own fill.sh prints them over the translation 214504fcde68c54b… (all of the seat's roots in one cut). By AI agents, Wed Nov 11 2026. No macro, syntax, notation, axiom, sorry.
-/
import Derived.Test.YtmaaniokfpkbjaaChecked
import GoSem.Claim
import GoSem.ClaimJoined
import GoSem.ClaimMapViews
import Derived.JoinedTies
import Derived.KernelRfl
namespace Go.Proofs.Ytmaaniokfpkbjaa
/- THE CELL 'sum', in the pinned program and in every row, IS THE sha256 OF THE DUMP (.gsa) THAT YtmaaniokfpkbjaaProg.lean LOADS. Nothing in Lean hashes anything: it is a label: what it is worth is what the hold of that sum in a sandbox is worth. -/
noncomputable def Try.pinned : Pinned := { name := "ytmaaniokfpkbjaa", sum := "214504fcde68c54b8292827d6744fefc8561c79b3c0e9d54a4a2fa1c1d6a0a21", checked := Try.checked }
namespace Rows
def none {H : Type} : Left H := { results := [], args := [] }

/-- 'terrierlaw16.CasesScript': WHATEVER THE INPUT: true; the input reads as it did. -/
def casesScriptSpec : ChangeSpec := { name := "casesScript", fn := fun _ => fun
  | [d1, d2] => { results := [.lit (.bool true)], args := [d1, d2] }
  | _ => none }
def casesScriptRow : OpenClaim := { program := "ytmaaniokfpkbjaa", sum := "214504fcde68c54b8292827d6744fefc8561c79b3c0e9d54a4a2fa1c1d6a0a21", func := "terrier/terrierlaw16.CasesScript", spec := "casesScript", apart := false }
def CasesScriptSaid : Prop := casesScriptRow.holds Try.pinned (OpenSpec.ofChange casesScriptSpec)

/-- ITS FALSE NEIGHBOUR: 'it returns false'. Refute it at one input. -/
def casesScriptWrong : ChangeSpec := { name := "casesScript", fn := fun _ => fun
  | [d1, d2] => { results := [.lit (.bool false)], args := [d1, d2] }
  | _ => none }
def CasesScriptWrongFalsely : Prop := casesScriptRow.holds Try.pinned (OpenSpec.ofChange casesScriptWrong)

/-- 'terrierlaw16.CasesRight': WHATEVER THE INPUT: true; the input reads as it did. -/
def casesRightSpec : ChangeSpec := { name := "casesRight", fn := fun _ => fun
  | [d1, d2, d3, d4, d5] => { results := [.lit (.bool true)], args := [d1, d2, d3, d4, d5] }
  | _ => none }
def casesRightRow : OpenClaim := { program := "ytmaaniokfpkbjaa", sum := "214504fcde68c54b8292827d6744fefc8561c79b3c0e9d54a4a2fa1c1d6a0a21", func := "terrier/terrierlaw16.CasesRight", spec := "casesRight", apart := false }
def CasesRightSaid : Prop := casesRightRow.holds Try.pinned (OpenSpec.ofChange casesRightSpec)

/-- ITS FALSE NEIGHBOUR: 'it returns false'. Refute it at one input. -/
def casesRightWrong : ChangeSpec := { name := "casesRight", fn := fun _ => fun
  | [d1, d2, d3, d4, d5] => { results := [.lit (.bool false)], args := [d1, d2, d3, d4, d5] }
  | _ => none }
def CasesRightWrongFalsely : Prop := casesRightRow.holds Try.pinned (OpenSpec.ofChange casesRightWrong)

/-- 'terrierlaw16.CasesFind': WHATEVER THE INPUT: true; the input reads as it did. -/
def casesFindSpec : ChangeSpec := { name := "casesFind", fn := fun _ => fun
  | [d1, d2, d3] => { results := [.lit (.bool true)], args := [d1, d2, d3] }
  | _ => none }
def casesFindRow : OpenClaim := { program := "ytmaaniokfpkbjaa", sum := "214504fcde68c54b8292827d6744fefc8561c79b3c0e9d54a4a2fa1c1d6a0a21", func := "terrier/terrierlaw16.CasesFind", spec := "casesFind", apart := false }
def CasesFindSaid : Prop := casesFindRow.holds Try.pinned (OpenSpec.ofChange casesFindSpec)

/-- ITS FALSE NEIGHBOUR: 'it returns false'. Refute it at one input. -/
def casesFindWrong : ChangeSpec := { name := "casesFind", fn := fun _ => fun
  | [d1, d2, d3] => { results := [.lit (.bool false)], args := [d1, d2, d3] }
  | _ => none }
def CasesFindWrongFalsely : Prop := casesFindRow.holds Try.pinned (OpenSpec.ofChange casesFindWrong)

/-- 'terrierlaw16.CasesEnds': WHATEVER THE INPUT: true; the input reads as it did. -/
def casesEndsSpec : ChangeSpec := { name := "casesEnds", fn := fun _ => fun
  | [d1, d2] => { results := [.lit (.bool true)], args := [d1, d2] }
  | _ => none }
def casesEndsRow : OpenClaim := { program := "ytmaaniokfpkbjaa", sum := "214504fcde68c54b8292827d6744fefc8561c79b3c0e9d54a4a2fa1c1d6a0a21", func := "terrier/terrierlaw16.CasesEnds", spec := "casesEnds", apart := false }
def CasesEndsSaid : Prop := casesEndsRow.holds Try.pinned (OpenSpec.ofChange casesEndsSpec)

/-- ITS FALSE NEIGHBOUR: 'it returns false'. Refute it at one input. -/
def casesEndsWrong : ChangeSpec := { name := "casesEnds", fn := fun _ => fun
  | [d1, d2] => { results := [.lit (.bool false)], args := [d1, d2] }
  | _ => none }
def CasesEndsWrongFalsely : Prop := casesEndsRow.holds Try.pinned (OpenSpec.ofChange casesEndsWrong)

/-- 'terrierlaw16.CasesQuiet': WHATEVER THE INPUT: true; the input reads as it did. -/
def casesQuietSpec : ChangeSpec := { name := "casesQuiet", fn := fun _ => fun
  | [d1, d2, d3, d4] => { results := [.lit (.bool true)], args := [d1, d2, d3, d4] }
  | _ => none }
def casesQuietRow : OpenClaim := { program := "ytmaaniokfpkbjaa", sum := "214504fcde68c54b8292827d6744fefc8561c79b3c0e9d54a4a2fa1c1d6a0a21", func := "terrier/terrierlaw16.CasesQuiet", spec := "casesQuiet", apart := false }
def CasesQuietSaid : Prop := casesQuietRow.holds Try.pinned (OpenSpec.ofChange casesQuietSpec)

/-- ITS FALSE NEIGHBOUR: 'it returns false'. Refute it at one input. -/
def casesQuietWrong : ChangeSpec := { name := "casesQuiet", fn := fun _ => fun
  | [d1, d2, d3, d4] => { results := [.lit (.bool false)], args := [d1, d2, d3, d4] }
  | _ => none }
def CasesQuietWrongFalsely : Prop := casesQuietRow.holds Try.pinned (OpenSpec.ofChange casesQuietWrong)

/-- 'terrierlaw16.CasesApproved': WHATEVER THE INPUT: true; the input reads as it did. -/
def casesApprovedSpec : ChangeSpec := { name := "casesApproved", fn := fun _ => fun
  | [d1, d2, d3] => { results := [.lit (.bool true)], args := [d1, d2, d3] }
  | _ => none }
def casesApprovedRow : OpenClaim := { program := "ytmaaniokfpkbjaa", sum := "214504fcde68c54b8292827d6744fefc8561c79b3c0e9d54a4a2fa1c1d6a0a21", func := "terrier/terrierlaw16.CasesApproved", spec := "casesApproved", apart := false }
def CasesApprovedSaid : Prop := casesApprovedRow.holds Try.pinned (OpenSpec.ofChange casesApprovedSpec)

/-- ITS FALSE NEIGHBOUR: 'it returns false'. Refute it at one input. -/
def casesApprovedWrong : ChangeSpec := { name := "casesApproved", fn := fun _ => fun
  | [d1, d2, d3] => { results := [.lit (.bool false)], args := [d1, d2, d3] }
  | _ => none }
def CasesApprovedWrongFalsely : Prop := casesApprovedRow.holds Try.pinned (OpenSpec.ofChange casesApprovedWrong)

/-- 'terrierlaw16.CasesOver': WHATEVER THE INPUT: true; the input reads as it did. -/
def casesOverSpec : ChangeSpec := { name := "casesOver", fn := fun _ => fun
  | [d1, d2, d3] => { results := [.lit (.bool true)], args := [d1, d2, d3] }
  | _ => none }
def casesOverRow : OpenClaim := { program := "ytmaaniokfpkbjaa", sum := "214504fcde68c54b8292827d6744fefc8561c79b3c0e9d54a4a2fa1c1d6a0a21", func := "terrier/terrierlaw16.CasesOver", spec := "casesOver", apart := false }
def CasesOverSaid : Prop := casesOverRow.holds Try.pinned (OpenSpec.ofChange casesOverSpec)

/-- ITS FALSE NEIGHBOUR: 'it returns false'. Refute it at one input. -/
def casesOverWrong : ChangeSpec := { name := "casesOver", fn := fun _ => fun
  | [d1, d2, d3] => { results := [.lit (.bool false)], args := [d1, d2, d3] }
  | _ => none }
def CasesOverWrongFalsely : Prop := casesOverRow.holds Try.pinned (OpenSpec.ofChange casesOverWrong)

/- THE SECOND FORM. 'bulk': how many values and letters a reading holds, each counted each time it is reached (what is shared counts as often as it is met; a slice's spare places count too). A statement '..UptoSaid' is the law's where the arguments, and the package variables that the reading takes, are together of bulk at most 1048576: NARROWER than '..Said'. Prove '..Said' where nothing that the law and all that it calls make is longer than what came in: it says more and counts as full. Else prove '..UptoSaid'. A law counts once. -/
mutual
def uptoBulk {H : Type} : DataW H → Nat
  | .lit (.string bytes) => bytes.length + 1
  | .lit _ => 1
  | .nil => 1
  | .ptr d => uptoBulk d + 1
  | .slice elems spare => uptoBulkAll elems + uptoBulkAll spare + 1
  | .agg parts => uptoBulkAll parts + 1
  | .iface _ d => uptoBulk d + 1
  | .map entries => uptoBulkEntries entries + 1
  | .held _ => 1
def uptoBulkAll {H : Type} : List (DataW H) → Nat
  | [] => 0
  | d :: r => uptoBulk d + uptoBulkAll r
def uptoBulkEntries {H : Type} : List (Lit × DataW H) → Nat
  | [] => 0
  | x :: r => uptoBulkEntry x + uptoBulkEntries r
def uptoBulkEntry {H : Type} : Lit × DataW H → Nat
  | (.string bytes, d) => bytes.length + uptoBulk d + 1
  | (_, d) => uptoBulk d + 1
 end
def uptoSmall : (H : Type) → List (DataW H) → Bool := fun _ ds => decide (uptoBulkAll ds ≤ 1048576)
def OpenSpec.upto (s : _root_.Go.ChangeSpec) : _root_.Go.OpenSpec := { _root_.Go.OpenSpec.ofChange s with cond := some uptoSmall }

/-- 'terrierlaw16.CasesScript', WHERE WHAT IT READS IS OF BULK AT MOST 1048576: true; the input reads as it did. -/
def casesScriptUptoRow : OpenClaim := { program := "ytmaaniokfpkbjaa", sum := "214504fcde68c54b8292827d6744fefc8561c79b3c0e9d54a4a2fa1c1d6a0a21", func := "terrier/terrierlaw16.CasesScript", spec := "casesScript", apart := false, narrowed := true }
def CasesScriptUptoSaid : Prop := casesScriptUptoRow.holds Try.pinned (OpenSpec.upto casesScriptSpec)

/-- 'terrierlaw16.CasesRight', WHERE WHAT IT READS IS OF BULK AT MOST 1048576: true; the input reads as it did. -/
def casesRightUptoRow : OpenClaim := { program := "ytmaaniokfpkbjaa", sum := "214504fcde68c54b8292827d6744fefc8561c79b3c0e9d54a4a2fa1c1d6a0a21", func := "terrier/terrierlaw16.CasesRight", spec := "casesRight", apart := false, narrowed := true }
def CasesRightUptoSaid : Prop := casesRightUptoRow.holds Try.pinned (OpenSpec.upto casesRightSpec)

/-- 'terrierlaw16.CasesFind', WHERE WHAT IT READS IS OF BULK AT MOST 1048576: true; the input reads as it did. -/
def casesFindUptoRow : OpenClaim := { program := "ytmaaniokfpkbjaa", sum := "214504fcde68c54b8292827d6744fefc8561c79b3c0e9d54a4a2fa1c1d6a0a21", func := "terrier/terrierlaw16.CasesFind", spec := "casesFind", apart := false, narrowed := true }
def CasesFindUptoSaid : Prop := casesFindUptoRow.holds Try.pinned (OpenSpec.upto casesFindSpec)

/-- 'terrierlaw16.CasesEnds', WHERE WHAT IT READS IS OF BULK AT MOST 1048576: true; the input reads as it did. -/
def casesEndsUptoRow : OpenClaim := { program := "ytmaaniokfpkbjaa", sum := "214504fcde68c54b8292827d6744fefc8561c79b3c0e9d54a4a2fa1c1d6a0a21", func := "terrier/terrierlaw16.CasesEnds", spec := "casesEnds", apart := false, narrowed := true }
def CasesEndsUptoSaid : Prop := casesEndsUptoRow.holds Try.pinned (OpenSpec.upto casesEndsSpec)

/-- 'terrierlaw16.CasesQuiet', WHERE WHAT IT READS IS OF BULK AT MOST 1048576: true; the input reads as it did. -/
def casesQuietUptoRow : OpenClaim := { program := "ytmaaniokfpkbjaa", sum := "214504fcde68c54b8292827d6744fefc8561c79b3c0e9d54a4a2fa1c1d6a0a21", func := "terrier/terrierlaw16.CasesQuiet", spec := "casesQuiet", apart := false, narrowed := true }
def CasesQuietUptoSaid : Prop := casesQuietUptoRow.holds Try.pinned (OpenSpec.upto casesQuietSpec)

/-- 'terrierlaw16.CasesApproved', WHERE WHAT IT READS IS OF BULK AT MOST 1048576: true; the input reads as it did. -/
def casesApprovedUptoRow : OpenClaim := { program := "ytmaaniokfpkbjaa", sum := "214504fcde68c54b8292827d6744fefc8561c79b3c0e9d54a4a2fa1c1d6a0a21", func := "terrier/terrierlaw16.CasesApproved", spec := "casesApproved", apart := false, narrowed := true }
def CasesApprovedUptoSaid : Prop := casesApprovedUptoRow.holds Try.pinned (OpenSpec.upto casesApprovedSpec)

/-- 'terrierlaw16.CasesOver', WHERE WHAT IT READS IS OF BULK AT MOST 1048576: true; the input reads as it did. -/
def casesOverUptoRow : OpenClaim := { program := "ytmaaniokfpkbjaa", sum := "214504fcde68c54b8292827d6744fefc8561c79b3c0e9d54a4a2fa1c1d6a0a21", func := "terrier/terrierlaw16.CasesOver", spec := "casesOver", apart := false, narrowed := true }
def CasesOverUptoSaid : Prop := casesOverUptoRow.holds Try.pinned (OpenSpec.upto casesOverSpec)

end Rows
end Go.Proofs.Ytmaaniokfpkbjaa
