/-
  No cell of these rows narrows 'for every input' (looked for: loops, veiled, ifaces, maps, wideKeys, modest, calm, conditions, laid).
  DERIVED. THE GIVEN ROWS OF THIS SEAT. 6 by the template 'for every input the law returns true; each argument reads behind the call as it read before'; 0 by the template 'total and deterministic' (their statements: YtpiieagdgickgaaTotals.lean).
  GIVEN WITH THE SEED: the statements are not yours to turn. If you find one false, say at which input.
  Laid BY PROGRAM, IN A SANDBOX (cutbox-rows.mjs): the forced cells as the released guide's own fill.sh prints them over the translation 77eceb1480b5b81e… (all of the seat's roots in one cut). By AI agents, Wed Nov 11 2026. No macro, syntax, notation, axiom, sorry.
-/
import Derived.Test.YtpiieagdgickgaaChecked
import GoSem.Claim
import GoSem.ClaimJoined
import GoSem.ClaimMapViews
import Derived.JoinedTies
import Derived.KernelRfl
namespace Go.Proofs.Ytpiieagdgickgaa
/- THE CELL 'sum', in the pinned program and in every row, IS THE sha256 OF THE DUMP (.gsa) THAT YtpiieagdgickgaaProg.lean LOADS. Nothing in Lean hashes anything: it is a label: what it is worth is what the hold of that sum in a sandbox is worth. -/
noncomputable def Try.pinned : Pinned := { name := "ytpiieagdgickgaa", sum := "77eceb1480b5b81e22abc2db6177b1351398883f46b82295d3703a78d64d40ef", checked := Try.checked }
namespace Rows
def none {H : Type} : Left H := { results := [], args := [] }

/-- 'terrierlaw13.StatusOf': WHATEVER THE INPUT: true; the input reads as it did. -/
def statusOfSpec : ChangeSpec := { name := "statusOf", fn := fun _ => fun
  | [d1, d2, d3, d4, d5] => { results := [.lit (.bool true)], args := [d1, d2, d3, d4, d5] }
  | _ => none }
def statusOfRow : OpenClaim := { program := "ytpiieagdgickgaa", sum := "77eceb1480b5b81e22abc2db6177b1351398883f46b82295d3703a78d64d40ef", func := "terrier/terrierlaw13.StatusOf", spec := "statusOf", apart := false }
def StatusOfSaid : Prop := statusOfRow.holds Try.pinned (OpenSpec.ofChange statusOfSpec)

/-- ITS FALSE NEIGHBOUR: 'it returns false'. Refute it at one input. -/
def statusOfWrong : ChangeSpec := { name := "statusOf", fn := fun _ => fun
  | [d1, d2, d3, d4, d5] => { results := [.lit (.bool false)], args := [d1, d2, d3, d4, d5] }
  | _ => none }
def StatusOfWrongFalsely : Prop := statusOfRow.holds Try.pinned (OpenSpec.ofChange statusOfWrong)

/-- 'terrierlaw13.StatusAny': WHATEVER THE INPUT: true; the input reads as it did. -/
def statusAnySpec : ChangeSpec := { name := "statusAny", fn := fun _ => fun
  | [d1, d2, d3, d4, d5] => { results := [.lit (.bool true)], args := [d1, d2, d3, d4, d5] }
  | _ => none }
def statusAnyRow : OpenClaim := { program := "ytpiieagdgickgaa", sum := "77eceb1480b5b81e22abc2db6177b1351398883f46b82295d3703a78d64d40ef", func := "terrier/terrierlaw13.StatusAny", spec := "statusAny", apart := false }
def StatusAnySaid : Prop := statusAnyRow.holds Try.pinned (OpenSpec.ofChange statusAnySpec)

/-- ITS FALSE NEIGHBOUR: 'it returns false'. Refute it at one input. -/
def statusAnyWrong : ChangeSpec := { name := "statusAny", fn := fun _ => fun
  | [d1, d2, d3, d4, d5] => { results := [.lit (.bool false)], args := [d1, d2, d3, d4, d5] }
  | _ => none }
def StatusAnyWrongFalsely : Prop := statusAnyRow.holds Try.pinned (OpenSpec.ofChange statusAnyWrong)

/-- 'terrierlaw13.StatusEvict': WHATEVER THE INPUT: true; the input reads as it did. -/
def statusEvictSpec : ChangeSpec := { name := "statusEvict", fn := fun _ => fun
  | [d1, d2, d3, d4, d5] => { results := [.lit (.bool true)], args := [d1, d2, d3, d4, d5] }
  | _ => none }
def statusEvictRow : OpenClaim := { program := "ytpiieagdgickgaa", sum := "77eceb1480b5b81e22abc2db6177b1351398883f46b82295d3703a78d64d40ef", func := "terrier/terrierlaw13.StatusEvict", spec := "statusEvict", apart := false }
def StatusEvictSaid : Prop := statusEvictRow.holds Try.pinned (OpenSpec.ofChange statusEvictSpec)

/-- ITS FALSE NEIGHBOUR: 'it returns false'. Refute it at one input. -/
def statusEvictWrong : ChangeSpec := { name := "statusEvict", fn := fun _ => fun
  | [d1, d2, d3, d4, d5] => { results := [.lit (.bool false)], args := [d1, d2, d3, d4, d5] }
  | _ => none }
def StatusEvictWrongFalsely : Prop := statusEvictRow.holds Try.pinned (OpenSpec.ofChange statusEvictWrong)

/-- 'terrierlaw13.StatusOld': WHATEVER THE INPUT: true; the input reads as it did. -/
def statusOldSpec : ChangeSpec := { name := "statusOld", fn := fun _ => fun
  | [d1, d2, d3, d4] => { results := [.lit (.bool true)], args := [d1, d2, d3, d4] }
  | _ => none }
def statusOldRow : OpenClaim := { program := "ytpiieagdgickgaa", sum := "77eceb1480b5b81e22abc2db6177b1351398883f46b82295d3703a78d64d40ef", func := "terrier/terrierlaw13.StatusOld", spec := "statusOld", apart := false }
def StatusOldSaid : Prop := statusOldRow.holds Try.pinned (OpenSpec.ofChange statusOldSpec)

/-- ITS FALSE NEIGHBOUR: 'it returns false'. Refute it at one input. -/
def statusOldWrong : ChangeSpec := { name := "statusOld", fn := fun _ => fun
  | [d1, d2, d3, d4] => { results := [.lit (.bool false)], args := [d1, d2, d3, d4] }
  | _ => none }
def StatusOldWrongFalsely : Prop := statusOldRow.holds Try.pinned (OpenSpec.ofChange statusOldWrong)

/-- 'terrierlaw13.StatusActive': WHATEVER THE INPUT: true; the input reads as it did. -/
def statusActiveSpec : ChangeSpec := { name := "statusActive", fn := fun _ => fun
  | [d1, d2, d3, d4] => { results := [.lit (.bool true)], args := [d1, d2, d3, d4] }
  | _ => none }
def statusActiveRow : OpenClaim := { program := "ytpiieagdgickgaa", sum := "77eceb1480b5b81e22abc2db6177b1351398883f46b82295d3703a78d64d40ef", func := "terrier/terrierlaw13.StatusActive", spec := "statusActive", apart := false }
def StatusActiveSaid : Prop := statusActiveRow.holds Try.pinned (OpenSpec.ofChange statusActiveSpec)

/-- ITS FALSE NEIGHBOUR: 'it returns false'. Refute it at one input. -/
def statusActiveWrong : ChangeSpec := { name := "statusActive", fn := fun _ => fun
  | [d1, d2, d3, d4] => { results := [.lit (.bool false)], args := [d1, d2, d3, d4] }
  | _ => none }
def StatusActiveWrongFalsely : Prop := statusActiveRow.holds Try.pinned (OpenSpec.ofChange statusActiveWrong)

/-- 'terrierlaw13.StatusNames': WHATEVER THE INPUT: true; the input reads as it did. -/
def statusNamesSpec : ChangeSpec := { name := "statusNames", fn := fun _ => fun
  | [d1, d2] => { results := [.lit (.bool true)], args := [d1, d2] }
  | _ => none }
def statusNamesRow : OpenClaim := { program := "ytpiieagdgickgaa", sum := "77eceb1480b5b81e22abc2db6177b1351398883f46b82295d3703a78d64d40ef", func := "terrier/terrierlaw13.StatusNames", spec := "statusNames", apart := false }
def StatusNamesSaid : Prop := statusNamesRow.holds Try.pinned (OpenSpec.ofChange statusNamesSpec)

/-- ITS FALSE NEIGHBOUR: 'it returns false'. Refute it at one input. -/
def statusNamesWrong : ChangeSpec := { name := "statusNames", fn := fun _ => fun
  | [d1, d2] => { results := [.lit (.bool false)], args := [d1, d2] }
  | _ => none }
def StatusNamesWrongFalsely : Prop := statusNamesRow.holds Try.pinned (OpenSpec.ofChange statusNamesWrong)

/- THE SECOND FORM. 'bulk': how many values and letters a reading holds, each counted each time it is reached (what is shared counts as often as it is met; a slice's spare places count too). A statement '..UptoSaid' is the law's where the arguments, and the package variables that the reading takes, are together of bulk at most 1048576: NARROWER than '..Said'. Prove '..Said' where nothing that the law and all that it calls make is longer than what came in: it says more and counts as full. Else prove '..UptoSaid'. A law counts once. -/
mutual
def uptoBulk {H : Type} : DataW H → Nat
  | .lit (.string bytes) => bytes.length + 1
  | .lit _ => 1
  | .nil => 1
  | .ptr d => uptoBulk d + 1
  | .slice elems spare => uptoBulkAll elems + uptoBulkAll spare + 1
  | .agg parts => uptoBulkAll parts + 1
  | .iface _ d => uptoBulk d + 1
  | .map entries => uptoBulkEntries entries + 1
  | .held _ => 1
def uptoBulkAll {H : Type} : List (DataW H) → Nat
  | [] => 0
  | d :: r => uptoBulk d + uptoBulkAll r
def uptoBulkEntries {H : Type} : List (Lit × DataW H) → Nat
  | [] => 0
  | x :: r => uptoBulkEntry x + uptoBulkEntries r
def uptoBulkEntry {H : Type} : Lit × DataW H → Nat
  | (.string bytes, d) => bytes.length + uptoBulk d + 1
  | (_, d) => uptoBulk d + 1
 end
def uptoSmall : (H : Type) → List (DataW H) → Bool := fun _ ds => decide (uptoBulkAll ds ≤ 1048576)
def OpenSpec.upto (s : _root_.Go.ChangeSpec) : _root_.Go.OpenSpec := { _root_.Go.OpenSpec.ofChange s with cond := some uptoSmall }

/-- 'terrierlaw13.StatusOf', WHERE WHAT IT READS IS OF BULK AT MOST 1048576: true; the input reads as it did. -/
def statusOfUptoRow : OpenClaim := { program := "ytpiieagdgickgaa", sum := "77eceb1480b5b81e22abc2db6177b1351398883f46b82295d3703a78d64d40ef", func := "terrier/terrierlaw13.StatusOf", spec := "statusOf", apart := false, narrowed := true }
def StatusOfUptoSaid : Prop := statusOfUptoRow.holds Try.pinned (OpenSpec.upto statusOfSpec)

/-- 'terrierlaw13.StatusAny', WHERE WHAT IT READS IS OF BULK AT MOST 1048576: true; the input reads as it did. -/
def statusAnyUptoRow : OpenClaim := { program := "ytpiieagdgickgaa", sum := "77eceb1480b5b81e22abc2db6177b1351398883f46b82295d3703a78d64d40ef", func := "terrier/terrierlaw13.StatusAny", spec := "statusAny", apart := false, narrowed := true }
def StatusAnyUptoSaid : Prop := statusAnyUptoRow.holds Try.pinned (OpenSpec.upto statusAnySpec)

/-- 'terrierlaw13.StatusEvict', WHERE WHAT IT READS IS OF BULK AT MOST 1048576: true; the input reads as it did. -/
def statusEvictUptoRow : OpenClaim := { program := "ytpiieagdgickgaa", sum := "77eceb1480b5b81e22abc2db6177b1351398883f46b82295d3703a78d64d40ef", func := "terrier/terrierlaw13.StatusEvict", spec := "statusEvict", apart := false, narrowed := true }
def StatusEvictUptoSaid : Prop := statusEvictUptoRow.holds Try.pinned (OpenSpec.upto statusEvictSpec)

/-- 'terrierlaw13.StatusOld', WHERE WHAT IT READS IS OF BULK AT MOST 1048576: true; the input reads as it did. -/
def statusOldUptoRow : OpenClaim := { program := "ytpiieagdgickgaa", sum := "77eceb1480b5b81e22abc2db6177b1351398883f46b82295d3703a78d64d40ef", func := "terrier/terrierlaw13.StatusOld", spec := "statusOld", apart := false, narrowed := true }
def StatusOldUptoSaid : Prop := statusOldUptoRow.holds Try.pinned (OpenSpec.upto statusOldSpec)

/-- 'terrierlaw13.StatusActive', WHERE WHAT IT READS IS OF BULK AT MOST 1048576: true; the input reads as it did. -/
def statusActiveUptoRow : OpenClaim := { program := "ytpiieagdgickgaa", sum := "77eceb1480b5b81e22abc2db6177b1351398883f46b82295d3703a78d64d40ef", func := "terrier/terrierlaw13.StatusActive", spec := "statusActive", apart := false, narrowed := true }
def StatusActiveUptoSaid : Prop := statusActiveUptoRow.holds Try.pinned (OpenSpec.upto statusActiveSpec)

/-- 'terrierlaw13.StatusNames', WHERE WHAT IT READS IS OF BULK AT MOST 1048576: true; the input reads as it did. -/
def statusNamesUptoRow : OpenClaim := { program := "ytpiieagdgickgaa", sum := "77eceb1480b5b81e22abc2db6177b1351398883f46b82295d3703a78d64d40ef", func := "terrier/terrierlaw13.StatusNames", spec := "statusNames", apart := false, narrowed := true }
def StatusNamesUptoSaid : Prop := statusNamesUptoRow.holds Try.pinned (OpenSpec.upto statusNamesSpec)

end Rows
end Go.Proofs.Ytpiieagdgickgaa
