/-
  No cell of these rows narrows 'for every input' (looked for: loops, veiled, ifaces, maps, wideKeys, modest, calm, conditions, laid).
  DERIVED. THE GIVEN ROWS OF THIS SEAT. 6 by the template 'for every input the law returns true; each argument reads behind the call as it read before'; 0 by the template 'total and deterministic' (their statements: YtgdbkjiifliobaaTotals.lean).
  GIVEN WITH THE SEED: the statements are not yours to turn. If you find one false, say at which input.
  Laid BY PROGRAM, IN A SANDBOX (cutbox-rows.mjs): the forced cells as the released guide's own fill.sh prints them over the translation b5b4cc7cba85e9f2… (all of the seat's roots in one cut). By AI agents, Wed Nov 11 2026. No macro, syntax, notation, axiom, sorry.
-/
import Derived.Test.YtgdbkjiifliobaaChecked
import GoSem.Claim
import GoSem.ClaimJoined
import GoSem.ClaimMapViews
import Derived.JoinedTies
import Derived.KernelRfl
namespace Go.Proofs.Ytgdbkjiifliobaa
/- THE CELL 'sum', in the pinned program and in every row, IS THE sha256 OF THE DUMP (.gsa) THAT YtgdbkjiifliobaaProg.lean LOADS. Nothing in Lean hashes anything: it is a label: what it is worth is what the hold of that sum in a sandbox is worth. -/
noncomputable def Try.pinned : Pinned := { name := "ytgdbkjiifliobaa", sum := "b5b4cc7cba85e9f2dea4164a1840fa62b6935d7b1a88e640f4015128cd93968c", checked := Try.checked }
namespace Rows
def none {H : Type} : Left H := { results := [], args := [] }

/-- 'terrierlaw07.WireArp': WHATEVER THE INPUT: true; the input reads as it did. -/
def wireArpSpec : ChangeSpec := { name := "wireArp", fn := fun _ => fun
  | [d1, d2, d3, d4] => { results := [.lit (.bool true)], args := [d1, d2, d3, d4] }
  | _ => none }
def wireArpRow : OpenClaim := { program := "ytgdbkjiifliobaa", sum := "b5b4cc7cba85e9f2dea4164a1840fa62b6935d7b1a88e640f4015128cd93968c", func := "terrier/terrierlaw07.WireArp", spec := "wireArp", apart := false }
def WireArpSaid : Prop := wireArpRow.holds Try.pinned (OpenSpec.ofChange wireArpSpec)

/-- ITS FALSE NEIGHBOUR: 'it returns false'. Refute it at one input. -/
def wireArpWrong : ChangeSpec := { name := "wireArp", fn := fun _ => fun
  | [d1, d2, d3, d4] => { results := [.lit (.bool false)], args := [d1, d2, d3, d4] }
  | _ => none }
def WireArpWrongFalsely : Prop := wireArpRow.holds Try.pinned (OpenSpec.ofChange wireArpWrong)

/-- 'terrierlaw07.WireEcho': WHATEVER THE INPUT: true; the input reads as it did. -/
def wireEchoSpec : ChangeSpec := { name := "wireEcho", fn := fun _ => fun
  | [d] => { results := [.lit (.bool true)], args := [d] }
  | _ => none }
def wireEchoRow : OpenClaim := { program := "ytgdbkjiifliobaa", sum := "b5b4cc7cba85e9f2dea4164a1840fa62b6935d7b1a88e640f4015128cd93968c", func := "terrier/terrierlaw07.WireEcho", spec := "wireEcho", apart := false }
def WireEchoSaid : Prop := wireEchoRow.holds Try.pinned (OpenSpec.ofChange wireEchoSpec)

/-- ITS FALSE NEIGHBOUR: 'it returns false'. Refute it at one input. -/
def wireEchoWrong : ChangeSpec := { name := "wireEcho", fn := fun _ => fun
  | [d] => { results := [.lit (.bool false)], args := [d] }
  | _ => none }
def WireEchoWrongFalsely : Prop := wireEchoRow.holds Try.pinned (OpenSpec.ofChange wireEchoWrong)

/-- 'terrierlaw07.WireAny': WHATEVER THE INPUT: true; the input reads as it did. -/
def wireAnySpec : ChangeSpec := { name := "wireAny", fn := fun _ => fun
  | [d1, d2, d3, d4] => { results := [.lit (.bool true)], args := [d1, d2, d3, d4] }
  | _ => none }
def wireAnyRow : OpenClaim := { program := "ytgdbkjiifliobaa", sum := "b5b4cc7cba85e9f2dea4164a1840fa62b6935d7b1a88e640f4015128cd93968c", func := "terrier/terrierlaw07.WireAny", spec := "wireAny", apart := false }
def WireAnySaid : Prop := wireAnyRow.holds Try.pinned (OpenSpec.ofChange wireAnySpec)

/-- ITS FALSE NEIGHBOUR: 'it returns false'. Refute it at one input. -/
def wireAnyWrong : ChangeSpec := { name := "wireAny", fn := fun _ => fun
  | [d1, d2, d3, d4] => { results := [.lit (.bool false)], args := [d1, d2, d3, d4] }
  | _ => none }
def WireAnyWrongFalsely : Prop := wireAnyRow.holds Try.pinned (OpenSpec.ofChange wireAnyWrong)

/-- 'terrierlaw07.WireTurned': WHATEVER THE INPUT: true; the input reads as it did. -/
def wireTurnedSpec : ChangeSpec := { name := "wireTurned", fn := fun _ => fun
  | [d1, d2, d3] => { results := [.lit (.bool true)], args := [d1, d2, d3] }
  | _ => none }
def wireTurnedRow : OpenClaim := { program := "ytgdbkjiifliobaa", sum := "b5b4cc7cba85e9f2dea4164a1840fa62b6935d7b1a88e640f4015128cd93968c", func := "terrier/terrierlaw07.WireTurned", spec := "wireTurned", apart := false }
def WireTurnedSaid : Prop := wireTurnedRow.holds Try.pinned (OpenSpec.ofChange wireTurnedSpec)

/-- ITS FALSE NEIGHBOUR: 'it returns false'. Refute it at one input. -/
def wireTurnedWrong : ChangeSpec := { name := "wireTurned", fn := fun _ => fun
  | [d1, d2, d3] => { results := [.lit (.bool false)], args := [d1, d2, d3] }
  | _ => none }
def WireTurnedWrongFalsely : Prop := wireTurnedRow.holds Try.pinned (OpenSpec.ofChange wireTurnedWrong)

/-- 'terrierlaw07.WireCut': WHATEVER THE INPUT: true; the input reads as it did. -/
def wireCutSpec : ChangeSpec := { name := "wireCut", fn := fun _ => fun
  | [d1, d2, d3] => { results := [.lit (.bool true)], args := [d1, d2, d3] }
  | _ => none }
def wireCutRow : OpenClaim := { program := "ytgdbkjiifliobaa", sum := "b5b4cc7cba85e9f2dea4164a1840fa62b6935d7b1a88e640f4015128cd93968c", func := "terrier/terrierlaw07.WireCut", spec := "wireCut", apart := false }
def WireCutSaid : Prop := wireCutRow.holds Try.pinned (OpenSpec.ofChange wireCutSpec)

/-- ITS FALSE NEIGHBOUR: 'it returns false'. Refute it at one input. -/
def wireCutWrong : ChangeSpec := { name := "wireCut", fn := fun _ => fun
  | [d1, d2, d3] => { results := [.lit (.bool false)], args := [d1, d2, d3] }
  | _ => none }
def WireCutWrongFalsely : Prop := wireCutRow.holds Try.pinned (OpenSpec.ofChange wireCutWrong)

/-- 'terrierlaw07.WireSums': WHATEVER THE INPUT: true; the input reads as it did. -/
def wireSumsSpec : ChangeSpec := { name := "wireSums", fn := fun _ => fun
  | [d] => { results := [.lit (.bool true)], args := [d] }
  | _ => none }
def wireSumsRow : OpenClaim := { program := "ytgdbkjiifliobaa", sum := "b5b4cc7cba85e9f2dea4164a1840fa62b6935d7b1a88e640f4015128cd93968c", func := "terrier/terrierlaw07.WireSums", spec := "wireSums", apart := false }
def WireSumsSaid : Prop := wireSumsRow.holds Try.pinned (OpenSpec.ofChange wireSumsSpec)

/-- ITS FALSE NEIGHBOUR: 'it returns false'. Refute it at one input. -/
def wireSumsWrong : ChangeSpec := { name := "wireSums", fn := fun _ => fun
  | [d] => { results := [.lit (.bool false)], args := [d] }
  | _ => none }
def WireSumsWrongFalsely : Prop := wireSumsRow.holds Try.pinned (OpenSpec.ofChange wireSumsWrong)

/- THE SECOND FORM. 'bulk': how many values and letters a reading holds, each counted each time it is reached (what is shared counts as often as it is met; a slice's spare places count too). A statement '..UptoSaid' is the law's where the arguments, and the package variables that the reading takes, are together of bulk at most 1048576: NARROWER than '..Said'. Prove '..Said' where nothing that the law and all that it calls make is longer than what came in: it says more and counts as full. Else prove '..UptoSaid'. A law counts once. -/
mutual
def uptoBulk {H : Type} : DataW H → Nat
  | .lit (.string bytes) => bytes.length + 1
  | .lit _ => 1
  | .nil => 1
  | .ptr d => uptoBulk d + 1
  | .slice elems spare => uptoBulkAll elems + uptoBulkAll spare + 1
  | .agg parts => uptoBulkAll parts + 1
  | .iface _ d => uptoBulk d + 1
  | .map entries => uptoBulkEntries entries + 1
  | .held _ => 1
def uptoBulkAll {H : Type} : List (DataW H) → Nat
  | [] => 0
  | d :: r => uptoBulk d + uptoBulkAll r
def uptoBulkEntries {H : Type} : List (Lit × DataW H) → Nat
  | [] => 0
  | x :: r => uptoBulkEntry x + uptoBulkEntries r
def uptoBulkEntry {H : Type} : Lit × DataW H → Nat
  | (.string bytes, d) => bytes.length + uptoBulk d + 1
  | (_, d) => uptoBulk d + 1
 end
def uptoSmall : (H : Type) → List (DataW H) → Bool := fun _ ds => decide (uptoBulkAll ds ≤ 1048576)
def OpenSpec.upto (s : _root_.Go.ChangeSpec) : _root_.Go.OpenSpec := { _root_.Go.OpenSpec.ofChange s with cond := some uptoSmall }

/-- 'terrierlaw07.WireArp', WHERE WHAT IT READS IS OF BULK AT MOST 1048576: true; the input reads as it did. -/
def wireArpUptoRow : OpenClaim := { program := "ytgdbkjiifliobaa", sum := "b5b4cc7cba85e9f2dea4164a1840fa62b6935d7b1a88e640f4015128cd93968c", func := "terrier/terrierlaw07.WireArp", spec := "wireArp", apart := false, narrowed := true }
def WireArpUptoSaid : Prop := wireArpUptoRow.holds Try.pinned (OpenSpec.upto wireArpSpec)

/-- 'terrierlaw07.WireEcho', WHERE WHAT IT READS IS OF BULK AT MOST 1048576: true; the input reads as it did. -/
def wireEchoUptoRow : OpenClaim := { program := "ytgdbkjiifliobaa", sum := "b5b4cc7cba85e9f2dea4164a1840fa62b6935d7b1a88e640f4015128cd93968c", func := "terrier/terrierlaw07.WireEcho", spec := "wireEcho", apart := false, narrowed := true }
def WireEchoUptoSaid : Prop := wireEchoUptoRow.holds Try.pinned (OpenSpec.upto wireEchoSpec)

/-- 'terrierlaw07.WireAny', WHERE WHAT IT READS IS OF BULK AT MOST 1048576: true; the input reads as it did. -/
def wireAnyUptoRow : OpenClaim := { program := "ytgdbkjiifliobaa", sum := "b5b4cc7cba85e9f2dea4164a1840fa62b6935d7b1a88e640f4015128cd93968c", func := "terrier/terrierlaw07.WireAny", spec := "wireAny", apart := false, narrowed := true }
def WireAnyUptoSaid : Prop := wireAnyUptoRow.holds Try.pinned (OpenSpec.upto wireAnySpec)

/-- 'terrierlaw07.WireTurned', WHERE WHAT IT READS IS OF BULK AT MOST 1048576: true; the input reads as it did. -/
def wireTurnedUptoRow : OpenClaim := { program := "ytgdbkjiifliobaa", sum := "b5b4cc7cba85e9f2dea4164a1840fa62b6935d7b1a88e640f4015128cd93968c", func := "terrier/terrierlaw07.WireTurned", spec := "wireTurned", apart := false, narrowed := true }
def WireTurnedUptoSaid : Prop := wireTurnedUptoRow.holds Try.pinned (OpenSpec.upto wireTurnedSpec)

/-- 'terrierlaw07.WireCut', WHERE WHAT IT READS IS OF BULK AT MOST 1048576: true; the input reads as it did. -/
def wireCutUptoRow : OpenClaim := { program := "ytgdbkjiifliobaa", sum := "b5b4cc7cba85e9f2dea4164a1840fa62b6935d7b1a88e640f4015128cd93968c", func := "terrier/terrierlaw07.WireCut", spec := "wireCut", apart := false, narrowed := true }
def WireCutUptoSaid : Prop := wireCutUptoRow.holds Try.pinned (OpenSpec.upto wireCutSpec)

/-- 'terrierlaw07.WireSums', WHERE WHAT IT READS IS OF BULK AT MOST 1048576: true; the input reads as it did. -/
def wireSumsUptoRow : OpenClaim := { program := "ytgdbkjiifliobaa", sum := "b5b4cc7cba85e9f2dea4164a1840fa62b6935d7b1a88e640f4015128cd93968c", func := "terrier/terrierlaw07.WireSums", spec := "wireSums", apart := false, narrowed := true }
def WireSumsUptoSaid : Prop := wireSumsUptoRow.holds Try.pinned (OpenSpec.upto wireSumsSpec)

end Rows
end Go.Proofs.Ytgdbkjiifliobaa
