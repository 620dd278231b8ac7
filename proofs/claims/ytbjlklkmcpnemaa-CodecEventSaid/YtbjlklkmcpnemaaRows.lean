/-
  No cell of these rows narrows 'for every input' (looked for: loops, veiled, ifaces, maps, wideKeys, modest, calm, conditions, laid).
  DERIVED. THE GIVEN ROWS OF THIS SEAT. 3 by the template 'for every input the law returns true; each argument reads behind the call as it read before'; 0 by the template 'total and deterministic' (their statements: YtbjlklkmcpnemaaTotals.lean).
  GIVEN WITH THE SEED: the statements are not yours to turn. If you find one false, say at which input.
  Laid BY PROGRAM, IN A SANDBOX (cutbox-rows.mjs): the forced cells as the released guide's own fill.sh prints them over the translation 1ad31a0cb9f1369f… (all of the seat's roots in one cut). By AI agents, Wed Nov 11 2026. No macro, syntax, notation, axiom, sorry.
-/
import Derived.Test.YtbjlklkmcpnemaaChecked
import GoSem.Claim
import GoSem.ClaimJoined
import GoSem.ClaimMapViews
import Derived.JoinedTies
import Derived.KernelRfl
namespace Go.Proofs.Ytbjlklkmcpnemaa
/- THE CELL 'sum', in the pinned program and in every row, IS THE sha256 OF THE DUMP (.gsa) THAT YtbjlklkmcpnemaaProg.lean LOADS. Nothing in Lean hashes anything: it is a label: what it is worth is what the hold of that sum in a sandbox is worth. -/
noncomputable def Try.pinned : Pinned := { name := "ytbjlklkmcpnemaa", sum := "1ad31a0cb9f1369f9aebf950fa9e7cb14cdbc1c0b969af0208bfade55c4417fe", checked := Try.checked }
namespace Rows
def none {H : Type} : Left H := { results := [], args := [] }

/-- 'terrierlaw19.CodecEvent': WHATEVER THE INPUT: true; the input reads as it did. -/
def codecEventSpec : ChangeSpec := { name := "codecEvent", fn := fun _ => fun
  | [d] => { results := [.lit (.bool true)], args := [d] }
  | _ => none }
def codecEventRow : OpenClaim := { program := "ytbjlklkmcpnemaa", sum := "1ad31a0cb9f1369f9aebf950fa9e7cb14cdbc1c0b969af0208bfade55c4417fe", func := "terrier/terrierlaw19.CodecEvent", spec := "codecEvent", unfollowed := true, recurses := true, apart := false }
def CodecEventSaid : Prop := codecEventRow.holds Try.pinned (OpenSpec.ofChange codecEventSpec)

/-- ITS FALSE NEIGHBOUR: 'it returns false'. Refute it at one input. -/
def codecEventWrong : ChangeSpec := { name := "codecEvent", fn := fun _ => fun
  | [d] => { results := [.lit (.bool false)], args := [d] }
  | _ => none }
def CodecEventWrongFalsely : Prop := codecEventRow.holds Try.pinned (OpenSpec.ofChange codecEventWrong)

/-- 'terrierlaw19.CodecRead': WHATEVER THE INPUT: true; the input reads as it did. -/
def codecReadSpec : ChangeSpec := { name := "codecRead", fn := fun _ => fun
  | [d1, d2, d3, d4] => { results := [.lit (.bool true)], args := [d1, d2, d3, d4] }
  | _ => none }
def codecReadRow : OpenClaim := { program := "ytbjlklkmcpnemaa", sum := "1ad31a0cb9f1369f9aebf950fa9e7cb14cdbc1c0b969af0208bfade55c4417fe", func := "terrier/terrierlaw19.CodecRead", spec := "codecRead", unfollowed := true, recurses := true, apart := false }
def CodecReadSaid : Prop := codecReadRow.holds Try.pinned (OpenSpec.ofChange codecReadSpec)

/-- ITS FALSE NEIGHBOUR: 'it returns false'. Refute it at one input. -/
def codecReadWrong : ChangeSpec := { name := "codecRead", fn := fun _ => fun
  | [d1, d2, d3, d4] => { results := [.lit (.bool false)], args := [d1, d2, d3, d4] }
  | _ => none }
def CodecReadWrongFalsely : Prop := codecReadRow.holds Try.pinned (OpenSpec.ofChange codecReadWrong)

/-- 'terrierlaw19.CodecRaw': WHATEVER THE INPUT: true; the input reads as it did. -/
def codecRawSpec : ChangeSpec := { name := "codecRaw", fn := fun _ => fun
  | [d] => { results := [.lit (.bool true)], args := [d] }
  | _ => none }
def codecRawRow : OpenClaim := { program := "ytbjlklkmcpnemaa", sum := "1ad31a0cb9f1369f9aebf950fa9e7cb14cdbc1c0b969af0208bfade55c4417fe", func := "terrier/terrierlaw19.CodecRaw", spec := "codecRaw", unfollowed := true, recurses := true, apart := false }
def CodecRawSaid : Prop := codecRawRow.holds Try.pinned (OpenSpec.ofChange codecRawSpec)

/-- ITS FALSE NEIGHBOUR: 'it returns false'. Refute it at one input. -/
def codecRawWrong : ChangeSpec := { name := "codecRaw", fn := fun _ => fun
  | [d] => { results := [.lit (.bool false)], args := [d] }
  | _ => none }
def CodecRawWrongFalsely : Prop := codecRawRow.holds Try.pinned (OpenSpec.ofChange codecRawWrong)

/- THE SECOND FORM. 'bulk': how many values and letters a reading holds, each counted each time it is reached (what is shared counts as often as it is met; a slice's spare places count too). A statement '..UptoSaid' is the law's where the arguments, and the package variables that the reading takes, are together of bulk at most 1048576: NARROWER than '..Said'. Prove '..Said' where nothing that the law and all that it calls make is longer than what came in: it says more and counts as full. Else prove '..UptoSaid'. A law counts once. -/
mutual
def uptoBulk {H : Type} : DataW H → Nat
  | .lit (.string bytes) => bytes.length + 1
  | .lit _ => 1
  | .nil => 1
  | .ptr d => uptoBulk d + 1
  | .slice elems spare => uptoBulkAll elems + uptoBulkAll spare + 1
  | .agg parts => uptoBulkAll parts + 1
  | .iface _ d => uptoBulk d + 1
  | .map entries => uptoBulkEntries entries + 1
  | .held _ => 1
def uptoBulkAll {H : Type} : List (DataW H) → Nat
  | [] => 0
  | d :: r => uptoBulk d + uptoBulkAll r
def uptoBulkEntries {H : Type} : List (Lit × DataW H) → Nat
  | [] => 0
  | x :: r => uptoBulkEntry x + uptoBulkEntries r
def uptoBulkEntry {H : Type} : Lit × DataW H → Nat
  | (.string bytes, d) => bytes.length + uptoBulk d + 1
  | (_, d) => uptoBulk d + 1
 end
def uptoSmall : (H : Type) → List (DataW H) → Bool := fun _ ds => decide (uptoBulkAll ds ≤ 1048576)
def OpenSpec.upto (s : _root_.Go.ChangeSpec) : _root_.Go.OpenSpec := { _root_.Go.OpenSpec.ofChange s with cond := some uptoSmall }

/-- 'terrierlaw19.CodecEvent', WHERE WHAT IT READS IS OF BULK AT MOST 1048576: true; the input reads as it did. -/
def codecEventUptoRow : OpenClaim := { program := "ytbjlklkmcpnemaa", sum := "1ad31a0cb9f1369f9aebf950fa9e7cb14cdbc1c0b969af0208bfade55c4417fe", func := "terrier/terrierlaw19.CodecEvent", spec := "codecEvent", unfollowed := true, recurses := true, apart := false, narrowed := true }
def CodecEventUptoSaid : Prop := codecEventUptoRow.holds Try.pinned (OpenSpec.upto codecEventSpec)

/-- 'terrierlaw19.CodecRead', WHERE WHAT IT READS IS OF BULK AT MOST 1048576: true; the input reads as it did. -/
def codecReadUptoRow : OpenClaim := { program := "ytbjlklkmcpnemaa", sum := "1ad31a0cb9f1369f9aebf950fa9e7cb14cdbc1c0b969af0208bfade55c4417fe", func := "terrier/terrierlaw19.CodecRead", spec := "codecRead", unfollowed := true, recurses := true, apart := false, narrowed := true }
def CodecReadUptoSaid : Prop := codecReadUptoRow.holds Try.pinned (OpenSpec.upto codecReadSpec)

/-- 'terrierlaw19.CodecRaw', WHERE WHAT IT READS IS OF BULK AT MOST 1048576: true; the input reads as it did. -/
def codecRawUptoRow : OpenClaim := { program := "ytbjlklkmcpnemaa", sum := "1ad31a0cb9f1369f9aebf950fa9e7cb14cdbc1c0b969af0208bfade55c4417fe", func := "terrier/terrierlaw19.CodecRaw", spec := "codecRaw", unfollowed := true, recurses := true, apart := false, narrowed := true }
def CodecRawUptoSaid : Prop := codecRawUptoRow.holds Try.pinned (OpenSpec.upto codecRawSpec)

end Rows
end Go.Proofs.Ytbjlklkmcpnemaa
