/-
  No cell of these rows narrows 'for every input' (looked for: loops, veiled, ifaces, maps, wideKeys, modest, calm, conditions, laid).
  DERIVED. THE GIVEN ROWS OF THIS SEAT. 6 by the template 'for every input the law returns true; each argument reads behind the call as it read before'; 0 by the template 'total and deterministic' (their statements: YtjjbkhelnmdfnaaTotals.lean).
  GIVEN WITH THE SEED: the statements are not yours to turn. If you find one false, say at which input.
  Laid BY PROGRAM, IN A SANDBOX (cutbox-rows.mjs): the forced cells as the released guide's own fill.sh prints them over the translation dc4e68cfabcbc9c5… (all of the seat's roots in one cut). By AI agents, Wed Nov 11 2026. No macro, syntax, notation, axiom, sorry.
-/
import Derived.Test.YtjjbkhelnmdfnaaChecked
import GoSem.Claim
import GoSem.ClaimJoined
import GoSem.ClaimMapViews
import Derived.JoinedTies
import Derived.KernelRfl
namespace Go.Proofs.Ytjjbkhelnmdfnaa
/- THE CELL 'sum', in the pinned program and in every row, IS THE sha256 OF THE DUMP (.gsa) THAT YtjjbkhelnmdfnaaProg.lean LOADS. Nothing in Lean hashes anything: it is a label: what it is worth is what the hold of that sum in a sandbox is worth. -/
noncomputable def Try.pinned : Pinned := { name := "ytjjbkhelnmdfnaa", sum := "dc4e68cfabcbc9c5ed3568506f852f0b2cf0a44721f3367690a8bd5753d6ca66", checked := Try.checked }
namespace Rows
def none {H : Type} : Left H := { results := [], args := [] }

/-- 'terrierlaw15.ProbeScript': WHATEVER THE INPUT: true; the input reads as it did. -/
def probeScriptSpec : ChangeSpec := { name := "probeScript", fn := fun _ => fun
  | [d1, d2] => { results := [.lit (.bool true)], args := [d1, d2] }
  | _ => none }
def probeScriptRow : OpenClaim := { program := "ytjjbkhelnmdfnaa", sum := "dc4e68cfabcbc9c5ed3568506f852f0b2cf0a44721f3367690a8bd5753d6ca66", func := "terrier/terrierlaw15.ProbeScript", spec := "probeScript", apart := false }
def ProbeScriptSaid : Prop := probeScriptRow.holds Try.pinned (OpenSpec.ofChange probeScriptSpec)

/-- ITS FALSE NEIGHBOUR: 'it returns false'. Refute it at one input. -/
def probeScriptWrong : ChangeSpec := { name := "probeScript", fn := fun _ => fun
  | [d1, d2] => { results := [.lit (.bool false)], args := [d1, d2] }
  | _ => none }
def ProbeScriptWrongFalsely : Prop := probeScriptRow.holds Try.pinned (OpenSpec.ofChange probeScriptWrong)

/-- 'terrierlaw15.ProbeOf': WHATEVER THE INPUT: true; the input reads as it did. -/
def probeOfSpec : ChangeSpec := { name := "probeOf", fn := fun _ => fun
  | [d1, d2, d3] => { results := [.lit (.bool true)], args := [d1, d2, d3] }
  | _ => none }
def probeOfRow : OpenClaim := { program := "ytjjbkhelnmdfnaa", sum := "dc4e68cfabcbc9c5ed3568506f852f0b2cf0a44721f3367690a8bd5753d6ca66", func := "terrier/terrierlaw15.ProbeOf", spec := "probeOf", apart := false }
def ProbeOfSaid : Prop := probeOfRow.holds Try.pinned (OpenSpec.ofChange probeOfSpec)

/-- ITS FALSE NEIGHBOUR: 'it returns false'. Refute it at one input. -/
def probeOfWrong : ChangeSpec := { name := "probeOf", fn := fun _ => fun
  | [d1, d2, d3] => { results := [.lit (.bool false)], args := [d1, d2, d3] }
  | _ => none }
def ProbeOfWrongFalsely : Prop := probeOfRow.holds Try.pinned (OpenSpec.ofChange probeOfWrong)

/-- 'terrierlaw15.ProbeRight': WHATEVER THE INPUT: true; the input reads as it did. -/
def probeRightSpec : ChangeSpec := { name := "probeRight", fn := fun _ => fun
  | [d1, d2, d3, d4, d5] => { results := [.lit (.bool true)], args := [d1, d2, d3, d4, d5] }
  | _ => none }
def probeRightRow : OpenClaim := { program := "ytjjbkhelnmdfnaa", sum := "dc4e68cfabcbc9c5ed3568506f852f0b2cf0a44721f3367690a8bd5753d6ca66", func := "terrier/terrierlaw15.ProbeRight", spec := "probeRight", apart := false }
def ProbeRightSaid : Prop := probeRightRow.holds Try.pinned (OpenSpec.ofChange probeRightSpec)

/-- ITS FALSE NEIGHBOUR: 'it returns false'. Refute it at one input. -/
def probeRightWrong : ChangeSpec := { name := "probeRight", fn := fun _ => fun
  | [d1, d2, d3, d4, d5] => { results := [.lit (.bool false)], args := [d1, d2, d3, d4, d5] }
  | _ => none }
def ProbeRightWrongFalsely : Prop := probeRightRow.holds Try.pinned (OpenSpec.ofChange probeRightWrong)

/-- 'terrierlaw15.ProbeEnds': WHATEVER THE INPUT: true; the input reads as it did. -/
def probeEndsSpec : ChangeSpec := { name := "probeEnds", fn := fun _ => fun
  | [d1, d2] => { results := [.lit (.bool true)], args := [d1, d2] }
  | _ => none }
def probeEndsRow : OpenClaim := { program := "ytjjbkhelnmdfnaa", sum := "dc4e68cfabcbc9c5ed3568506f852f0b2cf0a44721f3367690a8bd5753d6ca66", func := "terrier/terrierlaw15.ProbeEnds", spec := "probeEnds", apart := false }
def ProbeEndsSaid : Prop := probeEndsRow.holds Try.pinned (OpenSpec.ofChange probeEndsSpec)

/-- ITS FALSE NEIGHBOUR: 'it returns false'. Refute it at one input. -/
def probeEndsWrong : ChangeSpec := { name := "probeEnds", fn := fun _ => fun
  | [d1, d2] => { results := [.lit (.bool false)], args := [d1, d2] }
  | _ => none }
def ProbeEndsWrongFalsely : Prop := probeEndsRow.holds Try.pinned (OpenSpec.ofChange probeEndsWrong)

/-- 'terrierlaw15.ProbeAnswer': WHATEVER THE INPUT: true; the input reads as it did. -/
def probeAnswerSpec : ChangeSpec := { name := "probeAnswer", fn := fun _ => fun
  | [d1, d2, d3, d4, d5] => { results := [.lit (.bool true)], args := [d1, d2, d3, d4, d5] }
  | _ => none }
def probeAnswerRow : OpenClaim := { program := "ytjjbkhelnmdfnaa", sum := "dc4e68cfabcbc9c5ed3568506f852f0b2cf0a44721f3367690a8bd5753d6ca66", func := "terrier/terrierlaw15.ProbeAnswer", spec := "probeAnswer", apart := false }
def ProbeAnswerSaid : Prop := probeAnswerRow.holds Try.pinned (OpenSpec.ofChange probeAnswerSpec)

/-- ITS FALSE NEIGHBOUR: 'it returns false'. Refute it at one input. -/
def probeAnswerWrong : ChangeSpec := { name := "probeAnswer", fn := fun _ => fun
  | [d1, d2, d3, d4, d5] => { results := [.lit (.bool false)], args := [d1, d2, d3, d4, d5] }
  | _ => none }
def ProbeAnswerWrongFalsely : Prop := probeAnswerRow.holds Try.pinned (OpenSpec.ofChange probeAnswerWrong)

/-- 'terrierlaw15.ProbeTwice': WHATEVER THE INPUT: true; the input reads as it did. -/
def probeTwiceSpec : ChangeSpec := { name := "probeTwice", fn := fun _ => fun
  | [d1, d2, d3] => { results := [.lit (.bool true)], args := [d1, d2, d3] }
  | _ => none }
def probeTwiceRow : OpenClaim := { program := "ytjjbkhelnmdfnaa", sum := "dc4e68cfabcbc9c5ed3568506f852f0b2cf0a44721f3367690a8bd5753d6ca66", func := "terrier/terrierlaw15.ProbeTwice", spec := "probeTwice", apart := false }
def ProbeTwiceSaid : Prop := probeTwiceRow.holds Try.pinned (OpenSpec.ofChange probeTwiceSpec)

/-- ITS FALSE NEIGHBOUR: 'it returns false'. Refute it at one input. -/
def probeTwiceWrong : ChangeSpec := { name := "probeTwice", fn := fun _ => fun
  | [d1, d2, d3] => { results := [.lit (.bool false)], args := [d1, d2, d3] }
  | _ => none }
def ProbeTwiceWrongFalsely : Prop := probeTwiceRow.holds Try.pinned (OpenSpec.ofChange probeTwiceWrong)

/- THE SECOND FORM. 'bulk': how many values and letters a reading holds, each counted each time it is reached (what is shared counts as often as it is met; a slice's spare places count too). A statement '..UptoSaid' is the law's where the arguments, and the package variables that the reading takes, are together of bulk at most 1048576: NARROWER than '..Said'. Prove '..Said' where nothing that the law and all that it calls make is longer than what came in: it says more and counts as full. Else prove '..UptoSaid'. A law counts once. -/
mutual
def uptoBulk {H : Type} : DataW H → Nat
  | .lit (.string bytes) => bytes.length + 1
  | .lit _ => 1
  | .nil => 1
  | .ptr d => uptoBulk d + 1
  | .slice elems spare => uptoBulkAll elems + uptoBulkAll spare + 1
  | .agg parts => uptoBulkAll parts + 1
  | .iface _ d => uptoBulk d + 1
  | .map entries => uptoBulkEntries entries + 1
  | .held _ => 1
def uptoBulkAll {H : Type} : List (DataW H) → Nat
  | [] => 0
  | d :: r => uptoBulk d + uptoBulkAll r
def uptoBulkEntries {H : Type} : List (Lit × DataW H) → Nat
  | [] => 0
  | x :: r => uptoBulkEntry x + uptoBulkEntries r
def uptoBulkEntry {H : Type} : Lit × DataW H → Nat
  | (.string bytes, d) => bytes.length + uptoBulk d + 1
  | (_, d) => uptoBulk d + 1
 end
def uptoSmall : (H : Type) → List (DataW H) → Bool := fun _ ds => decide (uptoBulkAll ds ≤ 1048576)
def OpenSpec.upto (s : _root_.Go.ChangeSpec) : _root_.Go.OpenSpec := { _root_.Go.OpenSpec.ofChange s with cond := some uptoSmall }

/-- 'terrierlaw15.ProbeScript', WHERE WHAT IT READS IS OF BULK AT MOST 1048576: true; the input reads as it did. -/
def probeScriptUptoRow : OpenClaim := { program := "ytjjbkhelnmdfnaa", sum := "dc4e68cfabcbc9c5ed3568506f852f0b2cf0a44721f3367690a8bd5753d6ca66", func := "terrier/terrierlaw15.ProbeScript", spec := "probeScript", apart := false, narrowed := true }
def ProbeScriptUptoSaid : Prop := probeScriptUptoRow.holds Try.pinned (OpenSpec.upto probeScriptSpec)

/-- 'terrierlaw15.ProbeOf', WHERE WHAT IT READS IS OF BULK AT MOST 1048576: true; the input reads as it did. -/
def probeOfUptoRow : OpenClaim := { program := "ytjjbkhelnmdfnaa", sum := "dc4e68cfabcbc9c5ed3568506f852f0b2cf0a44721f3367690a8bd5753d6ca66", func := "terrier/terrierlaw15.ProbeOf", spec := "probeOf", apart := false, narrowed := true }
def ProbeOfUptoSaid : Prop := probeOfUptoRow.holds Try.pinned (OpenSpec.upto probeOfSpec)

/-- 'terrierlaw15.ProbeRight', WHERE WHAT IT READS IS OF BULK AT MOST 1048576: true; the input reads as it did. -/
def probeRightUptoRow : OpenClaim := { program := "ytjjbkhelnmdfnaa", sum := "dc4e68cfabcbc9c5ed3568506f852f0b2cf0a44721f3367690a8bd5753d6ca66", func := "terrier/terrierlaw15.ProbeRight", spec := "probeRight", apart := false, narrowed := true }
def ProbeRightUptoSaid : Prop := probeRightUptoRow.holds Try.pinned (OpenSpec.upto probeRightSpec)

/-- 'terrierlaw15.ProbeEnds', WHERE WHAT IT READS IS OF BULK AT MOST 1048576: true; the input reads as it did. -/
def probeEndsUptoRow : OpenClaim := { program := "ytjjbkhelnmdfnaa", sum := "dc4e68cfabcbc9c5ed3568506f852f0b2cf0a44721f3367690a8bd5753d6ca66", func := "terrier/terrierlaw15.ProbeEnds", spec := "probeEnds", apart := false, narrowed := true }
def ProbeEndsUptoSaid : Prop := probeEndsUptoRow.holds Try.pinned (OpenSpec.upto probeEndsSpec)

/-- 'terrierlaw15.ProbeAnswer', WHERE WHAT IT READS IS OF BULK AT MOST 1048576: true; the input reads as it did. -/
def probeAnswerUptoRow : OpenClaim := { program := "ytjjbkhelnmdfnaa", sum := "dc4e68cfabcbc9c5ed3568506f852f0b2cf0a44721f3367690a8bd5753d6ca66", func := "terrier/terrierlaw15.ProbeAnswer", spec := "probeAnswer", apart := false, narrowed := true }
def ProbeAnswerUptoSaid : Prop := probeAnswerUptoRow.holds Try.pinned (OpenSpec.upto probeAnswerSpec)

/-- 'terrierlaw15.ProbeTwice', WHERE WHAT IT READS IS OF BULK AT MOST 1048576: true; the input reads as it did. -/
def probeTwiceUptoRow : OpenClaim := { program := "ytjjbkhelnmdfnaa", sum := "dc4e68cfabcbc9c5ed3568506f852f0b2cf0a44721f3367690a8bd5753d6ca66", func := "terrier/terrierlaw15.ProbeTwice", spec := "probeTwice", apart := false, narrowed := true }
def ProbeTwiceUptoSaid : Prop := probeTwiceUptoRow.holds Try.pinned (OpenSpec.upto probeTwiceSpec)

end Rows
end Go.Proofs.Ytjjbkhelnmdfnaa
