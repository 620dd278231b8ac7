/-
  No cell of these rows narrows 'for every input' (looked for: loops, veiled, ifaces, maps, wideKeys, modest, calm, conditions, laid).
  DERIVED. THE GIVEN ROWS OF THIS SEAT. 6 by the template 'for every input the law returns true; each argument reads behind the call as it read before'; 0 by the template 'total and deterministic' (their statements: YtenolbgadlehpaaTotals.lean).
  GIVEN WITH THE SEED: the statements are not yours to turn. If you find one false, say at which input.
  Laid BY PROGRAM, IN A SANDBOX (cutbox-rows.mjs): the forced cells as the released guide's own fill.sh prints them over the translation f2caa23969f71815… (all of the seat's roots in one cut). By AI agents, Wed Nov 11 2026. No macro, syntax, notation, axiom, sorry.
-/
import Derived.Test.YtenolbgadlehpaaChecked
import GoSem.Claim
import GoSem.ClaimJoined
import GoSem.ClaimMapViews
import Derived.JoinedTies
import Derived.KernelRfl
namespace Go.Proofs.Ytenolbgadlehpaa
/- THE CELL 'sum', in the pinned program and in every row, IS THE sha256 OF THE DUMP (.gsa) THAT YtenolbgadlehpaaProg.lean LOADS. Nothing in Lean hashes anything: it is a label: what it is worth is what the hold of that sum in a sandbox is worth. -/
noncomputable def Try.pinned : Pinned := { name := "ytenolbgadlehpaa", sum := "f2caa23969f71815dcd0a4dff8288f36bbf8f2d9e983e928c630c747de2fc3ee", checked := Try.checked }
namespace Rows
def none {H : Type} : Left H := { results := [], args := [] }

/-- 'terrierlaw14.SweepScript': WHATEVER THE INPUT: true; the input reads as it did. -/
def sweepScriptSpec : ChangeSpec := { name := "sweepScript", fn := fun _ => fun
  | [d1, d2] => { results := [.lit (.bool true)], args := [d1, d2] }
  | _ => none }
def sweepScriptRow : OpenClaim := { program := "ytenolbgadlehpaa", sum := "f2caa23969f71815dcd0a4dff8288f36bbf8f2d9e983e928c630c747de2fc3ee", func := "terrier/terrierlaw14.SweepScript", spec := "sweepScript", unfollowed := true, recurses := true, apart := false }
def SweepScriptSaid : Prop := sweepScriptRow.holds Try.pinned (OpenSpec.ofChange sweepScriptSpec)

/-- ITS FALSE NEIGHBOUR: 'it returns false'. Refute it at one input. -/
def sweepScriptWrong : ChangeSpec := { name := "sweepScript", fn := fun _ => fun
  | [d1, d2] => { results := [.lit (.bool false)], args := [d1, d2] }
  | _ => none }
def SweepScriptWrongFalsely : Prop := sweepScriptRow.holds Try.pinned (OpenSpec.ofChange sweepScriptWrong)

/-- 'terrierlaw14.SweepPlan': WHATEVER THE INPUT: true; the input reads as it did. -/
def sweepPlanSpec : ChangeSpec := { name := "sweepPlan", fn := fun _ => fun
  | [d1, d2, d3, d4] => { results := [.lit (.bool true)], args := [d1, d2, d3, d4] }
  | _ => none }
def sweepPlanRow : OpenClaim := { program := "ytenolbgadlehpaa", sum := "f2caa23969f71815dcd0a4dff8288f36bbf8f2d9e983e928c630c747de2fc3ee", func := "terrier/terrierlaw14.SweepPlan", spec := "sweepPlan", unfollowed := true, recurses := true, apart := false }
def SweepPlanSaid : Prop := sweepPlanRow.holds Try.pinned (OpenSpec.ofChange sweepPlanSpec)

/-- ITS FALSE NEIGHBOUR: 'it returns false'. Refute it at one input. -/
def sweepPlanWrong : ChangeSpec := { name := "sweepPlan", fn := fun _ => fun
  | [d1, d2, d3, d4] => { results := [.lit (.bool false)], args := [d1, d2, d3, d4] }
  | _ => none }
def SweepPlanWrongFalsely : Prop := sweepPlanRow.holds Try.pinned (OpenSpec.ofChange sweepPlanWrong)

/-- 'terrierlaw14.SweepRight': WHATEVER THE INPUT: true; the input reads as it did. -/
def sweepRightSpec : ChangeSpec := { name := "sweepRight", fn := fun _ => fun
  | [d1, d2, d3, d4, d5] => { results := [.lit (.bool true)], args := [d1, d2, d3, d4, d5] }
  | _ => none }
def sweepRightRow : OpenClaim := { program := "ytenolbgadlehpaa", sum := "f2caa23969f71815dcd0a4dff8288f36bbf8f2d9e983e928c630c747de2fc3ee", func := "terrier/terrierlaw14.SweepRight", spec := "sweepRight", unfollowed := true, recurses := true, apart := false }
def SweepRightSaid : Prop := sweepRightRow.holds Try.pinned (OpenSpec.ofChange sweepRightSpec)

/-- ITS FALSE NEIGHBOUR: 'it returns false'. Refute it at one input. -/
def sweepRightWrong : ChangeSpec := { name := "sweepRight", fn := fun _ => fun
  | [d1, d2, d3, d4, d5] => { results := [.lit (.bool false)], args := [d1, d2, d3, d4, d5] }
  | _ => none }
def SweepRightWrongFalsely : Prop := sweepRightRow.holds Try.pinned (OpenSpec.ofChange sweepRightWrong)

/-- 'terrierlaw14.SweepPut': WHATEVER THE INPUT: true; the input reads as it did. -/
def sweepPutSpec : ChangeSpec := { name := "sweepPut", fn := fun _ => fun
  | [d1, d2, d3, d4] => { results := [.lit (.bool true)], args := [d1, d2, d3, d4] }
  | _ => none }
def sweepPutRow : OpenClaim := { program := "ytenolbgadlehpaa", sum := "f2caa23969f71815dcd0a4dff8288f36bbf8f2d9e983e928c630c747de2fc3ee", func := "terrier/terrierlaw14.SweepPut", spec := "sweepPut", unfollowed := true, recurses := true, apart := false }
def SweepPutSaid : Prop := sweepPutRow.holds Try.pinned (OpenSpec.ofChange sweepPutSpec)

/-- ITS FALSE NEIGHBOUR: 'it returns false'. Refute it at one input. -/
def sweepPutWrong : ChangeSpec := { name := "sweepPut", fn := fun _ => fun
  | [d1, d2, d3, d4] => { results := [.lit (.bool false)], args := [d1, d2, d3, d4] }
  | _ => none }
def SweepPutWrongFalsely : Prop := sweepPutRow.holds Try.pinned (OpenSpec.ofChange sweepPutWrong)

/-- 'terrierlaw14.SweepEach': WHATEVER THE INPUT: true; the input reads as it did. -/
def sweepEachSpec : ChangeSpec := { name := "sweepEach", fn := fun _ => fun
  | [d1, d2, d3, d4, d5] => { results := [.lit (.bool true)], args := [d1, d2, d3, d4, d5] }
  | _ => none }
def sweepEachRow : OpenClaim := { program := "ytenolbgadlehpaa", sum := "f2caa23969f71815dcd0a4dff8288f36bbf8f2d9e983e928c630c747de2fc3ee", func := "terrier/terrierlaw14.SweepEach", spec := "sweepEach", unfollowed := true, recurses := true, apart := false }
def SweepEachSaid : Prop := sweepEachRow.holds Try.pinned (OpenSpec.ofChange sweepEachSpec)

/-- ITS FALSE NEIGHBOUR: 'it returns false'. Refute it at one input. -/
def sweepEachWrong : ChangeSpec := { name := "sweepEach", fn := fun _ => fun
  | [d1, d2, d3, d4, d5] => { results := [.lit (.bool false)], args := [d1, d2, d3, d4, d5] }
  | _ => none }
def SweepEachWrongFalsely : Prop := sweepEachRow.holds Try.pinned (OpenSpec.ofChange sweepEachWrong)

/-- 'terrierlaw14.SweepOnce': WHATEVER THE INPUT: true; the input reads as it did. -/
def sweepOnceSpec : ChangeSpec := { name := "sweepOnce", fn := fun _ => fun
  | [d1, d2, d3] => { results := [.lit (.bool true)], args := [d1, d2, d3] }
  | _ => none }
def sweepOnceRow : OpenClaim := { program := "ytenolbgadlehpaa", sum := "f2caa23969f71815dcd0a4dff8288f36bbf8f2d9e983e928c630c747de2fc3ee", func := "terrier/terrierlaw14.SweepOnce", spec := "sweepOnce", unfollowed := true, recurses := true, apart := false }
def SweepOnceSaid : Prop := sweepOnceRow.holds Try.pinned (OpenSpec.ofChange sweepOnceSpec)

/-- ITS FALSE NEIGHBOUR: 'it returns false'. Refute it at one input. -/
def sweepOnceWrong : ChangeSpec := { name := "sweepOnce", fn := fun _ => fun
  | [d1, d2, d3] => { results := [.lit (.bool false)], args := [d1, d2, d3] }
  | _ => none }
def SweepOnceWrongFalsely : Prop := sweepOnceRow.holds Try.pinned (OpenSpec.ofChange sweepOnceWrong)

/- THE SECOND FORM. 'bulk': how many values and letters a reading holds, each counted each time it is reached (what is shared counts as often as it is met; a slice's spare places count too). A statement '..UptoSaid' is the law's where the arguments, and the package variables that the reading takes, are together of bulk at most 1048576: NARROWER than '..Said'. Prove '..Said' where nothing that the law and all that it calls make is longer than what came in: it says more and counts as full. Else prove '..UptoSaid'. A law counts once. -/
mutual
def uptoBulk {H : Type} : DataW H → Nat
  | .lit (.string bytes) => bytes.length + 1
  | .lit _ => 1
  | .nil => 1
  | .ptr d => uptoBulk d + 1
  | .slice elems spare => uptoBulkAll elems + uptoBulkAll spare + 1
  | .agg parts => uptoBulkAll parts + 1
  | .iface _ d => uptoBulk d + 1
  | .map entries => uptoBulkEntries entries + 1
  | .held _ => 1
def uptoBulkAll {H : Type} : List (DataW H) → Nat
  | [] => 0
  | d :: r => uptoBulk d + uptoBulkAll r
def uptoBulkEntries {H : Type} : List (Lit × DataW H) → Nat
  | [] => 0
  | x :: r => uptoBulkEntry x + uptoBulkEntries r
def uptoBulkEntry {H : Type} : Lit × DataW H → Nat
  | (.string bytes, d) => bytes.length + uptoBulk d + 1
  | (_, d) => uptoBulk d + 1
 end
def uptoSmall : (H : Type) → List (DataW H) → Bool := fun _ ds => decide (uptoBulkAll ds ≤ 1048576)
def OpenSpec.upto (s : _root_.Go.ChangeSpec) : _root_.Go.OpenSpec := { _root_.Go.OpenSpec.ofChange s with cond := some uptoSmall }

/-- 'terrierlaw14.SweepScript', WHERE WHAT IT READS IS OF BULK AT MOST 1048576: true; the input reads as it did. -/
def sweepScriptUptoRow : OpenClaim := { program := "ytenolbgadlehpaa", sum := "f2caa23969f71815dcd0a4dff8288f36bbf8f2d9e983e928c630c747de2fc3ee", func := "terrier/terrierlaw14.SweepScript", spec := "sweepScript", unfollowed := true, recurses := true, apart := false, narrowed := true }
def SweepScriptUptoSaid : Prop := sweepScriptUptoRow.holds Try.pinned (OpenSpec.upto sweepScriptSpec)

/-- 'terrierlaw14.SweepPlan', WHERE WHAT IT READS IS OF BULK AT MOST 1048576: true; the input reads as it did. -/
def sweepPlanUptoRow : OpenClaim := { program := "ytenolbgadlehpaa", sum := "f2caa23969f71815dcd0a4dff8288f36bbf8f2d9e983e928c630c747de2fc3ee", func := "terrier/terrierlaw14.SweepPlan", spec := "sweepPlan", unfollowed := true, recurses := true, apart := false, narrowed := true }
def SweepPlanUptoSaid : Prop := sweepPlanUptoRow.holds Try.pinned (OpenSpec.upto sweepPlanSpec)

/-- 'terrierlaw14.SweepRight', WHERE WHAT IT READS IS OF BULK AT MOST 1048576: true; the input reads as it did. -/
def sweepRightUptoRow : OpenClaim := { program := "ytenolbgadlehpaa", sum := "f2caa23969f71815dcd0a4dff8288f36bbf8f2d9e983e928c630c747de2fc3ee", func := "terrier/terrierlaw14.SweepRight", spec := "sweepRight", unfollowed := true, recurses := true, apart := false, narrowed := true }
def SweepRightUptoSaid : Prop := sweepRightUptoRow.holds Try.pinned (OpenSpec.upto sweepRightSpec)

/-- 'terrierlaw14.SweepPut', WHERE WHAT IT READS IS OF BULK AT MOST 1048576: true; the input reads as it did. -/
def sweepPutUptoRow : OpenClaim := { program := "ytenolbgadlehpaa", sum := "f2caa23969f71815dcd0a4dff8288f36bbf8f2d9e983e928c630c747de2fc3ee", func := "terrier/terrierlaw14.SweepPut", spec := "sweepPut", unfollowed := true, recurses := true, apart := false, narrowed := true }
def SweepPutUptoSaid : Prop := sweepPutUptoRow.holds Try.pinned (OpenSpec.upto sweepPutSpec)

/-- 'terrierlaw14.SweepEach', WHERE WHAT IT READS IS OF BULK AT MOST 1048576: true; the input reads as it did. -/
def sweepEachUptoRow : OpenClaim := { program := "ytenolbgadlehpaa", sum := "f2caa23969f71815dcd0a4dff8288f36bbf8f2d9e983e928c630c747de2fc3ee", func := "terrier/terrierlaw14.SweepEach", spec := "sweepEach", unfollowed := true, recurses := true, apart := false, narrowed := true }
def SweepEachUptoSaid : Prop := sweepEachUptoRow.holds Try.pinned (OpenSpec.upto sweepEachSpec)

/-- 'terrierlaw14.SweepOnce', WHERE WHAT IT READS IS OF BULK AT MOST 1048576: true; the input reads as it did. -/
def sweepOnceUptoRow : OpenClaim := { program := "ytenolbgadlehpaa", sum := "f2caa23969f71815dcd0a4dff8288f36bbf8f2d9e983e928c630c747de2fc3ee", func := "terrier/terrierlaw14.SweepOnce", spec := "sweepOnce", unfollowed := true, recurses := true, apart := false, narrowed := true }
def SweepOnceUptoSaid : Prop := sweepOnceUptoRow.holds Try.pinned (OpenSpec.upto sweepOnceSpec)

end Rows
end Go.Proofs.Ytenolbgadlehpaa
