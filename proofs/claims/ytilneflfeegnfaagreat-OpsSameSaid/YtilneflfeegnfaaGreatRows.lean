/-
  No cell of these rows narrows 'for every input' (looked for: loops, veiled, ifaces, maps, wideKeys, modest, calm, conditions, laid).
  DERIVED. THE GIVEN ROWS OF THIS SEAT. 8 by the template 'for every input the law returns true; each argument reads behind the call as it read before'; 0 by the template 'total and deterministic' (their statements: YtilneflfeegnfaaGreatTotals.lean).
  GIVEN WITH THE SEED: the statements are not yours to turn. If you find one false, say at which input.
  Laid BY PROGRAM, IN A SANDBOX (cutbox-rows.mjs): the forced cells as the released guide's own fill.sh prints them over the translation 085382cffb230977… (all of the seat's roots in one cut). By AI agents, Wed Nov 11 2026. No macro, syntax, notation, axiom, sorry.
-/
import Derived.Test.YtilneflfeegnfaaGreatChecked
import GoSem.Claim
import GoSem.ClaimJoined
import GoSem.ClaimMapViews
import Derived.JoinedTies
import Derived.KernelRfl
namespace Go.Proofs.YtilneflfeegnfaaGreat
/- THE CELL 'sum', in the pinned program and in every row, IS THE sha256 OF THE DUMP (.gsa) THAT YtilneflfeegnfaaGreatProg.lean LOADS. Nothing in Lean hashes anything: it is a label: what it is worth is what the hold of that sum in a sandbox is worth. -/
noncomputable def Tryz.pinned : Pinned := { name := "ytilneflfeegnfaagreat", sum := "085382cffb230977c58c07ef34cdb6ec3d83221a64e52bb3f4476eafc61fdb01", checked := Tryz.checked }
namespace Rows
def none {H : Type} : Left H := { results := [], args := [] }

/-- 'terrierlaw18.OpsDo': WHATEVER THE INPUT: true; the input reads as it did. -/
def opsDoSpec : ChangeSpec := { name := "opsDo", fn := fun _ => fun
  | [d1, d2] => { results := [.lit (.bool true)], args := [d1, d2] }
  | _ => none }
def opsDoRow : OpenClaim := { program := "ytilneflfeegnfaagreat", sum := "085382cffb230977c58c07ef34cdb6ec3d83221a64e52bb3f4476eafc61fdb01", func := "terrier/terrierlaw18.OpsDo", spec := "opsDo", unfollowed := true, recurses := true, apart := false }
def OpsDoSaid : Prop := opsDoRow.holds Tryz.pinned (OpenSpec.ofChange opsDoSpec)

/-- ITS FALSE NEIGHBOUR: 'it returns false'. Refute it at one input. -/
def opsDoWrong : ChangeSpec := { name := "opsDo", fn := fun _ => fun
  | [d1, d2] => { results := [.lit (.bool false)], args := [d1, d2] }
  | _ => none }
def OpsDoWrongFalsely : Prop := opsDoRow.holds Tryz.pinned (OpenSpec.ofChange opsDoWrong)

/-- 'terrierlaw18.OpsSame': WHATEVER THE INPUT: true; the input reads as it did. -/
def opsSameSpec : ChangeSpec := { name := "opsSame", fn := fun _ => fun
  | [d1, d2, d3] => { results := [.lit (.bool true)], args := [d1, d2, d3] }
  | _ => none }
def opsSameRow : OpenClaim := { program := "ytilneflfeegnfaagreat", sum := "085382cffb230977c58c07ef34cdb6ec3d83221a64e52bb3f4476eafc61fdb01", func := "terrier/terrierlaw18.OpsSame", spec := "opsSame", unfollowed := true, recurses := true, apart := false }
def OpsSameSaid : Prop := opsSameRow.holds Tryz.pinned (OpenSpec.ofChange opsSameSpec)

/-- ITS FALSE NEIGHBOUR: 'it returns false'. Refute it at one input. -/
def opsSameWrong : ChangeSpec := { name := "opsSame", fn := fun _ => fun
  | [d1, d2, d3] => { results := [.lit (.bool false)], args := [d1, d2, d3] }
  | _ => none }
def OpsSameWrongFalsely : Prop := opsSameRow.holds Tryz.pinned (OpenSpec.ofChange opsSameWrong)

/-- 'terrierlaw18.OpsRate': WHATEVER THE INPUT: true; the input reads as it did. -/
def opsRateSpec : ChangeSpec := { name := "opsRate", fn := fun _ => fun
  | [d1, d2] => { results := [.lit (.bool true)], args := [d1, d2] }
  | _ => none }
def opsRateRow : OpenClaim := { program := "ytilneflfeegnfaagreat", sum := "085382cffb230977c58c07ef34cdb6ec3d83221a64e52bb3f4476eafc61fdb01", func := "terrier/terrierlaw18.OpsRate", spec := "opsRate", unfollowed := true, recurses := true, apart := false }
def OpsRateSaid : Prop := opsRateRow.holds Tryz.pinned (OpenSpec.ofChange opsRateSpec)

/-- ITS FALSE NEIGHBOUR: 'it returns false'. Refute it at one input. -/
def opsRateWrong : ChangeSpec := { name := "opsRate", fn := fun _ => fun
  | [d1, d2] => { results := [.lit (.bool false)], args := [d1, d2] }
  | _ => none }
def OpsRateWrongFalsely : Prop := opsRateRow.holds Tryz.pinned (OpenSpec.ofChange opsRateWrong)

/-- 'terrierlaw18.OpsReclaim': WHATEVER THE INPUT: true; the input reads as it did. -/
def opsReclaimSpec : ChangeSpec := { name := "opsReclaim", fn := fun _ => fun
  | [d1, d2] => { results := [.lit (.bool true)], args := [d1, d2] }
  | _ => none }
def opsReclaimRow : OpenClaim := { program := "ytilneflfeegnfaagreat", sum := "085382cffb230977c58c07ef34cdb6ec3d83221a64e52bb3f4476eafc61fdb01", func := "terrier/terrierlaw18.OpsReclaim", spec := "opsReclaim", unfollowed := true, recurses := true, apart := false }
def OpsReclaimSaid : Prop := opsReclaimRow.holds Tryz.pinned (OpenSpec.ofChange opsReclaimSpec)

/-- ITS FALSE NEIGHBOUR: 'it returns false'. Refute it at one input. -/
def opsReclaimWrong : ChangeSpec := { name := "opsReclaim", fn := fun _ => fun
  | [d1, d2] => { results := [.lit (.bool false)], args := [d1, d2] }
  | _ => none }
def OpsReclaimWrongFalsely : Prop := opsReclaimRow.holds Tryz.pinned (OpenSpec.ofChange opsReclaimWrong)

/-- 'terrierlaw18.OpsLast': WHATEVER THE INPUT: true; the input reads as it did. -/
def opsLastSpec : ChangeSpec := { name := "opsLast", fn := fun _ => fun
  | [d1, d2, d3] => { results := [.lit (.bool true)], args := [d1, d2, d3] }
  | _ => none }
def opsLastRow : OpenClaim := { program := "ytilneflfeegnfaagreat", sum := "085382cffb230977c58c07ef34cdb6ec3d83221a64e52bb3f4476eafc61fdb01", func := "terrier/terrierlaw18.OpsLast", spec := "opsLast", unfollowed := true, recurses := true, apart := false }
def OpsLastSaid : Prop := opsLastRow.holds Tryz.pinned (OpenSpec.ofChange opsLastSpec)

/-- ITS FALSE NEIGHBOUR: 'it returns false'. Refute it at one input. -/
def opsLastWrong : ChangeSpec := { name := "opsLast", fn := fun _ => fun
  | [d1, d2, d3] => { results := [.lit (.bool false)], args := [d1, d2, d3] }
  | _ => none }
def OpsLastWrongFalsely : Prop := opsLastRow.holds Tryz.pinned (OpenSpec.ofChange opsLastWrong)

/-- 'terrierlaw18.OpsFresh': WHATEVER THE INPUT: true; the input reads as it did. -/
def opsFreshSpec : ChangeSpec := { name := "opsFresh", fn := fun _ => fun
  | [d1, d2, d3] => { results := [.lit (.bool true)], args := [d1, d2, d3] }
  | _ => none }
def opsFreshRow : OpenClaim := { program := "ytilneflfeegnfaagreat", sum := "085382cffb230977c58c07ef34cdb6ec3d83221a64e52bb3f4476eafc61fdb01", func := "terrier/terrierlaw18.OpsFresh", spec := "opsFresh", unfollowed := true, recurses := true, apart := false }
def OpsFreshSaid : Prop := opsFreshRow.holds Tryz.pinned (OpenSpec.ofChange opsFreshSpec)

/-- ITS FALSE NEIGHBOUR: 'it returns false'. Refute it at one input. -/
def opsFreshWrong : ChangeSpec := { name := "opsFresh", fn := fun _ => fun
  | [d1, d2, d3] => { results := [.lit (.bool false)], args := [d1, d2, d3] }
  | _ => none }
def OpsFreshWrongFalsely : Prop := opsFreshRow.holds Tryz.pinned (OpenSpec.ofChange opsFreshWrong)

/-- 'terrierlaw18.OpsTicks': WHATEVER THE INPUT: true; the input reads as it did. -/
def opsTicksSpec : ChangeSpec := { name := "opsTicks", fn := fun _ => fun
  | [d1, d2] => { results := [.lit (.bool true)], args := [d1, d2] }
  | _ => none }
def opsTicksRow : OpenClaim := { program := "ytilneflfeegnfaagreat", sum := "085382cffb230977c58c07ef34cdb6ec3d83221a64e52bb3f4476eafc61fdb01", func := "terrier/terrierlaw18.OpsTicks", spec := "opsTicks", unfollowed := true, recurses := true, apart := false }
def OpsTicksSaid : Prop := opsTicksRow.holds Tryz.pinned (OpenSpec.ofChange opsTicksSpec)

/-- ITS FALSE NEIGHBOUR: 'it returns false'. Refute it at one input. -/
def opsTicksWrong : ChangeSpec := { name := "opsTicks", fn := fun _ => fun
  | [d1, d2] => { results := [.lit (.bool false)], args := [d1, d2] }
  | _ => none }
def OpsTicksWrongFalsely : Prop := opsTicksRow.holds Tryz.pinned (OpenSpec.ofChange opsTicksWrong)

/-- 'terrierlaw18.OpsStale': WHATEVER THE INPUT: true; the input reads as it did. -/
def opsStaleSpec : ChangeSpec := { name := "opsStale", fn := fun _ => fun
  | [d1, d2, d3] => { results := [.lit (.bool true)], args := [d1, d2, d3] }
  | _ => none }
def opsStaleRow : OpenClaim := { program := "ytilneflfeegnfaagreat", sum := "085382cffb230977c58c07ef34cdb6ec3d83221a64e52bb3f4476eafc61fdb01", func := "terrier/terrierlaw18.OpsStale", spec := "opsStale", unfollowed := true, recurses := true, apart := false }
def OpsStaleSaid : Prop := opsStaleRow.holds Tryz.pinned (OpenSpec.ofChange opsStaleSpec)

/-- ITS FALSE NEIGHBOUR: 'it returns false'. Refute it at one input. -/
def opsStaleWrong : ChangeSpec := { name := "opsStale", fn := fun _ => fun
  | [d1, d2, d3] => { results := [.lit (.bool false)], args := [d1, d2, d3] }
  | _ => none }
def OpsStaleWrongFalsely : Prop := opsStaleRow.holds Tryz.pinned (OpenSpec.ofChange opsStaleWrong)

/- THE SECOND FORM. 'bulk': how many values and letters a reading holds, each counted each time it is reached (what is shared counts as often as it is met; a slice's spare places count too). A statement '..UptoSaid' is the law's where the arguments, and the package variables that the reading takes, are together of bulk at most 1048576: NARROWER than '..Said'. Prove '..Said' where nothing that the law and all that it calls make is longer than what came in: it says more and counts as full. Else prove '..UptoSaid'. A law counts once. -/
mutual
def uptoBulk {H : Type} : DataW H → Nat
  | .lit (.string bytes) => bytes.length + 1
  | .lit _ => 1
  | .nil => 1
  | .ptr d => uptoBulk d + 1
  | .slice elems spare => uptoBulkAll elems + uptoBulkAll spare + 1
  | .agg parts => uptoBulkAll parts + 1
  | .iface _ d => uptoBulk d + 1
  | .map entries => uptoBulkEntries entries + 1
  | .held _ => 1
def uptoBulkAll {H : Type} : List (DataW H) → Nat
  | [] => 0
  | d :: r => uptoBulk d + uptoBulkAll r
def uptoBulkEntries {H : Type} : List (Lit × DataW H) → Nat
  | [] => 0
  | x :: r => uptoBulkEntry x + uptoBulkEntries r
def uptoBulkEntry {H : Type} : Lit × DataW H → Nat
  | (.string bytes, d) => bytes.length + uptoBulk d + 1
  | (_, d) => uptoBulk d + 1
 end
def uptoSmall : (H : Type) → List (DataW H) → Bool := fun _ ds => decide (uptoBulkAll ds ≤ 1048576)
def OpenSpec.upto (s : _root_.Go.ChangeSpec) : _root_.Go.OpenSpec := { _root_.Go.OpenSpec.ofChange s with cond := some uptoSmall }

/-- 'terrierlaw18.OpsDo', WHERE WHAT IT READS IS OF BULK AT MOST 1048576: true; the input reads as it did. -/
def opsDoUptoRow : OpenClaim := { program := "ytilneflfeegnfaagreat", sum := "085382cffb230977c58c07ef34cdb6ec3d83221a64e52bb3f4476eafc61fdb01", func := "terrier/terrierlaw18.OpsDo", spec := "opsDo", unfollowed := true, recurses := true, apart := false, narrowed := true }
def OpsDoUptoSaid : Prop := opsDoUptoRow.holds Tryz.pinned (OpenSpec.upto opsDoSpec)

/-- 'terrierlaw18.OpsSame', WHERE WHAT IT READS IS OF BULK AT MOST 1048576: true; the input reads as it did. -/
def opsSameUptoRow : OpenClaim := { program := "ytilneflfeegnfaagreat", sum := "085382cffb230977c58c07ef34cdb6ec3d83221a64e52bb3f4476eafc61fdb01", func := "terrier/terrierlaw18.OpsSame", spec := "opsSame", unfollowed := true, recurses := true, apart := false, narrowed := true }
def OpsSameUptoSaid : Prop := opsSameUptoRow.holds Tryz.pinned (OpenSpec.upto opsSameSpec)

/-- 'terrierlaw18.OpsRate', WHERE WHAT IT READS IS OF BULK AT MOST 1048576: true; the input reads as it did. -/
def opsRateUptoRow : OpenClaim := { program := "ytilneflfeegnfaagreat", sum := "085382cffb230977c58c07ef34cdb6ec3d83221a64e52bb3f4476eafc61fdb01", func := "terrier/terrierlaw18.OpsRate", spec := "opsRate", unfollowed := true, recurses := true, apart := false, narrowed := true }
def OpsRateUptoSaid : Prop := opsRateUptoRow.holds Tryz.pinned (OpenSpec.upto opsRateSpec)

/-- 'terrierlaw18.OpsReclaim', WHERE WHAT IT READS IS OF BULK AT MOST 1048576: true; the input reads as it did. -/
def opsReclaimUptoRow : OpenClaim := { program := "ytilneflfeegnfaagreat", sum := "085382cffb230977c58c07ef34cdb6ec3d83221a64e52bb3f4476eafc61fdb01", func := "terrier/terrierlaw18.OpsReclaim", spec := "opsReclaim", unfollowed := true, recurses := true, apart := false, narrowed := true }
def OpsReclaimUptoSaid : Prop := opsReclaimUptoRow.holds Tryz.pinned (OpenSpec.upto opsReclaimSpec)

/-- 'terrierlaw18.OpsLast', WHERE WHAT IT READS IS OF BULK AT MOST 1048576: true; the input reads as it did. -/
def opsLastUptoRow : OpenClaim := { program := "ytilneflfeegnfaagreat", sum := "085382cffb230977c58c07ef34cdb6ec3d83221a64e52bb3f4476eafc61fdb01", func := "terrier/terrierlaw18.OpsLast", spec := "opsLast", unfollowed := true, recurses := true, apart := false, narrowed := true }
def OpsLastUptoSaid : Prop := opsLastUptoRow.holds Tryz.pinned (OpenSpec.upto opsLastSpec)

/-- 'terrierlaw18.OpsFresh', WHERE WHAT IT READS IS OF BULK AT MOST 1048576: true; the input reads as it did. -/
def opsFreshUptoRow : OpenClaim := { program := "ytilneflfeegnfaagreat", sum := "085382cffb230977c58c07ef34cdb6ec3d83221a64e52bb3f4476eafc61fdb01", func := "terrier/terrierlaw18.OpsFresh", spec := "opsFresh", unfollowed := true, recurses := true, apart := false, narrowed := true }
def OpsFreshUptoSaid : Prop := opsFreshUptoRow.holds Tryz.pinned (OpenSpec.upto opsFreshSpec)

/-- 'terrierlaw18.OpsTicks', WHERE WHAT IT READS IS OF BULK AT MOST 1048576: true; the input reads as it did. -/
def opsTicksUptoRow : OpenClaim := { program := "ytilneflfeegnfaagreat", sum := "085382cffb230977c58c07ef34cdb6ec3d83221a64e52bb3f4476eafc61fdb01", func := "terrier/terrierlaw18.OpsTicks", spec := "opsTicks", unfollowed := true, recurses := true, apart := false, narrowed := true }
def OpsTicksUptoSaid : Prop := opsTicksUptoRow.holds Tryz.pinned (OpenSpec.upto opsTicksSpec)

/-- 'terrierlaw18.OpsStale', WHERE WHAT IT READS IS OF BULK AT MOST 1048576: true; the input reads as it did. -/
def opsStaleUptoRow : OpenClaim := { program := "ytilneflfeegnfaagreat", sum := "085382cffb230977c58c07ef34cdb6ec3d83221a64e52bb3f4476eafc61fdb01", func := "terrier/terrierlaw18.OpsStale", spec := "opsStale", unfollowed := true, recurses := true, apart := false, narrowed := true }
def OpsStaleUptoSaid : Prop := opsStaleUptoRow.holds Tryz.pinned (OpenSpec.upto opsStaleSpec)

end Rows
end Go.Proofs.YtilneflfeegnfaaGreat
