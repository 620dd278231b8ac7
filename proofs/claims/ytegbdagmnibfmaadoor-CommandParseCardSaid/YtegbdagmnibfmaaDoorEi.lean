/-
  Chains of errors that end in an api.Errno, and what their types are asked. Conditions: the chain lies in memory.
-/
import Derived.Test.YtegbdagmnibfmaaDoorLib
import Derived.LaidEql
import Derived.Stop.Asserts
import Derived.RowKitTokens
import Derived.Lib.IfaceEq
import Derived.Deep.LoopGhost
namespace Go.Proofs.YtegbdagmnibfmaaDoor
open Go.RowKit Go.Extern.Stop Go.Stop Go.Extern

/-- An error's number as an error. -/
def eN (n : Int) : Value := .iface 46 (.int .i64 n)
/-- A number as an error about a whole command. -/
def eW (n : Int) : Value := .iface 67 (.agg #[.int .i64 n])
/-- A fault in a block. -/
def eF (b : Nat) : Value := .iface 56 (.pointer (some ⟨b, 0, none⟩))
/-- A chain of errors that ends in the number n: k links are left. -/
inductive Ch (w : World) (n : Int) : Nat → Value → Prop
  | num : Ch w n 0 (eN n)
  | whole : Ch w n 1 (eW n)
  | fault (b k : Nat) (v : Value) (hc : w.cell? ⟨b, 1, none⟩ = some v) (h : Ch w n k v) : Ch w n (k + 1) (eF b)
theorem Ch.keep {w w' : World} {n : Int} {k : Nat} {v : Value} (h : Ch w n k v) (hb : Below w.heap.size w w') : Ch w' n k v := by
  induction h with
  | num => exact .num
  | whole => exact .whole
  | fault b k v hc _ ih =>
    refine .fault b k v ?_ ih
    rw [hb.cell (p := ⟨b, 1, none⟩) (World.block_lt_of_cell? _ _ hc)]; exact hc

theorem tyN (v : Value) (w : World) : (Extern.ReflectliteType.typeOf #[.iface 46 v]).run Tryd.prog w = .ok (.iface 122 (.agg #[.pointer (some ⟨7, 46, none⟩)])) w := by kernel_rfl
theorem noUnN (v : Value) (xT : TypeId) (w : World) : (Instr.typeAssert (.iface 46 v) xT 130 true).run Tryd.prog w = .ok (.tuple #[.nilIface, .bool false]) w := run_typeAssert_lacksB Tryd.underlying130 (by kernel_rfl) (by kernel_rfl) v xT w
theorem hasUnW (v : Value) (xT : TypeId) (w : World) : (Instr.typeAssert (.iface 67 v) xT 130 true).run Tryd.prog w = .ok (.tuple #[.iface 67 v, .bool true]) w := run_typeAssert_hasB Tryd.underlying130 (by kernel_rfl) v xT w
theorem hasUnF (v : Value) (xT : TypeId) (w : World) : (Instr.typeAssert (.iface 56 v) xT 130 true).run Tryd.prog w = .ok (.tuple #[.iface 56 v, .bool true]) w := run_typeAssert_hasB Tryd.underlying130 (by kernel_rfl) v xT w
theorem noUnsN (v : Value) (xT : TypeId) (w : World) : (Instr.typeAssert (.iface 46 v) xT 132 true).run Tryd.prog w = .ok (.tuple #[.nilIface, .bool false]) w := run_typeAssert_lacksB Tryd.underlying132 (by kernel_rfl) (by kernel_rfl) v xT w
theorem mUnW (v : Value) (w : World) : (Go.method 288 67 v "Unwrap").run Tryd.prog w = .ok (106, v) w := by kernel_rfl
theorem mUnF (v : Value) (w : World) : (Go.method 288 56 v "Unwrap").run Tryd.prog w = .ok (104, v) w := by kernel_rfl

theorem unW (n : Int) (w : World) :
    Calls Tryd.prog 106 #[.agg #[.int .i64 n]] w fun e w' => e = .returned (.iface 46 (.int .i64 n)) ∧ Below w.heap.size w w' := by
  go_enter Tryd.func106, Tryd.ntmps106
  go_wp2
  go_ret
  exact ⟨rfl, (Below.refl _ w).alloc (Nat.le_refl _) _⟩
theorem unF (b : Nat) (v : Value) (w : World) (hc : w.cell? ⟨b, 1, none⟩ = some v) :
    Calls Tryd.prog 104 #[.pointer (some ⟨b, 0, none⟩)] w fun e w' => e = .returned v ∧ w' = w := by
  go_enter Tryd.func104, Tryd.ntmps104
  go_wp2
  go_ret
  exact ⟨rfl, rfl⟩

theorem Ch.held {w : World} {n : Int} {k : Nat} {v : Value} (h : Ch w n k v) : ∃ T X, v = .iface T X := by cases h <;> exact ⟨_, _, rfl⟩
end Go.Proofs.YtegbdagmnibfmaaDoor
