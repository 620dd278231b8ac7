/-
  Contract of errors.Is, at a chain of errors that ends in an api.Errno, and such a number: whether the numbers are the same. Conditions: the chain lies in memory.
-/
import Derived.Test.YthpgmlijfcfddaaGreatDoorLib
import Derived.LaidEql
import Derived.Stop.Asserts
import Derived.RowKitTokens
import Derived.Lib.IfaceEq
import Derived.Deep.LoopGhost
namespace Go.Proofs.YthpgmlijfcfddaaGreatDoor
open Go.RowKit Go.Extern.Stop Go.Stop Go.Extern

/-- An error's number as an error. -/
def eN (n : Int) : Value := .iface 38 (.int .i64 n)
/-- The part of the line with a number. -/
def eW (p : ByteArray) (n : Int) : Value := .iface 58 (.agg #[.string p, .int .i64 n])
/-- A fault in a block. -/
def eF (b : Nat) : Value := .iface 65 (.pointer (some ⟨b, 0, none⟩))
/-- A chain of errors that ends in the number n: k links are left. -/
inductive Ch (w : World) (n : Int) : Nat → Value → Prop
  | num : Ch w n 0 (eN n)
  | wrong (p : ByteArray) : Ch w n 1 (eW p n)
  | fault (b k : Nat) (v : Value) (hc : w.cell? ⟨b, 1, none⟩ = some v) (h : Ch w n k v) : Ch w n (k + 1) (eF b)
theorem Ch.keep {w w' : World} {n : Int} {k : Nat} {v : Value} (h : Ch w n k v) (hb : Below w.heap.size w w') : Ch w' n k v := by
  induction h with
  | num => exact .num
  | wrong p => exact .wrong p
  | fault b k v hc _ ih =>
    refine .fault b k v ?_ ih
    rw [hb.cell (p := ⟨b, 1, none⟩) (World.block_lt_of_cell? _ _ hc)]; exact hc

theorem cmpN : (Tryz.prog.info? 38).map (·.comparable) = some true := by kernel_rfl
theorem tyN (v : Value) (w : World) : (Extern.ReflectliteType.typeOf #[.iface 38 v]).run Tryz.prog w = .ok (.iface 94 (.agg #[.pointer (some ⟨9, 38, none⟩)])) w := by kernel_rfl
theorem mComparable (v : Value) (w : World) : (Go.method 291 94 v "Comparable").run Tryz.prog w = .ok (116, v) w := by kernel_rfl
def eComp : Array Value → Sem Value := Extern.ReflectliteType.method fun t => do Extern.Rtype.noPackHeld "Comparable" t; pure (.bool (← typeInfo t).comparable)
theorem cComparable (w : World) : (eComp #[.agg #[.pointer (some ⟨9, 38, none⟩)]]).run Tryz.prog w = .ok (.bool true) w := by kernel_rfl
theorem noIsN (v : Value) (xT : TypeId) (w : World) : (Instr.typeAssert (.iface 38 v) xT 96 true).run Tryz.prog w = .ok (.tuple #[.nilIface, .bool false]) w := run_typeAssert_lacksB Tryz.underlying96 (by kernel_rfl) (by kernel_rfl) v xT w
theorem noIsW (v : Value) (xT : TypeId) (w : World) : (Instr.typeAssert (.iface 58 v) xT 96 true).run Tryz.prog w = .ok (.tuple #[.nilIface, .bool false]) w := run_typeAssert_lacksB Tryz.underlying96 (by kernel_rfl) (by kernel_rfl) v xT w
theorem noIsF (v : Value) (xT : TypeId) (w : World) : (Instr.typeAssert (.iface 65 v) xT 96 true).run Tryz.prog w = .ok (.tuple #[.nilIface, .bool false]) w := run_typeAssert_lacksB Tryz.underlying96 (by kernel_rfl) (by kernel_rfl) v xT w
theorem noUnN (v : Value) (xT : TypeId) (w : World) : (Instr.typeAssert (.iface 38 v) xT 99 true).run Tryz.prog w = .ok (.tuple #[.nilIface, .bool false]) w := run_typeAssert_lacksB Tryz.underlying99 (by kernel_rfl) (by kernel_rfl) v xT w
theorem hasUnW (v : Value) (xT : TypeId) (w : World) : (Instr.typeAssert (.iface 58 v) xT 99 true).run Tryz.prog w = .ok (.tuple #[.iface 58 v, .bool true]) w := run_typeAssert_hasB Tryz.underlying99 (by kernel_rfl) v xT w
theorem hasUnF (v : Value) (xT : TypeId) (w : World) : (Instr.typeAssert (.iface 65 v) xT 99 true).run Tryz.prog w = .ok (.tuple #[.iface 65 v, .bool true]) w := run_typeAssert_hasB Tryz.underlying99 (by kernel_rfl) v xT w
theorem noUnsN (v : Value) (xT : TypeId) (w : World) : (Instr.typeAssert (.iface 38 v) xT 101 true).run Tryz.prog w = .ok (.tuple #[.nilIface, .bool false]) w := run_typeAssert_lacksB Tryz.underlying101 (by kernel_rfl) (by kernel_rfl) v xT w
theorem mUnW (v : Value) (w : World) : (Go.method 291 58 v "Unwrap").run Tryz.prog w = .ok (108, v) w := by kernel_rfl
theorem mUnF (v : Value) (w : World) : (Go.method 291 65 v "Unwrap").run Tryz.prog w = .ok (110, v) w := by kernel_rfl

theorem unW (p : ByteArray) (n : Int) (w : World) :
    Calls Tryz.prog 108 #[.agg #[.string p, .int .i64 n]] w fun e w' => e = .returned (.iface 38 (.int .i64 n)) ∧ Below w.heap.size w w' := by
  go_enter Tryz.func108, Tryz.ntmps108
  go_wp2
  go_ret
  exact ⟨rfl, (Below.refl _ w).alloc (Nat.le_refl _) _⟩
theorem unF (b : Nat) (v : Value) (w : World) (hc : w.cell? ⟨b, 1, none⟩ = some v) :
    Calls Tryz.prog 110 #[.pointer (some ⟨b, 0, none⟩)] w fun e w' => e = .returned v ∧ w' = w := by
  go_enter Tryz.func110, Tryz.ntmps110
  go_wp2
  go_ret
  exact ⟨rfl, rfl⟩

set_option maxHeartbeats 2000000 in
theorem iss_any (n t : Int) (k : Nat) (v : Value) (w : World) (h : Ch w n k v) :
    Calls Tryz.prog 28 #[v, .iface 38 (.int .i64 t), .bool true] w fun e w' => e = .returned (.bool (n == t)) ∧ Below w.heap.size w w' := by
  have heq := fun W => Lib.run_eql_iface_int (P := Tryz.prog) (k := .i64) W n t Tryz.underlying35 cmpN Tryz.underlying38
  have hW := fun (x : Value) W => run_eql_iface_types (P := Tryz.prog) 58 38 x (.int .i64 t) Tryz.underlying35 (by decide) W
  have hF := fun (x : Value) W => run_eql_iface_types (P := Tryz.prog) 65 38 x (.int .i64 t) Tryz.underlying35 (by decide) W
  have a1 := noIsN
  have a2 := noIsW
  have a3 := noIsF
  have a4 := noUnN
  have a5 := hasUnW
  have a6 := hasUnF
  have a7 := noUnsN
  have a8 := mUnW
  have a9 := mUnF
  have HC := Lib.hid h
  clear h
  obtain ⟨T, hT⟩ : ∃ T, (n == t) = T := ⟨_, rfl⟩
  rw [hT] at heq
  rw [hT]
  clear hT
  go_enter Tryz.func28, Tryz.ntmps28
  go_wp2_with fail
  go_loopg [0] k (fun m v wr => Hid (Ch wr n m v ∧ Below w.heap.size w wr))
  case atStart => exact ⟨HC.out, Below.refl _ _⟩
  case round =>
    obtain ⟨hch, hb⟩ := hrel.out
    clear hrel
    have HB := Lib.hid hb
    clear hb
    cases hch with
    | num =>
      simp only [eN]
      cases T
      · go_wp2_with fail
        go_ret
        exact ⟨rfl, HB.out⟩
      · go_wp2_with fail
        go_ret
        exact ⟨rfl, HB.out⟩
    | wrong p =>
      simp only [eW]
      go_wp2_with fail
      refine (unW p n _).mono ?_
      rintro e w1 ⟨rfl, hb1⟩
      have HB1 := Lib.hid (HB.out.trans (hb1.mono HB.out.size))
      clear hb1
      go_wp2_with fail
      go_roundg 0
      case measure => omega
      case rel => exact ⟨.num, HB1.out⟩
    | fault b k' v' hc hv =>
      simp only [eF]
      have HV := Lib.hid hv
      have hnn : ∃ T X, v' = .iface T X := by cases hv <;> exact ⟨_, _, rfl⟩
      obtain ⟨T1, X1, rfl⟩ := hnn
      clear hv
      go_wp2_with fail
      refine (unF b _ _ hc).mono ?_
      rintro e w1 ⟨rfl, rfl⟩
      go_wp2_with fail
      go_roundg k'
      case measure => omega
      case rel => exact ⟨HV.out, HB.out⟩
end Go.Proofs.YthpgmlijfcfddaaGreatDoor
