/-
  Contracts of errors.Is, errors.As at a number and at a fault, lines.Number, lines.Place, and what the statements' own 'told' says. Conditions: the chain of errors lies in memory, and errors.errorType is what its text lays.
-/
import Derived.Test.YthpgmlijfcfddaaGreatDoorAf
namespace Go.Proofs.YthpgmlijfcfddaaGreatDoor
open Go.RowKit Go.Extern.Stop Go.Stop Go.Extern

theorem is_nil (t : Int) (w : World) :
    Calls Tryz.prog 15 #[.nilIface, .iface 38 (.int .i64 t)] w fun e w' => e = .returned (.bool false) ∧ w' = w := by
  have hn := run_eql_iface_nil_left (P := Tryz.prog) w 38 (.int .i64 t) Tryz.underlying35
  go_enter Tryz.func15, Tryz.ntmps15
  go_wp2
  go_ret
  exact ⟨rfl, rfl⟩
theorem Ch.held {w : World} {n : Int} {k : Nat} {v : Value} (h : Ch w n k v) : ∃ T X, v = .iface T X := by cases h <;> exact ⟨_, _, rfl⟩
theorem is_any (n t : Int) (k : Nat) (v : Value) (w : World) (h : Ch w n k v) :
    Calls Tryz.prog 15 #[v, .iface 38 (.int .i64 t)] w fun e w' => e = .returned (.bool (n == t)) ∧ Below w.heap.size w w' := by
  have HI := Lib.hid (iss_any n t k v w h)
  obtain ⟨T, X, rfl⟩ := h.held
  clear h
  have hT := @run_callFunc_extern Tryz.prog 27 _ Extern.ReflectliteType.typeOf Tryz.func27 (by kernel_rfl) (by kernel_rfl) (by kernel_rfl) (by kernel_rfl)
  have hC := @run_callFunc_extern Tryz.prog 116 _ eComp Tryz.func116 (by kernel_rfl) (by kernel_rfl) (by kernel_rfl) (by kernel_rfl)
  have tT := tyN
  have cT := cComparable
  have mR := mComparable
  go_enter Tryz.func15, Tryz.ntmps15
  go_wp2_with fail
  refine (HI.out).mono ?_
  rintro e w' ⟨rfl, hb⟩
  have HB := Lib.hid hb
  clear hb
  go_wp2_with fail
  go_ret
  exact ⟨rfl, HB.out⟩

end Go.Proofs.YthpgmlijfcfddaaGreatDoor
