/-
  Contracts of errors.Is, errors.As at a number and at a fault, lines.Number, lines.Place, and what the statements' own 'told' says. Conditions: the chain of errors lies in memory, and errors.errorType is what its text lays.
-/
import Derived.Test.YthpgmlijfcfddaaDoorAf
namespace Go.Proofs.YthpgmlijfcfddaaDoor
open Go.RowKit Go.Extern.Stop Go.Stop Go.Extern

theorem is_nil (t : Int) (w : World) :
    Calls Tryd.prog 17 #[.nilIface, .iface 27 (.int .i64 t)] w fun e w' => e = .returned (.bool false) ∧ w' = w := by
  have hn := run_eql_iface_nil_left (P := Tryd.prog) w 27 (.int .i64 t) Tryd.underlying25
  go_enter Tryd.func17, Tryd.ntmps17
  go_wp2
  go_ret
  exact ⟨rfl, rfl⟩
theorem Ch.held {w : World} {n : Int} {k : Nat} {v : Value} (h : Ch w n k v) : ∃ T X, v = .iface T X := by cases h <;> exact ⟨_, _, rfl⟩
theorem is_any (n t : Int) (k : Nat) (v : Value) (w : World) (h : Ch w n k v) :
    Calls Tryd.prog 17 #[v, .iface 27 (.int .i64 t)] w fun e w' => e = .returned (.bool (n == t)) ∧ Below w.heap.size w w' := by
  have HI := Lib.hid (iss_any n t k v w h)
  obtain ⟨T, X, rfl⟩ := h.held
  clear h
  have hT := @run_callFunc_extern Tryd.prog 23 _ Extern.ReflectliteType.typeOf Tryd.func23 (by kernel_rfl) (by kernel_rfl) (by kernel_rfl) (by kernel_rfl)
  have hC := @run_callFunc_extern Tryd.prog 109 _ eComp Tryd.func109 (by kernel_rfl) (by kernel_rfl) (by kernel_rfl) (by kernel_rfl)
  have tT := tyN
  have cT := cComparable
  have mR := mComparable
  go_enter Tryd.func17, Tryd.ntmps17
  go_wp2_with fail
  refine (HI.out).mono ?_
  rintro e w' ⟨rfl, hb⟩
  have HB := Lib.hid hb
  clear hb
  go_wp2_with fail
  go_ret
  exact ⟨rfl, HB.out⟩

end Go.Proofs.YthpgmlijfcfddaaDoor
