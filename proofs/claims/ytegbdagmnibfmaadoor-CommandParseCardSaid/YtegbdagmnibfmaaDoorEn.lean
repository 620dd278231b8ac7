/-
  Contracts of command.number (errors.As at a number), at a chain of errors. Conditions: the chain lies in memory, and errors.errorType is what its text lays.
-/
import Derived.Test.YtegbdagmnibfmaaDoorEs
namespace Go.Proofs.YtegbdagmnibfmaaDoor
open Go.RowKit Go.Extern.Stop Go.Stop Go.Extern

/-- errors.errorType is the handle of 'error'. -/
def Et (w : World) : Prop := w.cell? ⟨0, 0, none⟩ = some (.iface 122 (.agg #[.pointer (some ⟨7, 43, none⟩)]))
theorem Et.keep {w w' : World} (h : Et w) (hb : Below w.heap.size w w') : Et w' := by
  unfold Et
  rw [hb.cell (p := ⟨0, 0, none⟩) (World.block_lt_of_cell? _ _ h)]; exact h

set_option maxHeartbeats 4000000 in
theorem as_num (n : Int) (k : Nat) (v old : Value) (tb : Nat) (w : World) (h : Ch w n k v) (ht : w.cell? ⟨tb, 0, none⟩ = some old) (hf : w.frozen? ⟨tb, 0, none⟩ = false) (hg : Et w) :
    Calls Tryd.prog 33 #[v, .iface 115 (.pointer (some ⟨tb, 0, none⟩))] w fun e w' => e = .returned (.bool true) ∧ w'.cell? ⟨tb, 0, none⟩ = some (.int .i64 n) ∧ Below tb w w' := by
  have hV := @run_callFunc_extern Tryd.prog 47 _ (fun args => ReflectliteValue.unpack (args.getD 0 (.tuple #[]))) Tryd.func47 (by kernel_rfl) (by kernel_rfl) (by kernel_rfl) (by kernel_rfl)
  have hY := @run_callFunc_extern Tryd.prog 48 _ (ReflectliteValue.methodAny (ReflectliteValue.valueError "reflectlite.Value.Type" 0) (fun t _ _ _ => ReflectliteType.toType t)) Tryd.func48 (by kernel_rfl) (by kernel_rfl) (by kernel_rfl) (by kernel_rfl)
  have hN := @run_callFunc_extern Tryd.prog 49 _ eIsNil Tryd.func49 (by kernel_rfl) (by kernel_rfl) (by kernel_rfl) (by kernel_rfl)
  have hK := @run_callFunc_extern Tryd.prog 99 _ eKind Tryd.func99 (by kernel_rfl) (by kernel_rfl) (by kernel_rfl) (by kernel_rfl)
  have hL := @run_callFunc_extern Tryd.prog 113 _ (ReflectliteType.method ReflectliteType.elem) Tryd.func113 (by kernel_rfl) (by kernel_rfl) (by kernel_rfl) (by kernel_rfl)
  have hI := @run_callFunc_extern Tryd.prog 114 _ (ReflectliteType.relation "Implements" ReflectliteType.implements_) Tryd.func114 (by kernel_rfl) (by kernel_rfl) (by kernel_rfl) (by kernel_rfl)
  have f1 := valueOfN
  have f2 := typeN
  have f3 := mKind
  have f4 := mElem
  have f5 := mImplements
  have f6 := kindPN
  have f7 := kindN
  have f8 := elemN
  have f9 := implN
  have htl := World.block_lt_of_cell? _ _ ht
  have hgl := World.block_lt_of_cell? _ _ hg
  simp only at htl hgl
  have n8 := isNilN ⟨w.heap.size, 0, none⟩ ⟨tb, 0, none⟩ ((w.alloc (.cells #[.pointer (some ⟨tb, 0, none⟩)] 115)).alloc (.cells #[.pointer (some ⟨7, 115, none⟩), .pointer (some ⟨w.heap.size, 0, none⟩), .int .u64 150] 106)) (by rw [World.cell?_alloc_lt _ _ ⟨w.heap.size, 0, none⟩ (by simp)]; simp)
  have hg2 : ((w.alloc (.cells #[.pointer (some ⟨tb, 0, none⟩)] 115)).alloc (.cells #[.pointer (some ⟨7, 115, none⟩), .pointer (some ⟨w.heap.size, 0, none⟩), .int .u64 150] 106)).cell? ⟨0, 0, none⟩ = some (.iface 122 (.agg #[.pointer (some ⟨7, 43, none⟩)])) := by
    rw [World.cell?_alloc_lt _ _ ⟨0, 0, none⟩ (by simp), World.cell?_alloc_lt _ _ ⟨0, 0, none⟩ hgl]; exact hg
  have B2 := ((Below.refl w.heap.size w).alloc (Nat.le_refl _) (.cells #[.pointer (some ⟨tb, 0, none⟩)] 115)).alloc (by simp) (.cells #[.pointer (some ⟨7, 115, none⟩), .pointer (some ⟨w.heap.size, 0, none⟩), .int .u64 150] 106)
  have HA := Lib.hid (ass_num n k v old tb w.heap.size _ (h.keep B2) (by rw [World.cell?_alloc_lt _ _ ⟨w.heap.size, 0, none⟩ (by simp)]; simp) (by rw [B2.cell (p := ⟨tb, 0, none⟩) htl]; exact ht) (by rw [B2.frozen (p := ⟨tb, 0, none⟩) htl]; exact hf))
  have HB2 := Lib.hid B2
  obtain ⟨T1, X1, rfl⟩ := h.held
  clear h ht hf hg B2
  go_enter Tryd.func33, Tryd.ntmps33
  go_wp2_with fail
  refine (HA.out).mono ?_
  rintro e w' ⟨rfl, hc, hb⟩
  have HB := Lib.hid (And.intro hc ((HB2.out.mono (Nat.le_of_lt htl)).trans hb))
  clear hc hb
  go_wp2_with fail
  go_ret
  exact ⟨rfl, HB.out⟩

/-- command.number of nil. -/
theorem number_nil (w : World) : Calls Tryd.prog 34 #[.nilIface] w fun e w' => e = .returned (.int .i64 0) ∧ Below w.heap.size w w' := by
  go_enter Tryd.func34, Tryd.ntmps34
  go_wp2_with fail
  refine (as_nil _ _).mono ?_
  rintro e w' ⟨rfl, rfl⟩
  go_wp2_with fail
  go_ret
  exact ⟨rfl, (Below.refl _ w).alloc (Nat.le_refl _) _⟩
theorem number_any (n : Int) (k : Nat) (v : Value) (w : World) (h : Ch w n k v) (hg : Et w) :
    Calls Tryd.prog 34 #[v] w fun e w' => e = .returned (.int .i64 n) ∧ Below w.heap.size w w' := by
  have B1 := (Below.refl w.heap.size w).alloc (Nat.le_refl _) (.cells #[.int .i64 0] 46)
  have HA := Lib.hid (as_num n k v (.int .i64 0) w.heap.size _ (h.keep B1) (by simp) (by simp) (hg.keep B1))
  have HB1 := Lib.hid B1
  obtain ⟨T1, X1, rfl⟩ := h.held
  clear h hg B1
  go_enter Tryd.func34, Tryd.ntmps34
  go_wp2_with fail
  refine (HA.out).mono ?_
  rintro e w' ⟨rfl, hc, hb⟩
  have HB := Lib.hid (HB1.out.trans hb)
  clear hb
  go_wp2_with fail
  go_ret
  exact ⟨rfl, HB.out⟩

end Go.Proofs.YtegbdagmnibfmaaDoor
