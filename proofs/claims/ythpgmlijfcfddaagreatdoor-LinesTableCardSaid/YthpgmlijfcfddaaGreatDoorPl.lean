/-
  Contracts of lines.Place (errors.As at a fault), and of errors.As where there is none. Conditions: as in the contracts of errors.As.
-/
import Derived.Test.YthpgmlijfcfddaaGreatDoorNum
set_option linter.unusedSimpArgs false
set_option linter.unusedVariables false
namespace Go.Proofs.YthpgmlijfcfddaaGreatDoor
open Go.RowKit Go.Extern.Stop Go.Stop Go.Extern

theorem tyS (v : Value) (w : World) : (ReflectliteType.typeOf #[.iface 146 v]).run Tryz.prog w = .ok (.iface 94 (.agg #[.pointer (some ⟨9, 146, none⟩)])) w := by kernel_rfl
theorem asgSN (w : World) : (ReflectliteType.relation "AssignableTo" ReflectliteType.assignableTo #[.agg #[.pointer (some ⟨9, 146, none⟩)], .iface 94 (.agg #[.pointer (some ⟨9, 38, none⟩)])]).run Tryz.prog w = .ok (.bool false) w := by kernel_rfl
theorem noAsS (v : Value) (xT : TypeId) (w : World) : (Instr.typeAssert (.iface 146 v) xT 114 true).run Tryz.prog w = .ok (.tuple #[.nilIface, .bool false]) w := run_typeAssert_lacksB Tryz.underlying114 (by kernel_rfl) (by kernel_rfl) v xT w
theorem noUnS (v : Value) (xT : TypeId) (w : World) : (Instr.typeAssert (.iface 146 v) xT 99 true).run Tryz.prog w = .ok (.tuple #[.nilIface, .bool false]) w := run_typeAssert_lacksB Tryz.underlying99 (by kernel_rfl) (by kernel_rfl) v xT w
theorem noUnsS (v : Value) (xT : TypeId) (w : World) : (Instr.typeAssert (.iface 146 v) xT 101 true).run Tryz.prog w = .ok (.tuple #[.nilIface, .bool false]) w := run_typeAssert_lacksB Tryz.underlying101 (by kernel_rfl) (by kernel_rfl) v xT w

/-- An error that errors.New makes. -/
def eS (b : Addr) : Value := .iface 146 (.pointer (some b))

set_option maxHeartbeats 4000000 in
theorem ass_fault (b : Nat) (old : Value) (tb vb : Nat) (w : World) (hv : w.cell? ⟨vb, 0, none⟩ = some (.pointer (some ⟨tb, 0, none⟩))) (ht : w.cell? ⟨tb, 0, none⟩ = some old) (hf : w.frozen? ⟨tb, 0, none⟩ = false) :
    Calls Tryz.prog 40 #[eF b, .iface 69 (.pointer (some ⟨tb, 0, none⟩)), .agg #[.pointer (some ⟨9, 69, none⟩), .pointer (some ⟨vb, 0, none⟩), .int .u64 150], .iface 94 (.agg #[.pointer (some ⟨9, 65, none⟩)])] w
      fun e w' => e = .returned (.bool true) ∧ w'.cell? ⟨tb, 0, none⟩ = some (.pointer (some ⟨b, 0, none⟩)) ∧ Below tb w w' := by
  have hT := @run_callFunc_extern Tryz.prog 27 _ ReflectliteType.typeOf Tryz.func27 (by kernel_rfl) (by kernel_rfl) (by kernel_rfl) (by kernel_rfl)
  have hA := @run_callFunc_extern Tryz.prog 115 _ (ReflectliteType.relation "AssignableTo" ReflectliteType.assignableTo) Tryz.func115 (by kernel_rfl) (by kernel_rfl) (by kernel_rfl) (by kernel_rfl)
  have hV := @run_callFunc_extern Tryz.prog 37 _ (fun args => ReflectliteValue.unpack (args.getD 0 (.tuple #[]))) Tryz.func37 (by kernel_rfl) (by kernel_rfl) (by kernel_rfl) (by kernel_rfl)
  have hE := @run_callFunc_extern Tryz.prog 49 _ eElem Tryz.func49 (by kernel_rfl) (by kernel_rfl) (by kernel_rfl) (by kernel_rfl)
  have hS := @run_callFunc_extern Tryz.prog 50 _ ReflectliteValue.set Tryz.func50 (by kernel_rfl) (by kernel_rfl) (by kernel_rfl) (by kernel_rfl)
  have t3 := tyF
  have m1 := mAssignableTo
  have g3 := asgFF
  have v1 := valueOfP
  have hvl := World.block_lt_of_cell? _ _ hv
  have htl := World.block_lt_of_cell? _ _ ht
  simp only at hvl htl
  have HVC := Lib.hid hv
  have HTC := Lib.hid ht
  have HTF := Lib.hid hf
  clear hv ht hf
  go_enter Tryz.func40, Tryz.ntmps40
  go_wp2_with fail
  go_loopg [0] 0 (fun _ v wr => Hid (v = eF b ∧ Below (w.heap.size + 1) (w.alloc (.cells #[.pointer (some ⟨9, 69, none⟩), .pointer (some ⟨vb, 0, none⟩), .int .u64 150] 86)) wr))
  case atStart => exact ⟨rfl, Below.refl _ _⟩
  case round =>
    obtain ⟨rfl, hb⟩ := hrel.out
    clear hrel
    have c0 : wr.cell? ⟨w.heap.size, 0, none⟩ = some (.pointer (some ⟨9, 69, none⟩)) := by rw [hb.cell (p := ⟨w.heap.size, 0, none⟩) (by simp)]; simp
    have c1 : wr.cell? ⟨w.heap.size, 1, none⟩ = some (.pointer (some ⟨vb, 0, none⟩)) := by rw [hb.cell (p := ⟨w.heap.size, 1, none⟩) (by simp)]; simp
    have c2 : wr.cell? ⟨w.heap.size, 2, none⟩ = some (.int .u64 150) := by rw [hb.cell (p := ⟨w.heap.size, 2, none⟩) (by simp)]; simp
    have hsz : w.heap.size + 1 ≤ wr.heap.size := by have := hb.size; simpa using this
    have cv : wr.cell? ⟨vb, 0, none⟩ = some (.pointer (some ⟨tb, 0, none⟩)) := by rw [hb.cell (p := ⟨vb, 0, none⟩) (by simp; omega), World.cell?_alloc_lt _ _ ⟨vb, 0, none⟩ hvl]; exact HVC.out
    have ct : wr.cell? ⟨tb, 0, none⟩ = some old := by rw [hb.cell (p := ⟨tb, 0, none⟩) (by simp; omega), World.cell?_alloc_lt _ _ ⟨tb, 0, none⟩ htl]; exact HTC.out
    have cf : wr.frozen? ⟨tb, 0, none⟩ = false := by rw [hb.frozen (p := ⟨tb, 0, none⟩) (by simp; omega), World.frozen?_alloc_old _ _ ⟨tb, 0, none⟩ (Nat.ne_of_lt htl)]; exact HTF.out
    have HB := Lib.hid hb
    clear hb
    have el := elemVF ⟨vb, 0, none⟩ ⟨tb, 0, none⟩ wr cv
    have htr : tb < wr.heap.size := by omega
    have st := setF ⟨tb, 0, none⟩ ⟨wr.heap.size, 0, none⟩ ⟨b, 0, none⟩ old (wr.alloc (.cells #[.pointer (some ⟨b, 0, none⟩)] 65)) (by simp) (by rw [World.cell?_alloc_lt _ _ ⟨tb, 0, none⟩ htr]; exact ct) (by rw [World.frozen?_alloc_old _ _ ⟨tb, 0, none⟩ (Nat.ne_of_lt htr)]; exact cf)
    have HCT := Lib.hid ct
    clear cv ct cf
    simp only [eF]
    go_wp2_with fail
    go_ret
    refine ⟨rfl, ?_, ?_⟩
    · rw [World.cell?_alloc_lt _ _ ⟨tb, 0, none⟩ (by simpa using htr), World.cell?_setCell_same' _ ⟨tb, 0, none⟩ (.pointer (some ⟨b, 0, none⟩)) (by rw [HCT.out]; rfl)]
    · exact ((((Below.refl tb w).alloc (Nat.le_of_lt htl) _).trans (HB.out.mono (by omega))).setCell (Nat.le_refl tb) _).alloc (by simp; omega) _

set_option maxHeartbeats 4000000 in
theorem ass_none (n : Int) (old : Value) (tb vb : Nat) (w : World) (hv : w.cell? ⟨vb, 0, none⟩ = some (.pointer (some ⟨tb, 0, none⟩))) (ht : w.cell? ⟨tb, 0, none⟩ = some old) (hf : w.frozen? ⟨tb, 0, none⟩ = false) :
    Calls Tryz.prog 40 #[eN n, .iface 69 (.pointer (some ⟨tb, 0, none⟩)), .agg #[.pointer (some ⟨9, 69, none⟩), .pointer (some ⟨vb, 0, none⟩), .int .u64 150], .iface 94 (.agg #[.pointer (some ⟨9, 65, none⟩)])] w
      fun e w' => e = .returned (.bool false) ∧ Below w.heap.size w w' := by
  have hT := @run_callFunc_extern Tryz.prog 27 _ ReflectliteType.typeOf Tryz.func27 (by kernel_rfl) (by kernel_rfl) (by kernel_rfl) (by kernel_rfl)
  have hA := @run_callFunc_extern Tryz.prog 115 _ (ReflectliteType.relation "AssignableTo" ReflectliteType.assignableTo) Tryz.func115 (by kernel_rfl) (by kernel_rfl) (by kernel_rfl) (by kernel_rfl)
  have hV := @run_callFunc_extern Tryz.prog 37 _ (fun args => ReflectliteValue.unpack (args.getD 0 (.tuple #[]))) Tryz.func37 (by kernel_rfl) (by kernel_rfl) (by kernel_rfl) (by kernel_rfl)
  have hE := @run_callFunc_extern Tryz.prog 49 _ eElem Tryz.func49 (by kernel_rfl) (by kernel_rfl) (by kernel_rfl) (by kernel_rfl)
  have hS := @run_callFunc_extern Tryz.prog 50 _ ReflectliteValue.set Tryz.func50 (by kernel_rfl) (by kernel_rfl) (by kernel_rfl) (by kernel_rfl)
  have t1 := tyN
  have m1 := mAssignableTo
  have g1 := asgNF
  have a1 := noAsN
  have a4 := noUnN
  have a7 := noUnsN
  have hvl := World.block_lt_of_cell? _ _ hv
  have htl := World.block_lt_of_cell? _ _ ht
  simp only at hvl htl
  have HVC := Lib.hid hv
  have HTC := Lib.hid ht
  have HTF := Lib.hid hf
  clear hv ht hf
  go_enter Tryz.func40, Tryz.ntmps40
  go_wp2_with fail
  go_loopg [0] 0 (fun _ v wr => Hid (v = eN n ∧ Below (w.heap.size + 1) (w.alloc (.cells #[.pointer (some ⟨9, 69, none⟩), .pointer (some ⟨vb, 0, none⟩), .int .u64 150] 86)) wr))
  case atStart => exact ⟨rfl, Below.refl _ _⟩
  case round =>
    obtain ⟨rfl, hb⟩ := hrel.out
    clear hrel
    have c0 : wr.cell? ⟨w.heap.size, 0, none⟩ = some (.pointer (some ⟨9, 69, none⟩)) := by rw [hb.cell (p := ⟨w.heap.size, 0, none⟩) (by simp)]; simp
    have c1 : wr.cell? ⟨w.heap.size, 1, none⟩ = some (.pointer (some ⟨vb, 0, none⟩)) := by rw [hb.cell (p := ⟨w.heap.size, 1, none⟩) (by simp)]; simp
    have c2 : wr.cell? ⟨w.heap.size, 2, none⟩ = some (.int .u64 150) := by rw [hb.cell (p := ⟨w.heap.size, 2, none⟩) (by simp)]; simp
    have hsz : w.heap.size + 1 ≤ wr.heap.size := by have := hb.size; simpa using this
    have cv : wr.cell? ⟨vb, 0, none⟩ = some (.pointer (some ⟨tb, 0, none⟩)) := by rw [hb.cell (p := ⟨vb, 0, none⟩) (by simp; omega), World.cell?_alloc_lt _ _ ⟨vb, 0, none⟩ hvl]; exact HVC.out
    have ct : wr.cell? ⟨tb, 0, none⟩ = some old := by rw [hb.cell (p := ⟨tb, 0, none⟩) (by simp; omega), World.cell?_alloc_lt _ _ ⟨tb, 0, none⟩ htl]; exact HTC.out
    have cf : wr.frozen? ⟨tb, 0, none⟩ = false := by rw [hb.frozen (p := ⟨tb, 0, none⟩) (by simp; omega), World.frozen?_alloc_old _ _ ⟨tb, 0, none⟩ (Nat.ne_of_lt htl)]; exact HTF.out
    have HB := Lib.hid hb
    clear hb
    clear cv ct cf c0 c1 c2
    simp only [eN]
    go_wp2_with fail
    go_ret
    exact ⟨rfl, ((Below.refl w.heap.size w).alloc (Nat.le_refl _) _).trans (HB.out.mono (by omega))⟩

set_option maxHeartbeats 4000000 in
theorem ass_str (b : Addr) (old : Value) (tb vb : Nat) (w : World) (hv : w.cell? ⟨vb, 0, none⟩ = some (.pointer (some ⟨tb, 0, none⟩))) (ht : w.cell? ⟨tb, 0, none⟩ = some old) (hf : w.frozen? ⟨tb, 0, none⟩ = false) :
    Calls Tryz.prog 40 #[eS b, .iface 74 (.pointer (some ⟨tb, 0, none⟩)), .agg #[.pointer (some ⟨9, 74, none⟩), .pointer (some ⟨vb, 0, none⟩), .int .u64 150], .iface 94 (.agg #[.pointer (some ⟨9, 38, none⟩)])] w
      fun e w' => e = .returned (.bool false) ∧ Below w.heap.size w w' := by
  have hT := @run_callFunc_extern Tryz.prog 27 _ ReflectliteType.typeOf Tryz.func27 (by kernel_rfl) (by kernel_rfl) (by kernel_rfl) (by kernel_rfl)
  have hA := @run_callFunc_extern Tryz.prog 115 _ (ReflectliteType.relation "AssignableTo" ReflectliteType.assignableTo) Tryz.func115 (by kernel_rfl) (by kernel_rfl) (by kernel_rfl) (by kernel_rfl)
  have hV := @run_callFunc_extern Tryz.prog 37 _ (fun args => ReflectliteValue.unpack (args.getD 0 (.tuple #[]))) Tryz.func37 (by kernel_rfl) (by kernel_rfl) (by kernel_rfl) (by kernel_rfl)
  have hE := @run_callFunc_extern Tryz.prog 49 _ eElem Tryz.func49 (by kernel_rfl) (by kernel_rfl) (by kernel_rfl) (by kernel_rfl)
  have hS := @run_callFunc_extern Tryz.prog 50 _ ReflectliteValue.set Tryz.func50 (by kernel_rfl) (by kernel_rfl) (by kernel_rfl) (by kernel_rfl)
  have t1 := tyS
  have m1 := mAssignableTo
  have g1 := asgSN
  have a1 := noAsS
  have a4 := noUnS
  have a7 := noUnsS
  have hvl := World.block_lt_of_cell? _ _ hv
  have htl := World.block_lt_of_cell? _ _ ht
  simp only at hvl htl
  have HVC := Lib.hid hv
  have HTC := Lib.hid ht
  have HTF := Lib.hid hf
  clear hv ht hf
  go_enter Tryz.func40, Tryz.ntmps40
  go_wp2_with fail
  go_loopg [0] 0 (fun _ v wr => Hid (v = eS b ∧ Below (w.heap.size + 1) (w.alloc (.cells #[.pointer (some ⟨9, 74, none⟩), .pointer (some ⟨vb, 0, none⟩), .int .u64 150] 86)) wr))
  case atStart => exact ⟨rfl, Below.refl _ _⟩
  case round =>
    obtain ⟨rfl, hb⟩ := hrel.out
    clear hrel
    have c0 : wr.cell? ⟨w.heap.size, 0, none⟩ = some (.pointer (some ⟨9, 74, none⟩)) := by rw [hb.cell (p := ⟨w.heap.size, 0, none⟩) (by simp)]; simp
    have c1 : wr.cell? ⟨w.heap.size, 1, none⟩ = some (.pointer (some ⟨vb, 0, none⟩)) := by rw [hb.cell (p := ⟨w.heap.size, 1, none⟩) (by simp)]; simp
    have c2 : wr.cell? ⟨w.heap.size, 2, none⟩ = some (.int .u64 150) := by rw [hb.cell (p := ⟨w.heap.size, 2, none⟩) (by simp)]; simp
    have hsz : w.heap.size + 1 ≤ wr.heap.size := by have := hb.size; simpa using this
    have cv : wr.cell? ⟨vb, 0, none⟩ = some (.pointer (some ⟨tb, 0, none⟩)) := by rw [hb.cell (p := ⟨vb, 0, none⟩) (by simp; omega), World.cell?_alloc_lt _ _ ⟨vb, 0, none⟩ hvl]; exact HVC.out
    have ct : wr.cell? ⟨tb, 0, none⟩ = some old := by rw [hb.cell (p := ⟨tb, 0, none⟩) (by simp; omega), World.cell?_alloc_lt _ _ ⟨tb, 0, none⟩ htl]; exact HTC.out
    have cf : wr.frozen? ⟨tb, 0, none⟩ = false := by rw [hb.frozen (p := ⟨tb, 0, none⟩) (by simp; omega), World.frozen?_alloc_old _ _ ⟨tb, 0, none⟩ (Nat.ne_of_lt htl)]; exact HTF.out
    have HB := Lib.hid hb
    clear hb
    clear cv ct cf c0 c1 c2
    simp only [eS]
    go_wp2_with fail
    go_ret
    exact ⟨rfl, ((Below.refl w.heap.size w).alloc (Nat.le_refl _) _).trans (HB.out.mono (by omega))⟩

set_option maxHeartbeats 4000000 in
theorem as_fault (b : Nat) (old : Value) (tb : Nat) (w : World) (ht : w.cell? ⟨tb, 0, none⟩ = some old) (hf : w.frozen? ⟨tb, 0, none⟩ = false) (hg : Et w) :
    Calls Tryz.prog 26 #[eF b, .iface 69 (.pointer (some ⟨tb, 0, none⟩))] w fun e w' => e = .returned (.bool true) ∧ w'.cell? ⟨tb, 0, none⟩ = some (.pointer (some ⟨b, 0, none⟩)) ∧ Below tb w w' := by
  have hV := @run_callFunc_extern Tryz.prog 37 _ (fun args => ReflectliteValue.unpack (args.getD 0 (.tuple #[]))) Tryz.func37 (by kernel_rfl) (by kernel_rfl) (by kernel_rfl) (by kernel_rfl)
  have hY := @run_callFunc_extern Tryz.prog 38 _ (ReflectliteValue.methodAny (ReflectliteValue.valueError "reflectlite.Value.Type" 0) (fun t _ _ _ => ReflectliteType.toType t)) Tryz.func38 (by kernel_rfl) (by kernel_rfl) (by kernel_rfl) (by kernel_rfl)
  have hN := @run_callFunc_extern Tryz.prog 39 _ eIsNil Tryz.func39 (by kernel_rfl) (by kernel_rfl) (by kernel_rfl) (by kernel_rfl)
  have hK := @run_callFunc_extern Tryz.prog 103 _ eKind Tryz.func103 (by kernel_rfl) (by kernel_rfl) (by kernel_rfl) (by kernel_rfl)
  have hL := @run_callFunc_extern Tryz.prog 117 _ (ReflectliteType.method ReflectliteType.elem) Tryz.func117 (by kernel_rfl) (by kernel_rfl) (by kernel_rfl) (by kernel_rfl)
  have hI := @run_callFunc_extern Tryz.prog 118 _ (ReflectliteType.relation "Implements" ReflectliteType.implements_) Tryz.func118 (by kernel_rfl) (by kernel_rfl) (by kernel_rfl) (by kernel_rfl)
  have f1 := valueOfF
  have f2 := typeF
  have f6 := kindPF
  have f7 := kindF
  have f8 := elemF
  have f9 := implF
  have f3 := mKind
  have f4 := mElem
  have f5 := mImplements
  have htl := World.block_lt_of_cell? _ _ ht
  have hgl := World.block_lt_of_cell? _ _ hg
  simp only at htl hgl
  have n8 := isNilF ⟨w.heap.size, 0, none⟩ ⟨tb, 0, none⟩ ((w.alloc (.cells #[.pointer (some ⟨tb, 0, none⟩)] 69)).alloc (.cells #[.pointer (some ⟨9, 69, none⟩), .pointer (some ⟨w.heap.size, 0, none⟩), .int .u64 150] 86)) (by rw [World.cell?_alloc_lt _ _ ⟨w.heap.size, 0, none⟩ (by simp)]; simp)
  have hg2 : ((w.alloc (.cells #[.pointer (some ⟨tb, 0, none⟩)] 69)).alloc (.cells #[.pointer (some ⟨9, 69, none⟩), .pointer (some ⟨w.heap.size, 0, none⟩), .int .u64 150] 86)).cell? ⟨0, 0, none⟩ = some (.iface 94 (.agg #[.pointer (some ⟨9, 35, none⟩)])) := by
    rw [World.cell?_alloc_lt _ _ ⟨0, 0, none⟩ (by simp), World.cell?_alloc_lt _ _ ⟨0, 0, none⟩ hgl]; exact hg
  have B2 := ((Below.refl w.heap.size w).alloc (Nat.le_refl _) (.cells #[.pointer (some ⟨tb, 0, none⟩)] 69)).alloc (by simp) (.cells #[.pointer (some ⟨9, 69, none⟩), .pointer (some ⟨w.heap.size, 0, none⟩), .int .u64 150] 86)
  have HA := Lib.hid (ass_fault b old tb w.heap.size ((w.alloc (.cells #[.pointer (some ⟨tb, 0, none⟩)] 69)).alloc (.cells #[.pointer (some ⟨9, 69, none⟩), .pointer (some ⟨w.heap.size, 0, none⟩), .int .u64 150] 86)) (by rw [World.cell?_alloc_lt _ _ ⟨w.heap.size, 0, none⟩ (by simp)]; simp) (by rw [B2.cell (p := ⟨tb, 0, none⟩) htl]; exact ht) (by rw [B2.frozen (p := ⟨tb, 0, none⟩) htl]; exact hf))
  have HB2 := Lib.hid B2
  clear ht hf hg B2
  unfold eF at *
  go_enter Tryz.func26, Tryz.ntmps26
  go_wp2_with fail
  refine (HA.out).mono ?_
  rintro e w' ⟨rfl, hc, hb⟩
  have HB := Lib.hid (And.intro hc ((HB2.out.mono (Nat.le_of_lt htl)).trans hb))
  clear hc hb
  go_wp2_with fail
  go_ret
  exact ⟨rfl, HB.out⟩

set_option maxHeartbeats 4000000 in
theorem as_none (n : Int) (old : Value) (tb : Nat) (w : World) (ht : w.cell? ⟨tb, 0, none⟩ = some old) (hf : w.frozen? ⟨tb, 0, none⟩ = false) (hg : Et w) :
    Calls Tryz.prog 26 #[eN n, .iface 69 (.pointer (some ⟨tb, 0, none⟩))] w fun e w' => e = .returned (.bool false) ∧ Below w.heap.size w w' := by
  have hV := @run_callFunc_extern Tryz.prog 37 _ (fun args => ReflectliteValue.unpack (args.getD 0 (.tuple #[]))) Tryz.func37 (by kernel_rfl) (by kernel_rfl) (by kernel_rfl) (by kernel_rfl)
  have hY := @run_callFunc_extern Tryz.prog 38 _ (ReflectliteValue.methodAny (ReflectliteValue.valueError "reflectlite.Value.Type" 0) (fun t _ _ _ => ReflectliteType.toType t)) Tryz.func38 (by kernel_rfl) (by kernel_rfl) (by kernel_rfl) (by kernel_rfl)
  have hN := @run_callFunc_extern Tryz.prog 39 _ eIsNil Tryz.func39 (by kernel_rfl) (by kernel_rfl) (by kernel_rfl) (by kernel_rfl)
  have hK := @run_callFunc_extern Tryz.prog 103 _ eKind Tryz.func103 (by kernel_rfl) (by kernel_rfl) (by kernel_rfl) (by kernel_rfl)
  have hL := @run_callFunc_extern Tryz.prog 117 _ (ReflectliteType.method ReflectliteType.elem) Tryz.func117 (by kernel_rfl) (by kernel_rfl) (by kernel_rfl) (by kernel_rfl)
  have hI := @run_callFunc_extern Tryz.prog 118 _ (ReflectliteType.relation "Implements" ReflectliteType.implements_) Tryz.func118 (by kernel_rfl) (by kernel_rfl) (by kernel_rfl) (by kernel_rfl)
  have f1 := valueOfF
  have f2 := typeF
  have f6 := kindPF
  have f7 := kindF
  have f8 := elemF
  have f9 := implF
  have f3 := mKind
  have f4 := mElem
  have f5 := mImplements
  have htl := World.block_lt_of_cell? _ _ ht
  have hgl := World.block_lt_of_cell? _ _ hg
  simp only at htl hgl
  have n8 := isNilF ⟨w.heap.size, 0, none⟩ ⟨tb, 0, none⟩ ((w.alloc (.cells #[.pointer (some ⟨tb, 0, none⟩)] 69)).alloc (.cells #[.pointer (some ⟨9, 69, none⟩), .pointer (some ⟨w.heap.size, 0, none⟩), .int .u64 150] 86)) (by rw [World.cell?_alloc_lt _ _ ⟨w.heap.size, 0, none⟩ (by simp)]; simp)
  have hg2 : ((w.alloc (.cells #[.pointer (some ⟨tb, 0, none⟩)] 69)).alloc (.cells #[.pointer (some ⟨9, 69, none⟩), .pointer (some ⟨w.heap.size, 0, none⟩), .int .u64 150] 86)).cell? ⟨0, 0, none⟩ = some (.iface 94 (.agg #[.pointer (some ⟨9, 35, none⟩)])) := by
    rw [World.cell?_alloc_lt _ _ ⟨0, 0, none⟩ (by simp), World.cell?_alloc_lt _ _ ⟨0, 0, none⟩ hgl]; exact hg
  have B2 := ((Below.refl w.heap.size w).alloc (Nat.le_refl _) (.cells #[.pointer (some ⟨tb, 0, none⟩)] 69)).alloc (by simp) (.cells #[.pointer (some ⟨9, 69, none⟩), .pointer (some ⟨w.heap.size, 0, none⟩), .int .u64 150] 86)
  have HA := Lib.hid (ass_none n old tb w.heap.size ((w.alloc (.cells #[.pointer (some ⟨tb, 0, none⟩)] 69)).alloc (.cells #[.pointer (some ⟨9, 69, none⟩), .pointer (some ⟨w.heap.size, 0, none⟩), .int .u64 150] 86)) (by rw [World.cell?_alloc_lt _ _ ⟨w.heap.size, 0, none⟩ (by simp)]; simp) (by rw [B2.cell (p := ⟨tb, 0, none⟩) htl]; exact ht) (by rw [B2.frozen (p := ⟨tb, 0, none⟩) htl]; exact hf))
  have HB2 := Lib.hid B2
  clear ht hf hg B2
  unfold eN at *
  go_enter Tryz.func26, Tryz.ntmps26
  go_wp2_with fail
  refine (HA.out).mono ?_
  rintro e w' ⟨rfl, hb⟩
  have HB := Lib.hid (HB2.out.trans (hb.mono HB2.out.size))
  clear hb
  go_wp2_with fail
  go_ret
  exact ⟨rfl, HB.out⟩

set_option maxHeartbeats 4000000 in
theorem as_str (b : Addr) (old : Value) (tb : Nat) (w : World) (ht : w.cell? ⟨tb, 0, none⟩ = some old) (hf : w.frozen? ⟨tb, 0, none⟩ = false) (hg : Et w) :
    Calls Tryz.prog 26 #[eS b, .iface 74 (.pointer (some ⟨tb, 0, none⟩))] w fun e w' => e = .returned (.bool false) ∧ Below w.heap.size w w' := by
  have hV := @run_callFunc_extern Tryz.prog 37 _ (fun args => ReflectliteValue.unpack (args.getD 0 (.tuple #[]))) Tryz.func37 (by kernel_rfl) (by kernel_rfl) (by kernel_rfl) (by kernel_rfl)
  have hY := @run_callFunc_extern Tryz.prog 38 _ (ReflectliteValue.methodAny (ReflectliteValue.valueError "reflectlite.Value.Type" 0) (fun t _ _ _ => ReflectliteType.toType t)) Tryz.func38 (by kernel_rfl) (by kernel_rfl) (by kernel_rfl) (by kernel_rfl)
  have hN := @run_callFunc_extern Tryz.prog 39 _ eIsNil Tryz.func39 (by kernel_rfl) (by kernel_rfl) (by kernel_rfl) (by kernel_rfl)
  have hK := @run_callFunc_extern Tryz.prog 103 _ eKind Tryz.func103 (by kernel_rfl) (by kernel_rfl) (by kernel_rfl) (by kernel_rfl)
  have hL := @run_callFunc_extern Tryz.prog 117 _ (ReflectliteType.method ReflectliteType.elem) Tryz.func117 (by kernel_rfl) (by kernel_rfl) (by kernel_rfl) (by kernel_rfl)
  have hI := @run_callFunc_extern Tryz.prog 118 _ (ReflectliteType.relation "Implements" ReflectliteType.implements_) Tryz.func118 (by kernel_rfl) (by kernel_rfl) (by kernel_rfl) (by kernel_rfl)
  have f1 := valueOfN
  have f2 := typeN
  have f6 := kindPN
  have f7 := kindN
  have f8 := elemN
  have f9 := implN
  have f3 := mKind
  have f4 := mElem
  have f5 := mImplements
  have htl := World.block_lt_of_cell? _ _ ht
  have hgl := World.block_lt_of_cell? _ _ hg
  simp only at htl hgl
  have n8 := isNilN ⟨w.heap.size, 0, none⟩ ⟨tb, 0, none⟩ ((w.alloc (.cells #[.pointer (some ⟨tb, 0, none⟩)] 74)).alloc (.cells #[.pointer (some ⟨9, 74, none⟩), .pointer (some ⟨w.heap.size, 0, none⟩), .int .u64 150] 86)) (by rw [World.cell?_alloc_lt _ _ ⟨w.heap.size, 0, none⟩ (by simp)]; simp)
  have hg2 : ((w.alloc (.cells #[.pointer (some ⟨tb, 0, none⟩)] 74)).alloc (.cells #[.pointer (some ⟨9, 74, none⟩), .pointer (some ⟨w.heap.size, 0, none⟩), .int .u64 150] 86)).cell? ⟨0, 0, none⟩ = some (.iface 94 (.agg #[.pointer (some ⟨9, 35, none⟩)])) := by
    rw [World.cell?_alloc_lt _ _ ⟨0, 0, none⟩ (by simp), World.cell?_alloc_lt _ _ ⟨0, 0, none⟩ hgl]; exact hg
  have B2 := ((Below.refl w.heap.size w).alloc (Nat.le_refl _) (.cells #[.pointer (some ⟨tb, 0, none⟩)] 74)).alloc (by simp) (.cells #[.pointer (some ⟨9, 74, none⟩), .pointer (some ⟨w.heap.size, 0, none⟩), .int .u64 150] 86)
  have HA := Lib.hid (ass_str b old tb w.heap.size ((w.alloc (.cells #[.pointer (some ⟨tb, 0, none⟩)] 74)).alloc (.cells #[.pointer (some ⟨9, 74, none⟩), .pointer (some ⟨w.heap.size, 0, none⟩), .int .u64 150] 86)) (by rw [World.cell?_alloc_lt _ _ ⟨w.heap.size, 0, none⟩ (by simp)]; simp) (by rw [B2.cell (p := ⟨tb, 0, none⟩) htl]; exact ht) (by rw [B2.frozen (p := ⟨tb, 0, none⟩) htl]; exact hf))
  have HB2 := Lib.hid B2
  clear ht hf hg B2
  unfold eS at *
  go_enter Tryz.func26, Tryz.ntmps26
  go_wp2_with fail
  refine (HA.out).mono ?_
  rintro e w' ⟨rfl, hb⟩
  have HB := Lib.hid (HB2.out.trans (hb.mono HB2.out.size))
  clear hb
  go_wp2_with fail
  go_ret
  exact ⟨rfl, HB.out⟩
end Go.Proofs.YthpgmlijfcfddaaGreatDoor
