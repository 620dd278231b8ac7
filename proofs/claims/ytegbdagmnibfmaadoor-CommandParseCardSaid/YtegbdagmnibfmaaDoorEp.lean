/-
  Contracts of errors.As at a fault: where there is one at the head, and where there is none. Conditions: as in the contracts of errors.As.
-/
import Derived.Test.YtegbdagmnibfmaaDoorEn
set_option linter.unusedSimpArgs false
set_option linter.unusedVariables false
namespace Go.Proofs.YtegbdagmnibfmaaDoor
open Go.RowKit Go.Extern.Stop Go.Stop Go.Extern

set_option maxHeartbeats 4000000 in
theorem ass_fault (b : Nat) (old : Value) (tb vb : Nat) (w : World) (hv : w.cell? ⟨vb, 0, none⟩ = some (.pointer (some ⟨tb, 0, none⟩))) (ht : w.cell? ⟨tb, 0, none⟩ = some old) (hf : w.frozen? ⟨tb, 0, none⟩ = false) :
    Calls Tryd.prog 50 #[eF b, .iface 85 (.pointer (some ⟨tb, 0, none⟩)), .agg #[.pointer (some ⟨7, 85, none⟩), .pointer (some ⟨vb, 0, none⟩), .int .u64 150], .iface 122 (.agg #[.pointer (some ⟨7, 56, none⟩)])] w
      fun e w' => e = .returned (.bool true) ∧ w'.cell? ⟨tb, 0, none⟩ = some (.pointer (some ⟨b, 0, none⟩)) ∧ Below tb w w' := by
  have hT := @run_callFunc_extern Tryd.prog 59 _ ReflectliteType.typeOf Tryd.func59 (by kernel_rfl) (by kernel_rfl) (by kernel_rfl) (by kernel_rfl)
  have hA := @run_callFunc_extern Tryd.prog 111 _ (ReflectliteType.relation "AssignableTo" ReflectliteType.assignableTo) Tryd.func111 (by kernel_rfl) (by kernel_rfl) (by kernel_rfl) (by kernel_rfl)
  have hV := @run_callFunc_extern Tryd.prog 47 _ (fun args => ReflectliteValue.unpack (args.getD 0 (.tuple #[]))) Tryd.func47 (by kernel_rfl) (by kernel_rfl) (by kernel_rfl) (by kernel_rfl)
  have hE := @run_callFunc_extern Tryd.prog 60 _ eElem Tryd.func60 (by kernel_rfl) (by kernel_rfl) (by kernel_rfl) (by kernel_rfl)
  have hS := @run_callFunc_extern Tryd.prog 61 _ ReflectliteValue.set Tryd.func61 (by kernel_rfl) (by kernel_rfl) (by kernel_rfl) (by kernel_rfl)
  have t3 := tyF
  have m1 := mAssignableTo
  have g3 := asgFF
  have v1 := valueOfP
  have hvl := World.block_lt_of_cell? _ _ hv
  have htl := World.block_lt_of_cell? _ _ ht
  simp only at hvl htl
  have HVC := Lib.hid hv
  have HTC := Lib.hid ht
  have HTF := Lib.hid hf
  clear hv ht hf
  go_enter Tryd.func50, Tryd.ntmps50
  go_wp2_with fail
  go_loopg [0] 0 (fun _ v wr => Hid (v = eF b ∧ Below (w.heap.size + 1) (w.alloc (.cells #[.pointer (some ⟨7, 85, none⟩), .pointer (some ⟨vb, 0, none⟩), .int .u64 150] 106)) wr))
  case atStart => exact ⟨rfl, Below.refl _ _⟩
  case round =>
    obtain ⟨rfl, hb⟩ := hrel.out
    clear hrel
    have c0 : wr.cell? ⟨w.heap.size, 0, none⟩ = some (.pointer (some ⟨7, 85, none⟩)) := by rw [hb.cell (p := ⟨w.heap.size, 0, none⟩) (by simp)]; simp
    have c1 : wr.cell? ⟨w.heap.size, 1, none⟩ = some (.pointer (some ⟨vb, 0, none⟩)) := by rw [hb.cell (p := ⟨w.heap.size, 1, none⟩) (by simp)]; simp
    have c2 : wr.cell? ⟨w.heap.size, 2, none⟩ = some (.int .u64 150) := by rw [hb.cell (p := ⟨w.heap.size, 2, none⟩) (by simp)]; simp
    have hsz : w.heap.size + 1 ≤ wr.heap.size := by have := hb.size; simpa using this
    have cv : wr.cell? ⟨vb, 0, none⟩ = some (.pointer (some ⟨tb, 0, none⟩)) := by rw [hb.cell (p := ⟨vb, 0, none⟩) (by simp; omega), World.cell?_alloc_lt _ _ ⟨vb, 0, none⟩ hvl]; exact HVC.out
    have ct : wr.cell? ⟨tb, 0, none⟩ = some old := by rw [hb.cell (p := ⟨tb, 0, none⟩) (by simp; omega), World.cell?_alloc_lt _ _ ⟨tb, 0, none⟩ htl]; exact HTC.out
    have cf : wr.frozen? ⟨tb, 0, none⟩ = false := by rw [hb.frozen (p := ⟨tb, 0, none⟩) (by simp; omega), World.frozen?_alloc_old _ _ ⟨tb, 0, none⟩ (Nat.ne_of_lt htl)]; exact HTF.out
    have HB := Lib.hid hb
    clear hb
    have el := elemVF ⟨vb, 0, none⟩ ⟨tb, 0, none⟩ wr cv
    have htr : tb < wr.heap.size := by omega
    have st := setF ⟨tb, 0, none⟩ ⟨wr.heap.size, 0, none⟩ ⟨b, 0, none⟩ old (wr.alloc (.cells #[.pointer (some ⟨b, 0, none⟩)] 56)) (by simp) (by rw [World.cell?_alloc_lt _ _ ⟨tb, 0, none⟩ htr]; exact ct) (by rw [World.frozen?_alloc_old _ _ ⟨tb, 0, none⟩ (Nat.ne_of_lt htr)]; exact cf)
    have HCT := Lib.hid ct
    clear cv ct cf
    simp only [eF]
    go_wp2_with fail
    go_ret
    refine ⟨rfl, ?_, ?_⟩
    · rw [World.cell?_alloc_lt _ _ ⟨tb, 0, none⟩ (by simpa using htr), World.cell?_setCell_same' _ ⟨tb, 0, none⟩ (.pointer (some ⟨b, 0, none⟩)) (by rw [HCT.out]; rfl)]
    · exact ((((Below.refl tb w).alloc (Nat.le_of_lt htl) _).trans (HB.out.mono (by omega))).setCell (Nat.le_refl tb) _).alloc (by simp; omega) _

/-- A chain of errors that ends in the number n, without a fault. -/
inductive Cw (n : Int) : Nat → Value → Prop
  | num : Cw n 0 (eN n)
  | whole : Cw n 1 (eW n)
theorem Cw.ch {n : Int} {k : Nat} {v : Value} (w : World) (h : Cw n k v) : Ch w n k v := by
  cases h
  · exact .num
  · exact .whole
theorem Cw.held {n : Int} {k : Nat} {v : Value} (h : Cw n k v) : ∃ T X, v = .iface T X := by cases h <;> exact ⟨_, _, rfl⟩

set_option maxHeartbeats 4000000 in
theorem ass_none (n : Int) (k : Nat) (v old : Value) (tb vb : Nat) (w : World) (h : Cw n k v) (hv : w.cell? ⟨vb, 0, none⟩ = some (.pointer (some ⟨tb, 0, none⟩))) (ht : w.cell? ⟨tb, 0, none⟩ = some old) (hf : w.frozen? ⟨tb, 0, none⟩ = false) :
    Calls Tryd.prog 50 #[v, .iface 85 (.pointer (some ⟨tb, 0, none⟩)), .agg #[.pointer (some ⟨7, 85, none⟩), .pointer (some ⟨vb, 0, none⟩), .int .u64 150], .iface 122 (.agg #[.pointer (some ⟨7, 56, none⟩)])] w
      fun e w' => e = .returned (.bool false) ∧ Below w.heap.size w w' := by
  have hT := @run_callFunc_extern Tryd.prog 59 _ ReflectliteType.typeOf Tryd.func59 (by kernel_rfl) (by kernel_rfl) (by kernel_rfl) (by kernel_rfl)
  have hA := @run_callFunc_extern Tryd.prog 111 _ (ReflectliteType.relation "AssignableTo" ReflectliteType.assignableTo) Tryd.func111 (by kernel_rfl) (by kernel_rfl) (by kernel_rfl) (by kernel_rfl)
  have hV := @run_callFunc_extern Tryd.prog 47 _ (fun args => ReflectliteValue.unpack (args.getD 0 (.tuple #[]))) Tryd.func47 (by kernel_rfl) (by kernel_rfl) (by kernel_rfl) (by kernel_rfl)
  have hE := @run_callFunc_extern Tryd.prog 60 _ eElem Tryd.func60 (by kernel_rfl) (by kernel_rfl) (by kernel_rfl) (by kernel_rfl)
  have hS := @run_callFunc_extern Tryd.prog 61 _ ReflectliteValue.set Tryd.func61 (by kernel_rfl) (by kernel_rfl) (by kernel_rfl) (by kernel_rfl)
  have t1 := tyN
  have t2 := tyW
  have m1 := mAssignableTo
  have g1 := asgNF
  have g2 := asgWF
  have a1 := noAsN
  have a2 := noAsW
  have a5 := hasUnW
  have a8 := mUnW
  have a4 := noUnN
  have a7 := noUnsN
  have hvl := World.block_lt_of_cell? _ _ hv
  have htl := World.block_lt_of_cell? _ _ ht
  simp only at hvl htl
  have HVC := Lib.hid hv
  have HTC := Lib.hid ht
  have HTF := Lib.hid hf
  clear hv ht hf
  have HC := Lib.hid h
  clear h
  go_enter Tryd.func50, Tryd.ntmps50
  go_wp2_with fail
  go_loopg [0] k (fun m v wr => Hid (Cw n m v ∧ Below (w.heap.size + 1) (w.alloc (.cells #[.pointer (some ⟨7, 85, none⟩), .pointer (some ⟨vb, 0, none⟩), .int .u64 150] 106)) wr))
  case atStart => exact ⟨HC.out, Below.refl _ _⟩
  case round =>
    obtain ⟨hch, hb⟩ := hrel.out
    clear hrel
    have c0 : wr.cell? ⟨w.heap.size, 0, none⟩ = some (.pointer (some ⟨7, 85, none⟩)) := by rw [hb.cell (p := ⟨w.heap.size, 0, none⟩) (by simp)]; simp
    have c1 : wr.cell? ⟨w.heap.size, 1, none⟩ = some (.pointer (some ⟨vb, 0, none⟩)) := by rw [hb.cell (p := ⟨w.heap.size, 1, none⟩) (by simp)]; simp
    have c2 : wr.cell? ⟨w.heap.size, 2, none⟩ = some (.int .u64 150) := by rw [hb.cell (p := ⟨w.heap.size, 2, none⟩) (by simp)]; simp
    have hsz : w.heap.size + 1 ≤ wr.heap.size := by have := hb.size; simpa using this
    have cv : wr.cell? ⟨vb, 0, none⟩ = some (.pointer (some ⟨tb, 0, none⟩)) := by rw [hb.cell (p := ⟨vb, 0, none⟩) (by simp; omega), World.cell?_alloc_lt _ _ ⟨vb, 0, none⟩ hvl]; exact HVC.out
    have ct : wr.cell? ⟨tb, 0, none⟩ = some old := by rw [hb.cell (p := ⟨tb, 0, none⟩) (by simp; omega), World.cell?_alloc_lt _ _ ⟨tb, 0, none⟩ htl]; exact HTC.out
    have cf : wr.frozen? ⟨tb, 0, none⟩ = false := by rw [hb.frozen (p := ⟨tb, 0, none⟩) (by simp; omega), World.frozen?_alloc_old _ _ ⟨tb, 0, none⟩ (Nat.ne_of_lt htl)]; exact HTF.out
    have HB := Lib.hid hb
    clear hb
    clear cv ct cf c0 c1 c2
    cases hch with
    | num =>
      simp only [eN]
      go_wp2_with fail
      go_ret
      exact ⟨rfl, ((Below.refl w.heap.size w).alloc (Nat.le_refl _) _).trans (HB.out.mono (by omega))⟩
    | whole =>
      simp only [eW]
      go_wp2_with fail
      refine (unW n _).mono ?_
      rintro e w1 ⟨rfl, hb1⟩
      have HB1 := Lib.hid (HB.out.trans (hb1.mono hsz))
      clear hb1
      go_wp2_with fail
      go_roundg 0
      case measure => omega
      case rel => exact ⟨.num, HB1.out⟩

set_option maxHeartbeats 4000000 in
theorem as_fault (b : Nat) (old : Value) (tb : Nat) (w : World) (ht : w.cell? ⟨tb, 0, none⟩ = some old) (hf : w.frozen? ⟨tb, 0, none⟩ = false) (hg : Et w) :
    Calls Tryd.prog 33 #[eF b, .iface 85 (.pointer (some ⟨tb, 0, none⟩))] w fun e w' => e = .returned (.bool true) ∧ w'.cell? ⟨tb, 0, none⟩ = some (.pointer (some ⟨b, 0, none⟩)) ∧ Below tb w w' := by
  have hV := @run_callFunc_extern Tryd.prog 47 _ (fun args => ReflectliteValue.unpack (args.getD 0 (.tuple #[]))) Tryd.func47 (by kernel_rfl) (by kernel_rfl) (by kernel_rfl) (by kernel_rfl)
  have hY := @run_callFunc_extern Tryd.prog 48 _ (ReflectliteValue.methodAny (ReflectliteValue.valueError "reflectlite.Value.Type" 0) (fun t _ _ _ => ReflectliteType.toType t)) Tryd.func48 (by kernel_rfl) (by kernel_rfl) (by kernel_rfl) (by kernel_rfl)
  have hN := @run_callFunc_extern Tryd.prog 49 _ eIsNil Tryd.func49 (by kernel_rfl) (by kernel_rfl) (by kernel_rfl) (by kernel_rfl)
  have hK := @run_callFunc_extern Tryd.prog 99 _ eKind Tryd.func99 (by kernel_rfl) (by kernel_rfl) (by kernel_rfl) (by kernel_rfl)
  have hL := @run_callFunc_extern Tryd.prog 113 _ (ReflectliteType.method ReflectliteType.elem) Tryd.func113 (by kernel_rfl) (by kernel_rfl) (by kernel_rfl) (by kernel_rfl)
  have hI := @run_callFunc_extern Tryd.prog 114 _ (ReflectliteType.relation "Implements" ReflectliteType.implements_) Tryd.func114 (by kernel_rfl) (by kernel_rfl) (by kernel_rfl) (by kernel_rfl)
  have f1 := valueOfF
  have f2 := typeF
  have f6 := kindPF
  have f7 := kindF
  have f8 := elemF
  have f9 := implF
  have f3 := mKind
  have f4 := mElem
  have f5 := mImplements
  have htl := World.block_lt_of_cell? _ _ ht
  have hgl := World.block_lt_of_cell? _ _ hg
  simp only at htl hgl
  have n8 := isNilF ⟨w.heap.size, 0, none⟩ ⟨tb, 0, none⟩ ((w.alloc (.cells #[.pointer (some ⟨tb, 0, none⟩)] 85)).alloc (.cells #[.pointer (some ⟨7, 85, none⟩), .pointer (some ⟨w.heap.size, 0, none⟩), .int .u64 150] 106)) (by rw [World.cell?_alloc_lt _ _ ⟨w.heap.size, 0, none⟩ (by simp)]; simp)
  have hg2 : ((w.alloc (.cells #[.pointer (some ⟨tb, 0, none⟩)] 85)).alloc (.cells #[.pointer (some ⟨7, 85, none⟩), .pointer (some ⟨w.heap.size, 0, none⟩), .int .u64 150] 106)).cell? ⟨0, 0, none⟩ = some (.iface 122 (.agg #[.pointer (some ⟨7, 43, none⟩)])) := by
    rw [World.cell?_alloc_lt _ _ ⟨0, 0, none⟩ (by simp), World.cell?_alloc_lt _ _ ⟨0, 0, none⟩ hgl]; exact hg
  have B2 := ((Below.refl w.heap.size w).alloc (Nat.le_refl _) (.cells #[.pointer (some ⟨tb, 0, none⟩)] 85)).alloc (by simp) (.cells #[.pointer (some ⟨7, 85, none⟩), .pointer (some ⟨w.heap.size, 0, none⟩), .int .u64 150] 106)
  have HA := Lib.hid (ass_fault b old tb w.heap.size ((w.alloc (.cells #[.pointer (some ⟨tb, 0, none⟩)] 85)).alloc (.cells #[.pointer (some ⟨7, 85, none⟩), .pointer (some ⟨w.heap.size, 0, none⟩), .int .u64 150] 106)) (by rw [World.cell?_alloc_lt _ _ ⟨w.heap.size, 0, none⟩ (by simp)]; simp) (by rw [B2.cell (p := ⟨tb, 0, none⟩) htl]; exact ht) (by rw [B2.frozen (p := ⟨tb, 0, none⟩) htl]; exact hf))
  have HB2 := Lib.hid B2
  clear ht hf hg B2
  unfold eF at *
  go_enter Tryd.func33, Tryd.ntmps33
  go_wp2_with fail
  refine (HA.out).mono ?_
  rintro e w' ⟨rfl, hc, hb⟩
  have HB := Lib.hid (And.intro hc ((HB2.out.mono (Nat.le_of_lt htl)).trans hb))
  clear hc hb
  go_wp2_with fail
  go_ret
  exact ⟨rfl, HB.out⟩

set_option maxHeartbeats 4000000 in
theorem as_none (n : Int) (k : Nat) (v old : Value) (tb : Nat) (w : World) (h : Cw n k v) (ht : w.cell? ⟨tb, 0, none⟩ = some old) (hf : w.frozen? ⟨tb, 0, none⟩ = false) (hg : Et w) :
    Calls Tryd.prog 33 #[v, .iface 85 (.pointer (some ⟨tb, 0, none⟩))] w fun e w' => e = .returned (.bool false) ∧ Below w.heap.size w w' := by
  have hV := @run_callFunc_extern Tryd.prog 47 _ (fun args => ReflectliteValue.unpack (args.getD 0 (.tuple #[]))) Tryd.func47 (by kernel_rfl) (by kernel_rfl) (by kernel_rfl) (by kernel_rfl)
  have hY := @run_callFunc_extern Tryd.prog 48 _ (ReflectliteValue.methodAny (ReflectliteValue.valueError "reflectlite.Value.Type" 0) (fun t _ _ _ => ReflectliteType.toType t)) Tryd.func48 (by kernel_rfl) (by kernel_rfl) (by kernel_rfl) (by kernel_rfl)
  have hN := @run_callFunc_extern Tryd.prog 49 _ eIsNil Tryd.func49 (by kernel_rfl) (by kernel_rfl) (by kernel_rfl) (by kernel_rfl)
  have hK := @run_callFunc_extern Tryd.prog 99 _ eKind Tryd.func99 (by kernel_rfl) (by kernel_rfl) (by kernel_rfl) (by kernel_rfl)
  have hL := @run_callFunc_extern Tryd.prog 113 _ (ReflectliteType.method ReflectliteType.elem) Tryd.func113 (by kernel_rfl) (by kernel_rfl) (by kernel_rfl) (by kernel_rfl)
  have hI := @run_callFunc_extern Tryd.prog 114 _ (ReflectliteType.relation "Implements" ReflectliteType.implements_) Tryd.func114 (by kernel_rfl) (by kernel_rfl) (by kernel_rfl) (by kernel_rfl)
  have f1 := valueOfF
  have f2 := typeF
  have f6 := kindPF
  have f7 := kindF
  have f8 := elemF
  have f9 := implF
  have f3 := mKind
  have f4 := mElem
  have f5 := mImplements
  have htl := World.block_lt_of_cell? _ _ ht
  have hgl := World.block_lt_of_cell? _ _ hg
  simp only at htl hgl
  have n8 := isNilF ⟨w.heap.size, 0, none⟩ ⟨tb, 0, none⟩ ((w.alloc (.cells #[.pointer (some ⟨tb, 0, none⟩)] 85)).alloc (.cells #[.pointer (some ⟨7, 85, none⟩), .pointer (some ⟨w.heap.size, 0, none⟩), .int .u64 150] 106)) (by rw [World.cell?_alloc_lt _ _ ⟨w.heap.size, 0, none⟩ (by simp)]; simp)
  have hg2 : ((w.alloc (.cells #[.pointer (some ⟨tb, 0, none⟩)] 85)).alloc (.cells #[.pointer (some ⟨7, 85, none⟩), .pointer (some ⟨w.heap.size, 0, none⟩), .int .u64 150] 106)).cell? ⟨0, 0, none⟩ = some (.iface 122 (.agg #[.pointer (some ⟨7, 43, none⟩)])) := by
    rw [World.cell?_alloc_lt _ _ ⟨0, 0, none⟩ (by simp), World.cell?_alloc_lt _ _ ⟨0, 0, none⟩ hgl]; exact hg
  have B2 := ((Below.refl w.heap.size w).alloc (Nat.le_refl _) (.cells #[.pointer (some ⟨tb, 0, none⟩)] 85)).alloc (by simp) (.cells #[.pointer (some ⟨7, 85, none⟩), .pointer (some ⟨w.heap.size, 0, none⟩), .int .u64 150] 106)
  have HA := Lib.hid (ass_none n k v old tb w.heap.size ((w.alloc (.cells #[.pointer (some ⟨tb, 0, none⟩)] 85)).alloc (.cells #[.pointer (some ⟨7, 85, none⟩), .pointer (some ⟨w.heap.size, 0, none⟩), .int .u64 150] 106)) h (by rw [World.cell?_alloc_lt _ _ ⟨w.heap.size, 0, none⟩ (by simp)]; simp) (by rw [B2.cell (p := ⟨tb, 0, none⟩) htl]; exact ht) (by rw [B2.frozen (p := ⟨tb, 0, none⟩) htl]; exact hf))
  have HB2 := Lib.hid B2
  clear ht hf hg B2
  obtain ⟨T1, X1, rfl⟩ := h.held
  clear h
  go_enter Tryd.func33, Tryd.ntmps33
  go_wp2_with fail
  refine (HA.out).mono ?_
  rintro e w' ⟨rfl, hb⟩
  have HB := Lib.hid (HB2.out.trans (hb.mono HB2.out.size))
  clear hb
  go_wp2_with fail
  go_ret
  exact ⟨rfl, HB.out⟩

end Go.Proofs.YtegbdagmnibfmaaDoor
