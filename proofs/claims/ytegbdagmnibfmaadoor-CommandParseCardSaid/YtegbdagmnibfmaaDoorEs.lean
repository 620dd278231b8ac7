/-
  Contracts of errors.As at a number and at a fault, command.number and command.Where, at a chain of errors. Conditions: the chain lies in memory, and errors.errorType is what its text lays.
-/
import Derived.Test.YtegbdagmnibfmaaDoorEf
namespace Go.Proofs.YtegbdagmnibfmaaDoor
open Go.RowKit Go.Extern.Stop Go.Stop Go.Extern

theorem bcell {W w1 : World} (hb : Below W.heap.size W w1) : (∀ b o, b < W.heap.size → w1.cell? ⟨b, o, none⟩ = W.cell? ⟨b, o, none⟩) ∧ (∀ b o, b < W.heap.size → w1.frozen? ⟨b, o, none⟩ = W.frozen? ⟨b, o, none⟩) :=
  ⟨fun b o h => hb.cell (p := ⟨b, o, none⟩) h, fun b o h => hb.frozen (p := ⟨b, o, none⟩) h⟩

set_option maxHeartbeats 4000000 in
theorem ass_num (n : Int) (k : Nat) (v old : Value) (tb vb : Nat) (w : World) (h : Ch w n k v) (hv : w.cell? ⟨vb, 0, none⟩ = some (.pointer (some ⟨tb, 0, none⟩))) (ht : w.cell? ⟨tb, 0, none⟩ = some old) (hf : w.frozen? ⟨tb, 0, none⟩ = false) :
    Calls Tryd.prog 50 #[v, .iface 115 (.pointer (some ⟨tb, 0, none⟩)), .agg #[.pointer (some ⟨7, 115, none⟩), .pointer (some ⟨vb, 0, none⟩), .int .u64 150], .iface 122 (.agg #[.pointer (some ⟨7, 46, none⟩)])] w
      fun e w' => e = .returned (.bool true) ∧ w'.cell? ⟨tb, 0, none⟩ = some (.int .i64 n) ∧ Below tb w w' := by
  have hT := @run_callFunc_extern Tryd.prog 59 _ ReflectliteType.typeOf Tryd.func59 (by kernel_rfl) (by kernel_rfl) (by kernel_rfl) (by kernel_rfl)
  have hA := @run_callFunc_extern Tryd.prog 111 _ (ReflectliteType.relation "AssignableTo" ReflectliteType.assignableTo) Tryd.func111 (by kernel_rfl) (by kernel_rfl) (by kernel_rfl) (by kernel_rfl)
  have hV := @run_callFunc_extern Tryd.prog 47 _ (fun args => ReflectliteValue.unpack (args.getD 0 (.tuple #[]))) Tryd.func47 (by kernel_rfl) (by kernel_rfl) (by kernel_rfl) (by kernel_rfl)
  have hE := @run_callFunc_extern Tryd.prog 60 _ eElem Tryd.func60 (by kernel_rfl) (by kernel_rfl) (by kernel_rfl) (by kernel_rfl)
  have hS := @run_callFunc_extern Tryd.prog 61 _ ReflectliteValue.set Tryd.func61 (by kernel_rfl) (by kernel_rfl) (by kernel_rfl) (by kernel_rfl)
  have t1 := tyN
  have t2 := tyW
  have t3 := tyF
  have m1 := mAssignableTo
  have g1 := asgNN
  have g2 := asgWN
  have g3 := asgFN
  have a1 := noAsN
  have a2 := noAsW
  have a3 := noAsF
  have a5 := hasUnW
  have a6 := hasUnF
  have a8 := mUnW
  have a9 := mUnF
  have v1 := valueOfE
  have hvl := World.block_lt_of_cell? _ _ hv
  have htl := World.block_lt_of_cell? _ _ ht
  simp only at hvl htl
  have HC := Lib.hid h
  have HVC := Lib.hid hv
  have HTC := Lib.hid ht
  have HTF := Lib.hid hf
  clear h hv ht hf
  go_enter Tryd.func50, Tryd.ntmps50
  go_wp2_with fail
  go_loopg [0] k (fun m v wr => Hid (Ch wr n m v ∧ Below (w.heap.size + 1) (w.alloc (.cells #[.pointer (some ⟨7, 115, none⟩), .pointer (some ⟨vb, 0, none⟩), .int .u64 150] 106)) wr))
  case atStart => exact ⟨HC.out.keep ((Below.refl _ w).alloc (Nat.le_refl _) _), Below.refl _ _⟩
  case round =>
    obtain ⟨hch, hb⟩ := hrel.out
    clear hrel
    have c0 : wr.cell? ⟨w.heap.size, 0, none⟩ = some (.pointer (some ⟨7, 115, none⟩)) := by rw [hb.cell (p := ⟨w.heap.size, 0, none⟩) (by simp)]; simp
    have c1 : wr.cell? ⟨w.heap.size, 1, none⟩ = some (.pointer (some ⟨vb, 0, none⟩)) := by rw [hb.cell (p := ⟨w.heap.size, 1, none⟩) (by simp)]; simp
    have c2 : wr.cell? ⟨w.heap.size, 2, none⟩ = some (.int .u64 150) := by rw [hb.cell (p := ⟨w.heap.size, 2, none⟩) (by simp)]; simp
    have hsz : w.heap.size + 1 ≤ wr.heap.size := by have := hb.size; simpa using this
    have cv : wr.cell? ⟨vb, 0, none⟩ = some (.pointer (some ⟨tb, 0, none⟩)) := by rw [hb.cell (p := ⟨vb, 0, none⟩) (by simp; omega), World.cell?_alloc_lt _ _ ⟨vb, 0, none⟩ hvl]; exact HVC.out
    have ct : wr.cell? ⟨tb, 0, none⟩ = some old := by rw [hb.cell (p := ⟨tb, 0, none⟩) (by simp; omega), World.cell?_alloc_lt _ _ ⟨tb, 0, none⟩ htl]; exact HTC.out
    have cf : wr.frozen? ⟨tb, 0, none⟩ = false := by rw [hb.frozen (p := ⟨tb, 0, none⟩) (by simp; omega), World.frozen?_alloc_old _ _ ⟨tb, 0, none⟩ (Nat.ne_of_lt htl)]; exact HTF.out
    have HB := Lib.hid hb
    clear hb
    cases hch with
    | num =>
      simp only [eN]
      have el := elemVN ⟨vb, 0, none⟩ ⟨tb, 0, none⟩ wr cv
      have htr : tb < wr.heap.size := by omega
      have st := setN ⟨tb, 0, none⟩ ⟨wr.heap.size, 0, none⟩ n old (wr.alloc (.cells #[.int .i64 n] 46)) (by simp) (by rw [World.cell?_alloc_lt _ _ ⟨tb, 0, none⟩ htr]; exact ct) (by rw [World.frozen?_alloc_old _ _ ⟨tb, 0, none⟩ (Nat.ne_of_lt htr)]; exact cf)
      have HCT := Lib.hid ct
      clear cv ct cf
      go_wp2_with fail
      go_ret
      refine ⟨rfl, ?_, ?_⟩
      · rw [World.cell?_alloc_lt _ _ ⟨tb, 0, none⟩ (by simpa using htr), World.cell?_setCell_same' _ ⟨tb, 0, none⟩ (.int .i64 n) (by rw [HCT.out]; rfl)]
      · exact ((((Below.refl tb w).alloc (Nat.le_of_lt htl) _).trans (HB.out.mono (by omega))).setCell (Nat.le_refl tb) _).alloc (by simp; omega) _
    | whole =>
      simp only [eW]
      clear cv ct cf c0 c1 c2
      go_wp2_with fail
      refine (unW n _).mono ?_
      rintro e w1 ⟨rfl, hb1⟩
      have HB1 := Lib.hid (HB.out.trans (hb1.mono hsz))
      clear hb1
      go_wp2_with fail
      go_roundg 0
      case measure => omega
      case rel => exact ⟨.num, HB1.out⟩
    | fault b k' v' hc hv =>
      simp only [eF]
      have HV := Lib.hid hv
      obtain ⟨T1, X1, rfl⟩ := hv.held
      clear hv cv ct cf c0 c1 c2
      go_wp2_with fail
      refine (unF b _ _ hc).mono ?_
      rintro e w1 ⟨rfl, rfl⟩
      go_wp2_with fail
      go_roundg k'
      case measure => omega
      case rel => exact ⟨HV.out, HB.out⟩
end Go.Proofs.YtegbdagmnibfmaaDoor
