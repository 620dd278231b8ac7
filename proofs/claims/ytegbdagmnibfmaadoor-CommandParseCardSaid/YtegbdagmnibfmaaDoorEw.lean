/-
  Contract of command.Where at each chain of errors: a fault at the head, none, nil. Conditions: as in the contracts of errors.As.
-/
import Derived.Test.YtegbdagmnibfmaaDoorEp
import Derived.WalkKit
import Derived.OwnWalk
import Derived.BigQuiet
import Derived.Deep.QuietTactic
import Derived.Lib.QuietBelow
set_option linter.unusedSimpArgs false
set_option linter.unusedVariables false
namespace Go.Proofs.YtegbdagmnibfmaaDoor
open Go.RowKit Go.Extern.Stop Go.Stop Go.Extern

theorem where_nil (w : World) : Calls Tryd.prog 12 #[.nilIface] w fun e w' => e = .returned (.tuple #[.int .i64 0, .int .i64 0, .bool false]) ∧ Below w.heap.size w w' := by
  go_enter Tryd.func12, Tryd.ntmps12
  go_wp2_with fail
  refine (as_nil _ _).mono ?_
  rintro e w' ⟨rfl, rfl⟩
  go_wp2_with fail
  refine (number_nil _).mono ?_
  rintro e w2 ⟨rfl, hb⟩
  have HB := Lib.hid (((Below.refl w.heap.size w).alloc (Nat.le_refl _) (.cells #[.pointer none] 56)).trans (hb.mono (by simp)))
  clear hb
  go_wp2_with fail
  go_ret3
  exact ⟨rfl, HB.out⟩

theorem where_none (n : Int) (k : Nat) (v : Value) (w : World) (h : Cw n k v) (hg : Et w) :
    Calls Tryd.prog 12 #[v] w fun e w' => e = .returned (.tuple #[.int .i64 0, .int .i64 n, .bool false]) ∧ Below w.heap.size w w' := by
  have B1 := (Below.refl w.heap.size w).alloc (Nat.le_refl _) (.cells #[.pointer none] 56)
  have HA := Lib.hid (as_none n k v (.pointer none) w.heap.size (w.alloc (.cells #[.pointer none] 56)) h (by simp) (by simp) (hg.keep B1))
  have HB1 := Lib.hid B1
  have HG := Lib.hid hg
  have HH := Lib.hid h
  obtain ⟨T1, X1, rfl⟩ := h.held
  clear hg B1 h
  go_enter Tryd.func12, Tryd.ntmps12
  go_wp2_with fail
  refine (HA.out).mono ?_
  rintro e w' ⟨rfl, hb⟩
  have HB := Lib.hid (HB1.out.trans (hb.mono HB1.out.size))
  clear hb
  go_wp2_with fail
  refine (number_any n k _ w' (HH.out.ch w') (HG.out.keep HB.out)).mono ?_
  rintro e w2 ⟨rfl, hb⟩
  have HB2 := Lib.hid (HB.out.trans (hb.mono HB.out.size))
  clear hb
  go_wp2_with fail
  go_ret3
  exact ⟨rfl, HB2.out⟩

theorem where_fault (n at_ : Int) (k b : Nat) (w : World) (h : Ch w n k (eF b)) (hc : w.cell? ⟨b, 0, none⟩ = some (.int .i64 at_)) (hg : Et w) :
    Calls Tryd.prog 12 #[eF b] w fun e w' => e = .returned (.tuple #[.int .i64 at_, .int .i64 n, .bool true]) ∧ Below w.heap.size w w' := by
  have B1 := (Below.refl w.heap.size w).alloc (Nat.le_refl _) (.cells #[.pointer none] 56)
  have HA := Lib.hid (as_fault b (.pointer none) w.heap.size (w.alloc (.cells #[.pointer none] 56)) (by simp) (by simp) (hg.keep B1))
  have HB1 := Lib.hid B1
  have HG := Lib.hid hg
  have HH := Lib.hid h
  have HL := Lib.hid (World.block_lt_of_cell? _ _ hc)
  have HC := Lib.hid hc
  clear hc
  clear hg B1 h
  unfold eF at *
  go_enter Tryd.func12, Tryd.ntmps12
  go_wp2_with fail
  refine (HA.out).mono ?_
  rintro e w' ⟨rfl, hc2, hb⟩
  have HB := Lib.hid (HB1.out.trans hb)
  have k0 : w'.cell? ⟨b, 0, none⟩ = some (.int .i64 at_) := by rw [hb.cell (p := ⟨b, 0, none⟩) HL.out, World.cell?_alloc_lt _ _ ⟨b, 0, none⟩ HL.out]; exact HC.out
  clear hb
  have k1 := cell_regrown k0
  have k2 := cell_regrown hc2
  clear k0 hc2
  have CN := Lib.hid fun (d : Nat) (os : Array Obj) => Calls.regrown_of (number_any n k _ (Sort.grow (redrawn w' d) os) (HH.out.keep (HB.out.trans ((below_regrown _ d os).mono HB.out.size))) (HG.out.keep (HB.out.trans ((below_regrown _ d os).mono HB.out.size))))
  go_wp2_with fail
  refine wp_region_quiet_below (by kernel_rfl) (by kernel_rfl) ?_
  repeat (go_big_quiet_step (first | (go_at_call 34; exact CN.out _ _)))
  refine wpQuiet_nil ?_
  intro _ hw'
  obtain ⟨⟨dq, osq⟩, hw''⟩ := hw'
  subst hw''
  have HB2 := Lib.hid (HB.out.trans ((below_regrown _ dq osq).mono HB.out.size))
  go_wp2_with fail
  go_ret3
  exact ⟨rfl, HB2.out⟩
end Go.Proofs.YtegbdagmnibfmaaDoor
