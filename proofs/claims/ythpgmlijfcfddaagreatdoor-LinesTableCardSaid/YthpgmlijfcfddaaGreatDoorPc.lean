/-
  Contracts of lines.Place, and of lines.Number at an error that errors.New makes. Conditions: as in the contracts of errors.As.
-/
import Derived.Test.YthpgmlijfcfddaaGreatDoorPl
set_option linter.unusedSimpArgs false
set_option linter.unusedVariables false
namespace Go.Proofs.YthpgmlijfcfddaaGreatDoor
open Go.RowKit Go.Extern.Stop Go.Stop Go.Extern

theorem place_fault (b : Nat) (at_ : Int) (w : World) (hc : w.cell? ⟨b, 0, none⟩ = some (.int .i64 at_)) (hg : Et w) :
    Calls Tryz.prog 14 #[eF b] w fun e w' => e = .returned (.tuple #[.int .i64 at_, .bool true]) ∧ Below w.heap.size w w' := by
  have B1 := (Below.refl w.heap.size w).alloc (Nat.le_refl _) (.cells #[.pointer none] 65)
  have HA := Lib.hid (as_fault b (.pointer none) w.heap.size (w.alloc (.cells #[.pointer none] 65)) (by simp) (by simp) (hg.keep B1))
  have HB1 := Lib.hid B1
  have HL := Lib.hid (World.block_lt_of_cell? _ _ hc)
  have HC := Lib.hid hc
  clear hc
  clear hg B1
  unfold eF at *
  go_enter Tryz.func14, Tryz.ntmps14
  go_wp2_with fail
  refine (HA.out).mono ?_
  rintro e w' ⟨rfl, hc2, hb⟩
  have HB := Lib.hid (HB1.out.trans hb)
  have k0 : w'.cell? ⟨b, 0, none⟩ = some (.int .i64 at_) := by rw [hb.cell (p := ⟨b, 0, none⟩) HL.out, World.cell?_alloc_lt _ _ ⟨b, 0, none⟩ HL.out]; exact HC.out
  clear hb
  go_wp2_with fail
  go_ret2
  exact ⟨rfl, HB.out⟩

theorem place_none (n : Int) (w : World) (hg : Et w) :
    Calls Tryz.prog 14 #[eN n] w fun e w' => e = .returned (.tuple #[.int .i64 0, .bool false]) ∧ Below w.heap.size w w' := by
  have B1 := (Below.refl w.heap.size w).alloc (Nat.le_refl _) (.cells #[.pointer none] 65)
  have HA := Lib.hid (as_none n (.pointer none) w.heap.size (w.alloc (.cells #[.pointer none] 65)) (by simp) (by simp) (hg.keep B1))
  have HB1 := Lib.hid B1
  clear hg B1
  unfold eN at *
  go_enter Tryz.func14, Tryz.ntmps14
  go_wp2_with fail
  refine (HA.out).mono ?_
  rintro e w' ⟨rfl, hb⟩
  have HB := Lib.hid (HB1.out.trans (hb.mono HB1.out.size))
  clear hb
  go_wp2_with fail
  go_ret2
  exact ⟨rfl, HB.out⟩

theorem number_str (b : Addr) (w : World) (hg : Et w) :
    Calls Tryz.prog 16 #[eS b] w fun e w' => e = .returned (.int .i64 0) ∧ Below w.heap.size w w' := by
  have B1 := (Below.refl w.heap.size w).alloc (Nat.le_refl _) (.cells #[.int .i64 0] 38)
  have HA := Lib.hid (as_str b (.int .i64 0) w.heap.size (w.alloc (.cells #[.int .i64 0] 38)) (by simp) (by simp) (hg.keep B1))
  have HB1 := Lib.hid B1
  clear hg B1
  unfold eS at *
  go_enter Tryz.func16, Tryz.ntmps16
  go_wp2_with fail
  refine (HA.out).mono ?_
  rintro e w' ⟨rfl, hb⟩
  have HB := Lib.hid (HB1.out.trans (hb.mono HB1.out.size))
  clear hb
  go_wp2_with fail
  go_ret
  exact ⟨rfl, HB.out⟩

theorem place_nil (w : World) : Calls Tryz.prog 14 #[.nilIface] w fun e w' => e = .returned (.tuple #[.int .i64 0, .bool false]) ∧ Below w.heap.size w w' := by
  go_enter Tryz.func14, Tryz.ntmps14
  go_wp2_with fail
  refine (as_nil _ _).mono ?_
  rintro e w' ⟨rfl, rfl⟩
  go_wp2_with fail
  go_ret2
  exact ⟨rfl, (Below.refl _ w).alloc (Nat.le_refl _) _⟩
end Go.Proofs.YthpgmlijfcfddaaGreatDoor
