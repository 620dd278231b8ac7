/-
  ClockAdd's walk: for every two numbers it returns true, and nothing in memory is touched. No condition.
-/
import Derived.Test.YtoablgcbjcgdcaaClock
namespace Go.Proofs.Ytoablgcbjcgdcaa
open Go.RowKit

theorem last_eq (t : Int) : (decide (1099511627776 ≤ t) == (cl t == 1099511627776)) = true := by
  by_cases h : 1099511627776 ≤ t
  · have e : cl t = 1099511627776 := by unfold cl; split; omega; split <;> omega
    simp [h, e]
  · have e : ¬ cl t = 1099511627776 := by unfold cl; split; omega; split <;> omega
    simp only [h, decide_false, beq_iff_eq, beq_eq_false_iff_ne.mpr e]

theorem clockAdd_walk (t n : Int) (w : World) : Calls Try.prog 3 #[.int .i64 t, .int .i64 n] w fun e w' => e = .returned (.bool true) ∧ w = w' := by
  have AW := Lib.hid fun W => awake_any W
  have C := Lib.hid fun a W => clamp_any a W
  have L := Lib.hid fun a W => lawClamp_any a W
  have A := Lib.hid fun a b W => add_any a b W
  have Z := Lib.hid fun a W => last_any a W
  have b0 := cl_ge t
  have b1 := cl_le t
  rcases (show n < -1099511627776 ∨ 1099511627776 < n ∨ (-1099511627776 ≤ n ∧ n ≤ 1099511627776) by omega) with h | h | ⟨h, g⟩
  · have e1 : ad t n = cl (cl t + -1099511627776) := by unfold ad li; rw [if_pos h]
    go_enter Try.func3, Try.ntmps3
    go_wp2_with fail
    refine (AW.out _).mono ?_
    rintro e w1 ⟨rfl, rfl⟩
    go_wp2_with fail
    refine (C.out _ _).mono ?_
    rintro e w1 ⟨rfl, rfl⟩
    go_wp2_with fail
    refine (L.out _ _).mono ?_
    rintro e w1 ⟨rfl, rfl⟩
    go_wp2_with fail
    refine (A.out _ _ _).mono ?_
    rintro e w1 ⟨rfl, rfl⟩
    go_wp2_with fail
    refine (L.out _ _).mono ?_
    rintro e w1 ⟨rfl, rfl⟩
    go_wp2_with fail
    refine (L.out _ _).mono ?_
    rintro e w1 ⟨rfl, rfl⟩
    go_wp2_with fail
    refine (Z.out _ _).mono ?_
    rintro e w1 ⟨rfl, rfl⟩
    go_wp2_with fail
    refine (L.out _ _).mono ?_
    rintro e w1 ⟨rfl, rfl⟩
    go_wp2_with fail
    go_ret
    exact ⟨ret_bool (last_eq t), rfl⟩
  · have e1 : ad t n = cl (cl t + 1099511627776) := by unfold ad li; rw [if_neg (by omega), if_pos h]
    go_enter Try.func3, Try.ntmps3
    go_wp2_with fail
    refine (AW.out _).mono ?_
    rintro e w1 ⟨rfl, rfl⟩
    go_wp2_with fail
    refine (C.out _ _).mono ?_
    rintro e w1 ⟨rfl, rfl⟩
    go_wp2_with fail
    refine (L.out _ _).mono ?_
    rintro e w1 ⟨rfl, rfl⟩
    go_wp2_with fail
    refine (A.out _ _ _).mono ?_
    rintro e w1 ⟨rfl, rfl⟩
    go_wp2_with fail
    refine (L.out _ _).mono ?_
    rintro e w1 ⟨rfl, rfl⟩
    go_wp2_with fail
    refine (L.out _ _).mono ?_
    rintro e w1 ⟨rfl, rfl⟩
    go_wp2_with fail
    refine (Z.out _ _).mono ?_
    rintro e w1 ⟨rfl, rfl⟩
    go_wp2_with fail
    refine (L.out _ _).mono ?_
    rintro e w1 ⟨rfl, rfl⟩
    go_wp2_with fail
    go_ret
    exact ⟨ret_bool (last_eq t), rfl⟩
  · have e1 : ad t n = cl (cl t + n) := by unfold ad li; rw [if_neg (by omega), if_neg (by omega)]
    go_enter Try.func3, Try.ntmps3
    go_wp2_with fail
    refine (AW.out _).mono ?_
    rintro e w1 ⟨rfl, rfl⟩
    go_wp2_with fail
    refine (C.out _ _).mono ?_
    rintro e w1 ⟨rfl, rfl⟩
    go_wp2_with fail
    refine (L.out _ _).mono ?_
    rintro e w1 ⟨rfl, rfl⟩
    go_wp2_with fail
    refine (A.out _ _ _).mono ?_
    rintro e w1 ⟨rfl, rfl⟩
    go_wp2_with fail
    refine (L.out _ _).mono ?_
    rintro e w1 ⟨rfl, rfl⟩
    go_wp2_with fail
    refine (L.out _ _).mono ?_
    rintro e w1 ⟨rfl, rfl⟩
    go_wp2_with fail
    refine (Z.out _ _).mono ?_
    rintro e w1 ⟨rfl, rfl⟩
    go_wp2_with fail
    refine (L.out _ _).mono ?_
    rintro e w1 ⟨rfl, rfl⟩
    go_wp2_with fail
    go_ret
    exact ⟨ret_bool (last_eq t), rfl⟩
end Go.Proofs.Ytoablgcbjcgdcaa
