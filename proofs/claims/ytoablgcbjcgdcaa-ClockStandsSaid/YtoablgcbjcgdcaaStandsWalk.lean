/-
  ClockStands's walk: for every three numbers it returns true, and nothing in memory is touched. No condition.
-/
import Derived.Test.YtoablgcbjcgdcaaClock
namespace Go.Proofs.Ytoablgcbjcgdcaa
open Go.RowKit

theorem ad_one : ad 1099511627776 1 = 1099511627776 := by decide +kernel
theorem ad_top (t : Int) : ad t 1099511627776 = 1099511627776 := by
  have a := cl_ge t
  have b := cl_le t
  have e : li 1099511627776 = 1099511627776 := by decide +kernel
  unfold ad
  rw [e]
  generalize cl t = x at a b
  unfold cl
  rw [if_neg (by omega)]
  split <;> omega

theorem clockStands_walk (t u n : Int) (w : World) : Calls Try.prog 6 #[.int .i64 t, .int .i64 u, .int .i64 n] w fun e w' => e = .returned (.bool true) ∧ w = w' := by
  have AW := Lib.hid fun W => awake_any W
  have A := Lib.hid fun a b W => add_any a b W
  have S := Lib.hid fun a b W => since_any a b W
  have I := Lib.hid fun a b c W => within_any a b c W
  have e1 := ad_one
  have e2 := ad_top t
  go_enter Try.func6, Try.ntmps6
  go_wp2_with fail
  refine (AW.out _).mono ?_
  rintro e w1 ⟨rfl, rfl⟩
  go_wp2_with fail
  refine (A.out _ _ _).mono ?_
  rintro e w1 ⟨rfl, rfl⟩
  go_wp2_with fail
  refine (I.out _ _ _ _).mono ?_
  rintro e w1 ⟨rfl, rfl⟩
  go_wp2_with fail
  refine (I.out _ _ _ _).mono ?_
  rintro e w1 ⟨rfl, rfl⟩
  go_wp2_with fail
  refine (A.out _ _ _).mono ?_
  rintro e w1 ⟨rfl, rfl⟩
  go_wp2_with fail
  refine (S.out _ _ _).mono ?_
  rintro e w1 ⟨rfl, rfl⟩
  go_wp2_with fail
  refine (S.out _ _ _).mono ?_
  rintro e w1 ⟨rfl, rfl⟩
  go_wp2_with fail
  go_ret
  exact ⟨rfl, rfl⟩
end Go.Proofs.Ytoablgcbjcgdcaa
