/-
  ClockOrder's walk: for every three numbers it returns true, and nothing in memory is touched. No condition.
-/
import Derived.Test.YtoablgcbjcgdcaaClock
namespace Go.Proofs.Ytoablgcbjcgdcaa
open Go.RowKit

theorem cl_mono {x y : Int} (h : x ≤ y) : cl x ≤ cl y := by unfold cl; (repeat' split) <;> omega
theorem ad_mono {x y : Int} (h : x ≤ y) (n : Int) : ad x n ≤ ad y n := cl_mono (by have := cl_mono h; omega)

theorem clockOrder_walk (a b n : Int) (w : World) : Calls Try.prog 8 #[.int .i64 a, .int .i64 b, .int .i64 n] w fun e w' => e = .returned (.bool true) ∧ w = w' := by
  have AW := Lib.hid fun W => awake_any W
  have A := Lib.hid fun a b W => add_any a b W
  have S := Lib.hid fun a b W => since_any a b W
  have k1 := ad_mono (show min a b ≤ max a b by omega) n
  have k2 : 0 ≤ si (max a b) (min a b) := by have := cl_mono (show min a b ≤ max a b by omega); unfold si; omega
  have k3 : si a b = - si b a := by unfold si; omega
  have k4 : si a a = 0 := by unfold si; omega
  have k5 : -1099511627776 ≤ si b a := by have := cl_ge b; have := cl_le a; unfold si; omega
  have k6 : si b a ≤ 1099511627776 := by have := cl_le b; have := cl_ge a; unfold si; omega
  go_enter Try.func8, Try.ntmps8
  go_wp2_with fail
  refine (AW.out _).mono ?_
  rintro e w1 ⟨rfl, rfl⟩
  go_wp2_with fail
  refine (A.out _ _ _).mono ?_
  rintro e w1 ⟨rfl, rfl⟩
  go_wp2_with fail
  refine (A.out _ _ _).mono ?_
  rintro e w1 ⟨rfl, rfl⟩
  go_wp2_with fail
  refine (S.out _ _ _).mono ?_
  rintro e w1 ⟨rfl, rfl⟩
  go_wp2_with fail
  refine (S.out _ _ _).mono ?_
  rintro e w1 ⟨rfl, rfl⟩
  go_wp2_with fail
  refine (S.out _ _ _).mono ?_
  rintro e w1 ⟨rfl, rfl⟩
  go_wp2_with fail
  refine (S.out _ _ _).mono ?_
  rintro e w1 ⟨rfl, rfl⟩
  go_wp2_with fail
  go_ret
  exact ⟨rfl, rfl⟩
end Go.Proofs.Ytoablgcbjcgdcaa
