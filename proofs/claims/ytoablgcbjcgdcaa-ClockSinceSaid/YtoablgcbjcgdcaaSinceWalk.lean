/-
  ClockSince's walk: for every three numbers it returns true, and nothing in memory is touched. No condition.
-/
import Derived.Test.YtoablgcbjcgdcaaClock
namespace Go.Proofs.Ytoablgcbjcgdcaa
open Go.RowKit

theorem clockSince_walk (t u n : Int) (w : World) : Calls Try.prog 4 #[.int .i64 t, .int .i64 u, .int .i64 n] w fun e w' => e = .returned (.bool true) ∧ w = w' := by
  have AW := Lib.hid fun W => awake_any W
  have L := Lib.hid fun a W => lawClamp_any a W
  have S := Lib.hid fun a b W => since_any a b W
  have I := Lib.hid fun a b c W => within_any a b c W
  have b0 := cl_ge t
  have b1 := cl_le t
  have b2 := cl_ge u
  have b3 := cl_le u
  have e1 : si t u = cl t - cl u := rfl
  rcases (show (0 ≤ cl t - cl u ∧ cl t - cl u < n) ∨ (0 ≤ cl t - cl u ∧ n ≤ cl t - cl u) ∨ cl t - cl u < 0 by omega) with ⟨h, g⟩ | ⟨h, g⟩ | h
  · have e2 : wi t u n = true := by simp only [wi, si, h, g, decide_true, Bool.and_true]
    go_enter Try.func4, Try.ntmps4
    go_wp2_with fail
    refine (AW.out _).mono ?_
    rintro e w1 ⟨rfl, rfl⟩
    go_wp2_with fail
    refine (L.out _ _).mono ?_
    rintro e w1 ⟨rfl, rfl⟩
    go_wp2_with fail
    refine (L.out _ _).mono ?_
    rintro e w1 ⟨rfl, rfl⟩
    go_wp2_with fail
    refine (S.out _ _ _).mono ?_
    rintro e w1 ⟨rfl, rfl⟩
    go_wp2_with fail
    refine (I.out _ _ _ _).mono ?_
    rintro e w1 ⟨rfl, rfl⟩
    go_wp2_with fail
    go_ret
    exact ⟨rfl, rfl⟩
  · have e2 : wi t u n = false := by simp only [wi, si, show ¬ cl t - cl u < n by omega, decide_false, Bool.and_false]
    go_enter Try.func4, Try.ntmps4
    go_wp2_with fail
    refine (AW.out _).mono ?_
    rintro e w1 ⟨rfl, rfl⟩
    go_wp2_with fail
    refine (L.out _ _).mono ?_
    rintro e w1 ⟨rfl, rfl⟩
    go_wp2_with fail
    refine (L.out _ _).mono ?_
    rintro e w1 ⟨rfl, rfl⟩
    go_wp2_with fail
    refine (S.out _ _ _).mono ?_
    rintro e w1 ⟨rfl, rfl⟩
    go_wp2_with fail
    refine (I.out _ _ _ _).mono ?_
    rintro e w1 ⟨rfl, rfl⟩
    go_wp2_with fail
    go_ret
    exact ⟨ret_bool (by simp; omega), rfl⟩
  · have e2 : wi t u n = false := by simp only [wi, si, show ¬ 0 ≤ cl t - cl u by omega, decide_false, Bool.false_and]
    go_enter Try.func4, Try.ntmps4
    go_wp2_with fail
    refine (AW.out _).mono ?_
    rintro e w1 ⟨rfl, rfl⟩
    go_wp2_with fail
    refine (L.out _ _).mono ?_
    rintro e w1 ⟨rfl, rfl⟩
    go_wp2_with fail
    refine (L.out _ _).mono ?_
    rintro e w1 ⟨rfl, rfl⟩
    go_wp2_with fail
    refine (S.out _ _ _).mono ?_
    rintro e w1 ⟨rfl, rfl⟩
    go_wp2_with fail
    refine (I.out _ _ _ _).mono ?_
    rintro e w1 ⟨rfl, rfl⟩
    go_wp2_with fail
    go_ret
    exact ⟨rfl, rfl⟩
end Go.Proofs.Ytoablgcbjcgdcaa
