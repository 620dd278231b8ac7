/-
  ClockOld's walk: for every three numbers, and one of 16 bits, it returns true, and nothing in memory is touched. No condition but that the fourth has 16 bits.
-/
import Derived.Test.YtoablgcbjcgdcaaClock
namespace Go.Proofs.Ytoablgcbjcgdcaa
open Go.RowKit

theorem wi_far (t u : Int) : wi t u 2199023255552 = decide (cl u ≤ cl t) := by
  have a := cl_ge t
  have b := cl_le t
  have c := cl_ge u
  have d := cl_le u
  unfold wi si
  rw [show decide (cl t - cl u < 2199023255552) = true from decide_eq_true (by omega), Bool.and_true]
  exact decide_eq_decide.mpr (by omega)
theorem wi_zero (t u : Int) : wi t u 0 = false := by
  unfold wi
  rw [Bool.and_eq_false_iff]
  by_cases h : 0 ≤ si t u
  · exact Or.inr (decide_eq_false (by omega))
  · exact Or.inl (decide_eq_false h)
theorem wi_more {t u n m : Int} (h : wi t u n = true) (g : 0 ≤ m) : 0 < n ∧ wi t u (n + m) = true := by
  unfold wi at h ⊢
  rw [Bool.and_eq_true, decide_eq_true_iff, decide_eq_true_iff] at h ⊢
  omega

theorem clockOld_walk (t u n m : Int) (w : World) (h0 : 0 ≤ m) (h1 : m < 65536) : Calls Try.prog 7 #[.int .i64 t, .int .i64 u, .int .i64 n, .int .u16 m] w fun e w' => e = .returned (.bool true) ∧ w = w' := by
  have AW := Lib.hid fun W => awake_any W
  have L := Lib.hid fun a W => lawClamp_any a W
  have I := Lib.hid fun a b c W => within_any a b c W
  have e1 := wi_far t u
  have e2 := wi_zero t u
  by_cases h : wi t u n = true
  · obtain ⟨p, e3⟩ := wi_more h h0
    rcases (show n < 1125899906842624 ∨ 1125899906842624 ≤ n by omega) with k | k
    · go_enter Try.func7, Try.ntmps7
      go_wp2_with fail
      refine (AW.out _).mono ?_
      rintro e w1 ⟨rfl, rfl⟩
      go_wp2_with fail
      refine (I.out _ _ _ _).mono ?_
      rintro e w1 ⟨rfl, rfl⟩
      go_wp2_with fail
      refine (I.out _ _ _ _).mono ?_
      rintro e w1 ⟨rfl, rfl⟩
      go_wp2_with fail
      refine (I.out _ _ _ _).mono ?_
      rintro e w1 ⟨rfl, rfl⟩
      go_wp2_with fail
      refine (L.out _ _).mono ?_
      rintro e w1 ⟨rfl, rfl⟩
      go_wp2_with fail
      refine (L.out _ _).mono ?_
      rintro e w1 ⟨rfl, rfl⟩
      go_wp2_with fail
      refine (I.out _ _ _ _).mono ?_
      rintro e w1 ⟨rfl, rfl⟩
      go_wp2_with fail
      go_ret
      exact ⟨ret_bool (by simp), rfl⟩
    · go_enter Try.func7, Try.ntmps7
      go_wp2_with fail
      refine (AW.out _).mono ?_
      rintro e w1 ⟨rfl, rfl⟩
      go_wp2_with fail
      refine (I.out _ _ _ _).mono ?_
      rintro e w1 ⟨rfl, rfl⟩
      go_wp2_with fail
      refine (I.out _ _ _ _).mono ?_
      rintro e w1 ⟨rfl, rfl⟩
      go_wp2_with fail
      refine (L.out _ _).mono ?_
      rintro e w1 ⟨rfl, rfl⟩
      go_wp2_with fail
      refine (L.out _ _).mono ?_
      rintro e w1 ⟨rfl, rfl⟩
      go_wp2_with fail
      refine (I.out _ _ _ _).mono ?_
      rintro e w1 ⟨rfl, rfl⟩
      go_wp2_with fail
      go_ret
      exact ⟨ret_bool (by simp), rfl⟩
  · rw [Bool.not_eq_true] at h
    go_enter Try.func7, Try.ntmps7
    go_wp2_with fail
    refine (AW.out _).mono ?_
    rintro e w1 ⟨rfl, rfl⟩
    go_wp2_with fail
    refine (I.out _ _ _ _).mono ?_
    rintro e w1 ⟨rfl, rfl⟩
    go_wp2_with fail
    refine (I.out _ _ _ _).mono ?_
    rintro e w1 ⟨rfl, rfl⟩
    go_wp2_with fail
    refine (L.out _ _).mono ?_
    rintro e w1 ⟨rfl, rfl⟩
    go_wp2_with fail
    refine (L.out _ _).mono ?_
    rintro e w1 ⟨rfl, rfl⟩
    go_wp2_with fail
    refine (I.out _ _ _ _).mono ?_
    rintro e w1 ⟨rfl, rfl⟩
    go_wp2_with fail
    go_ret
    exact ⟨ret_bool (by simp), rfl⟩
end Go.Proofs.Ytoablgcbjcgdcaa
