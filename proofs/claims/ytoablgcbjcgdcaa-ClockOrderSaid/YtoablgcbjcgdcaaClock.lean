/-
  Contracts of package clock and of the statements' own clamp: what each returns, for every number of 64 bits; nothing in memory is touched. No condition but that numbers have 64 bits.
-/
import Derived.Test.YtoablgcbjcgdcaaProg
import Derived.WalkKit
import Derived.WalkLawsBesides
import Derived.BigQuiet
import Derived.Deep.QuietTactic
import Derived.Lib.Hide
import Derived.Lib.MinMax
namespace Go.Proofs.Ytoablgcbjcgdcaa
open Go.RowKit

theorem ret_bool {a b : Bool} (h : a = b) : Ending.returned (.bool a) = .returned (.bool b) := by rw [h]
theorem ret_int {k : IntKind} {a b : Int} (h : a = b) : Ending.returned (.int k a) = .returned (.int k b) := by rw [h]

/-- A number limited to 0 .. 2^40. -/
def cl (n : Int) : Int := if n < 0 then 0 else if 1099511627776 < n then 1099511627776 else n
theorem cl_ge (n : Int) : 0 ≤ cl n := by unfold cl; split; omega; split <;> omega
theorem cl_le (n : Int) : cl n ≤ 1099511627776 := by unfold cl; split; omega; split <;> omega
theorem cl_eq (n : Int) : min (max n 0) 1099511627776 = cl n := by unfold cl; split; omega; split <;> omega
/-- A step limited to -2^40 .. 2^40. -/
def li (n : Int) : Int := if n < -1099511627776 then -1099511627776 else if 1099511627776 < n then 1099511627776 else n
theorem li_ge (n : Int) : -1099511627776 ≤ li n := by unfold li; split; omega; split <;> omega
theorem li_le (n : Int) : li n ≤ 1099511627776 := by unfold li; split; omega; split <;> omega
theorem li_eq (n : Int) : min (max n (-1099511627776)) 1099511627776 = li n := by unfold li; split; omega; split <;> omega
/-- So many ticks later. -/
def ad (t n : Int) : Int := cl (cl t + li n)
/-- So many ticks ago. -/
def si (now t : Int) : Int := cl now - cl t
/-- One of the last ticks. -/
def wi (now t n : Int) : Bool := decide (0 ≤ si now t) && decide (si now t < n)

theorem clamp_any (n : Int) (w : World) : Calls Try.prog 10 #[.int .i64 n] w fun e w' => e = .returned (.int .i64 (cl n)) ∧ w = w' := by
  go_enter Try.func10, Try.ntmps10
  go_wp2
  go_ret
  exact ⟨ret_int (cl_eq n), rfl⟩

theorem lawClamp_any (n : Int) (w : World) : Calls Try.prog 11 #[.int .i64 n] w fun e w' => e = .returned (.int .i64 (cl n)) ∧ w = w' := by
  rcases (show n < 0 ∨ 1099511627776 < n ∨ (0 ≤ n ∧ n ≤ 1099511627776) by omega) with h | h | ⟨h, g⟩
  · have e : cl n = 0 := by unfold cl; simp [h]
    go_enter Try.func11, Try.ntmps11
    go_wp2
    go_ret
    exact ⟨ret_int e.symm, rfl⟩
  · have e : cl n = 1099511627776 := by unfold cl; rw [if_neg (by omega), if_pos h]
    go_enter Try.func11, Try.ntmps11
    go_wp2
    go_ret
    exact ⟨ret_int e.symm, rfl⟩
  · have e : cl n = n := by unfold cl; rw [if_neg (by omega), if_neg (by omega)]
    have e := Lib.hid e
    go_enter Try.func11, Try.ntmps11
    go_wp2
    go_ret
    exact ⟨ret_int e.out.symm, rfl⟩

theorem last_any (n : Int) (w : World) : Calls Try.prog 13 #[.int .i64 n] w fun e w' => e = .returned (.bool (decide (1099511627776 ≤ n))) ∧ w = w' := by
  go_enter Try.func13, Try.ntmps13
  go_wp2
  go_ret
  exact ⟨rfl, rfl⟩

theorem add_any (t n : Int) (w : World) : Calls Try.prog 12 #[.int .i64 t, .int .i64 n] w fun e w' => e = .returned (.int .i64 (ad t n)) ∧ w = w' := by
  have E := li_eq n
  have C := Lib.hid fun m W => clamp_any m W
  have a := cl_ge t
  have b := cl_le t
  have c := li_ge n
  have d := li_le n
  go_enter Try.func12, Try.ntmps12
  go_wp2_with fail
  refine (C.out _ _).mono ?_
  rintro e w1 ⟨rfl, rfl⟩
  go_wp2_with fail
  refine (C.out _ _).mono ?_
  rintro e w1 ⟨rfl, rfl⟩
  go_wp2_with fail
  go_ret
  exact ⟨rfl, rfl⟩

theorem since_any (t n : Int) (w : World) : Calls Try.prog 14 #[.int .i64 t, .int .i64 n] w fun e w' => e = .returned (.int .i64 (si t n)) ∧ w = w' := by
  have C := Lib.hid fun m W => clamp_any m W
  have a := cl_ge t
  have b := cl_le t
  have c := cl_ge n
  have d := cl_le n
  go_enter Try.func14, Try.ntmps14
  go_wp2_with fail
  refine (C.out _ _).mono ?_
  rintro e w1 ⟨rfl, rfl⟩
  go_wp2_with fail
  refine (C.out _ _).mono ?_
  rintro e w1 ⟨rfl, rfl⟩
  go_wp2_with fail
  go_ret
  exact ⟨rfl, rfl⟩

theorem within_any (t u n : Int) (w : World) : Calls Try.prog 15 #[.int .i64 t, .int .i64 u, .int .i64 n] w fun e w' => e = .returned (.bool (wi t u n)) ∧ w = w' := by
  have C := Lib.hid fun a b W => since_any a b W
  by_cases h : 0 ≤ si t u
  · go_enter Try.func15, Try.ntmps15
    go_wp2_with fail
    refine (C.out _ _ _).mono ?_
    rintro e w1 ⟨rfl, rfl⟩
    go_wp2_with fail
    go_ret
    exact ⟨ret_bool (by simp [wi, h]), rfl⟩
  · go_enter Try.func15, Try.ntmps15
    go_wp2_with fail
    refine (C.out _ _ _).mono ?_
    rintro e w1 ⟨rfl, rfl⟩
    go_wp2_with fail
    go_ret
    exact ⟨ret_bool (by simp [wi]; omega), rfl⟩

theorem awake_any (w : World) : Calls Try.prog 9 #[] w fun e w' => e = .returned (.bool true) ∧ w = w' := by
  have C := Lib.hid fun a b c W => within_any a b c W
  have A := Lib.hid fun a b W => add_any a b W
  have e1 : wi 10 8 3 = true := by decide +kernel
  have e2 : wi 10 7 3 = false := by decide +kernel
  have e3 : ad 1099511627776 5 = 1099511627776 := by decide +kernel
  go_enter Try.func9, Try.ntmps9
  go_wp2_with fail
  refine (C.out _ _ _ _).mono ?_
  rintro e w1 ⟨rfl, rfl⟩
  go_wp2_with fail
  refine (C.out _ _ _ _).mono ?_
  rintro e w1 ⟨rfl, rfl⟩
  go_wp2_with fail
  refine (A.out _ _ _).mono ?_
  rintro e w1 ⟨rfl, rfl⟩
  go_wp2_with fail
  go_ret
  exact ⟨rfl, rfl⟩
end Go.Proofs.Ytoablgcbjcgdcaa
