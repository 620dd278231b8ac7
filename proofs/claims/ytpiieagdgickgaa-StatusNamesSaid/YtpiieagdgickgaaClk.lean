/-
  The contracts of clock.Clamp, clock.Since, clock.Within, of the statements' own within, of mac.None, and of the statements' own station. No condition but that bytes are bytes.
-/
import Derived.Test.YtpiieagdgickgaaBase
set_option linter.unusedSimpArgs false
set_option linter.unusedVariables false
namespace Go.Proofs.Ytpiieagdgickgaa
open Go.RowKit

/-- A number limited to 0 .. 2^40. -/
def cl (n : Int) : Int := if n < 0 then 0 else if 1099511627776 < n then 1099511627776 else n
theorem cl_ge (n : Int) : 0 ≤ cl n := by unfold cl; split; omega; split <;> omega
theorem cl_le (n : Int) : cl n ≤ 1099511627776 := by unfold cl; split; omega; split <;> omega
theorem cl_eq (n : Int) : min (max n 0) 1099511627776 = cl n := by unfold cl; split; omega; split <;> omega
theorem cl_eq' (n : Int) : max 0 (min n 1099511627776) = cl n := by unfold cl; split; omega; split <;> omega
theorem cl_in {n : Int} (h0 : 0 ≤ n) (h1 : n ≤ 1099511627776) : cl n = n := by unfold cl; rw [if_neg (by omega), if_neg (by omega)]
/-- So many ticks ago. -/
def si (now t : Int) : Int := cl now - cl t
/-- One of the last ticks. -/
def wi (now t n : Int) : Bool := decide (0 ≤ si now t) && decide (si now t < n)

theorem clamp_any (n : Int) (w : World) : Calls Try.prog 25 #[.int .i64 n] w fun e w' => e = .returned (.int .i64 (cl n)) ∧ w = w' := by
  go_enter Try.func25, Try.ntmps25
  go_wp2
  go_ret
  exact ⟨ret_int (cl_eq n), rfl⟩
theorem since_any (t n : Int) (w : World) : Calls Try.prog 24 #[.int .i64 t, .int .i64 n] w fun e w' => e = .returned (.int .i64 (si t n)) ∧ w = w' := by
  have C := Lib.hid fun m W => clamp_any m W
  have a := cl_ge t
  have b := cl_le t
  have c := cl_ge n
  have d := cl_le n
  go_enter Try.func24, Try.ntmps24
  go_wp2_with fail
  refine (C.out _ _).mono ?_
  rintro e w1 ⟨rfl, rfl⟩
  go_wp2_with fail
  refine (C.out _ _).mono ?_
  rintro e w1 ⟨rfl, rfl⟩
  go_wp2_with fail
  go_ret
  exact ⟨rfl, rfl⟩
theorem within_any (t u n : Int) (w : World) : Calls Try.prog 21 #[.int .i64 t, .int .i64 u, .int .i64 n] w fun e w' => e = .returned (.bool (wi t u n)) ∧ w = w' := by
  have C := Lib.hid fun a b W => since_any a b W
  by_cases h : 0 ≤ si t u
  · go_enter Try.func21, Try.ntmps21
    go_wp2_with fail
    refine (C.out _ _ _).mono ?_
    rintro e w1 ⟨rfl, rfl⟩
    go_wp2_with fail
    go_ret
    exact ⟨ret_bool (by simp [wi, h]), rfl⟩
  · go_enter Try.func21, Try.ntmps21
    go_wp2_with fail
    refine (C.out _ _ _).mono ?_
    rintro e w1 ⟨rfl, rfl⟩
    go_wp2_with fail
    go_ret
    exact ⟨ret_bool (by simp [wi]; omega), rfl⟩
theorem lawWithin_any (t u n : Int) (w : World) : Calls Try.prog 22 #[.int .i64 t, .int .i64 u, .int .i64 n] w fun e w' => e = .returned (.bool (wi t u n)) ∧ w = w' := by
  have e1 := cl_eq' t
  have e2 := cl_eq' u
  obtain ⟨T, hT⟩ : ∃ T, cl t = T := ⟨_, rfl⟩
  obtain ⟨U, hU⟩ : ∃ U, cl u = U := ⟨_, rfl⟩
  have a := cl_ge t
  have b := cl_le t
  have c := cl_ge u
  have d := cl_le u
  rw [hT] at e1 a b
  rw [hU] at e2 c d
  have HT := Lib.hid (show wi t u n = (decide (0 ≤ T - U) && decide (T - U < n)) by unfold wi si; rw [hT, hU])
  clear hT hU
  by_cases h : U ≤ T
  · go_enter Try.func22, Try.ntmps22
    go_wp2_with fail
    go_ret
    exact ⟨ret_bool (by rw [HT.out]; simp [h]), rfl⟩
  · go_enter Try.func22, Try.ntmps22
    go_wp2_with fail
    go_ret
    exact ⟨ret_bool (by rw [HT.out]; simp; omega), rfl⟩

/-- No station. -/
def noB (x : Mc) : Bool := eqm x zm
theorem none_any (x : Mc) (w : World) : Calls Try.prog 23 #[mv x] w fun e w' => e = .returned (.bool (noB x)) ∧ Below w.heap.size w w' := by
  obtain ⟨b0, b1, b2, b3, b4, b5⟩ := x
  have hq := fun W => run_eq6 b0 b1 b2 b3 b4 b5 0 0 0 0 0 0 9998 W
  simp only [mv]
  go_enter Try.func23, Try.ntmps23
  go_wp2
  go_ret
  exact ⟨rfl, (Below.refl _ _).alloc (Nat.le_refl _) _⟩
/-- One of a few stations. -/
def sn (n : Int) : Mc := if n < 128 then ⟨2, 0, 0, 0, 0, 1 + n % 3⟩ else zm
set_option maxHeartbeats 1000000 in
theorem station_any (n : Int) (w : World) (h0 : 0 ≤ n) (h1 : n < 256) : Calls Try.prog 12 #[.int .u8 n] w fun e w' => e = .returned (mv (sn n)) ∧ Below w.heap.size w w' := by
  by_cases h : n < 128
  · have H := Lib.hid (show mv (sn n) = .agg #[.int .u8 2, .int .u8 0, .int .u8 0, .int .u8 0, .int .u8 0, .int .u8 (1 + n % 3)] by simp [sn, h, mv])
    rw [H.out]
    go_enter Try.func12, Try.ntmps12
    go_wp2_with fail
    exact bodyPost_ret (v := .agg #[.int .u8 2, .int .u8 0, .int .u8 0, .int .u8 0, .int .u8 0, .int .u8 (1 + n % 3)]) (by simp [results, Try.results12, go_sem]) rfl ⟨rfl, (Below.refl _ w).alloc (Nat.le_refl _) _⟩
  · have H := Lib.hid (show mv (sn n) = .agg #[.int .u8 0, .int .u8 0, .int .u8 0, .int .u8 0, .int .u8 0, .int .u8 0] by simp [sn, h, mv, zm])
    rw [H.out]
    go_enter Try.func12, Try.ntmps12
    go_wp2_with fail
    exact bodyPost_ret (v := .agg #[.int .u8 0, .int .u8 0, .int .u8 0, .int .u8 0, .int .u8 0, .int .u8 0]) (by simp [results, Try.results12, go_sem]) rfl ⟨rfl, (Below.refl _ w).alloc (Nat.le_refl _) _⟩
end Go.Proofs.Ytpiieagdgickgaa
