/-
  The contract of the statements' own 'digits': an int in base 10. No condition but that it is an int.
-/
import Derived.Test.YthpgmlijfcfddaaGreatDoorLs
set_option linter.unusedSimpArgs false
set_option linter.unusedVariables false
namespace Go.Proofs.YthpgmlijfcfddaaGreatDoor
open Go.RowKit

theorem dig_small (u : Nat) (hu : u < 10) (w : World) :
    Calls Tryz.prog 19 #[.int .i64 (u : Int)] w fun e w' => e = .returned (.string ⟨(Lib.decDigits u).toArray⟩) ∧ w' = w := by
  rw [Ad.dd_small hu]
  rcases (show u = 0 ∨ u = 1 ∨ u = 2 ∨ u = 3 ∨ u = 4 ∨ u = 5 ∨ u = 6 ∨ u = 7 ∨ u = 8 ∨ u = 9 by omega) with rfl | rfl | rfl | rfl | rfl | rfl | rfl | rfl | rfl | rfl
  all_goals
    clear hu
    go_enter Tryz.func19, Tryz.ntmps19
    go_wp2
    go_ret
    exact ⟨rfl, rfl⟩

theorem dd_len : ∀ (k u : Nat), u < 10 ^ (k + 1) → (Lib.decDigits u).length ≤ k + 1
  | 0, u, h => by rw [Ad.dd_small (by simpa using h)]; simp
  | k + 1, u, h => by
    by_cases hu : u < 10
    · rw [Ad.dd_small hu]; simp
    · rw [Ad.dd_big hu]
      have := dd_len k (u / 10) (by rw [Nat.pow_succ] at h; omega)
      simp
      omega
theorem dig_nat (u : Nat) : u ≤ 9223372036854775807 → ∀ w : World,
    Calls Tryz.prog 19 #[.int .i64 (u : Int)] w fun e w' => e = .returned (.string ⟨(Lib.decDigits u).toArray⟩) ∧ w' = w := by
  induction u using Nat.strongRecOn with
  | _ u ih =>
    intro hu w
    by_cases h : u < 10
    · exact dig_small u h w
    · have H1 := Lib.hid (ih (u / 10) (by omega) (by omega))
      have H2 := Lib.hid (dig_small (u % 10) (by omega))
      rw [Ad.dd_big h]
      have e1 : ((u / 10 : Nat) : Int) = (u : Int) / 10 := by omega
      have e2 : ((u % 10 : Nat) : Int) = (u : Int) % 10 := by omega
      rw [e1] at H1
      rw [e2] at H2
      rw [Ad.dd_small (show u % 10 < 10 by omega)] at H2
      have d1 := dd_len 18 (u / 10) (by omega)
      generalize Lib.decDigits (u / 10) = l1 at *
      generalize UInt8.ofNat (48 + u % 10) = cc at *
      clear ih e1 e2
      go_enter Tryz.func19, Tryz.ntmps19
      go_wp2_with fail
      refine (H1.out _).mono ?_
      rintro e w1 ⟨rfl, rfl⟩
      go_wp2_with fail
      refine (H2.out _).mono ?_
      rintro e w2 ⟨rfl, rfl⟩
      go_wp2_with fail
      go_ret
      exact ⟨Ad.ret_str (Ad.cat l1 [cc]), rfl⟩

theorem itoa_neg' (u : Nat) (h : 1 ≤ u) : Lib.itoa (-(u : Int)) = 45 :: Lib.decDigits u := by
  unfold Lib.itoa
  rw [if_pos (by omega), Int.natAbs_neg, Int.natAbs_natCast]

set_option maxHeartbeats 1000000 in
theorem digits_any (n : Int) (w : World) (h0 : -9223372036854775808 ≤ n) (h1 : n ≤ 9223372036854775807) :
    Calls Tryz.prog 19 #[.int .i64 n] w fun e w' => e = .returned (.string ⟨(Lib.itoa n).toArray⟩) ∧ w' = w := by
  by_cases hn : 0 ≤ n
  · obtain ⟨u, rfl⟩ := Int.eq_ofNat_of_zero_le hn
    rw [Ad.itoa_pos hn]
    unfold Ad.dig
    rw [Int.toNat_natCast]
    exact dig_nat u (by omega) w
  · obtain ⟨u, hu⟩ := Int.eq_ofNat_of_zero_le (show 0 ≤ -n by omega)
    obtain rfl : n = -(u : Int) := by omega
    rw [itoa_neg' u (by omega)]
    by_cases hb : -(u : Int) < -4611686018427387904
    · have hE : Lib.decDigits u = Lib.decDigits (u / 10) ++ Lib.decDigits (u % 10) := by rw [Ad.dd_big (by omega), Ad.dd_small (show u % 10 < 10 by omega)]
      have H1 := Lib.hid (dig_nat (u / 10) (by omega))
      have H2 := Lib.hid (dig_nat (u % 10) (by omega))
      have HE := Lib.hid hE
      have e1 : ((u / 10 : Nat) : Int) = (u : Int) / 10 := by omega
      have e2 : ((u % 10 : Nat) : Int) = (u : Int) % 10 := by omega
      rw [e1] at H1
      rw [e2] at H2
      clear hE e1 e2
      have d1 := dd_len 18 (u / 10) (by omega)
      have d2 := dd_len 18 (u % 10) (by omega)
      rw [HE.out]
      clear HE hu
      generalize Lib.decDigits (u / 10) = l1 at *
      generalize Lib.decDigits (u % 10) = l2 at *
      go_enter Tryz.func19, Tryz.ntmps19
      go_wp2_with fail
      refine (H1.out _).mono ?_
      rintro e w1 ⟨rfl, rfl⟩
      go_wp2_with fail
      refine (H2.out _).mono ?_
      rintro e w2 ⟨rfl, rfl⟩
      go_wp2_with fail
      go_ret
      exact ⟨Ad.ret_str (by rw [show (⟨#[45]⟩ : ByteArray) = ⟨[45].toArray⟩ from rfl]; simp only [Ad.cat]; simp), rfl⟩
    · have H1 := Lib.hid (dig_nat u (by omega))
      have d1 := dd_len 19 u (by omega)
      clear hu
      generalize Lib.decDigits u = l1 at *
      go_enter Tryz.func19, Tryz.ntmps19
      go_wp2_with fail
      refine (H1.out _).mono ?_
      rintro e w1 ⟨rfl, rfl⟩
      go_wp2_with fail
      go_ret
      exact ⟨Ad.ret_str (by rw [show (⟨#[45]⟩ : ByteArray) = ⟨[45].toArray⟩ from rfl]; simp only [Ad.cat]; simp), rfl⟩
end Go.Proofs.YthpgmlijfcfddaaGreatDoor
