/-
  ClockGoes's walk: for every number, and two of 8 bits, it returns true, and nothing in memory is touched. No condition but that the last two have 8 bits.
-/
import Derived.Test.YtoablgcbjcgdcaaClock
namespace Go.Proofs.Ytoablgcbjcgdcaa
open Go.RowKit

theorem cl_in {x : Int} (h : 0 ≤ x) (g : x ≤ 1099511627776) : cl x = x := by unfold cl; rw [if_neg (by omega), if_neg (by omega)]
theorem cl_cl (x : Int) : cl (cl x) = cl x := cl_in (cl_ge x) (cl_le x)
theorem cl_add {x a : Int} (h : 0 ≤ x) (g : 0 ≤ a) : cl (cl x + a) = cl (x + a) := by
  rcases (show x ≤ 1099511627776 ∨ 1099511627776 < x by omega) with k | k
  · rw [cl_in h k]
  · have e : ∀ y : Int, 1099511627776 < y → cl y = 1099511627776 := fun y hy => by unfold cl; rw [if_neg (by omega), if_pos hy]
    rw [e x k, e (x + a) (by omega)]
    rcases (show a = 0 ∨ 0 < a by omega) with rfl | p
    · rfl
    · rw [e _ (by omega)]
theorem li_in {x : Int} (h : 0 ≤ x) (g : x ≤ 1000) : li x = x := by unfold li; rw [if_neg (by omega), if_neg (by omega)]
theorem ad_one (x : Int) : ad x 1 = cl (cl x + 1) := rfl
theorem ad_up (x : Int) : cl x ≤ ad x 1 := by
  have a := cl_ge x
  have b := cl_le x
  rw [ad_one]
  generalize cl x = y at a b
  unfold cl
  rw [if_neg (by omega)]
  split <;> omega
theorem ad_in (t : Int) {n : Int} (h : 0 ≤ n) (g : n ≤ 1000) : ad t n = cl (cl t + n) := by unfold ad; rw [li_in h g]
theorem ad_ad (t : Int) {n m : Int} (h : 0 ≤ n) (g : n ≤ 255) (h' : 0 ≤ m) (g' : m ≤ 255) : ad (ad t n) m = ad t (n + m) := by
  have a := cl_ge t
  rw [ad_in _ h' (by omega), ad_in _ h (by omega), ad_in _ (show 0 ≤ n + m by omega) (by omega), cl_cl, cl_add (by omega) h', Int.add_assoc]

/-- What the tick is behind k rounds. -/
def goes (t : Int) : Nat → Int
  | 0 => t
  | k + 1 => ad (goes t k) 1
theorem cl_goes (t : Int) : ∀ k : Nat, cl (goes t k) = cl (cl t + k)
  | 0 => by rw [goes, Int.natCast_zero, Int.add_zero, cl_cl]
  | k + 1 => by
    have a := cl_ge t
    rw [goes, ad_one, cl_cl, cl_goes t k, cl_add (by omega) (by omega)]
    congr 1
    omega

theorem clockGoes_walk (t n m : Int) (w : World) (h0 : 0 ≤ n) (h1 : n < 256) (h2 : 0 ≤ m) (h3 : m < 256) : Calls Try.prog 5 #[.int .i64 t, .int .u8 n, .int .u8 m] w fun e w' => e = .returned (.bool true) ∧ w = w' := by
  have AW := Lib.hid fun W => awake_any W
  have C := Lib.hid fun a W => clamp_any a W
  have L := Lib.hid fun a W => lawClamp_any a W
  have A := Lib.hid fun a b W => add_any a b W
  go_enter Try.func5, Try.ntmps5
  go_wp2_with fail
  refine (AW.out _).mono ?_
  rintro e w1 ⟨rfl, rfl⟩
  go_wp2_with fail
  go_loop [7, 8] (fun x i => ∃ k : Nat, (k : Int) ≤ n ∧ i = .int .i64 k ∧ x = .int .i64 (goes t k)) (fun _ i => n.toNat - (intOf i).toNat)
  case atStart => exact ⟨0, by omega, rfl, rfl⟩
  case round =>
    obtain ⟨k, hk, rfl, rfl⟩ := hrel
    have HS := Lib.hid (show ad (goes t k) 1 = goes t (k + 1) from rfl)
    by_cases hlt : (k : Int) < n
    · have hu := ad_up (goes t k)
      go_wp2_with fail
      refine (A.out _ _ _).mono ?_
      rintro e w1 ⟨rfl, rfl⟩
      go_wp2_with fail
      refine (L.out _ _).mono ?_
      rintro e w1 ⟨rfl, rfl⟩
      go_wp2_with fail
      go_round
      case rel => exact ⟨k + 1, by omega, by go_num, by rw [HS.out]⟩
      case measure => simp [intOf]; omega
    · obtain rfl : n = (k : Int) := by omega
      have e1 := cl_goes t k
      have e2 := ad_in t h0 (by omega)
      have e3 := ad_ad t h0 (by omega) h2 (by omega)
      rw [e2] at e3
      go_wp2_with fail
      refine (C.out _ _).mono ?_
      rintro e w1 ⟨rfl, rfl⟩
      go_wp2_with fail
      refine (A.out _ _ _).mono ?_
      rintro e w1 ⟨rfl, rfl⟩
      go_wp2_with fail
      refine (A.out _ _ _).mono ?_
      rintro e w1 ⟨rfl, rfl⟩
      go_wp2_with fail
      refine (A.out _ _ _).mono ?_
      rintro e w1 ⟨rfl, rfl⟩
      go_wp2_with fail
      refine (A.out _ _ _).mono ?_
      rintro e w1 ⟨rfl, rfl⟩
      go_wp2_with fail
      go_ret
      exact ⟨rfl, rfl⟩
end Go.Proofs.Ytoablgcbjcgdcaa
