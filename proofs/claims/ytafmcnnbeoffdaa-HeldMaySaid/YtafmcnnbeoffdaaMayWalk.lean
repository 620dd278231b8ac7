/-
  HeldMay, walked. Conditions: a text that a process can hold.
-/
import Derived.Test.YtafmcnnbeoffdaaSom
set_option linter.unusedSimpArgs false
set_option linter.unusedVariables false
namespace Go.Proofs.Ytafmcnnbeoffdaa
open Go.RowKit

def alph : ByteArray := ⟨#[97, 98, 99, 100, 101, 102, 103, 104, 105, 106, 107, 108, 109, 110, 111, 112]⟩
theorem alph_may (r : Nat) (hr : r < 12) : mayB (alph.extract 0 r) = (decide (0 < r) && decide (r < 9)) := by
  rcases (show r = 0 ∨ r = 1 ∨ r = 2 ∨ r = 3 ∨ r = 4 ∨ r = 5 ∨ r = 6 ∨ r = 7 ∨ r = 8 ∨ r = 9 ∨ r = 10 ∨ r = 11 by omega) with rfl | rfl | rfl | rfl | rfl | rfl | rfl | rfl | rfl | rfl | rfl | rfl <;> decide
theorem alph_size (r : Nat) : (alph.extract 0 r).size ≤ 16 := by
  rw [ByteArray.size_extract]
  have : alph.size = 16 := rfl
  omega

set_option maxRecDepth 100000 in
set_option maxHeartbeats 2000000 in
theorem heldMay_walk (s : ByteArray) (n : Int) (w : World) (hs : s.size ≤ 9223372036854775807) (h0 : 0 ≤ n) (h1 : n < 256) :
    Calls Try.prog 4 #[.string s, .int .u8 n] w fun e w' => e = .returned (.bool true) ∧ Below w.heap.size w w' := by
  obtain ⟨r, hr⟩ : ∃ r : Nat, n % 12 = r := ⟨(n % 12).toNat, by omega⟩
  have hr12 : r < 12 := by omega
  have HM := Lib.hid fun W => may_any s W hs
  have HM2 := Lib.hid fun W => may14_any s W hs
  have HM3 := Lib.hid fun W => may_any (alph.extract 0 r) W (by have := alph_size r; omega)
  rw [alph_may r hr12] at HM3
  have hS : (alph.extract 0 r) = (⟨#[97, 98, 99, 100, 101, 102, 103, 104, 105, 106, 107, 108, 109, 110, 111, 112]⟩ : ByteArray).extract 0 r := rfl
  rw [hS] at HM3
  clear hS
  generalize mayB s = B at *
  have hB : (decide (0 < r) && decide (r < 9)) = (decide ((0 : Int) < r) && decide ((r : Int) < 9)) := by
    rw [Bool.eq_iff_iff]; simp; omega
  rw [hB] at HM3
  clear hB
  go_enter Try.func4, Try.ntmps4
  go_wp2_with fail
  refine (awake_any _).mono ?_
  rintro e w1 ⟨rfl, hb⟩
  have B1 := Lib.hid hb
  clear hb
  by_cases a : 0 < r
  · by_cases b : r < 9
    · have a' : (0 : Int) < r := by omega
      have b' : (r : Int) < 9 := by omega
      simp only [a', b', decide_true, Bool.and_true] at HM3
      go_wp2_with fail
      refine (HM.out _).mono ?_
      rintro e w2 ⟨rfl, rfl⟩
      go_wp2_with fail
      refine (HM2.out _).mono ?_
      rintro e w2 ⟨rfl, rfl⟩
      go_wp2_with fail
      refine (HM3.out _).mono ?_
      rintro e w2 ⟨rfl, rfl⟩
      go_wp2_with fail
      go_ret
      exact ⟨rfl, B1.out⟩
    · have a' : (0 : Int) < r := by omega
      have b' : ¬ (r : Int) < 9 := by omega
      simp only [a', b', decide_true, decide_false, Bool.and_false] at HM3
      have b2 : decide ((r : Int) < 9) = false := decide_eq_false b'
      go_wp2_with fail
      refine (HM.out _).mono ?_
      rintro e w2 ⟨rfl, rfl⟩
      go_wp2_with fail
      refine (HM2.out _).mono ?_
      rintro e w2 ⟨rfl, rfl⟩
      go_wp2_with fail
      refine (HM3.out _).mono ?_
      rintro e w2 ⟨rfl, rfl⟩
      go_wp2_with fail
      go_ret
      exact ⟨rfl, B1.out⟩
  · obtain rfl : r = 0 := by omega
    rw [show (decide ((0 : Int) < ((0 : Nat) : Int)) && decide (((0 : Nat) : Int) < 9)) = false from rfl] at HM3
    clear a
    go_wp2_with fail
    refine (HM.out _).mono ?_
    rintro e w2 ⟨rfl, rfl⟩
    go_wp2_with fail
    refine (HM2.out _).mono ?_
    rintro e w2 ⟨rfl, rfl⟩
    go_wp2_with fail
    refine (HM3.out _).mono ?_
    rintro e w2 ⟨rfl, rfl⟩
    go_wp2_with fail
    go_ret
    exact ⟨rfl, B1.out⟩
end Go.Proofs.Ytafmcnnbeoffdaa
