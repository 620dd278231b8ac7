/-
  The walks of AddrWithin where its second prefix is made of the third argument: each way in which two prefixes can lie to one another, walked. Conditions: those that each theorem names.
-/
import Derived.Test.YtcbknlbpdlheeaaDoorHas
namespace Go.Proofs.YtcbknlbpdlheeaaDoor
open Go.RowKit
theorem p2_lt {a b : Int} (_h0 : 0 ≤ a) (h : a < b) (h1 : b ≤ 32) : p2 b < p2 a := by
  have e := p2_succ a (by omega)
  have hp := p2_pos (a + 1)
  have hd := p2_dvd (a := a + 1) (b := b) (by omega)
  have := Int.le_of_dvd hp hd
  omega

/-- Two multiples of p: what is ahead of the end is a whole p ahead. -/
theorem step_le {p x y : Int} (hp : 0 < p) (hx : p ∣ x) (hy : p ∣ y) (h : x < y) : x + p ≤ y := by
  obtain ⟨k, rfl⟩ := hx
  obtain ⟨l, rfl⟩ := hy
  have : k < l := Int.lt_of_mul_lt_mul_left h (Int.le_of_lt hp)
  have := Int.mul_le_mul_of_nonneg_left (show k + 1 ≤ l by omega) (Int.le_of_lt hp)
  rw [Int.mul_add, Int.mul_one] at this
  exact this

theorem within_in {A a B b : Int} (hA : okB A a = true) (hB : okB B b = true) : withinB A a B b = decide (B ≤ A ∧ A + p2 a ≤ B + p2 b) := by
  obtain ⟨a0, a1, am⟩ := ok_out hA
  obtain ⟨b0, b1, bm⟩ := ok_out hB
  have pa := p2_pos a
  have pb := p2_pos b
  simp only [withinB, hA, Bool.true_and, has_in hB]
  rw [Bool.eq_iff_iff]
  simp only [Bool.and_eq_true, decide_eq_true_eq]
  constructor
  · intro ⟨⟨h1, h2⟩, h3⟩
    have hd := p2_dvd h3
    exact ⟨h1, step_le pa (Int.dvd_of_emod_eq_zero am) (Int.dvd_add (Int.dvd_trans hd (Int.dvd_of_emod_eq_zero bm)) hd) h2⟩
  · intro ⟨h1, h2⟩
    refine ⟨⟨h1, by omega⟩, ?_⟩
    by_cases h : b ≤ a
    · exact h
    · have := p2_lt a0 (show a < b by omega) b1
      omega

/-- Prefixes that meet are one within the other. -/
theorem meet {A a B b : Int} (hA : okB A a = true) (hB : okB B b = true) (h1 : A < B + p2 b) (h2 : B < A + p2 a) : (B ≤ A ∧ A + p2 a ≤ B + p2 b) ∨ (A ≤ B ∧ B + p2 b ≤ A + p2 a) := by
  obtain ⟨a0, a1, am⟩ := ok_out hA
  obtain ⟨b0, b1, bm⟩ := ok_out hB
  have pa := p2_pos a
  have pb := p2_pos b
  have dA := Int.dvd_of_emod_eq_zero am
  have dB := Int.dvd_of_emod_eq_zero bm
  by_cases h : b ≤ a
  · have hd := p2_dvd h
    have e1 := step_le pa dA (Int.dvd_add (Int.dvd_trans hd dB) hd) h1
    have e2 := step_le pa (Int.dvd_trans hd dB) (Int.dvd_add dA (Int.dvd_refl _)) h2
    exact .inl ⟨by omega, by omega⟩
  · have hd := p2_dvd (show a ≤ b by omega)
    have e1 := step_le pb (Int.dvd_trans hd dA) (Int.dvd_add dB (Int.dvd_refl _)) h1
    have e2 := step_le pb dB (Int.dvd_add (Int.dvd_trans hd dA) hd) h2
    exact .inr ⟨by omega, by omega⟩

theorem over_in {A a B b : Int} (hA : okB A a = true) (hB : okB B b = true) : overB A a B b = decide (A < B + p2 b ∧ B < A + p2 a) := by
  have pa := p2_pos a
  have pb := p2_pos b
  simp only [overB, within_in hA hB, within_in hB hA]
  rw [Bool.eq_iff_iff]
  simp only [Bool.or_eq_true, decide_eq_true_eq]
  constructor
  · intro h; omega
  · intro ⟨h1, h2⟩; exact meet hA hB h1 h2

theorem xor_bd (a c : Int) (h0 : 0 ≤ a) (h1 : a < 4294967296) (hc0 : 0 ≤ c) (hc1 : c < 4294967296) : 0 ≤ bits .xor .u32 a c ∧ bits .xor .u32 a c < 4294967296 := by
  rw [u32_xor a c h0 h1 hc0 hc1]
  have := Nat.xor_lt_two_pow (x := a.toNat) (y := c.toNat) (n := 32) (by omega) (by omega)
  omega

set_option maxHeartbeats 1000000 in
theorem within_a_l (a n c m A x B y : Int) (w : World) (hn0 : 0 ≤ n) (hn1 : n ≤ 128) (hx0 : 0 ≤ x) (hx1 : x ≤ 32) (hy0 : 0 ≤ y) (hy1 : y ≤ 32) (_hA0 : 0 ≤ A) (_hA1 : A + p2 x ≤ 4294967296) (_hB0 : 0 ≤ B) (_hB1 : B + p2 y ≤ 4294967296)
    (q1 : B + p2 y ≤ A)
    (HT : Hid (Tab w)) (HX : Hid (∀ W, Calls Tryd.prog 21 #[.int .u32 a, .int .u8 n] W fun e w' => e = .returned (.agg #[.int .u32 A, .int .i64 x]) ∧ Below W.heap.size W w')) (HY : Hid (∀ W, Calls Tryd.prog 21 #[.int .u32 c, .int .u8 m] W fun e w' => e = .returned (.agg #[.int .u32 B, .int .i64 y]) ∧ Below W.heap.size W w')) (HW1 : Hid (∀ W, Calls Tryd.prog 24 #[.agg #[.int .u32 A, .int .i64 x], .agg #[.int .u32 B, .int .i64 y]] W fun e w' => e = .returned (.bool false) ∧ Below W.heap.size W w')) (HW2 : Hid (∀ W, Calls Tryd.prog 24 #[.agg #[.int .u32 B, .int .i64 y], .agg #[.int .u32 A, .int .i64 x]] W fun e w' => e = .returned (.bool false) ∧ Below W.heap.size W w')) (HO : Hid (∀ W, Calls Tryd.prog 25 #[.agg #[.int .u32 A, .int .i64 x], .agg #[.int .u32 B, .int .i64 y]] W fun e w' => e = .returned (.bool false) ∧ Below W.heap.size W w')) :
    Calls Tryd.prog 7 #[.int .u32 a, .int .u8 n, .int .u32 c, .int .u8 m] w fun e w' => e = .returned (.bool true) ∧ Below w.heap.size w w' := by
  have hv1 := wrap_p2u x hx0
  have hv2 := wrap_p2u y hy0
  have hp1 := p2_pos x
  have hp2 := p2_pos y
  have q2 : ¬ A + p2 x ≤ B + p2 y := by omega
  have q3 : ¬ A ≤ B := by omega
  have q4 : B ≤ A := by omega
  have q5 : ¬ A < B + p2 y := by omega
  go_enter Tryd.func7, Tryd.ntmps7
  go_wp2_with fail
  refine (awake_any _ HT.out).mono ?_
  rintro e w1 ⟨rfl, hb1⟩
  have HB1 := Lib.hid hb1
  clear hb1
  go_wp2_with fail
  refine (HX.out _).mono ?_
  rintro e w2 ⟨rfl, hb2⟩
  have HB2 := Lib.hid (HB1.out.trans (hb2.mono HB1.out.size))
  clear hb2
  go_wp2_with fail
  refine (HY.out _).mono ?_
  rintro e w3 ⟨rfl, hb3⟩
  have HB3 := Lib.hid (HB2.out.trans (hb3.mono HB2.out.size))
  clear hb3
  go_wp2_with fail
  go_quiet (fail)
  go_wp2_with fail
  go_quiet (fail)
  go_wp2_with fail
  refine (HW1.out _).mono ?_
  rintro e w4 ⟨rfl, hb4⟩
  have hz4 : w3.heap.size + 1 < w4.heap.size := by have := hb4.size; simp at this; omega
  have hz4' : w3.heap.size < w4.heap.size := by omega
  obtain ⟨hc4, hf4⟩ := bcell hb4
  have HB4 := Lib.hid ((bdrewN ((HB3.out.alloc HB3.out.size _).alloc (by have := HB3.out.size; simp; omega) _) _).trans (hb4.mono (by have := HB3.out.size; simp [World.drewN]; omega)))
  clear hb4
  go_wp2_with fail
  refine (HW2.out _).mono ?_
  rintro e w5 ⟨rfl, hb5⟩
  have hz5 : w3.heap.size + 1 < w5.heap.size := by have := hb5.size; omega
  have hz5' : w3.heap.size < w5.heap.size := by omega
  obtain ⟨hc5, hf5⟩ := bcell hb5
  have HB5 := Lib.hid (HB4.out.trans (hb5.mono HB4.out.size))
  clear hb5
  go_wp2_with fail
  refine (HO.out _).mono ?_
  rintro e w6 ⟨rfl, hb6⟩
  obtain ⟨hc6, hf6⟩ := bcell hb6
  have HB6 := Lib.hid (HB5.out.trans (hb6.mono HB5.out.size))
  clear hb6
  go_wp2_with fail
  refine (HO.out _).mono ?_
  rintro e w7 ⟨rfl, hb7⟩
  have HB7 := Lib.hid (HB6.out.trans (hb7.mono HB6.out.size))
  clear hb7
  go_wp2_with fail
  go_ret
  refine ⟨?_, HB7.out⟩
  first | exact ret_bool (by simp; omega) | rfl
set_option maxHeartbeats 1000000 in
theorem within_a_r (a n c m A x B y : Int) (w : World) (hn0 : 0 ≤ n) (hn1 : n ≤ 128) (hx0 : 0 ≤ x) (hx1 : x ≤ 32) (hy0 : 0 ≤ y) (hy1 : y ≤ 32) (_hA0 : 0 ≤ A) (_hA1 : A + p2 x ≤ 4294967296) (_hB0 : 0 ≤ B) (_hB1 : B + p2 y ≤ 4294967296)
    (q1 : A + p2 x ≤ B)
    (HT : Hid (Tab w)) (HX : Hid (∀ W, Calls Tryd.prog 21 #[.int .u32 a, .int .u8 n] W fun e w' => e = .returned (.agg #[.int .u32 A, .int .i64 x]) ∧ Below W.heap.size W w')) (HY : Hid (∀ W, Calls Tryd.prog 21 #[.int .u32 c, .int .u8 m] W fun e w' => e = .returned (.agg #[.int .u32 B, .int .i64 y]) ∧ Below W.heap.size W w')) (HW1 : Hid (∀ W, Calls Tryd.prog 24 #[.agg #[.int .u32 A, .int .i64 x], .agg #[.int .u32 B, .int .i64 y]] W fun e w' => e = .returned (.bool false) ∧ Below W.heap.size W w')) (HW2 : Hid (∀ W, Calls Tryd.prog 24 #[.agg #[.int .u32 B, .int .i64 y], .agg #[.int .u32 A, .int .i64 x]] W fun e w' => e = .returned (.bool false) ∧ Below W.heap.size W w')) (HO : Hid (∀ W, Calls Tryd.prog 25 #[.agg #[.int .u32 A, .int .i64 x], .agg #[.int .u32 B, .int .i64 y]] W fun e w' => e = .returned (.bool false) ∧ Below W.heap.size W w')) :
    Calls Tryd.prog 7 #[.int .u32 a, .int .u8 n, .int .u32 c, .int .u8 m] w fun e w' => e = .returned (.bool true) ∧ Below w.heap.size w w' := by
  have hv1 := wrap_p2u x hx0
  have hv2 := wrap_p2u y hy0
  have hp1 := p2_pos x
  have hp2 := p2_pos y
  have q2 : ¬ B + p2 y ≤ A + p2 x := by omega
  have q3 : A ≤ B := by omega
  have q4 : ¬ B ≤ A := by omega
  have q5 : A < B + p2 y := by omega
  have q6 : ¬ B < A + p2 x := by omega
  go_enter Tryd.func7, Tryd.ntmps7
  go_wp2_with fail
  refine (awake_any _ HT.out).mono ?_
  rintro e w1 ⟨rfl, hb1⟩
  have HB1 := Lib.hid hb1
  clear hb1
  go_wp2_with fail
  refine (HX.out _).mono ?_
  rintro e w2 ⟨rfl, hb2⟩
  have HB2 := Lib.hid (HB1.out.trans (hb2.mono HB1.out.size))
  clear hb2
  go_wp2_with fail
  refine (HY.out _).mono ?_
  rintro e w3 ⟨rfl, hb3⟩
  have HB3 := Lib.hid (HB2.out.trans (hb3.mono HB2.out.size))
  clear hb3
  go_wp2_with fail
  go_quiet (fail)
  go_wp2_with fail
  go_quiet (fail)
  go_wp2_with fail
  refine (HW1.out _).mono ?_
  rintro e w4 ⟨rfl, hb4⟩
  have hz4 : w3.heap.size + 1 < w4.heap.size := by have := hb4.size; simp at this; omega
  have hz4' : w3.heap.size < w4.heap.size := by omega
  obtain ⟨hc4, hf4⟩ := bcell hb4
  have HB4 := Lib.hid ((bdrewN ((HB3.out.alloc HB3.out.size _).alloc (by have := HB3.out.size; simp; omega) _) _).trans (hb4.mono (by have := HB3.out.size; simp [World.drewN]; omega)))
  clear hb4
  go_wp2_with fail
  refine (HW2.out _).mono ?_
  rintro e w5 ⟨rfl, hb5⟩
  have hz5 : w3.heap.size + 1 < w5.heap.size := by have := hb5.size; omega
  have hz5' : w3.heap.size < w5.heap.size := by omega
  obtain ⟨hc5, hf5⟩ := bcell hb5
  have HB5 := Lib.hid (HB4.out.trans (hb5.mono HB4.out.size))
  clear hb5
  go_wp2_with fail
  refine (HO.out _).mono ?_
  rintro e w6 ⟨rfl, hb6⟩
  obtain ⟨hc6, hf6⟩ := bcell hb6
  have HB6 := Lib.hid (HB5.out.trans (hb6.mono HB5.out.size))
  clear hb6
  go_wp2_with fail
  refine (HO.out _).mono ?_
  rintro e w7 ⟨rfl, hb7⟩
  have HB7 := Lib.hid (HB6.out.trans (hb7.mono HB6.out.size))
  clear hb7
  go_wp2_with fail
  go_ret
  refine ⟨?_, HB7.out⟩
  first | exact ret_bool (by simp; omega) | rfl
set_option maxHeartbeats 1000000 in
theorem within_a_i1 (a n c m A x B y : Int) (w : World) (hn0 : 0 ≤ n) (hn1 : n ≤ 128) (hx0 : 0 ≤ x) (hx1 : x ≤ 32) (hy0 : 0 ≤ y) (hy1 : y ≤ 32) (_hA0 : 0 ≤ A) (_hA1 : A + p2 x ≤ 4294967296) (_hB0 : 0 ≤ B) (_hB1 : B + p2 y ≤ 4294967296)
    (q1 : B < A) (q2 : A + p2 x ≤ B + p2 y)
    (HT : Hid (Tab w)) (HX : Hid (∀ W, Calls Tryd.prog 21 #[.int .u32 a, .int .u8 n] W fun e w' => e = .returned (.agg #[.int .u32 A, .int .i64 x]) ∧ Below W.heap.size W w')) (HY : Hid (∀ W, Calls Tryd.prog 21 #[.int .u32 c, .int .u8 m] W fun e w' => e = .returned (.agg #[.int .u32 B, .int .i64 y]) ∧ Below W.heap.size W w')) (HW1 : Hid (∀ W, Calls Tryd.prog 24 #[.agg #[.int .u32 A, .int .i64 x], .agg #[.int .u32 B, .int .i64 y]] W fun e w' => e = .returned (.bool true) ∧ Below W.heap.size W w')) (HW2 : Hid (∀ W, Calls Tryd.prog 24 #[.agg #[.int .u32 B, .int .i64 y], .agg #[.int .u32 A, .int .i64 x]] W fun e w' => e = .returned (.bool false) ∧ Below W.heap.size W w')) (HO : Hid (∀ W, Calls Tryd.prog 25 #[.agg #[.int .u32 A, .int .i64 x], .agg #[.int .u32 B, .int .i64 y]] W fun e w' => e = .returned (.bool true) ∧ Below W.heap.size W w')) :
    Calls Tryd.prog 7 #[.int .u32 a, .int .u8 n, .int .u32 c, .int .u8 m] w fun e w' => e = .returned (.bool true) ∧ Below w.heap.size w w' := by
  have hv1 := wrap_p2u x hx0
  have hv2 := wrap_p2u y hy0
  have hp1 := p2_pos x
  have hp2 := p2_pos y
  have q3 : ¬ A ≤ B := by omega
  have q4 : B ≤ A := by omega
  have q5 : A < B + p2 y := by omega
  have q6 : B < A + p2 x := by omega
  go_enter Tryd.func7, Tryd.ntmps7
  go_wp2_with fail
  refine (awake_any _ HT.out).mono ?_
  rintro e w1 ⟨rfl, hb1⟩
  have HB1 := Lib.hid hb1
  clear hb1
  go_wp2_with fail
  refine (HX.out _).mono ?_
  rintro e w2 ⟨rfl, hb2⟩
  have HB2 := Lib.hid (HB1.out.trans (hb2.mono HB1.out.size))
  clear hb2
  go_wp2_with fail
  refine (HY.out _).mono ?_
  rintro e w3 ⟨rfl, hb3⟩
  have HB3 := Lib.hid (HB2.out.trans (hb3.mono HB2.out.size))
  clear hb3
  go_wp2_with fail
  go_quiet (fail)
  go_wp2_with fail
  go_quiet (fail)
  go_wp2_with fail
  refine (HW1.out _).mono ?_
  rintro e w4 ⟨rfl, hb4⟩
  have hz4 : w3.heap.size + 1 < w4.heap.size := by have := hb4.size; simp at this; omega
  have hz4' : w3.heap.size < w4.heap.size := by omega
  obtain ⟨hc4, hf4⟩ := bcell hb4
  have HB4 := Lib.hid ((bdrewN ((HB3.out.alloc HB3.out.size _).alloc (by have := HB3.out.size; simp; omega) _) _).trans (hb4.mono (by have := HB3.out.size; simp [World.drewN]; omega)))
  clear hb4
  go_wp2_with fail
  refine (HW2.out _).mono ?_
  rintro e w5 ⟨rfl, hb5⟩
  have hz5 : w3.heap.size + 1 < w5.heap.size := by have := hb5.size; omega
  have hz5' : w3.heap.size < w5.heap.size := by omega
  obtain ⟨hc5, hf5⟩ := bcell hb5
  have HB5 := Lib.hid (HB4.out.trans (hb5.mono HB4.out.size))
  clear hb5
  go_wp2_with fail
  refine (HO.out _).mono ?_
  rintro e w6 ⟨rfl, hb6⟩
  obtain ⟨hc6, hf6⟩ := bcell hb6
  have HB6 := Lib.hid (HB5.out.trans (hb6.mono HB5.out.size))
  clear hb6
  go_wp2_with fail
  refine (HO.out _).mono ?_
  rintro e w7 ⟨rfl, hb7⟩
  have HB7 := Lib.hid (HB6.out.trans (hb7.mono HB6.out.size))
  clear hb7
  go_wp2_with fail
  go_ret
  refine ⟨?_, HB7.out⟩
  first | exact ret_bool (by simp; omega) | rfl
set_option maxHeartbeats 1000000 in
theorem within_a_i2 (a n c m A x B y : Int) (w : World) (hn0 : 0 ≤ n) (hn1 : n ≤ 128) (hx0 : 0 ≤ x) (hx1 : x ≤ 32) (hy0 : 0 ≤ y) (hy1 : y ≤ 32) (_hA0 : 0 ≤ A) (_hA1 : A + p2 x ≤ 4294967296) (_hB0 : 0 ≤ B) (_hB1 : B + p2 y ≤ 4294967296)
    (q1 : B ≤ A) (q2 : A ≤ B) (q3 : A + p2 x < B + p2 y)
    (HT : Hid (Tab w)) (HX : Hid (∀ W, Calls Tryd.prog 21 #[.int .u32 a, .int .u8 n] W fun e w' => e = .returned (.agg #[.int .u32 A, .int .i64 x]) ∧ Below W.heap.size W w')) (HY : Hid (∀ W, Calls Tryd.prog 21 #[.int .u32 c, .int .u8 m] W fun e w' => e = .returned (.agg #[.int .u32 B, .int .i64 y]) ∧ Below W.heap.size W w')) (HW1 : Hid (∀ W, Calls Tryd.prog 24 #[.agg #[.int .u32 A, .int .i64 x], .agg #[.int .u32 B, .int .i64 y]] W fun e w' => e = .returned (.bool true) ∧ Below W.heap.size W w')) (HW2 : Hid (∀ W, Calls Tryd.prog 24 #[.agg #[.int .u32 B, .int .i64 y], .agg #[.int .u32 A, .int .i64 x]] W fun e w' => e = .returned (.bool false) ∧ Below W.heap.size W w')) (HO : Hid (∀ W, Calls Tryd.prog 25 #[.agg #[.int .u32 A, .int .i64 x], .agg #[.int .u32 B, .int .i64 y]] W fun e w' => e = .returned (.bool true) ∧ Below W.heap.size W w')) :
    Calls Tryd.prog 7 #[.int .u32 a, .int .u8 n, .int .u32 c, .int .u8 m] w fun e w' => e = .returned (.bool true) ∧ Below w.heap.size w w' := by
  have hv1 := wrap_p2u x hx0
  have hv2 := wrap_p2u y hy0
  have hp1 := p2_pos x
  have hp2 := p2_pos y
  have q4 : A + p2 x ≤ B + p2 y := by omega
  have q7 : ¬ B + p2 y ≤ A + p2 x := by omega
  have q5 : A < B + p2 y := by omega
  have q6 : B < A + p2 x := by omega
  go_enter Tryd.func7, Tryd.ntmps7
  go_wp2_with fail
  refine (awake_any _ HT.out).mono ?_
  rintro e w1 ⟨rfl, hb1⟩
  have HB1 := Lib.hid hb1
  clear hb1
  go_wp2_with fail
  refine (HX.out _).mono ?_
  rintro e w2 ⟨rfl, hb2⟩
  have HB2 := Lib.hid (HB1.out.trans (hb2.mono HB1.out.size))
  clear hb2
  go_wp2_with fail
  refine (HY.out _).mono ?_
  rintro e w3 ⟨rfl, hb3⟩
  have HB3 := Lib.hid (HB2.out.trans (hb3.mono HB2.out.size))
  clear hb3
  go_wp2_with fail
  go_quiet (fail)
  go_wp2_with fail
  go_quiet (fail)
  go_wp2_with fail
  refine (HW1.out _).mono ?_
  rintro e w4 ⟨rfl, hb4⟩
  have hz4 : w3.heap.size + 1 < w4.heap.size := by have := hb4.size; simp at this; omega
  have hz4' : w3.heap.size < w4.heap.size := by omega
  obtain ⟨hc4, hf4⟩ := bcell hb4
  have HB4 := Lib.hid ((bdrewN ((HB3.out.alloc HB3.out.size _).alloc (by have := HB3.out.size; simp; omega) _) _).trans (hb4.mono (by have := HB3.out.size; simp [World.drewN]; omega)))
  clear hb4
  go_wp2_with fail
  refine (HW2.out _).mono ?_
  rintro e w5 ⟨rfl, hb5⟩
  have hz5 : w3.heap.size + 1 < w5.heap.size := by have := hb5.size; omega
  have hz5' : w3.heap.size < w5.heap.size := by omega
  obtain ⟨hc5, hf5⟩ := bcell hb5
  have HB5 := Lib.hid (HB4.out.trans (hb5.mono HB4.out.size))
  clear hb5
  go_wp2_with fail
  refine (HO.out _).mono ?_
  rintro e w6 ⟨rfl, hb6⟩
  obtain ⟨hc6, hf6⟩ := bcell hb6
  have HB6 := Lib.hid (HB5.out.trans (hb6.mono HB5.out.size))
  clear hb6
  go_wp2_with fail
  refine (HO.out _).mono ?_
  rintro e w7 ⟨rfl, hb7⟩
  have HB7 := Lib.hid (HB6.out.trans (hb7.mono HB6.out.size))
  clear hb7
  go_wp2_with fail
  go_ret
  refine ⟨?_, HB7.out⟩
  first | exact ret_bool (by simp; omega) | rfl
set_option maxHeartbeats 1000000 in
theorem within_a_o1 (a n c m A x B y : Int) (w : World) (hn0 : 0 ≤ n) (hn1 : n ≤ 128) (hx0 : 0 ≤ x) (hx1 : x ≤ 32) (hy0 : 0 ≤ y) (hy1 : y ≤ 32) (_hA0 : 0 ≤ A) (_hA1 : A + p2 x ≤ 4294967296) (_hB0 : 0 ≤ B) (_hB1 : B + p2 y ≤ 4294967296)
    (q1 : A < B) (q2 : B + p2 y ≤ A + p2 x)
    (HT : Hid (Tab w)) (HX : Hid (∀ W, Calls Tryd.prog 21 #[.int .u32 a, .int .u8 n] W fun e w' => e = .returned (.agg #[.int .u32 A, .int .i64 x]) ∧ Below W.heap.size W w')) (HY : Hid (∀ W, Calls Tryd.prog 21 #[.int .u32 c, .int .u8 m] W fun e w' => e = .returned (.agg #[.int .u32 B, .int .i64 y]) ∧ Below W.heap.size W w')) (HW1 : Hid (∀ W, Calls Tryd.prog 24 #[.agg #[.int .u32 A, .int .i64 x], .agg #[.int .u32 B, .int .i64 y]] W fun e w' => e = .returned (.bool false) ∧ Below W.heap.size W w')) (HW2 : Hid (∀ W, Calls Tryd.prog 24 #[.agg #[.int .u32 B, .int .i64 y], .agg #[.int .u32 A, .int .i64 x]] W fun e w' => e = .returned (.bool true) ∧ Below W.heap.size W w')) (HO : Hid (∀ W, Calls Tryd.prog 25 #[.agg #[.int .u32 A, .int .i64 x], .agg #[.int .u32 B, .int .i64 y]] W fun e w' => e = .returned (.bool true) ∧ Below W.heap.size W w')) :
    Calls Tryd.prog 7 #[.int .u32 a, .int .u8 n, .int .u32 c, .int .u8 m] w fun e w' => e = .returned (.bool true) ∧ Below w.heap.size w w' := by
  have hv1 := wrap_p2u x hx0
  have hv2 := wrap_p2u y hy0
  have hp1 := p2_pos x
  have hp2 := p2_pos y
  have q3 : A ≤ B := by omega
  have q4 : ¬ B ≤ A := by omega
  have q5 : A < B + p2 y := by omega
  have q6 : B < A + p2 x := by omega
  go_enter Tryd.func7, Tryd.ntmps7
  go_wp2_with fail
  refine (awake_any _ HT.out).mono ?_
  rintro e w1 ⟨rfl, hb1⟩
  have HB1 := Lib.hid hb1
  clear hb1
  go_wp2_with fail
  refine (HX.out _).mono ?_
  rintro e w2 ⟨rfl, hb2⟩
  have HB2 := Lib.hid (HB1.out.trans (hb2.mono HB1.out.size))
  clear hb2
  go_wp2_with fail
  refine (HY.out _).mono ?_
  rintro e w3 ⟨rfl, hb3⟩
  have HB3 := Lib.hid (HB2.out.trans (hb3.mono HB2.out.size))
  clear hb3
  go_wp2_with fail
  go_quiet (fail)
  go_wp2_with fail
  go_quiet (fail)
  go_wp2_with fail
  refine (HW1.out _).mono ?_
  rintro e w4 ⟨rfl, hb4⟩
  have hz4 : w3.heap.size + 1 < w4.heap.size := by have := hb4.size; simp at this; omega
  have hz4' : w3.heap.size < w4.heap.size := by omega
  obtain ⟨hc4, hf4⟩ := bcell hb4
  have HB4 := Lib.hid ((bdrewN ((HB3.out.alloc HB3.out.size _).alloc (by have := HB3.out.size; simp; omega) _) _).trans (hb4.mono (by have := HB3.out.size; simp [World.drewN]; omega)))
  clear hb4
  go_wp2_with fail
  refine (HW2.out _).mono ?_
  rintro e w5 ⟨rfl, hb5⟩
  have hz5 : w3.heap.size + 1 < w5.heap.size := by have := hb5.size; omega
  have hz5' : w3.heap.size < w5.heap.size := by omega
  obtain ⟨hc5, hf5⟩ := bcell hb5
  have HB5 := Lib.hid (HB4.out.trans (hb5.mono HB4.out.size))
  clear hb5
  go_wp2_with fail
  refine (HO.out _).mono ?_
  rintro e w6 ⟨rfl, hb6⟩
  obtain ⟨hc6, hf6⟩ := bcell hb6
  have HB6 := Lib.hid (HB5.out.trans (hb6.mono HB5.out.size))
  clear hb6
  go_wp2_with fail
  refine (HO.out _).mono ?_
  rintro e w7 ⟨rfl, hb7⟩
  have HB7 := Lib.hid (HB6.out.trans (hb7.mono HB6.out.size))
  clear hb7
  go_wp2_with fail
  go_ret
  refine ⟨?_, HB7.out⟩
  first | exact ret_bool (by simp; omega) | rfl
set_option maxHeartbeats 1000000 in
theorem within_a_o2 (a n c m A x B y : Int) (w : World) (hn0 : 0 ≤ n) (hn1 : n ≤ 128) (hx0 : 0 ≤ x) (hx1 : x ≤ 32) (hy0 : 0 ≤ y) (hy1 : y ≤ 32) (_hA0 : 0 ≤ A) (_hA1 : A + p2 x ≤ 4294967296) (_hB0 : 0 ≤ B) (_hB1 : B + p2 y ≤ 4294967296)
    (q1 : B ≤ A) (q2 : A ≤ B) (q3 : B + p2 y < A + p2 x)
    (HT : Hid (Tab w)) (HX : Hid (∀ W, Calls Tryd.prog 21 #[.int .u32 a, .int .u8 n] W fun e w' => e = .returned (.agg #[.int .u32 A, .int .i64 x]) ∧ Below W.heap.size W w')) (HY : Hid (∀ W, Calls Tryd.prog 21 #[.int .u32 c, .int .u8 m] W fun e w' => e = .returned (.agg #[.int .u32 B, .int .i64 y]) ∧ Below W.heap.size W w')) (HW1 : Hid (∀ W, Calls Tryd.prog 24 #[.agg #[.int .u32 A, .int .i64 x], .agg #[.int .u32 B, .int .i64 y]] W fun e w' => e = .returned (.bool false) ∧ Below W.heap.size W w')) (HW2 : Hid (∀ W, Calls Tryd.prog 24 #[.agg #[.int .u32 B, .int .i64 y], .agg #[.int .u32 A, .int .i64 x]] W fun e w' => e = .returned (.bool true) ∧ Below W.heap.size W w')) (HO : Hid (∀ W, Calls Tryd.prog 25 #[.agg #[.int .u32 A, .int .i64 x], .agg #[.int .u32 B, .int .i64 y]] W fun e w' => e = .returned (.bool true) ∧ Below W.heap.size W w')) :
    Calls Tryd.prog 7 #[.int .u32 a, .int .u8 n, .int .u32 c, .int .u8 m] w fun e w' => e = .returned (.bool true) ∧ Below w.heap.size w w' := by
  have hv1 := wrap_p2u x hx0
  have hv2 := wrap_p2u y hy0
  have hp1 := p2_pos x
  have hp2 := p2_pos y
  have q4 : ¬ A + p2 x ≤ B + p2 y := by omega
  have q7 : B + p2 y ≤ A + p2 x := by omega
  have q5 : A < B + p2 y := by omega
  have q6 : B < A + p2 x := by omega
  go_enter Tryd.func7, Tryd.ntmps7
  go_wp2_with fail
  refine (awake_any _ HT.out).mono ?_
  rintro e w1 ⟨rfl, hb1⟩
  have HB1 := Lib.hid hb1
  clear hb1
  go_wp2_with fail
  refine (HX.out _).mono ?_
  rintro e w2 ⟨rfl, hb2⟩
  have HB2 := Lib.hid (HB1.out.trans (hb2.mono HB1.out.size))
  clear hb2
  go_wp2_with fail
  refine (HY.out _).mono ?_
  rintro e w3 ⟨rfl, hb3⟩
  have HB3 := Lib.hid (HB2.out.trans (hb3.mono HB2.out.size))
  clear hb3
  go_wp2_with fail
  go_quiet (fail)
  go_wp2_with fail
  go_quiet (fail)
  go_wp2_with fail
  refine (HW1.out _).mono ?_
  rintro e w4 ⟨rfl, hb4⟩
  have hz4 : w3.heap.size + 1 < w4.heap.size := by have := hb4.size; simp at this; omega
  have hz4' : w3.heap.size < w4.heap.size := by omega
  obtain ⟨hc4, hf4⟩ := bcell hb4
  have HB4 := Lib.hid ((bdrewN ((HB3.out.alloc HB3.out.size _).alloc (by have := HB3.out.size; simp; omega) _) _).trans (hb4.mono (by have := HB3.out.size; simp [World.drewN]; omega)))
  clear hb4
  go_wp2_with fail
  refine (HW2.out _).mono ?_
  rintro e w5 ⟨rfl, hb5⟩
  have hz5 : w3.heap.size + 1 < w5.heap.size := by have := hb5.size; omega
  have hz5' : w3.heap.size < w5.heap.size := by omega
  obtain ⟨hc5, hf5⟩ := bcell hb5
  have HB5 := Lib.hid (HB4.out.trans (hb5.mono HB4.out.size))
  clear hb5
  go_wp2_with fail
  refine (HO.out _).mono ?_
  rintro e w6 ⟨rfl, hb6⟩
  obtain ⟨hc6, hf6⟩ := bcell hb6
  have HB6 := Lib.hid (HB5.out.trans (hb6.mono HB5.out.size))
  clear hb6
  go_wp2_with fail
  refine (HO.out _).mono ?_
  rintro e w7 ⟨rfl, hb7⟩
  have HB7 := Lib.hid (HB6.out.trans (hb7.mono HB6.out.size))
  clear hb7
  go_wp2_with fail
  go_ret
  refine ⟨?_, HB7.out⟩
  first | exact ret_bool (by simp; omega) | rfl
set_option maxHeartbeats 1000000 in
theorem within_a_e (a n c m A x B y : Int) (w : World) (hn0 : 0 ≤ n) (hn1 : n ≤ 128) (hx0 : 0 ≤ x) (hx1 : x ≤ 32) (hy0 : 0 ≤ y) (hy1 : y ≤ 32) (_hA0 : 0 ≤ A) (_hA1 : A + p2 x ≤ 4294967296) (_hB0 : 0 ≤ B) (_hB1 : B + p2 y ≤ 4294967296)
    (q1 : B ≤ A) (q2 : A ≤ B) (q3 : B + p2 y ≤ A + p2 x) (q4 : A + p2 x ≤ B + p2 y)
    (HT : Hid (Tab w)) (HX : Hid (∀ W, Calls Tryd.prog 21 #[.int .u32 a, .int .u8 n] W fun e w' => e = .returned (.agg #[.int .u32 A, .int .i64 x]) ∧ Below W.heap.size W w')) (HY : Hid (∀ W, Calls Tryd.prog 21 #[.int .u32 c, .int .u8 m] W fun e w' => e = .returned (.agg #[.int .u32 B, .int .i64 y]) ∧ Below W.heap.size W w')) (HW1 : Hid (∀ W, Calls Tryd.prog 24 #[.agg #[.int .u32 A, .int .i64 x], .agg #[.int .u32 B, .int .i64 y]] W fun e w' => e = .returned (.bool true) ∧ Below W.heap.size W w')) (HW2 : Hid (∀ W, Calls Tryd.prog 24 #[.agg #[.int .u32 B, .int .i64 y], .agg #[.int .u32 A, .int .i64 x]] W fun e w' => e = .returned (.bool true) ∧ Below W.heap.size W w')) (HO : Hid (∀ W, Calls Tryd.prog 25 #[.agg #[.int .u32 A, .int .i64 x], .agg #[.int .u32 B, .int .i64 y]] W fun e w' => e = .returned (.bool true) ∧ Below W.heap.size W w')) :
    Calls Tryd.prog 7 #[.int .u32 a, .int .u8 n, .int .u32 c, .int .u8 m] w fun e w' => e = .returned (.bool true) ∧ Below w.heap.size w w' := by
  have hv1 := wrap_p2u x hx0
  have hv2 := wrap_p2u y hy0
  have hp1 := p2_pos x
  have hp2 := p2_pos y
  have q5 : A < B + p2 y := by omega
  have q6 : B < A + p2 x := by omega
  go_enter Tryd.func7, Tryd.ntmps7
  go_wp2_with fail
  refine (awake_any _ HT.out).mono ?_
  rintro e w1 ⟨rfl, hb1⟩
  have HB1 := Lib.hid hb1
  clear hb1
  go_wp2_with fail
  refine (HX.out _).mono ?_
  rintro e w2 ⟨rfl, hb2⟩
  have HB2 := Lib.hid (HB1.out.trans (hb2.mono HB1.out.size))
  clear hb2
  go_wp2_with fail
  refine (HY.out _).mono ?_
  rintro e w3 ⟨rfl, hb3⟩
  have HB3 := Lib.hid (HB2.out.trans (hb3.mono HB2.out.size))
  clear hb3
  go_wp2_with fail
  go_quiet (fail)
  go_wp2_with fail
  go_quiet (fail)
  go_wp2_with fail
  refine (HW1.out _).mono ?_
  rintro e w4 ⟨rfl, hb4⟩
  have hz4 : w3.heap.size + 1 < w4.heap.size := by have := hb4.size; simp at this; omega
  have hz4' : w3.heap.size < w4.heap.size := by omega
  obtain ⟨hc4, hf4⟩ := bcell hb4
  have HB4 := Lib.hid ((bdrewN ((HB3.out.alloc HB3.out.size _).alloc (by have := HB3.out.size; simp; omega) _) _).trans (hb4.mono (by have := HB3.out.size; simp [World.drewN]; omega)))
  clear hb4
  go_wp2_with fail
  refine (HW2.out _).mono ?_
  rintro e w5 ⟨rfl, hb5⟩
  have hz5 : w3.heap.size + 1 < w5.heap.size := by have := hb5.size; omega
  have hz5' : w3.heap.size < w5.heap.size := by omega
  obtain ⟨hc5, hf5⟩ := bcell hb5
  have HB5 := Lib.hid (HB4.out.trans (hb5.mono HB4.out.size))
  clear hb5
  go_wp2_with fail
  refine (HO.out _).mono ?_
  rintro e w6 ⟨rfl, hb6⟩
  obtain ⟨hc6, hf6⟩ := bcell hb6
  have HB6 := Lib.hid (HB5.out.trans (hb6.mono HB5.out.size))
  clear hb6
  go_wp2_with fail
  refine (HO.out _).mono ?_
  rintro e w7 ⟨rfl, hb7⟩
  have HB7 := Lib.hid (HB6.out.trans (hb7.mono HB6.out.size))
  clear hb7
  go_wp2_with fail
  go_ret
  refine ⟨?_, HB7.out⟩
  first | exact ret_bool (by simp; omega) | rfl
end Go.Proofs.YtcbknlbpdlheeaaDoor
