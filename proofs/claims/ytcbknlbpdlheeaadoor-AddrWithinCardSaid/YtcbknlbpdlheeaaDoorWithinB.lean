/-
  The walks of AddrWithin where its second prefix is made near the first: each way in which two prefixes can lie to one another, walked. Conditions: those that each theorem names.
-/
import Derived.Test.YtcbknlbpdlheeaaDoorWithin
namespace Go.Proofs.YtcbknlbpdlheeaaDoor
open Go.RowKit
set_option maxHeartbeats 1000000 in
theorem within_b_l (a n c m A x B y C z : Int) (w : World) (hc0 : 0 ≤ c) (hn0 : 128 < n) (_hn1 : n < 256) (hx0 : 0 ≤ x) (hx1 : x ≤ 32) (hy0 : 0 ≤ y) (hy1 : y ≤ 32) (_hA0 : 0 ≤ A) (_hA1 : A + p2 x ≤ 4294967296) (_hB0 : 0 ≤ B) (_hB1 : B + p2 y ≤ 4294967296)
    (q1 : B + p2 y ≤ A)
    (HT : Hid (Tab w)) (HX : Hid (∀ W, Calls Tryd.prog 21 #[.int .u32 a, .int .u8 n] W fun e w' => e = .returned (.agg #[.int .u32 A, .int .i64 x]) ∧ Below W.heap.size W w')) (HY : Hid (∀ W, Calls Tryd.prog 21 #[.int .u32 c, .int .u8 m] W fun e w' => e = .returned (.agg #[.int .u32 C, .int .i64 z]) ∧ Below W.heap.size W w')) (HZ : Hid (∀ W, Calls Tryd.prog 21 #[.int .u32 (bits .xor .u32 a (c % 64)), .int .u8 m] W fun e w' => e = .returned (.agg #[.int .u32 B, .int .i64 y]) ∧ Below W.heap.size W w')) (HW1 : Hid (∀ W, Calls Tryd.prog 24 #[.agg #[.int .u32 A, .int .i64 x], .agg #[.int .u32 B, .int .i64 y]] W fun e w' => e = .returned (.bool false) ∧ Below W.heap.size W w')) (HW2 : Hid (∀ W, Calls Tryd.prog 24 #[.agg #[.int .u32 B, .int .i64 y], .agg #[.int .u32 A, .int .i64 x]] W fun e w' => e = .returned (.bool false) ∧ Below W.heap.size W w')) (HO : Hid (∀ W, Calls Tryd.prog 25 #[.agg #[.int .u32 A, .int .i64 x], .agg #[.int .u32 B, .int .i64 y]] W fun e w' => e = .returned (.bool false) ∧ Below W.heap.size W w')) :
    Calls Tryd.prog 7 #[.int .u32 a, .int .u8 n, .int .u32 c, .int .u8 m] w fun e w' => e = .returned (.bool true) ∧ Below w.heap.size w w' := by
  have hv1 := wrap_p2u x hx0
  have hv2 := wrap_p2u y hy0
  have hp1 := p2_pos x
  have hp2 := p2_pos y
  have q2 : ¬ A + p2 x ≤ B + p2 y := by omega
  have q3 : ¬ A ≤ B := by omega
  have q4 : B ≤ A := by omega
  have q5 : ¬ A < B + p2 y := by omega
  go_enter Tryd.func7, Tryd.ntmps7
  go_wp2_with fail
  refine (awake_any _ HT.out).mono ?_
  rintro e w1 ⟨rfl, hb1⟩
  have HB1 := Lib.hid hb1
  clear hb1
  go_wp2_with fail
  refine (HX.out _).mono ?_
  rintro e w2 ⟨rfl, hb2⟩
  have HB2 := Lib.hid (HB1.out.trans (hb2.mono HB1.out.size))
  clear hb2
  go_wp2_with fail
  refine (HY.out _).mono ?_
  rintro e w3 ⟨rfl, hb3⟩
  have HB3 := Lib.hid (HB2.out.trans (hb3.mono HB2.out.size))
  clear hb3
  go_wp2_with fail
  refine (HZ.out _).mono ?_
  rintro e w8 ⟨rfl, hb8⟩
  have hz8 : w3.heap.size + 1 < w8.heap.size := by have := hb8.size; simp at this; omega
  have hz8' : w3.heap.size < w8.heap.size := by omega
  obtain ⟨hc8, hf8⟩ := bcell hb8
  have HB8 := Lib.hid (((HB3.out.alloc HB3.out.size _).alloc (by have := HB3.out.size; simp; omega) _).trans (hb8.mono (by have := HB3.out.size; simp; omega)))
  clear hb8
  go_wp2_with fail
  go_quiet (fail)
  go_wp2_with fail
  go_quiet (fail)
  go_wp2_with fail
  refine (HW1.out _).mono ?_
  rintro e w4 ⟨rfl, hb4⟩
  have hz4 : w3.heap.size + 1 < w4.heap.size := by have := hb4.size; simp [World.drewN, World.setCell] at this; omega
  have hz4' : w3.heap.size < w4.heap.size := by omega
  obtain ⟨hc4, hf4⟩ := bcell hb4
  have HB4 := Lib.hid ((bdrewN (set2 HB8.out (by have := HB3.out.size; omega) _ _) _).trans (hb4.mono (by have := HB8.out.size; simp [World.drewN, World.setCell]; omega)))
  clear hb4
  go_wp2_with fail
  refine (HW2.out _).mono ?_
  rintro e w5 ⟨rfl, hb5⟩
  have hz5 : w3.heap.size + 1 < w5.heap.size := by have := hb5.size; omega
  have hz5' : w3.heap.size < w5.heap.size := by omega
  obtain ⟨hc5, hf5⟩ := bcell hb5
  have HB5 := Lib.hid (HB4.out.trans (hb5.mono HB4.out.size))
  clear hb5
  go_wp2_with fail
  refine (HO.out _).mono ?_
  rintro e w6 ⟨rfl, hb6⟩
  obtain ⟨hc6, hf6⟩ := bcell hb6
  have HB6 := Lib.hid (HB5.out.trans (hb6.mono HB5.out.size))
  clear hb6
  go_wp2_with fail
  refine (HO.out _).mono ?_
  rintro e w7 ⟨rfl, hb7⟩
  have HB7 := Lib.hid (HB6.out.trans (hb7.mono HB6.out.size))
  clear hb7
  go_wp2_with fail
  go_ret
  refine ⟨?_, HB7.out⟩
  first | exact ret_bool (by simp; omega) | rfl
set_option maxHeartbeats 1000000 in
theorem within_b_r (a n c m A x B y C z : Int) (w : World) (hc0 : 0 ≤ c) (hn0 : 128 < n) (_hn1 : n < 256) (hx0 : 0 ≤ x) (hx1 : x ≤ 32) (hy0 : 0 ≤ y) (hy1 : y ≤ 32) (_hA0 : 0 ≤ A) (_hA1 : A + p2 x ≤ 4294967296) (_hB0 : 0 ≤ B) (_hB1 : B + p2 y ≤ 4294967296)
    (q1 : A + p2 x ≤ B)
    (HT : Hid (Tab w)) (HX : Hid (∀ W, Calls Tryd.prog 21 #[.int .u32 a, .int .u8 n] W fun e w' => e = .returned (.agg #[.int .u32 A, .int .i64 x]) ∧ Below W.heap.size W w')) (HY : Hid (∀ W, Calls Tryd.prog 21 #[.int .u32 c, .int .u8 m] W fun e w' => e = .returned (.agg #[.int .u32 C, .int .i64 z]) ∧ Below W.heap.size W w')) (HZ : Hid (∀ W, Calls Tryd.prog 21 #[.int .u32 (bits .xor .u32 a (c % 64)), .int .u8 m] W fun e w' => e = .returned (.agg #[.int .u32 B, .int .i64 y]) ∧ Below W.heap.size W w')) (HW1 : Hid (∀ W, Calls Tryd.prog 24 #[.agg #[.int .u32 A, .int .i64 x], .agg #[.int .u32 B, .int .i64 y]] W fun e w' => e = .returned (.bool false) ∧ Below W.heap.size W w')) (HW2 : Hid (∀ W, Calls Tryd.prog 24 #[.agg #[.int .u32 B, .int .i64 y], .agg #[.int .u32 A, .int .i64 x]] W fun e w' => e = .returned (.bool false) ∧ Below W.heap.size W w')) (HO : Hid (∀ W, Calls Tryd.prog 25 #[.agg #[.int .u32 A, .int .i64 x], .agg #[.int .u32 B, .int .i64 y]] W fun e w' => e = .returned (.bool false) ∧ Below W.heap.size W w')) :
    Calls Tryd.prog 7 #[.int .u32 a, .int .u8 n, .int .u32 c, .int .u8 m] w fun e w' => e = .returned (.bool true) ∧ Below w.heap.size w w' := by
  have hv1 := wrap_p2u x hx0
  have hv2 := wrap_p2u y hy0
  have hp1 := p2_pos x
  have hp2 := p2_pos y
  have q2 : ¬ B + p2 y ≤ A + p2 x := by omega
  have q3 : A ≤ B := by omega
  have q4 : ¬ B ≤ A := by omega
  have q5 : A < B + p2 y := by omega
  have q6 : ¬ B < A + p2 x := by omega
  go_enter Tryd.func7, Tryd.ntmps7
  go_wp2_with fail
  refine (awake_any _ HT.out).mono ?_
  rintro e w1 ⟨rfl, hb1⟩
  have HB1 := Lib.hid hb1
  clear hb1
  go_wp2_with fail
  refine (HX.out _).mono ?_
  rintro e w2 ⟨rfl, hb2⟩
  have HB2 := Lib.hid (HB1.out.trans (hb2.mono HB1.out.size))
  clear hb2
  go_wp2_with fail
  refine (HY.out _).mono ?_
  rintro e w3 ⟨rfl, hb3⟩
  have HB3 := Lib.hid (HB2.out.trans (hb3.mono HB2.out.size))
  clear hb3
  go_wp2_with fail
  refine (HZ.out _).mono ?_
  rintro e w8 ⟨rfl, hb8⟩
  have hz8 : w3.heap.size + 1 < w8.heap.size := by have := hb8.size; simp at this; omega
  have hz8' : w3.heap.size < w8.heap.size := by omega
  obtain ⟨hc8, hf8⟩ := bcell hb8
  have HB8 := Lib.hid (((HB3.out.alloc HB3.out.size _).alloc (by have := HB3.out.size; simp; omega) _).trans (hb8.mono (by have := HB3.out.size; simp; omega)))
  clear hb8
  go_wp2_with fail
  go_quiet (fail)
  go_wp2_with fail
  go_quiet (fail)
  go_wp2_with fail
  refine (HW1.out _).mono ?_
  rintro e w4 ⟨rfl, hb4⟩
  have hz4 : w3.heap.size + 1 < w4.heap.size := by have := hb4.size; simp [World.drewN, World.setCell] at this; omega
  have hz4' : w3.heap.size < w4.heap.size := by omega
  obtain ⟨hc4, hf4⟩ := bcell hb4
  have HB4 := Lib.hid ((bdrewN (set2 HB8.out (by have := HB3.out.size; omega) _ _) _).trans (hb4.mono (by have := HB8.out.size; simp [World.drewN, World.setCell]; omega)))
  clear hb4
  go_wp2_with fail
  refine (HW2.out _).mono ?_
  rintro e w5 ⟨rfl, hb5⟩
  have hz5 : w3.heap.size + 1 < w5.heap.size := by have := hb5.size; omega
  have hz5' : w3.heap.size < w5.heap.size := by omega
  obtain ⟨hc5, hf5⟩ := bcell hb5
  have HB5 := Lib.hid (HB4.out.trans (hb5.mono HB4.out.size))
  clear hb5
  go_wp2_with fail
  refine (HO.out _).mono ?_
  rintro e w6 ⟨rfl, hb6⟩
  obtain ⟨hc6, hf6⟩ := bcell hb6
  have HB6 := Lib.hid (HB5.out.trans (hb6.mono HB5.out.size))
  clear hb6
  go_wp2_with fail
  refine (HO.out _).mono ?_
  rintro e w7 ⟨rfl, hb7⟩
  have HB7 := Lib.hid (HB6.out.trans (hb7.mono HB6.out.size))
  clear hb7
  go_wp2_with fail
  go_ret
  refine ⟨?_, HB7.out⟩
  first | exact ret_bool (by simp; omega) | rfl
set_option maxHeartbeats 1000000 in
theorem within_b_i1 (a n c m A x B y C z : Int) (w : World) (hc0 : 0 ≤ c) (hn0 : 128 < n) (_hn1 : n < 256) (hx0 : 0 ≤ x) (hx1 : x ≤ 32) (hy0 : 0 ≤ y) (hy1 : y ≤ 32) (_hA0 : 0 ≤ A) (_hA1 : A + p2 x ≤ 4294967296) (_hB0 : 0 ≤ B) (_hB1 : B + p2 y ≤ 4294967296)
    (q1 : B < A) (q2 : A + p2 x ≤ B + p2 y)
    (HT : Hid (Tab w)) (HX : Hid (∀ W, Calls Tryd.prog 21 #[.int .u32 a, .int .u8 n] W fun e w' => e = .returned (.agg #[.int .u32 A, .int .i64 x]) ∧ Below W.heap.size W w')) (HY : Hid (∀ W, Calls Tryd.prog 21 #[.int .u32 c, .int .u8 m] W fun e w' => e = .returned (.agg #[.int .u32 C, .int .i64 z]) ∧ Below W.heap.size W w')) (HZ : Hid (∀ W, Calls Tryd.prog 21 #[.int .u32 (bits .xor .u32 a (c % 64)), .int .u8 m] W fun e w' => e = .returned (.agg #[.int .u32 B, .int .i64 y]) ∧ Below W.heap.size W w')) (HW1 : Hid (∀ W, Calls Tryd.prog 24 #[.agg #[.int .u32 A, .int .i64 x], .agg #[.int .u32 B, .int .i64 y]] W fun e w' => e = .returned (.bool true) ∧ Below W.heap.size W w')) (HW2 : Hid (∀ W, Calls Tryd.prog 24 #[.agg #[.int .u32 B, .int .i64 y], .agg #[.int .u32 A, .int .i64 x]] W fun e w' => e = .returned (.bool false) ∧ Below W.heap.size W w')) (HO : Hid (∀ W, Calls Tryd.prog 25 #[.agg #[.int .u32 A, .int .i64 x], .agg #[.int .u32 B, .int .i64 y]] W fun e w' => e = .returned (.bool true) ∧ Below W.heap.size W w')) :
    Calls Tryd.prog 7 #[.int .u32 a, .int .u8 n, .int .u32 c, .int .u8 m] w fun e w' => e = .returned (.bool true) ∧ Below w.heap.size w w' := by
  have hv1 := wrap_p2u x hx0
  have hv2 := wrap_p2u y hy0
  have hp1 := p2_pos x
  have hp2 := p2_pos y
  have q3 : ¬ A ≤ B := by omega
  have q4 : B ≤ A := by omega
  have q5 : A < B + p2 y := by omega
  have q6 : B < A + p2 x := by omega
  go_enter Tryd.func7, Tryd.ntmps7
  go_wp2_with fail
  refine (awake_any _ HT.out).mono ?_
  rintro e w1 ⟨rfl, hb1⟩
  have HB1 := Lib.hid hb1
  clear hb1
  go_wp2_with fail
  refine (HX.out _).mono ?_
  rintro e w2 ⟨rfl, hb2⟩
  have HB2 := Lib.hid (HB1.out.trans (hb2.mono HB1.out.size))
  clear hb2
  go_wp2_with fail
  refine (HY.out _).mono ?_
  rintro e w3 ⟨rfl, hb3⟩
  have HB3 := Lib.hid (HB2.out.trans (hb3.mono HB2.out.size))
  clear hb3
  go_wp2_with fail
  refine (HZ.out _).mono ?_
  rintro e w8 ⟨rfl, hb8⟩
  have hz8 : w3.heap.size + 1 < w8.heap.size := by have := hb8.size; simp at this; omega
  have hz8' : w3.heap.size < w8.heap.size := by omega
  obtain ⟨hc8, hf8⟩ := bcell hb8
  have HB8 := Lib.hid (((HB3.out.alloc HB3.out.size _).alloc (by have := HB3.out.size; simp; omega) _).trans (hb8.mono (by have := HB3.out.size; simp; omega)))
  clear hb8
  go_wp2_with fail
  go_quiet (fail)
  go_wp2_with fail
  go_quiet (fail)
  go_wp2_with fail
  refine (HW1.out _).mono ?_
  rintro e w4 ⟨rfl, hb4⟩
  have hz4 : w3.heap.size + 1 < w4.heap.size := by have := hb4.size; simp [World.drewN, World.setCell] at this; omega
  have hz4' : w3.heap.size < w4.heap.size := by omega
  obtain ⟨hc4, hf4⟩ := bcell hb4
  have HB4 := Lib.hid ((bdrewN (set2 HB8.out (by have := HB3.out.size; omega) _ _) _).trans (hb4.mono (by have := HB8.out.size; simp [World.drewN, World.setCell]; omega)))
  clear hb4
  go_wp2_with fail
  refine (HW2.out _).mono ?_
  rintro e w5 ⟨rfl, hb5⟩
  have hz5 : w3.heap.size + 1 < w5.heap.size := by have := hb5.size; omega
  have hz5' : w3.heap.size < w5.heap.size := by omega
  obtain ⟨hc5, hf5⟩ := bcell hb5
  have HB5 := Lib.hid (HB4.out.trans (hb5.mono HB4.out.size))
  clear hb5
  go_wp2_with fail
  refine (HO.out _).mono ?_
  rintro e w6 ⟨rfl, hb6⟩
  obtain ⟨hc6, hf6⟩ := bcell hb6
  have HB6 := Lib.hid (HB5.out.trans (hb6.mono HB5.out.size))
  clear hb6
  go_wp2_with fail
  refine (HO.out _).mono ?_
  rintro e w7 ⟨rfl, hb7⟩
  have HB7 := Lib.hid (HB6.out.trans (hb7.mono HB6.out.size))
  clear hb7
  go_wp2_with fail
  go_ret
  refine ⟨?_, HB7.out⟩
  first | exact ret_bool (by simp; omega) | rfl
set_option maxHeartbeats 1000000 in
theorem within_b_i2 (a n c m A x B y C z : Int) (w : World) (hc0 : 0 ≤ c) (hn0 : 128 < n) (_hn1 : n < 256) (hx0 : 0 ≤ x) (hx1 : x ≤ 32) (hy0 : 0 ≤ y) (hy1 : y ≤ 32) (_hA0 : 0 ≤ A) (_hA1 : A + p2 x ≤ 4294967296) (_hB0 : 0 ≤ B) (_hB1 : B + p2 y ≤ 4294967296)
    (q1 : B ≤ A) (q2 : A ≤ B) (q3 : A + p2 x < B + p2 y)
    (HT : Hid (Tab w)) (HX : Hid (∀ W, Calls Tryd.prog 21 #[.int .u32 a, .int .u8 n] W fun e w' => e = .returned (.agg #[.int .u32 A, .int .i64 x]) ∧ Below W.heap.size W w')) (HY : Hid (∀ W, Calls Tryd.prog 21 #[.int .u32 c, .int .u8 m] W fun e w' => e = .returned (.agg #[.int .u32 C, .int .i64 z]) ∧ Below W.heap.size W w')) (HZ : Hid (∀ W, Calls Tryd.prog 21 #[.int .u32 (bits .xor .u32 a (c % 64)), .int .u8 m] W fun e w' => e = .returned (.agg #[.int .u32 B, .int .i64 y]) ∧ Below W.heap.size W w')) (HW1 : Hid (∀ W, Calls Tryd.prog 24 #[.agg #[.int .u32 A, .int .i64 x], .agg #[.int .u32 B, .int .i64 y]] W fun e w' => e = .returned (.bool true) ∧ Below W.heap.size W w')) (HW2 : Hid (∀ W, Calls Tryd.prog 24 #[.agg #[.int .u32 B, .int .i64 y], .agg #[.int .u32 A, .int .i64 x]] W fun e w' => e = .returned (.bool false) ∧ Below W.heap.size W w')) (HO : Hid (∀ W, Calls Tryd.prog 25 #[.agg #[.int .u32 A, .int .i64 x], .agg #[.int .u32 B, .int .i64 y]] W fun e w' => e = .returned (.bool true) ∧ Below W.heap.size W w')) :
    Calls Tryd.prog 7 #[.int .u32 a, .int .u8 n, .int .u32 c, .int .u8 m] w fun e w' => e = .returned (.bool true) ∧ Below w.heap.size w w' := by
  have hv1 := wrap_p2u x hx0
  have hv2 := wrap_p2u y hy0
  have hp1 := p2_pos x
  have hp2 := p2_pos y
  have q4 : A + p2 x ≤ B + p2 y := by omega
  have q7 : ¬ B + p2 y ≤ A + p2 x := by omega
  have q5 : A < B + p2 y := by omega
  have q6 : B < A + p2 x := by omega
  go_enter Tryd.func7, Tryd.ntmps7
  go_wp2_with fail
  refine (awake_any _ HT.out).mono ?_
  rintro e w1 ⟨rfl, hb1⟩
  have HB1 := Lib.hid hb1
  clear hb1
  go_wp2_with fail
  refine (HX.out _).mono ?_
  rintro e w2 ⟨rfl, hb2⟩
  have HB2 := Lib.hid (HB1.out.trans (hb2.mono HB1.out.size))
  clear hb2
  go_wp2_with fail
  refine (HY.out _).mono ?_
  rintro e w3 ⟨rfl, hb3⟩
  have HB3 := Lib.hid (HB2.out.trans (hb3.mono HB2.out.size))
  clear hb3
  go_wp2_with fail
  refine (HZ.out _).mono ?_
  rintro e w8 ⟨rfl, hb8⟩
  have hz8 : w3.heap.size + 1 < w8.heap.size := by have := hb8.size; simp at this; omega
  have hz8' : w3.heap.size < w8.heap.size := by omega
  obtain ⟨hc8, hf8⟩ := bcell hb8
  have HB8 := Lib.hid (((HB3.out.alloc HB3.out.size _).alloc (by have := HB3.out.size; simp; omega) _).trans (hb8.mono (by have := HB3.out.size; simp; omega)))
  clear hb8
  go_wp2_with fail
  go_quiet (fail)
  go_wp2_with fail
  go_quiet (fail)
  go_wp2_with fail
  refine (HW1.out _).mono ?_
  rintro e w4 ⟨rfl, hb4⟩
  have hz4 : w3.heap.size + 1 < w4.heap.size := by have := hb4.size; simp [World.drewN, World.setCell] at this; omega
  have hz4' : w3.heap.size < w4.heap.size := by omega
  obtain ⟨hc4, hf4⟩ := bcell hb4
  have HB4 := Lib.hid ((bdrewN (set2 HB8.out (by have := HB3.out.size; omega) _ _) _).trans (hb4.mono (by have := HB8.out.size; simp [World.drewN, World.setCell]; omega)))
  clear hb4
  go_wp2_with fail
  refine (HW2.out _).mono ?_
  rintro e w5 ⟨rfl, hb5⟩
  have hz5 : w3.heap.size + 1 < w5.heap.size := by have := hb5.size; omega
  have hz5' : w3.heap.size < w5.heap.size := by omega
  obtain ⟨hc5, hf5⟩ := bcell hb5
  have HB5 := Lib.hid (HB4.out.trans (hb5.mono HB4.out.size))
  clear hb5
  go_wp2_with fail
  refine (HO.out _).mono ?_
  rintro e w6 ⟨rfl, hb6⟩
  obtain ⟨hc6, hf6⟩ := bcell hb6
  have HB6 := Lib.hid (HB5.out.trans (hb6.mono HB5.out.size))
  clear hb6
  go_wp2_with fail
  refine (HO.out _).mono ?_
  rintro e w7 ⟨rfl, hb7⟩
  have HB7 := Lib.hid (HB6.out.trans (hb7.mono HB6.out.size))
  clear hb7
  go_wp2_with fail
  go_ret
  refine ⟨?_, HB7.out⟩
  first | exact ret_bool (by simp; omega) | rfl
set_option maxHeartbeats 1000000 in
theorem within_b_o1 (a n c m A x B y C z : Int) (w : World) (hc0 : 0 ≤ c) (hn0 : 128 < n) (_hn1 : n < 256) (hx0 : 0 ≤ x) (hx1 : x ≤ 32) (hy0 : 0 ≤ y) (hy1 : y ≤ 32) (_hA0 : 0 ≤ A) (_hA1 : A + p2 x ≤ 4294967296) (_hB0 : 0 ≤ B) (_hB1 : B + p2 y ≤ 4294967296)
    (q1 : A < B) (q2 : B + p2 y ≤ A + p2 x)
    (HT : Hid (Tab w)) (HX : Hid (∀ W, Calls Tryd.prog 21 #[.int .u32 a, .int .u8 n] W fun e w' => e = .returned (.agg #[.int .u32 A, .int .i64 x]) ∧ Below W.heap.size W w')) (HY : Hid (∀ W, Calls Tryd.prog 21 #[.int .u32 c, .int .u8 m] W fun e w' => e = .returned (.agg #[.int .u32 C, .int .i64 z]) ∧ Below W.heap.size W w')) (HZ : Hid (∀ W, Calls Tryd.prog 21 #[.int .u32 (bits .xor .u32 a (c % 64)), .int .u8 m] W fun e w' => e = .returned (.agg #[.int .u32 B, .int .i64 y]) ∧ Below W.heap.size W w')) (HW1 : Hid (∀ W, Calls Tryd.prog 24 #[.agg #[.int .u32 A, .int .i64 x], .agg #[.int .u32 B, .int .i64 y]] W fun e w' => e = .returned (.bool false) ∧ Below W.heap.size W w')) (HW2 : Hid (∀ W, Calls Tryd.prog 24 #[.agg #[.int .u32 B, .int .i64 y], .agg #[.int .u32 A, .int .i64 x]] W fun e w' => e = .returned (.bool true) ∧ Below W.heap.size W w')) (HO : Hid (∀ W, Calls Tryd.prog 25 #[.agg #[.int .u32 A, .int .i64 x], .agg #[.int .u32 B, .int .i64 y]] W fun e w' => e = .returned (.bool true) ∧ Below W.heap.size W w')) :
    Calls Tryd.prog 7 #[.int .u32 a, .int .u8 n, .int .u32 c, .int .u8 m] w fun e w' => e = .returned (.bool true) ∧ Below w.heap.size w w' := by
  have hv1 := wrap_p2u x hx0
  have hv2 := wrap_p2u y hy0
  have hp1 := p2_pos x
  have hp2 := p2_pos y
  have q3 : A ≤ B := by omega
  have q4 : ¬ B ≤ A := by omega
  have q5 : A < B + p2 y := by omega
  have q6 : B < A + p2 x := by omega
  go_enter Tryd.func7, Tryd.ntmps7
  go_wp2_with fail
  refine (awake_any _ HT.out).mono ?_
  rintro e w1 ⟨rfl, hb1⟩
  have HB1 := Lib.hid hb1
  clear hb1
  go_wp2_with fail
  refine (HX.out _).mono ?_
  rintro e w2 ⟨rfl, hb2⟩
  have HB2 := Lib.hid (HB1.out.trans (hb2.mono HB1.out.size))
  clear hb2
  go_wp2_with fail
  refine (HY.out _).mono ?_
  rintro e w3 ⟨rfl, hb3⟩
  have HB3 := Lib.hid (HB2.out.trans (hb3.mono HB2.out.size))
  clear hb3
  go_wp2_with fail
  refine (HZ.out _).mono ?_
  rintro e w8 ⟨rfl, hb8⟩
  have hz8 : w3.heap.size + 1 < w8.heap.size := by have := hb8.size; simp at this; omega
  have hz8' : w3.heap.size < w8.heap.size := by omega
  obtain ⟨hc8, hf8⟩ := bcell hb8
  have HB8 := Lib.hid (((HB3.out.alloc HB3.out.size _).alloc (by have := HB3.out.size; simp; omega) _).trans (hb8.mono (by have := HB3.out.size; simp; omega)))
  clear hb8
  go_wp2_with fail
  go_quiet (fail)
  go_wp2_with fail
  go_quiet (fail)
  go_wp2_with fail
  refine (HW1.out _).mono ?_
  rintro e w4 ⟨rfl, hb4⟩
  have hz4 : w3.heap.size + 1 < w4.heap.size := by have := hb4.size; simp [World.drewN, World.setCell] at this; omega
  have hz4' : w3.heap.size < w4.heap.size := by omega
  obtain ⟨hc4, hf4⟩ := bcell hb4
  have HB4 := Lib.hid ((bdrewN (set2 HB8.out (by have := HB3.out.size; omega) _ _) _).trans (hb4.mono (by have := HB8.out.size; simp [World.drewN, World.setCell]; omega)))
  clear hb4
  go_wp2_with fail
  refine (HW2.out _).mono ?_
  rintro e w5 ⟨rfl, hb5⟩
  have hz5 : w3.heap.size + 1 < w5.heap.size := by have := hb5.size; omega
  have hz5' : w3.heap.size < w5.heap.size := by omega
  obtain ⟨hc5, hf5⟩ := bcell hb5
  have HB5 := Lib.hid (HB4.out.trans (hb5.mono HB4.out.size))
  clear hb5
  go_wp2_with fail
  refine (HO.out _).mono ?_
  rintro e w6 ⟨rfl, hb6⟩
  obtain ⟨hc6, hf6⟩ := bcell hb6
  have HB6 := Lib.hid (HB5.out.trans (hb6.mono HB5.out.size))
  clear hb6
  go_wp2_with fail
  refine (HO.out _).mono ?_
  rintro e w7 ⟨rfl, hb7⟩
  have HB7 := Lib.hid (HB6.out.trans (hb7.mono HB6.out.size))
  clear hb7
  go_wp2_with fail
  go_ret
  refine ⟨?_, HB7.out⟩
  first | exact ret_bool (by simp; omega) | rfl
set_option maxHeartbeats 1000000 in
theorem within_b_o2 (a n c m A x B y C z : Int) (w : World) (hc0 : 0 ≤ c) (hn0 : 128 < n) (_hn1 : n < 256) (hx0 : 0 ≤ x) (hx1 : x ≤ 32) (hy0 : 0 ≤ y) (hy1 : y ≤ 32) (_hA0 : 0 ≤ A) (_hA1 : A + p2 x ≤ 4294967296) (_hB0 : 0 ≤ B) (_hB1 : B + p2 y ≤ 4294967296)
    (q1 : B ≤ A) (q2 : A ≤ B) (q3 : B + p2 y < A + p2 x)
    (HT : Hid (Tab w)) (HX : Hid (∀ W, Calls Tryd.prog 21 #[.int .u32 a, .int .u8 n] W fun e w' => e = .returned (.agg #[.int .u32 A, .int .i64 x]) ∧ Below W.heap.size W w')) (HY : Hid (∀ W, Calls Tryd.prog 21 #[.int .u32 c, .int .u8 m] W fun e w' => e = .returned (.agg #[.int .u32 C, .int .i64 z]) ∧ Below W.heap.size W w')) (HZ : Hid (∀ W, Calls Tryd.prog 21 #[.int .u32 (bits .xor .u32 a (c % 64)), .int .u8 m] W fun e w' => e = .returned (.agg #[.int .u32 B, .int .i64 y]) ∧ Below W.heap.size W w')) (HW1 : Hid (∀ W, Calls Tryd.prog 24 #[.agg #[.int .u32 A, .int .i64 x], .agg #[.int .u32 B, .int .i64 y]] W fun e w' => e = .returned (.bool false) ∧ Below W.heap.size W w')) (HW2 : Hid (∀ W, Calls Tryd.prog 24 #[.agg #[.int .u32 B, .int .i64 y], .agg #[.int .u32 A, .int .i64 x]] W fun e w' => e = .returned (.bool true) ∧ Below W.heap.size W w')) (HO : Hid (∀ W, Calls Tryd.prog 25 #[.agg #[.int .u32 A, .int .i64 x], .agg #[.int .u32 B, .int .i64 y]] W fun e w' => e = .returned (.bool true) ∧ Below W.heap.size W w')) :
    Calls Tryd.prog 7 #[.int .u32 a, .int .u8 n, .int .u32 c, .int .u8 m] w fun e w' => e = .returned (.bool true) ∧ Below w.heap.size w w' := by
  have hv1 := wrap_p2u x hx0
  have hv2 := wrap_p2u y hy0
  have hp1 := p2_pos x
  have hp2 := p2_pos y
  have q4 : ¬ A + p2 x ≤ B + p2 y := by omega
  have q7 : B + p2 y ≤ A + p2 x := by omega
  have q5 : A < B + p2 y := by omega
  have q6 : B < A + p2 x := by omega
  go_enter Tryd.func7, Tryd.ntmps7
  go_wp2_with fail
  refine (awake_any _ HT.out).mono ?_
  rintro e w1 ⟨rfl, hb1⟩
  have HB1 := Lib.hid hb1
  clear hb1
  go_wp2_with fail
  refine (HX.out _).mono ?_
  rintro e w2 ⟨rfl, hb2⟩
  have HB2 := Lib.hid (HB1.out.trans (hb2.mono HB1.out.size))
  clear hb2
  go_wp2_with fail
  refine (HY.out _).mono ?_
  rintro e w3 ⟨rfl, hb3⟩
  have HB3 := Lib.hid (HB2.out.trans (hb3.mono HB2.out.size))
  clear hb3
  go_wp2_with fail
  refine (HZ.out _).mono ?_
  rintro e w8 ⟨rfl, hb8⟩
  have hz8 : w3.heap.size + 1 < w8.heap.size := by have := hb8.size; simp at this; omega
  have hz8' : w3.heap.size < w8.heap.size := by omega
  obtain ⟨hc8, hf8⟩ := bcell hb8
  have HB8 := Lib.hid (((HB3.out.alloc HB3.out.size _).alloc (by have := HB3.out.size; simp; omega) _).trans (hb8.mono (by have := HB3.out.size; simp; omega)))
  clear hb8
  go_wp2_with fail
  go_quiet (fail)
  go_wp2_with fail
  go_quiet (fail)
  go_wp2_with fail
  refine (HW1.out _).mono ?_
  rintro e w4 ⟨rfl, hb4⟩
  have hz4 : w3.heap.size + 1 < w4.heap.size := by have := hb4.size; simp [World.drewN, World.setCell] at this; omega
  have hz4' : w3.heap.size < w4.heap.size := by omega
  obtain ⟨hc4, hf4⟩ := bcell hb4
  have HB4 := Lib.hid ((bdrewN (set2 HB8.out (by have := HB3.out.size; omega) _ _) _).trans (hb4.mono (by have := HB8.out.size; simp [World.drewN, World.setCell]; omega)))
  clear hb4
  go_wp2_with fail
  refine (HW2.out _).mono ?_
  rintro e w5 ⟨rfl, hb5⟩
  have hz5 : w3.heap.size + 1 < w5.heap.size := by have := hb5.size; omega
  have hz5' : w3.heap.size < w5.heap.size := by omega
  obtain ⟨hc5, hf5⟩ := bcell hb5
  have HB5 := Lib.hid (HB4.out.trans (hb5.mono HB4.out.size))
  clear hb5
  go_wp2_with fail
  refine (HO.out _).mono ?_
  rintro e w6 ⟨rfl, hb6⟩
  obtain ⟨hc6, hf6⟩ := bcell hb6
  have HB6 := Lib.hid (HB5.out.trans (hb6.mono HB5.out.size))
  clear hb6
  go_wp2_with fail
  refine (HO.out _).mono ?_
  rintro e w7 ⟨rfl, hb7⟩
  have HB7 := Lib.hid (HB6.out.trans (hb7.mono HB6.out.size))
  clear hb7
  go_wp2_with fail
  go_ret
  refine ⟨?_, HB7.out⟩
  first | exact ret_bool (by simp; omega) | rfl
set_option maxHeartbeats 1000000 in
theorem within_b_e (a n c m A x B y C z : Int) (w : World) (hc0 : 0 ≤ c) (hn0 : 128 < n) (_hn1 : n < 256) (hx0 : 0 ≤ x) (hx1 : x ≤ 32) (hy0 : 0 ≤ y) (hy1 : y ≤ 32) (_hA0 : 0 ≤ A) (_hA1 : A + p2 x ≤ 4294967296) (_hB0 : 0 ≤ B) (_hB1 : B + p2 y ≤ 4294967296)
    (q1 : B ≤ A) (q2 : A ≤ B) (q3 : B + p2 y ≤ A + p2 x) (q4 : A + p2 x ≤ B + p2 y)
    (HT : Hid (Tab w)) (HX : Hid (∀ W, Calls Tryd.prog 21 #[.int .u32 a, .int .u8 n] W fun e w' => e = .returned (.agg #[.int .u32 A, .int .i64 x]) ∧ Below W.heap.size W w')) (HY : Hid (∀ W, Calls Tryd.prog 21 #[.int .u32 c, .int .u8 m] W fun e w' => e = .returned (.agg #[.int .u32 C, .int .i64 z]) ∧ Below W.heap.size W w')) (HZ : Hid (∀ W, Calls Tryd.prog 21 #[.int .u32 (bits .xor .u32 a (c % 64)), .int .u8 m] W fun e w' => e = .returned (.agg #[.int .u32 B, .int .i64 y]) ∧ Below W.heap.size W w')) (HW1 : Hid (∀ W, Calls Tryd.prog 24 #[.agg #[.int .u32 A, .int .i64 x], .agg #[.int .u32 B, .int .i64 y]] W fun e w' => e = .returned (.bool true) ∧ Below W.heap.size W w')) (HW2 : Hid (∀ W, Calls Tryd.prog 24 #[.agg #[.int .u32 B, .int .i64 y], .agg #[.int .u32 A, .int .i64 x]] W fun e w' => e = .returned (.bool true) ∧ Below W.heap.size W w')) (HO : Hid (∀ W, Calls Tryd.prog 25 #[.agg #[.int .u32 A, .int .i64 x], .agg #[.int .u32 B, .int .i64 y]] W fun e w' => e = .returned (.bool true) ∧ Below W.heap.size W w')) :
    Calls Tryd.prog 7 #[.int .u32 a, .int .u8 n, .int .u32 c, .int .u8 m] w fun e w' => e = .returned (.bool true) ∧ Below w.heap.size w w' := by
  have hv1 := wrap_p2u x hx0
  have hv2 := wrap_p2u y hy0
  have hp1 := p2_pos x
  have hp2 := p2_pos y
  have q5 : A < B + p2 y := by omega
  have q6 : B < A + p2 x := by omega
  go_enter Tryd.func7, Tryd.ntmps7
  go_wp2_with fail
  refine (awake_any _ HT.out).mono ?_
  rintro e w1 ⟨rfl, hb1⟩
  have HB1 := Lib.hid hb1
  clear hb1
  go_wp2_with fail
  refine (HX.out _).mono ?_
  rintro e w2 ⟨rfl, hb2⟩
  have HB2 := Lib.hid (HB1.out.trans (hb2.mono HB1.out.size))
  clear hb2
  go_wp2_with fail
  refine (HY.out _).mono ?_
  rintro e w3 ⟨rfl, hb3⟩
  have HB3 := Lib.hid (HB2.out.trans (hb3.mono HB2.out.size))
  clear hb3
  go_wp2_with fail
  refine (HZ.out _).mono ?_
  rintro e w8 ⟨rfl, hb8⟩
  have hz8 : w3.heap.size + 1 < w8.heap.size := by have := hb8.size; simp at this; omega
  have hz8' : w3.heap.size < w8.heap.size := by omega
  obtain ⟨hc8, hf8⟩ := bcell hb8
  have HB8 := Lib.hid (((HB3.out.alloc HB3.out.size _).alloc (by have := HB3.out.size; simp; omega) _).trans (hb8.mono (by have := HB3.out.size; simp; omega)))
  clear hb8
  go_wp2_with fail
  go_quiet (fail)
  go_wp2_with fail
  go_quiet (fail)
  go_wp2_with fail
  refine (HW1.out _).mono ?_
  rintro e w4 ⟨rfl, hb4⟩
  have hz4 : w3.heap.size + 1 < w4.heap.size := by have := hb4.size; simp [World.drewN, World.setCell] at this; omega
  have hz4' : w3.heap.size < w4.heap.size := by omega
  obtain ⟨hc4, hf4⟩ := bcell hb4
  have HB4 := Lib.hid ((bdrewN (set2 HB8.out (by have := HB3.out.size; omega) _ _) _).trans (hb4.mono (by have := HB8.out.size; simp [World.drewN, World.setCell]; omega)))
  clear hb4
  go_wp2_with fail
  refine (HW2.out _).mono ?_
  rintro e w5 ⟨rfl, hb5⟩
  have hz5 : w3.heap.size + 1 < w5.heap.size := by have := hb5.size; omega
  have hz5' : w3.heap.size < w5.heap.size := by omega
  obtain ⟨hc5, hf5⟩ := bcell hb5
  have HB5 := Lib.hid (HB4.out.trans (hb5.mono HB4.out.size))
  clear hb5
  go_wp2_with fail
  refine (HO.out _).mono ?_
  rintro e w6 ⟨rfl, hb6⟩
  obtain ⟨hc6, hf6⟩ := bcell hb6
  have HB6 := Lib.hid (HB5.out.trans (hb6.mono HB5.out.size))
  clear hb6
  go_wp2_with fail
  refine (HO.out _).mono ?_
  rintro e w7 ⟨rfl, hb7⟩
  have HB7 := Lib.hid (HB6.out.trans (hb7.mono HB6.out.size))
  clear hb7
  go_wp2_with fail
  go_ret
  refine ⟨?_, HB7.out⟩
  first | exact ret_bool (by simp; omega) | rfl
end Go.Proofs.YtcbknlbpdlheeaaDoor
