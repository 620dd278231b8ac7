/-
  The walks of AddrHalves where its prefix has no halves. Conditions: those that each theorem names.
-/
import Derived.Test.YtcbknlbpdlheeaaDoorHalves
namespace Go.Proofs.YtcbknlbpdlheeaaDoor
open Go.RowKit

set_option maxHeartbeats 4000000 in
set_option maxRecDepth 100000 in
theorem halves_2y (a n c m A b C : Int) (w : World) (hb0 : 32 ≤ b) (hb1 : b ≤ 32) (hA0 : 0 ≤ A) (hA1 : A < 4294967296) (HT : Hid (Tab w))
    (HX : Hid (∀ W, Calls Tryd.prog 21 #[.int .u32 a, .int .u8 n] W fun e w' => e = .returned (.agg #[.int .u32 A, .int .i64 b]) ∧ Below W.heap.size W w'))
    (HY : Hid (∀ W, Calls Tryd.prog 21 #[.int .u32 c, .int .u8 m] W fun e w' => e = .returned (.agg #[.int .u32 C, .int .i64 b]) ∧ Below W.heap.size W w')) (H5 : Hid (∀ W, Calls Tryd.prog 27 #[.agg #[.int .u32 A, .int .i64 b], .agg #[.int .u32 C, .int .i64 b]] W fun e w' => e = .returned (.tuple #[.agg #[.int .u32 A, .int .i64 (b - 1)], .bool true]) ∧ Below W.heap.size W w')) (H6 : Hid (∀ W, Calls Tryd.prog 26 #[.agg #[.int .u32 A, .int .i64 (b - 1)]] W fun e w' => e = .returned (.tuple #[.agg #[.int .u32 A, .int .i64 b], .agg #[.int .u32 C, .int .i64 b], .bool true]) ∧ Below W.heap.size W w')) :
    Calls Tryd.prog 8 #[.int .u32 a, .int .u8 n, .int .u32 c, .int .u8 m] w fun e w' => e = .returned (.bool true) ∧ Below w.heap.size w w' := by
  have H1 := Lib.hid fun W => halves_no A b W hA0 hA1 (by simp [halvesB]; intro _; omega)
  go_enter Tryd.func8, Tryd.ntmps8
  go_wp2_with fail
  refine (awake_any _ HT.out).mono ?_
  rintro e w1 ⟨rfl, hb1'⟩
  have HB1 := Lib.hid hb1'
  clear hb1'
  go_wp2_with fail
  refine (HX.out _).mono ?_
  rintro e w2 ⟨rfl, hb2⟩
  have HB2 := Lib.hid (HB1.out.trans (hb2.mono HB1.out.size))
  clear hb2
  go_wp2_with fail
  refine (H1.out _).mono ?_
  rintro e w3 ⟨rfl, hb3⟩
  have HB3 := Lib.hid ((HB2.out.alloc HB2.out.size _).trans (hb3.mono (by have := HB2.out.size; simp; omega)))
  obtain ⟨hc3, hf3⟩ := bcell hb3
  have z3 : w2.heap.size < w3.heap.size := by have := hb3.size; simp at this; omega
  have z3' : w2.heap.size < w3.heap.size + 1 := by omega
  clear hb3
  go_wp2_with fail
  have HB7 := Lib.hid ((HB3.out.alloc HB3.out.size (.cells #[.int .u32 0, .int .i64 0] 36)).alloc (by have := HB3.out.size; simp; omega) (.cells #[.int .u32 0, .int .i64 0] 36))
  clear hc3 hf3
  generalize (w3.alloc (.cells #[.int .u32 0, .int .i64 0] 36)).alloc (.cells #[.int .u32 0, .int .i64 0] 36) = W7 at *
  refine (HX.out _).mono ?_
  rintro e w8 ⟨rfl, hb8⟩
  have HB8 := Lib.hid (HB7.out.trans (hb8.mono HB7.out.size))
  clear hb8
  go_wp2_with fail
  refine (HY.out _).mono ?_
  rintro e w9 ⟨rfl, hb9⟩
  have HB9 := Lib.hid (HB8.out.trans (hb9.mono HB8.out.size))
  clear hb9
  go_wp2_with fail
  refine (H5.out _).mono ?_
  rintro e w10 ⟨rfl, hb10⟩
  have HB10 := Lib.hid (((HB9.out.alloc HB9.out.size _).alloc (by have := HB9.out.size; simp; omega) _).trans (hb10.mono (by have := HB9.out.size; simp; omega)))
  obtain ⟨hc10, hf10⟩ := bcell hb10
  have y10 : w9.heap.size + 1 < w10.heap.size := by have := hb10.size; simp at this; omega
  have y10' : w9.heap.size < w10.heap.size := by omega
  clear hb10
  go_wp2_with fail
  refine (H6.out _).mono ?_
  rintro e w11 ⟨rfl, hb11⟩
  have HB11 := Lib.hid ((HB10.out.alloc HB10.out.size _).trans (hb11.mono (by have := HB10.out.size; simp; omega)))
  obtain ⟨hc11, hf11⟩ := bcell hb11
  have y11 : w10.heap.size < w11.heap.size := by have := hb11.size; simp at this; omega
  have y11' : w9.heap.size + 1 < w11.heap.size := by omega
  have y11'' : w9.heap.size < w11.heap.size := by omega
  clear hb11
  go_wp2_with fail
  go_quiet (fail)
  go_wp2_with fail
  go_ret
  refine ⟨?_, bdrewN ((HB11.out.alloc HB11.out.size _).alloc (by have := HB11.out.size; simp; omega) _) _⟩
  first | rfl | exact ret_bool (by simp)
set_option maxHeartbeats 4000000 in
set_option maxRecDepth 100000 in
theorem halves_2n1 (a n c m A b C d : Int) (w : World) (hb0 : 32 ≤ b) (hb1 : b ≤ 32) (hA0 : 0 ≤ A) (hA1 : A < 4294967296) (HT : Hid (Tab w))
    (HX : Hid (∀ W, Calls Tryd.prog 21 #[.int .u32 a, .int .u8 n] W fun e w' => e = .returned (.agg #[.int .u32 A, .int .i64 b]) ∧ Below W.heap.size W w'))
    (_q1 : (b == d) = false) (q1' : (b != d) = true)
    (HY : Hid (∀ W, Calls Tryd.prog 21 #[.int .u32 c, .int .u8 m] W fun e w' => e = .returned (.agg #[.int .u32 C, .int .i64 d]) ∧ Below W.heap.size W w')) (H5 : Hid (∀ W, Calls Tryd.prog 27 #[.agg #[.int .u32 A, .int .i64 b], .agg #[.int .u32 C, .int .i64 d]] W fun e w' => e = .returned (.tuple #[.agg #[.int .u32 0, .int .i64 0], .bool false]) ∧ Below W.heap.size W w')) (H6 : Hid (∀ W, Calls Tryd.prog 26 #[.agg #[.int .u32 0, .int .i64 0]] W fun e w' => e = .returned (.tuple #[.agg #[.int .u32 0, .int .i64 1], .agg #[.int .u32 2147483648, .int .i64 1], .bool true]) ∧ Below W.heap.size W w')) :
    Calls Tryd.prog 8 #[.int .u32 a, .int .u8 n, .int .u32 c, .int .u8 m] w fun e w' => e = .returned (.bool true) ∧ Below w.heap.size w w' := by
  have H1 := Lib.hid fun W => halves_no A b W hA0 hA1 (by simp [halvesB]; intro _; omega)
  go_enter Tryd.func8, Tryd.ntmps8
  go_wp2_with fail
  refine (awake_any _ HT.out).mono ?_
  rintro e w1 ⟨rfl, hb1'⟩
  have HB1 := Lib.hid hb1'
  clear hb1'
  go_wp2_with fail
  refine (HX.out _).mono ?_
  rintro e w2 ⟨rfl, hb2⟩
  have HB2 := Lib.hid (HB1.out.trans (hb2.mono HB1.out.size))
  clear hb2
  go_wp2_with fail
  refine (H1.out _).mono ?_
  rintro e w3 ⟨rfl, hb3⟩
  have HB3 := Lib.hid ((HB2.out.alloc HB2.out.size _).trans (hb3.mono (by have := HB2.out.size; simp; omega)))
  obtain ⟨hc3, hf3⟩ := bcell hb3
  have z3 : w2.heap.size < w3.heap.size := by have := hb3.size; simp at this; omega
  have z3' : w2.heap.size < w3.heap.size + 1 := by omega
  clear hb3
  go_wp2_with fail
  have HB7 := Lib.hid ((HB3.out.alloc HB3.out.size (.cells #[.int .u32 0, .int .i64 0] 36)).alloc (by have := HB3.out.size; simp; omega) (.cells #[.int .u32 0, .int .i64 0] 36))
  clear hc3 hf3
  generalize (w3.alloc (.cells #[.int .u32 0, .int .i64 0] 36)).alloc (.cells #[.int .u32 0, .int .i64 0] 36) = W7 at *
  refine (HX.out _).mono ?_
  rintro e w8 ⟨rfl, hb8⟩
  have HB8 := Lib.hid (HB7.out.trans (hb8.mono HB7.out.size))
  clear hb8
  go_wp2_with fail
  refine (HY.out _).mono ?_
  rintro e w9 ⟨rfl, hb9⟩
  have HB9 := Lib.hid (HB8.out.trans (hb9.mono HB8.out.size))
  clear hb9
  go_wp2_with fail
  refine (H5.out _).mono ?_
  rintro e w10 ⟨rfl, hb10⟩
  have HB10 := Lib.hid (((HB9.out.alloc HB9.out.size _).alloc (by have := HB9.out.size; simp; omega) _).trans (hb10.mono (by have := HB9.out.size; simp; omega)))
  obtain ⟨hc10, hf10⟩ := bcell hb10
  have y10 : w9.heap.size + 1 < w10.heap.size := by have := hb10.size; simp at this; omega
  have y10' : w9.heap.size < w10.heap.size := by omega
  clear hb10
  go_wp2_with fail
  refine (H6.out _).mono ?_
  rintro e w11 ⟨rfl, hb11⟩
  have HB11 := Lib.hid ((HB10.out.alloc HB10.out.size _).trans (hb11.mono (by have := HB10.out.size; simp; omega)))
  obtain ⟨hc11, hf11⟩ := bcell hb11
  have y11 : w10.heap.size < w11.heap.size := by have := hb11.size; simp at this; omega
  have y11' : w9.heap.size + 1 < w11.heap.size := by omega
  have y11'' : w9.heap.size < w11.heap.size := by omega
  clear hb11
  go_wp2_with fail
  go_quiet (fail)
  go_wp2_with fail
  go_ret
  refine ⟨?_, bdrewN ((HB11.out.alloc HB11.out.size _).alloc (by have := HB11.out.size; simp; omega) _) _⟩
  first | rfl | exact ret_bool (by simp)
set_option maxHeartbeats 4000000 in
set_option maxRecDepth 100000 in
theorem halves_2n2 (a n c m A b C P' : Int) (w : World) (hb0 : 32 ≤ b) (hb1 : b ≤ 32) (hA0 : 0 ≤ A) (hA1 : A < 4294967296) (HT : Hid (Tab w))
    (HX : Hid (∀ W, Calls Tryd.prog 21 #[.int .u32 a, .int .u8 n] W fun e w' => e = .returned (.agg #[.int .u32 A, .int .i64 b]) ∧ Below W.heap.size W w'))
    (q0 : 2 ^ (32 - b).toNat % 4294967296 = P') (q1 : (C == (A + P') % 4294967296) = false) (q1' : (C != (A + P') % 4294967296) = true)
    (HY : Hid (∀ W, Calls Tryd.prog 21 #[.int .u32 c, .int .u8 m] W fun e w' => e = .returned (.agg #[.int .u32 C, .int .i64 b]) ∧ Below W.heap.size W w')) (H5 : Hid (∀ W, Calls Tryd.prog 27 #[.agg #[.int .u32 A, .int .i64 b], .agg #[.int .u32 C, .int .i64 b]] W fun e w' => e = .returned (.tuple #[.agg #[.int .u32 0, .int .i64 0], .bool false]) ∧ Below W.heap.size W w')) (H6 : Hid (∀ W, Calls Tryd.prog 26 #[.agg #[.int .u32 0, .int .i64 0]] W fun e w' => e = .returned (.tuple #[.agg #[.int .u32 0, .int .i64 1], .agg #[.int .u32 2147483648, .int .i64 1], .bool true]) ∧ Below W.heap.size W w')) :
    Calls Tryd.prog 8 #[.int .u32 a, .int .u8 n, .int .u32 c, .int .u8 m] w fun e w' => e = .returned (.bool true) ∧ Below w.heap.size w w' := by
  have H1 := Lib.hid fun W => halves_no A b W hA0 hA1 (by simp [halvesB]; intro _; omega)
  have Q0 := Lib.hid q0
  have Q1 := Lib.hid q1
  have Q1' := Lib.hid q1'
  clear q0 q1 q1'
  go_enter Tryd.func8, Tryd.ntmps8
  go_wp2_with fail
  refine (awake_any _ HT.out).mono ?_
  rintro e w1 ⟨rfl, hb1'⟩
  have HB1 := Lib.hid hb1'
  clear hb1'
  go_wp2_with fail
  refine (HX.out _).mono ?_
  rintro e w2 ⟨rfl, hb2⟩
  have HB2 := Lib.hid (HB1.out.trans (hb2.mono HB1.out.size))
  clear hb2
  go_wp2_with fail
  refine (H1.out _).mono ?_
  rintro e w3 ⟨rfl, hb3⟩
  have HB3 := Lib.hid ((HB2.out.alloc HB2.out.size _).trans (hb3.mono (by have := HB2.out.size; simp; omega)))
  obtain ⟨hc3, hf3⟩ := bcell hb3
  have z3 : w2.heap.size < w3.heap.size := by have := hb3.size; simp at this; omega
  have z3' : w2.heap.size < w3.heap.size + 1 := by omega
  clear hb3
  go_wp2_with fail
  have HB7 := Lib.hid ((HB3.out.alloc HB3.out.size (.cells #[.int .u32 0, .int .i64 0] 36)).alloc (by have := HB3.out.size; simp; omega) (.cells #[.int .u32 0, .int .i64 0] 36))
  clear hc3 hf3
  generalize (w3.alloc (.cells #[.int .u32 0, .int .i64 0] 36)).alloc (.cells #[.int .u32 0, .int .i64 0] 36) = W7 at *
  refine (HX.out _).mono ?_
  rintro e w8 ⟨rfl, hb8⟩
  have HB8 := Lib.hid (HB7.out.trans (hb8.mono HB7.out.size))
  clear hb8
  go_wp2_with fail
  refine (HY.out _).mono ?_
  rintro e w9 ⟨rfl, hb9⟩
  have HB9 := Lib.hid (HB8.out.trans (hb9.mono HB8.out.size))
  clear hb9
  go_wp2_with fail
  refine (H5.out _).mono ?_
  rintro e w10 ⟨rfl, hb10⟩
  have HB10 := Lib.hid (((HB9.out.alloc HB9.out.size _).alloc (by have := HB9.out.size; simp; omega) _).trans (hb10.mono (by have := HB9.out.size; simp; omega)))
  obtain ⟨hc10, hf10⟩ := bcell hb10
  have y10 : w9.heap.size + 1 < w10.heap.size := by have := hb10.size; simp at this; omega
  have y10' : w9.heap.size < w10.heap.size := by omega
  clear hb10
  go_wp2_with fail
  refine (H6.out _).mono ?_
  rintro e w11 ⟨rfl, hb11⟩
  have HB11 := Lib.hid ((HB10.out.alloc HB10.out.size _).trans (hb11.mono (by have := HB10.out.size; simp; omega)))
  obtain ⟨hc11, hf11⟩ := bcell hb11
  have y11 : w10.heap.size < w11.heap.size := by have := hb11.size; simp at this; omega
  have y11' : w9.heap.size + 1 < w11.heap.size := by omega
  have y11'' : w9.heap.size < w11.heap.size := by omega
  clear hb11
  go_wp2_with fail
  have q0 := Q0.out
  have q1 := Q1.out
  have q1' := Q1'.out
  go_quiet (fail)
  go_wp2_with fail
  go_ret
  refine ⟨?_, bdrewN ((HB11.out.alloc HB11.out.size _).alloc (by have := HB11.out.size; simp; omega) _) _⟩
  first | rfl | exact ret_bool (by simp)
set_option maxHeartbeats 4000000 in
set_option maxRecDepth 100000 in
theorem halves_2n3 (a n c m A b C P' : Int) (w : World) (hb0 : 32 ≤ b) (hb1 : b ≤ 32) (hA0 : 0 ≤ A) (hA1 : A < 4294967296) (HT : Hid (Tab w))
    (HX : Hid (∀ W, Calls Tryd.prog 21 #[.int .u32 a, .int .u8 n] W fun e w' => e = .returned (.agg #[.int .u32 A, .int .i64 b]) ∧ Below W.heap.size W w'))
    (q0 : 2 ^ (32 - b).toNat % 4294967296 = P') (q1 : C = (A + P') % 4294967296) (q2 : (A / 2 ^ (32 - b).toNat).tmod 2 = 1)
    (HY : Hid (∀ W, Calls Tryd.prog 21 #[.int .u32 c, .int .u8 m] W fun e w' => e = .returned (.agg #[.int .u32 C, .int .i64 b]) ∧ Below W.heap.size W w')) (H5 : Hid (∀ W, Calls Tryd.prog 27 #[.agg #[.int .u32 A, .int .i64 b], .agg #[.int .u32 C, .int .i64 b]] W fun e w' => e = .returned (.tuple #[.agg #[.int .u32 0, .int .i64 0], .bool false]) ∧ Below W.heap.size W w')) (H6 : Hid (∀ W, Calls Tryd.prog 26 #[.agg #[.int .u32 0, .int .i64 0]] W fun e w' => e = .returned (.tuple #[.agg #[.int .u32 0, .int .i64 1], .agg #[.int .u32 2147483648, .int .i64 1], .bool true]) ∧ Below W.heap.size W w')) :
    Calls Tryd.prog 8 #[.int .u32 a, .int .u8 n, .int .u32 c, .int .u8 m] w fun e w' => e = .returned (.bool true) ∧ Below w.heap.size w w' := by
  have H1 := Lib.hid fun W => halves_no A b W hA0 hA1 (by simp [halvesB]; intro _; omega)
  have Q0 := Lib.hid q0
  have Q1 := Lib.hid q1
  have Q2 := Lib.hid q2
  clear q0 q1 q2
  go_enter Tryd.func8, Tryd.ntmps8
  go_wp2_with fail
  refine (awake_any _ HT.out).mono ?_
  rintro e w1 ⟨rfl, hb1'⟩
  have HB1 := Lib.hid hb1'
  clear hb1'
  go_wp2_with fail
  refine (HX.out _).mono ?_
  rintro e w2 ⟨rfl, hb2⟩
  have HB2 := Lib.hid (HB1.out.trans (hb2.mono HB1.out.size))
  clear hb2
  go_wp2_with fail
  refine (H1.out _).mono ?_
  rintro e w3 ⟨rfl, hb3⟩
  have HB3 := Lib.hid ((HB2.out.alloc HB2.out.size _).trans (hb3.mono (by have := HB2.out.size; simp; omega)))
  obtain ⟨hc3, hf3⟩ := bcell hb3
  have z3 : w2.heap.size < w3.heap.size := by have := hb3.size; simp at this; omega
  have z3' : w2.heap.size < w3.heap.size + 1 := by omega
  clear hb3
  go_wp2_with fail
  have HB7 := Lib.hid ((HB3.out.alloc HB3.out.size (.cells #[.int .u32 0, .int .i64 0] 36)).alloc (by have := HB3.out.size; simp; omega) (.cells #[.int .u32 0, .int .i64 0] 36))
  clear hc3 hf3
  generalize (w3.alloc (.cells #[.int .u32 0, .int .i64 0] 36)).alloc (.cells #[.int .u32 0, .int .i64 0] 36) = W7 at *
  refine (HX.out _).mono ?_
  rintro e w8 ⟨rfl, hb8⟩
  have HB8 := Lib.hid (HB7.out.trans (hb8.mono HB7.out.size))
  clear hb8
  go_wp2_with fail
  refine (HY.out _).mono ?_
  rintro e w9 ⟨rfl, hb9⟩
  have HB9 := Lib.hid (HB8.out.trans (hb9.mono HB8.out.size))
  clear hb9
  go_wp2_with fail
  refine (H5.out _).mono ?_
  rintro e w10 ⟨rfl, hb10⟩
  have HB10 := Lib.hid (((HB9.out.alloc HB9.out.size _).alloc (by have := HB9.out.size; simp; omega) _).trans (hb10.mono (by have := HB9.out.size; simp; omega)))
  obtain ⟨hc10, hf10⟩ := bcell hb10
  have y10 : w9.heap.size + 1 < w10.heap.size := by have := hb10.size; simp at this; omega
  have y10' : w9.heap.size < w10.heap.size := by omega
  clear hb10
  go_wp2_with fail
  refine (H6.out _).mono ?_
  rintro e w11 ⟨rfl, hb11⟩
  have HB11 := Lib.hid ((HB10.out.alloc HB10.out.size _).trans (hb11.mono (by have := HB10.out.size; simp; omega)))
  obtain ⟨hc11, hf11⟩ := bcell hb11
  have y11 : w10.heap.size < w11.heap.size := by have := hb11.size; simp at this; omega
  have y11' : w9.heap.size + 1 < w11.heap.size := by omega
  have y11'' : w9.heap.size < w11.heap.size := by omega
  clear hb11
  go_wp2_with fail
  have q0 := Q0.out
  have q2 := Q2.out
  have q1 := Q1.out
  go_quiet (fail)
  go_wp2_with fail
  go_ret
  refine ⟨?_, bdrewN ((HB11.out.alloc HB11.out.size _).alloc (by have := HB11.out.size; simp; omega) _) _⟩
  first | rfl | exact ret_bool (by simp [q2])
end Go.Proofs.YtcbknlbpdlheeaaDoor
