/-
  The walks of AddrHalves where its prefix has halves, and the two others are the halves of one, or are not for unlike bits. Conditions: those that each theorem names.
-/
import Derived.Test.YtcbknlbpdlheeaaDoorWithin
namespace Go.Proofs.YtcbknlbpdlheeaaDoor
open Go.RowKit

theorem half_whole {A b : Int} (h : okB A b = true) (h1 : b < 32) : wholeV A (b + 1) (A + p2 (b + 1)) (b + 1) = .tuple #[.agg #[.int .u32 A, .int .i64 b], .bool true] := by
  obtain ⟨b0, b1, m⟩ := ok_out h
  have : wholeB A (b + 1) (A + p2 (b + 1)) (b + 1) = true := by
    unfold wholeB
    exact decide_eq_true ⟨by omega, by omega, by rw [show b + 1 - 1 = b by omega]; exact m, rfl, rfl⟩
  rw [wholeV, if_pos this, show b + 1 - 1 = b by omega]
theorem half_not {A b : Int} : wholeV (A + p2 (b + 1)) (b + 1) A (b + 1) = .tuple #[.agg #[.int .u32 0, .int .i64 0], .bool false] := by
  have : wholeB (A + p2 (b + 1)) (b + 1) A (b + 1) = false := by
    unfold wholeB
    refine decide_eq_false fun h => ?_
    have := p2_pos (b + 1)
    omega
  rw [wholeV, this]; rfl

theorem half_ok {A b : Int} (h : okB A b = true) (h1 : b < 32) : okB A (b + 1) = true ∧ okB (A + p2 (b + 1)) (b + 1) = true := by
  obtain ⟨b0, b1, m⟩ := ok_out h
  have hd := p2_dvd (a := b) (b := b + 1) (by omega)
  have hA : p2 (b + 1) ∣ A := Int.dvd_trans hd (Int.dvd_of_emod_eq_zero m)
  exact ⟨ok_iff.2 ⟨by omega, by omega, Int.emod_eq_zero_of_dvd hA⟩, ok_iff.2 ⟨by omega, by omega, Int.emod_eq_zero_of_dvd (Int.dvd_add hA (Int.dvd_refl _))⟩⟩

set_option maxHeartbeats 4000000 in
set_option maxRecDepth 100000 in
theorem halves_1y (a n c m A b C : Int) (w : World) (_hn0 : 0 ≤ n) (hb0 : 0 ≤ b) (hb1 : b < 32) (hA0 : 0 ≤ A) (hA1 : A < 4294967296) (hok : Hid (okB A b = true)) (HT : Hid (Tab w))
    (HX : Hid (∀ W, Calls Tryd.prog 21 #[.int .u32 a, .int .u8 n] W fun e w' => e = .returned (.agg #[.int .u32 A, .int .i64 b]) ∧ Below W.heap.size W w'))
    (HY : Hid (∀ W, Calls Tryd.prog 21 #[.int .u32 c, .int .u8 m] W fun e w' => e = .returned (.agg #[.int .u32 C, .int .i64 b]) ∧ Below W.heap.size W w')) (H5 : Hid (∀ W, Calls Tryd.prog 27 #[.agg #[.int .u32 A, .int .i64 b], .agg #[.int .u32 C, .int .i64 b]] W fun e w' => e = .returned (.tuple #[.agg #[.int .u32 A, .int .i64 (b - 1)], .bool true]) ∧ Below W.heap.size W w')) (H6 : Hid (∀ W, Calls Tryd.prog 26 #[.agg #[.int .u32 A, .int .i64 (b - 1)]] W fun e w' => e = .returned (.tuple #[.agg #[.int .u32 A, .int .i64 b], .agg #[.int .u32 C, .int .i64 b], .bool true]) ∧ Below W.heap.size W w')) :
    Calls Tryd.prog 8 #[.int .u32 a, .int .u8 n, .int .u32 c, .int .u8 m] w fun e w' => e = .returned (.bool true) ∧ Below w.heap.size w w' := by
  have hr := room hok.out hA1
  have hs := p2_succ b hb1
  have hp := p2_pos (b + 1)
  have H1 := Lib.hid fun W => halves_yes A b W hA0 hA1 (by simp only [halvesB, hok.out, Bool.true_and]; exact decide_eq_true (by omega))
  have H2 := Lib.hid fun W => whole_any A (b + 1) (A + p2 (b + 1)) (b + 1) W hA0 hA1 (by omega) (by omega)
  rw [half_whole hok.out hb1] at H2
  have H3 := Lib.hid fun W => whole_any (A + p2 (b + 1)) (b + 1) A (b + 1) W (by omega) (by omega) (by omega) (by omega)
  rw [half_not] at H3
  obtain ⟨k1, k2⟩ := half_ok hok.out hb1
  have S1 := Lib.hid (show sizeOf A (b + 1) = p2 (b + 1) by simp [sizeOf, k1])
  have S2 := Lib.hid (show sizeOf (A + p2 (b + 1)) (b + 1) = p2 (b + 1) by simp [sizeOf, k2])
  have S3 := Lib.hid (show sizeOf A b = p2 (b + 1) + p2 (b + 1) by simp only [sizeOf, hok.out, if_true]; omega)
  have H4 := Lib.hid fun W => overlap_eq A (b + 1) (A + p2 (b + 1)) (b + 1) false W hA0 hA1 (by omega) (by omega) (by rw [over_in k1 k2]; exact decide_eq_false (by omega))
  have HU := Lib.hid (show A + p2 (b + 1) < 4294967296 by omega)
  have HR := Lib.hid hr
  have HS := Lib.hid hs
  clear hr hs k1 k2
  generalize p2 (b + 1) = P at *
  have hP1 : P ≤ 4294967296 := by have := HR.out; have := HS.out; omega
  go_enter Tryd.func8, Tryd.ntmps8
  go_wp2_with fail
  refine (awake_any _ HT.out).mono ?_
  rintro e w1 ⟨rfl, hb1'⟩
  have HB1 := Lib.hid hb1'
  clear hb1'
  go_wp2_with fail
  refine (HX.out _).mono ?_
  rintro e w2 ⟨rfl, hb2⟩
  have HB2 := Lib.hid (HB1.out.trans (hb2.mono HB1.out.size))
  clear hb2
  go_wp2_with fail
  refine (H1.out _).mono ?_
  rintro e w3 ⟨rfl, hb3⟩
  have HB3 := Lib.hid ((HB2.out.alloc HB2.out.size _).trans (hb3.mono (by have := HB2.out.size; simp; omega)))
  obtain ⟨hc3, hf3⟩ := bcell hb3
  have z3 : w2.heap.size < w3.heap.size := by have := hb3.size; simp at this; omega
  have z3' : w2.heap.size < w3.heap.size + 1 := by omega
  clear hb3
  go_wp2_with fail
  refine (H2.out _).mono ?_
  rintro e w4 ⟨rfl, hb4⟩
  have HB4 := Lib.hid (((HB3.out.alloc HB3.out.size _).alloc (by have := HB3.out.size; simp; omega) _).trans (hb4.mono (by have := HB3.out.size; simp; omega)))
  obtain ⟨hc4, hf4⟩ := bcell hb4
  have z4 : w3.heap.size + 1 < w4.heap.size := by have := hb4.size; simp at this; omega
  have z4' : w3.heap.size < w4.heap.size := by omega
  have z4'' : w2.heap.size < w4.heap.size := by omega
  clear hb4
  go_wp2_with fail
  refine (H3.out _).mono ?_
  rintro e w5 ⟨rfl, hb5⟩
  have HB5 := Lib.hid ((HB4.out.alloc HB4.out.size _).trans (hb5.mono (by have := HB4.out.size; simp; omega)))
  obtain ⟨hc5, hf5⟩ := bcell hb5
  have z5 : w4.heap.size < w5.heap.size := by have := hb5.size; simp at this; omega
  have z5' : w3.heap.size + 1 < w5.heap.size := by omega
  have z5'' : w3.heap.size < w5.heap.size := by omega
  have z5''' : w2.heap.size < w5.heap.size := by omega
  clear hb5
  go_wp2_with fail
  have HB6 := Lib.hid (HB5.out.alloc HB5.out.size (.cells #[.int .u32 0, .int .i64 0] 36))
  have f90 : (w5.alloc (.cells #[.int .u32 0, .int .i64 0] 36)).cell? ⟨w2.heap.size, 0, none⟩ = some (.int .u32 A) := by go_simp
  have f91 : (w5.alloc (.cells #[.int .u32 0, .int .i64 0] 36)).cell? ⟨w2.heap.size, 1, none⟩ = some (.int .i64 b) := by go_simp
  have f100 : (w5.alloc (.cells #[.int .u32 0, .int .i64 0] 36)).cell? ⟨w3.heap.size, 0, none⟩ = some (.int .u32 A) := by go_simp
  have f101 : (w5.alloc (.cells #[.int .u32 0, .int .i64 0] 36)).cell? ⟨w3.heap.size, 1, none⟩ = some (.int .i64 (b + 1)) := by go_simp
  have f110 : (w5.alloc (.cells #[.int .u32 0, .int .i64 0] 36)).cell? ⟨w3.heap.size + 1, 0, none⟩ = some (.int .u32 (A + P)) := by go_simp
  have f111 : (w5.alloc (.cells #[.int .u32 0, .int .i64 0] 36)).cell? ⟨w3.heap.size + 1, 1, none⟩ = some (.int .i64 (b + 1)) := by go_simp
  have f130 : (w5.alloc (.cells #[.int .u32 0, .int .i64 0] 36)).cell? ⟨w4.heap.size, 0, none⟩ = some (.int .u32 A) := by go_simp
  have f131 : (w5.alloc (.cells #[.int .u32 0, .int .i64 0] 36)).cell? ⟨w4.heap.size, 1, none⟩ = some (.int .i64 b) := by go_simp
  clear hc3 hf3 hc4 hf4 hc5 hf5
  generalize w5.alloc (.cells #[.int .u32 0, .int .i64 0] 36) = W at *
  have g90 := cell_regrown f90
  have g91 := cell_regrown f91
  have g100 := cell_regrown f100
  have g101 := cell_regrown f101
  have g110 := cell_regrown f110
  have g111 := cell_regrown f111
  have g130 := cell_regrown f130
  have g131 := cell_regrown f131
  clear f90 f91 f100 f101 f110 f111 f130 f131
  have CS := Lib.hid fun (A' b' : Int) (h0 : 0 ≤ A') (h1 : A' < 4294967296) (d : Nat) (os : Array Obj) => Calls.regrown_of (size_any A' b' (Sort.grow (redrawn W d) os) h0 h1)
  have CO := Lib.hid fun (d : Nat) (os : Array Obj) => Calls.regrown_of (H4.out (Sort.grow (redrawn W d) os))
  have s1 := S1.out
  have s2 := S2.out
  have s3 := S3.out
  have hu := HU.out
  refine wp_region_quiet_below (by kernel_rfl) (by kernel_rfl) ?_
  repeat (go_big_quiet_step (first | (go_at_call 23; exact CS.out _ _ (by omega) (by omega) _ _) | (go_at_call 25; exact CO.out _ _)))
  refine wpQuiet_nil ?_
  intro _ hw'
  obtain ⟨⟨dq, osq⟩, hw''⟩ := hw'
  subst hw''
  have HB7 := Lib.hid (HB6.out.trans ((below_regrown W dq osq).mono HB6.out.size))
  clear g90 g91 g100 g101 g110 g111 g130 g131 s1 s2 s3 hu CS CO
  generalize Sort.grow (redrawn W dq) osq = W7 at *
  go_wp2_with fail
  refine (HX.out _).mono ?_
  rintro e w8 ⟨rfl, hb8⟩
  have HB8 := Lib.hid (HB7.out.trans (hb8.mono HB7.out.size))
  clear hb8
  go_wp2_with fail
  refine (HY.out _).mono ?_
  rintro e w9 ⟨rfl, hb9⟩
  have HB9 := Lib.hid (HB8.out.trans (hb9.mono HB8.out.size))
  clear hb9
  go_wp2_with fail
  refine (H5.out _).mono ?_
  rintro e w10 ⟨rfl, hb10⟩
  have HB10 := Lib.hid (((HB9.out.alloc HB9.out.size _).alloc (by have := HB9.out.size; simp; omega) _).trans (hb10.mono (by have := HB9.out.size; simp; omega)))
  obtain ⟨hc10, hf10⟩ := bcell hb10
  have y10 : w9.heap.size + 1 < w10.heap.size := by have := hb10.size; simp at this; omega
  have y10' : w9.heap.size < w10.heap.size := by omega
  clear hb10
  go_wp2_with fail
  refine (H6.out _).mono ?_
  rintro e w11 ⟨rfl, hb11⟩
  have HB11 := Lib.hid ((HB10.out.alloc HB10.out.size _).trans (hb11.mono (by have := HB10.out.size; simp; omega)))
  obtain ⟨hc11, hf11⟩ := bcell hb11
  have y11 : w10.heap.size < w11.heap.size := by have := hb11.size; simp at this; omega
  have y11' : w9.heap.size + 1 < w11.heap.size := by omega
  have y11'' : w9.heap.size < w11.heap.size := by omega
  clear hb11
  go_wp2_with fail
  go_quiet (fail)
  go_wp2_with fail
  go_ret
  refine ⟨?_, bdrewN ((HB11.out.alloc HB11.out.size _).alloc (by have := HB11.out.size; simp; omega) _) _⟩
  first | rfl | exact ret_bool (by simp)
set_option maxHeartbeats 4000000 in
set_option maxRecDepth 100000 in
theorem halves_1n1 (a n c m A b C d : Int) (w : World) (_hn0 : 0 ≤ n) (hb0 : 0 ≤ b) (hb1 : b < 32) (hA0 : 0 ≤ A) (hA1 : A < 4294967296) (hok : Hid (okB A b = true)) (HT : Hid (Tab w))
    (HX : Hid (∀ W, Calls Tryd.prog 21 #[.int .u32 a, .int .u8 n] W fun e w' => e = .returned (.agg #[.int .u32 A, .int .i64 b]) ∧ Below W.heap.size W w'))
    (_q1 : (b == d) = false) (q1' : (b != d) = true)
    (HY : Hid (∀ W, Calls Tryd.prog 21 #[.int .u32 c, .int .u8 m] W fun e w' => e = .returned (.agg #[.int .u32 C, .int .i64 d]) ∧ Below W.heap.size W w')) (H5 : Hid (∀ W, Calls Tryd.prog 27 #[.agg #[.int .u32 A, .int .i64 b], .agg #[.int .u32 C, .int .i64 d]] W fun e w' => e = .returned (.tuple #[.agg #[.int .u32 0, .int .i64 0], .bool false]) ∧ Below W.heap.size W w')) (H6 : Hid (∀ W, Calls Tryd.prog 26 #[.agg #[.int .u32 0, .int .i64 0]] W fun e w' => e = .returned (.tuple #[.agg #[.int .u32 0, .int .i64 1], .agg #[.int .u32 2147483648, .int .i64 1], .bool true]) ∧ Below W.heap.size W w')) :
    Calls Tryd.prog 8 #[.int .u32 a, .int .u8 n, .int .u32 c, .int .u8 m] w fun e w' => e = .returned (.bool true) ∧ Below w.heap.size w w' := by
  have hr := room hok.out hA1
  have hs := p2_succ b hb1
  have hp := p2_pos (b + 1)
  have H1 := Lib.hid fun W => halves_yes A b W hA0 hA1 (by simp only [halvesB, hok.out, Bool.true_and]; exact decide_eq_true (by omega))
  have H2 := Lib.hid fun W => whole_any A (b + 1) (A + p2 (b + 1)) (b + 1) W hA0 hA1 (by omega) (by omega)
  rw [half_whole hok.out hb1] at H2
  have H3 := Lib.hid fun W => whole_any (A + p2 (b + 1)) (b + 1) A (b + 1) W (by omega) (by omega) (by omega) (by omega)
  rw [half_not] at H3
  obtain ⟨k1, k2⟩ := half_ok hok.out hb1
  have S1 := Lib.hid (show sizeOf A (b + 1) = p2 (b + 1) by simp [sizeOf, k1])
  have S2 := Lib.hid (show sizeOf (A + p2 (b + 1)) (b + 1) = p2 (b + 1) by simp [sizeOf, k2])
  have S3 := Lib.hid (show sizeOf A b = p2 (b + 1) + p2 (b + 1) by simp only [sizeOf, hok.out, if_true]; omega)
  have H4 := Lib.hid fun W => overlap_eq A (b + 1) (A + p2 (b + 1)) (b + 1) false W hA0 hA1 (by omega) (by omega) (by rw [over_in k1 k2]; exact decide_eq_false (by omega))
  have HU := Lib.hid (show A + p2 (b + 1) < 4294967296 by omega)
  have HR := Lib.hid hr
  have HS := Lib.hid hs
  clear hr hs k1 k2
  generalize p2 (b + 1) = P at *
  have hP1 : P ≤ 4294967296 := by have := HR.out; have := HS.out; omega
  go_enter Tryd.func8, Tryd.ntmps8
  go_wp2_with fail
  refine (awake_any _ HT.out).mono ?_
  rintro e w1 ⟨rfl, hb1'⟩
  have HB1 := Lib.hid hb1'
  clear hb1'
  go_wp2_with fail
  refine (HX.out _).mono ?_
  rintro e w2 ⟨rfl, hb2⟩
  have HB2 := Lib.hid (HB1.out.trans (hb2.mono HB1.out.size))
  clear hb2
  go_wp2_with fail
  refine (H1.out _).mono ?_
  rintro e w3 ⟨rfl, hb3⟩
  have HB3 := Lib.hid ((HB2.out.alloc HB2.out.size _).trans (hb3.mono (by have := HB2.out.size; simp; omega)))
  obtain ⟨hc3, hf3⟩ := bcell hb3
  have z3 : w2.heap.size < w3.heap.size := by have := hb3.size; simp at this; omega
  have z3' : w2.heap.size < w3.heap.size + 1 := by omega
  clear hb3
  go_wp2_with fail
  refine (H2.out _).mono ?_
  rintro e w4 ⟨rfl, hb4⟩
  have HB4 := Lib.hid (((HB3.out.alloc HB3.out.size _).alloc (by have := HB3.out.size; simp; omega) _).trans (hb4.mono (by have := HB3.out.size; simp; omega)))
  obtain ⟨hc4, hf4⟩ := bcell hb4
  have z4 : w3.heap.size + 1 < w4.heap.size := by have := hb4.size; simp at this; omega
  have z4' : w3.heap.size < w4.heap.size := by omega
  have z4'' : w2.heap.size < w4.heap.size := by omega
  clear hb4
  go_wp2_with fail
  refine (H3.out _).mono ?_
  rintro e w5 ⟨rfl, hb5⟩
  have HB5 := Lib.hid ((HB4.out.alloc HB4.out.size _).trans (hb5.mono (by have := HB4.out.size; simp; omega)))
  obtain ⟨hc5, hf5⟩ := bcell hb5
  have z5 : w4.heap.size < w5.heap.size := by have := hb5.size; simp at this; omega
  have z5' : w3.heap.size + 1 < w5.heap.size := by omega
  have z5'' : w3.heap.size < w5.heap.size := by omega
  have z5''' : w2.heap.size < w5.heap.size := by omega
  clear hb5
  go_wp2_with fail
  have HB6 := Lib.hid (HB5.out.alloc HB5.out.size (.cells #[.int .u32 0, .int .i64 0] 36))
  have f90 : (w5.alloc (.cells #[.int .u32 0, .int .i64 0] 36)).cell? ⟨w2.heap.size, 0, none⟩ = some (.int .u32 A) := by go_simp
  have f91 : (w5.alloc (.cells #[.int .u32 0, .int .i64 0] 36)).cell? ⟨w2.heap.size, 1, none⟩ = some (.int .i64 b) := by go_simp
  have f100 : (w5.alloc (.cells #[.int .u32 0, .int .i64 0] 36)).cell? ⟨w3.heap.size, 0, none⟩ = some (.int .u32 A) := by go_simp
  have f101 : (w5.alloc (.cells #[.int .u32 0, .int .i64 0] 36)).cell? ⟨w3.heap.size, 1, none⟩ = some (.int .i64 (b + 1)) := by go_simp
  have f110 : (w5.alloc (.cells #[.int .u32 0, .int .i64 0] 36)).cell? ⟨w3.heap.size + 1, 0, none⟩ = some (.int .u32 (A + P)) := by go_simp
  have f111 : (w5.alloc (.cells #[.int .u32 0, .int .i64 0] 36)).cell? ⟨w3.heap.size + 1, 1, none⟩ = some (.int .i64 (b + 1)) := by go_simp
  have f130 : (w5.alloc (.cells #[.int .u32 0, .int .i64 0] 36)).cell? ⟨w4.heap.size, 0, none⟩ = some (.int .u32 A) := by go_simp
  have f131 : (w5.alloc (.cells #[.int .u32 0, .int .i64 0] 36)).cell? ⟨w4.heap.size, 1, none⟩ = some (.int .i64 b) := by go_simp
  clear hc3 hf3 hc4 hf4 hc5 hf5
  generalize w5.alloc (.cells #[.int .u32 0, .int .i64 0] 36) = W at *
  have g90 := cell_regrown f90
  have g91 := cell_regrown f91
  have g100 := cell_regrown f100
  have g101 := cell_regrown f101
  have g110 := cell_regrown f110
  have g111 := cell_regrown f111
  have g130 := cell_regrown f130
  have g131 := cell_regrown f131
  clear f90 f91 f100 f101 f110 f111 f130 f131
  have CS := Lib.hid fun (A' b' : Int) (h0 : 0 ≤ A') (h1 : A' < 4294967296) (d : Nat) (os : Array Obj) => Calls.regrown_of (size_any A' b' (Sort.grow (redrawn W d) os) h0 h1)
  have CO := Lib.hid fun (d : Nat) (os : Array Obj) => Calls.regrown_of (H4.out (Sort.grow (redrawn W d) os))
  have s1 := S1.out
  have s2 := S2.out
  have s3 := S3.out
  have hu := HU.out
  refine wp_region_quiet_below (by kernel_rfl) (by kernel_rfl) ?_
  repeat (go_big_quiet_step (first | (go_at_call 23; exact CS.out _ _ (by omega) (by omega) _ _) | (go_at_call 25; exact CO.out _ _)))
  refine wpQuiet_nil ?_
  intro _ hw'
  obtain ⟨⟨dq, osq⟩, hw''⟩ := hw'
  subst hw''
  have HB7 := Lib.hid (HB6.out.trans ((below_regrown W dq osq).mono HB6.out.size))
  clear g90 g91 g100 g101 g110 g111 g130 g131 s1 s2 s3 hu CS CO
  generalize Sort.grow (redrawn W dq) osq = W7 at *
  go_wp2_with fail
  refine (HX.out _).mono ?_
  rintro e w8 ⟨rfl, hb8⟩
  have HB8 := Lib.hid (HB7.out.trans (hb8.mono HB7.out.size))
  clear hb8
  go_wp2_with fail
  refine (HY.out _).mono ?_
  rintro e w9 ⟨rfl, hb9⟩
  have HB9 := Lib.hid (HB8.out.trans (hb9.mono HB8.out.size))
  clear hb9
  go_wp2_with fail
  refine (H5.out _).mono ?_
  rintro e w10 ⟨rfl, hb10⟩
  have HB10 := Lib.hid (((HB9.out.alloc HB9.out.size _).alloc (by have := HB9.out.size; simp; omega) _).trans (hb10.mono (by have := HB9.out.size; simp; omega)))
  obtain ⟨hc10, hf10⟩ := bcell hb10
  have y10 : w9.heap.size + 1 < w10.heap.size := by have := hb10.size; simp at this; omega
  have y10' : w9.heap.size < w10.heap.size := by omega
  clear hb10
  go_wp2_with fail
  refine (H6.out _).mono ?_
  rintro e w11 ⟨rfl, hb11⟩
  have HB11 := Lib.hid ((HB10.out.alloc HB10.out.size _).trans (hb11.mono (by have := HB10.out.size; simp; omega)))
  obtain ⟨hc11, hf11⟩ := bcell hb11
  have y11 : w10.heap.size < w11.heap.size := by have := hb11.size; simp at this; omega
  have y11' : w9.heap.size + 1 < w11.heap.size := by omega
  have y11'' : w9.heap.size < w11.heap.size := by omega
  clear hb11
  go_wp2_with fail
  go_quiet (fail)
  go_wp2_with fail
  go_ret
  refine ⟨?_, bdrewN ((HB11.out.alloc HB11.out.size _).alloc (by have := HB11.out.size; simp; omega) _) _⟩
  first | rfl | exact ret_bool (by simp)
end Go.Proofs.YtcbknlbpdlheeaaDoor
