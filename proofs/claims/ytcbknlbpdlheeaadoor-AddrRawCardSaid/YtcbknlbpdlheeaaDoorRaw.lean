/-
  The walks of AddrRaw: both prefixes valid, the second one not, the first one not. Conditions: addresses are numbers of 32 bits, Bits one of 64; the library's table of powers of ten lies as its text lays it.
-/
import Derived.Test.YtcbknlbpdlheeaaDoorWithin
namespace Go.Proofs.YtcbknlbpdlheeaaDoor
open Go.RowKit

theorem whole_ok {A b C d : Int} (h : wholeB A b C d = true) : okB A b = true ∧ okB C d = true := by
  obtain ⟨h1, h2, hm, rfl, rfl⟩ := of_decide_eq_true h
  have hd := p2_dvd (a := d - 1) (b := d) (by omega)
  have hA : p2 d ∣ A := Int.dvd_trans hd (Int.dvd_of_emod_eq_zero hm)
  exact ⟨ok_iff.2 ⟨by omega, by omega, Int.emod_eq_zero_of_dvd hA⟩, ok_iff.2 ⟨by omega, by omega, Int.emod_eq_zero_of_dvd (Int.dvd_add hA (Int.dvd_refl _))⟩⟩

theorem whole_no {A b C d : Int} (h : okB A b = false ∨ okB C d = false) : wholeV A b C d = .tuple #[.agg #[.int .u32 0, .int .i64 0], .bool false] := by
  cases hw : wholeB A b C d
  · rw [wholeV, hw]; rfl
  · obtain ⟨h1, h2⟩ := whole_ok hw
    rcases h with h | h
    · rw [h1] at h; cases h
    · rw [h2] at h; cases h

theorem within_no {A b C d : Int} (h : okB A b = false ∨ okB C d = false) : withinB A b C d = false := by
  rcases h with h | h
  · simp [withinB, h]
  · simp [withinB, hasB, h]

theorem over_no {A b C d : Int} (h : okB A b = false ∨ okB C d = false) : overB A b C d = false := by
  rw [overB, within_no h, within_no h.symm]; rfl

theorem at_ex (A b k : Int) (h0 : 0 ≤ A) (h1 : A < 4294967296) : ∃ (v : Int) (t : Bool), ∀ W, Calls Tryd.prog 22 #[.agg #[.int .u32 A, .int .i64 b], .int .i64 k] W fun e w' => e = .returned (.tuple #[.int .u32 v, .bool t]) ∧ Below W.heap.size W w' := by
  by_cases h : 0 ≤ k ∧ k < sizeOf A b
  · exact ⟨_, _, fun W => at_yes A b k W h0 h1 h.1 h.2⟩
  · exact ⟨_, _, fun W => at_no A b k W h0 h1 (by omega)⟩

theorem halves_ex (A b : Int) (h0 : 0 ≤ A) (h1 : A < 4294967296) : ∃ (v1 v2 v3 v4 : Int) (t : Bool), ∀ W, Calls Tryd.prog 26 #[.agg #[.int .u32 A, .int .i64 b]] W fun e w' => e = .returned (.tuple #[.agg #[.int .u32 v1, .int .i64 v2], .agg #[.int .u32 v3, .int .i64 v4], .bool t]) ∧ Below W.heap.size W w' := by
  cases h : halvesB A b
  · exact ⟨_, _, _, _, _, fun W => halves_no A b W h0 h1 h⟩
  · exact ⟨_, _, _, _, _, fun W => halves_yes A b W h0 h1 h⟩

theorem rightL_eq (a b : Int) (t : Bool) (w : World) (ha0 : 0 ≤ a) (ha1 : a < 4294967296) (h : okB a b = t) :
    Calls Tryd.prog 17 #[.agg #[.int .u32 a, .int .i64 b]] w fun e w' => e = .returned (.bool t) ∧ Below w.heap.size w w' := by
  have := rightL_any a b w ha0 ha1; rwa [h] at this

theorem below_two {w w1 : World} (o1 o2 : Obj) (h : Below ((w.alloc o1).alloc o2).heap.size ((w.alloc o1).alloc o2) w1) : Below w.heap.size w w1 :=
  (((Below.refl _ w).alloc (Nat.le_refl _) _).alloc (by simp) _).trans (h.mono (by simp; omega))

set_option maxHeartbeats 4000000 in
set_option maxRecDepth 100000 in
theorem raw_both (A b C d a k : Int) (w : World) (hA0 : 0 ≤ A) (hA1 : A < 4294967296) (hC0 : 0 ≤ C) (hC1 : C < 4294967296) (h1 : okB A b = true) (h2 : okB C d = true) (ht : Tab w) :
    Calls Tryd.prog 9 #[.agg #[.int .u32 A, .int .i64 b], .agg #[.int .u32 C, .int .i64 d], .int .u32 a, .int .i64 k] w fun e w' => e = .returned (.bool true) ∧ Below w.heap.size w w' := by
  have R1 := Lib.hid fun W => rightL_eq A b true W hA0 hA1 h1
  have R2 := Lib.hid fun W => rightL_eq C d true W hC0 hC1 h2
  have HW := Lib.hid fun W => within_eq A b A b true W hA0 hA1 hA0 hA1 (by rw [within_in h1 h1]; exact decide_eq_true ⟨Int.le_refl _, Int.le_refl _⟩)
  have HO := Lib.hid fun W => overlap_eq C d C d true W hC0 hC1 hC0 hC1 (by have := p2_pos d; rw [over_in h2 h2]; exact decide_eq_true ⟨by omega, by omega⟩)
  have HT := Lib.hid (ht.below (((Below.refl _ w).alloc (Nat.le_refl _) (.cells #[.int .u32 A, .int .i64 b] 36)).alloc (by simp) (.cells #[.int .u32 C, .int .i64 d] 36)))
  clear ht h1 h2
  go_enter Tryd.func9, Tryd.ntmps9
  go_wp2_with fail
  refine (awake_any _ HT.out).mono ?_
  rintro e w1 ⟨rfl, hb1⟩
  have HB1 := Lib.hid (below_two _ _ hb1)
  obtain ⟨hc1, hf1⟩ := bcell hb1
  have z1 : w.heap.size + 1 < w1.heap.size := by have := hb1.size; simp at this; omega
  have z1' : w.heap.size < w1.heap.size := by omega
  clear hb1
  go_wp2_with fail
  refine (R1.out _).mono ?_
  rintro e w2 ⟨rfl, hb2⟩
  have HB2 := Lib.hid (HB1.out.trans (hb2.mono HB1.out.size))
  obtain ⟨hc2, hf2⟩ := bcell hb2
  have z2 : w.heap.size + 1 < w2.heap.size := by have := hb2.size; omega
  have z2' : w.heap.size < w2.heap.size := by omega
  clear hb2
  go_wp2_with fail
  refine (R2.out _).mono ?_
  rintro e w3 ⟨rfl, hb3⟩
  have HB3 := Lib.hid (HB2.out.trans (hb3.mono HB2.out.size))
  obtain ⟨hc3, hf3⟩ := bcell hb3
  have z3 : w.heap.size + 1 < w3.heap.size := by have := hb3.size; omega
  have z3' : w.heap.size < w3.heap.size := by omega
  clear hb3
  go_wp2_with fail
  refine (HW.out _).mono ?_
  rintro e w4 ⟨rfl, hb4⟩
  have HB4 := Lib.hid (HB3.out.trans (hb4.mono HB3.out.size))
  obtain ⟨hc4, hf4⟩ := bcell hb4
  clear hb4
  go_wp2_with fail
  refine (HO.out _).mono ?_
  rintro e w5 ⟨rfl, hb5⟩
  have HB5 := Lib.hid (HB4.out.trans (hb5.mono HB4.out.size))
  clear hb5
  go_wp2_with fail
  go_ret
  exact ⟨rfl, HB5.out⟩

set_option maxHeartbeats 4000000 in
set_option maxRecDepth 100000 in
theorem raw_other (A b C d a k : Int) (w : World) (hA0 : 0 ≤ A) (hA1 : A < 4294967296) (hC0 : 0 ≤ C) (hC1 : C < 4294967296) (hb0 : -9223372036854775808 ≤ b) (hb1 : b ≤ 9223372036854775807) (h1 : okB A b = true) (h2 : okB C d = false) (ht : Tab w) :
    Calls Tryd.prog 9 #[.agg #[.int .u32 A, .int .i64 b], .agg #[.int .u32 C, .int .i64 d], .int .u32 a, .int .i64 k] w fun e w' => e = .returned (.bool true) ∧ Below w.heap.size w w' := by
  have R1 := Lib.hid fun W => rightL_eq A b true W hA0 hA1 h1
  have R2 := Lib.hid fun W => rightL_eq C d false W hC0 hC1 h2
  obtain ⟨v1, v2, v3, v4, t, hH⟩ := halves_ex A b hA0 hA1
  obtain ⟨v, s, hT⟩ := at_ex A b k hA0 hA1
  have HH := Lib.hid hH
  have HA := Lib.hid hT
  have HL := Lib.hid fun W => whole_any A b C d W hA0 hA1 hb0 hb1
  rw [whole_no (.inr h2)] at HL
  have HW := Lib.hid fun W => within_eq A b C d false W hA0 hA1 hC0 hC1 (within_no (.inr h2))
  have HO := Lib.hid fun W => overlap_eq A b C d false W hA0 hA1 hC0 hC1 (over_no (.inr h2))
  have HT := Lib.hid (ht.below (((Below.refl _ w).alloc (Nat.le_refl _) (.cells #[.int .u32 A, .int .i64 b] 36)).alloc (by simp) (.cells #[.int .u32 C, .int .i64 d] 36)))
  clear ht h1 h2 hH hT
  go_enter Tryd.func9, Tryd.ntmps9
  go_wp2_with fail
  refine (awake_any _ HT.out).mono ?_
  rintro e w1 ⟨rfl, hb1⟩
  have HB1 := Lib.hid (below_two _ _ hb1)
  obtain ⟨hc1, hf1⟩ := bcell hb1
  have z1 : w.heap.size + 1 < w1.heap.size := by have := hb1.size; simp at this; omega
  have z1' : w.heap.size < w1.heap.size := by omega
  clear hb1
  go_wp2_with fail
  refine (R1.out _).mono ?_
  rintro e w2 ⟨rfl, hb2⟩
  have HB2 := Lib.hid (HB1.out.trans (hb2.mono HB1.out.size))
  obtain ⟨hc2, hf2⟩ := bcell hb2
  have z2 : w.heap.size + 1 < w2.heap.size := by have := hb2.size; omega
  have z2' : w.heap.size < w2.heap.size := by omega
  clear hb2
  go_wp2_with fail
  refine (R2.out _).mono ?_
  rintro e w3 ⟨rfl, hb3⟩
  have HB3 := Lib.hid (HB2.out.trans (hb3.mono HB2.out.size))
  obtain ⟨hc3, hf3⟩ := bcell hb3
  have z3 : w.heap.size + 1 < w3.heap.size := by have := hb3.size; omega
  have z3' : w.heap.size < w3.heap.size := by omega
  clear hb3
  go_wp2_with fail
  refine (HH.out _).mono ?_
  rintro e w4 ⟨rfl, hb4⟩
  have HB4 := Lib.hid (HB3.out.trans (hb4.mono HB3.out.size))
  obtain ⟨hc4, hf4⟩ := bcell hb4
  have z4 : w.heap.size + 1 < w4.heap.size := by have := hb4.size; omega
  have z4' : w.heap.size < w4.heap.size := by omega
  have z4a : w.heap.size + 1 < w4.heap.size + 1 := by omega
  have z4b : w.heap.size < w4.heap.size + 1 := by omega
  clear hb4
  go_wp2_with fail
  refine (HL.out _).mono ?_
  rintro e w5 ⟨rfl, hb5⟩
  have HB5 := Lib.hid (((HB4.out.alloc HB4.out.size _).alloc (by have := HB4.out.size; simp; omega) _).trans (hb5.mono (by have := HB4.out.size; simp; omega)))
  obtain ⟨hc5, hf5⟩ := bcell hb5
  have z5 : w.heap.size + 1 < w5.heap.size := by have := hb5.size; simp at this; omega
  have z5' : w.heap.size < w5.heap.size := by omega
  clear hb5
  go_wp2_with fail
  refine (HA.out _).mono ?_
  rintro e w6 ⟨rfl, hb6⟩
  have HB6 := Lib.hid ((HB5.out.alloc HB5.out.size _).trans (hb6.mono (by have := HB5.out.size; simp; omega)))
  obtain ⟨hc6, hf6⟩ := bcell hb6
  have z6 : w.heap.size + 1 < w6.heap.size := by have := hb6.size; simp at this; omega
  have z6' : w.heap.size < w6.heap.size := by omega
  clear hb6
  go_wp2_with fail
  refine (HW.out _).mono ?_
  rintro e w7 ⟨rfl, hb7⟩
  have HB7 := Lib.hid (HB6.out.trans (hb7.mono HB6.out.size))
  obtain ⟨hc7, hf7⟩ := bcell hb7
  have z7 : w.heap.size + 1 < w7.heap.size := by have := hb7.size; omega
  have z7' : w.heap.size < w7.heap.size := by omega
  clear hb7
  go_wp2_with fail
  refine (HO.out _).mono ?_
  rintro e w8 ⟨rfl, hb8⟩
  have HB8 := Lib.hid (HB7.out.trans (hb8.mono HB7.out.size))
  obtain ⟨hc8, hf8⟩ := bcell hb8
  have z8 : w.heap.size + 1 < w8.heap.size := by have := hb8.size; omega
  have z8' : w.heap.size < w8.heap.size := by omega
  clear hb8
  go_wp2_with fail
  refine (R1.out _).mono ?_
  rintro e w9 ⟨rfl, hb9⟩
  have HB9 := Lib.hid (HB8.out.trans (hb9.mono HB8.out.size))
  clear hb9
  go_wp2_with fail
  go_ret
  exact ⟨rfl, HB9.out⟩

set_option maxHeartbeats 4000000 in
set_option maxRecDepth 100000 in
theorem raw_none (A b C d a k : Int) (w : World) (hA0 : 0 ≤ A) (hA1 : A < 4294967296) (hC0 : 0 ≤ C) (hC1 : C < 4294967296) (hb0 : -9223372036854775808 ≤ b) (hb1 : b ≤ 9223372036854775807) (ha0 : 0 ≤ a) (ha1 : a < 4294967296) (h1 : okB A b = false) (ht : Tab w) :
    Calls Tryd.prog 9 #[.agg #[.int .u32 A, .int .i64 b], .agg #[.int .u32 C, .int .i64 d], .int .u32 a, .int .i64 k] w fun e w' => e = .returned (.bool true) ∧ Below w.heap.size w w' := by
  have R1 := Lib.hid fun W => rightL_eq A b false W hA0 hA1 h1
  have hz : sizeOf A b = 0 := by simp [sizeOf, h1]
  have HH := Lib.hid fun W => halves_no A b W hA0 hA1 (by simp [halvesB, h1])
  have HA := Lib.hid fun W => at_no A b k W hA0 hA1 (by omega)
  have HS := Lib.hid fun W => size_eq A b 0 W hA0 hA1 hz
  have HX := Lib.hid fun W => has_eq A b a false W hA0 hA1 ha0 ha1 (by simp [hasB, h1])
  have HL := Lib.hid fun W => whole_any A b C d W hA0 hA1 hb0 hb1
  rw [whole_no (.inl h1)] at HL
  have HW := Lib.hid fun W => within_eq A b C d false W hA0 hA1 hC0 hC1 (within_no (.inl h1))
  have HO := Lib.hid fun W => overlap_eq A b C d false W hA0 hA1 hC0 hC1 (over_no (.inl h1))
  have HT := Lib.hid (ht.below (((Below.refl _ w).alloc (Nat.le_refl _) (.cells #[.int .u32 A, .int .i64 b] 36)).alloc (by simp) (.cells #[.int .u32 C, .int .i64 d] 36)))
  clear ht h1 hz
  go_enter Tryd.func9, Tryd.ntmps9
  go_wp2_with fail
  refine (awake_any _ HT.out).mono ?_
  rintro e w1 ⟨rfl, hb1⟩
  have HB1 := Lib.hid (below_two _ _ hb1)
  obtain ⟨hc1, hf1⟩ := bcell hb1
  have z1 : w.heap.size + 1 < w1.heap.size := by have := hb1.size; simp at this; omega
  have z1' : w.heap.size < w1.heap.size := by omega
  clear hb1
  go_wp2_with fail
  refine (R1.out _).mono ?_
  rintro e w2 ⟨rfl, hb2⟩
  have HB2 := Lib.hid (HB1.out.trans (hb2.mono HB1.out.size))
  obtain ⟨hc2, hf2⟩ := bcell hb2
  have z2 : w.heap.size + 1 < w2.heap.size := by have := hb2.size; omega
  have z2' : w.heap.size < w2.heap.size := by omega
  clear hb2
  go_wp2_with fail
  refine (HH.out _).mono ?_
  rintro e w4 ⟨rfl, hb4⟩
  have HB4 := Lib.hid (HB2.out.trans (hb4.mono HB2.out.size))
  obtain ⟨hc4, hf4⟩ := bcell hb4
  have z4 : w.heap.size + 1 < w4.heap.size := by have := hb4.size; omega
  have z4' : w.heap.size < w4.heap.size := by omega
  have z4a : w.heap.size + 1 < w4.heap.size + 1 := by omega
  have z4b : w.heap.size < w4.heap.size + 1 := by omega
  clear hb4
  go_wp2_with fail
  refine (HL.out _).mono ?_
  rintro e w5 ⟨rfl, hb5⟩
  have HB5 := Lib.hid (((HB4.out.alloc HB4.out.size _).alloc (by have := HB4.out.size; simp; omega) _).trans (hb5.mono (by have := HB4.out.size; simp; omega)))
  obtain ⟨hc5, hf5⟩ := bcell hb5
  have z5 : w.heap.size + 1 < w5.heap.size := by have := hb5.size; simp at this; omega
  have z5' : w.heap.size < w5.heap.size := by omega
  have X5 := Lib.hid (show w4.heap.size + 1 < w5.heap.size by have := hb5.size; simp at this; omega)
  clear hb5
  go_wp2_with fail
  refine (HA.out _).mono ?_
  rintro e w6 ⟨rfl, hb6⟩
  have HB6 := Lib.hid ((HB5.out.alloc HB5.out.size _).trans (hb6.mono (by have := HB5.out.size; simp; omega)))
  obtain ⟨hc6, hf6⟩ := bcell hb6
  have z6 : w.heap.size + 1 < w6.heap.size := by have := hb6.size; simp at this; omega
  have z6' : w.heap.size < w6.heap.size := by omega
  have X6 := Lib.hid (show w4.heap.size + 1 < w6.heap.size by have h6 := hb6.size; have h5 := X5.out; simp at h6; omega)
  clear hb6
  go_wp2_with fail
  refine (HW.out _).mono ?_
  rintro e w7 ⟨rfl, hb7⟩
  have HB7 := Lib.hid (HB6.out.trans (hb7.mono HB6.out.size))
  obtain ⟨hc7, hf7⟩ := bcell hb7
  have z7 : w.heap.size + 1 < w7.heap.size := by have := hb7.size; omega
  have z7' : w.heap.size < w7.heap.size := by omega
  have X7 := Lib.hid (show w4.heap.size + 1 < w7.heap.size by have := hb7.size; have := X6.out; omega)
  clear hb7
  go_wp2_with fail
  refine (HO.out _).mono ?_
  rintro e w8 ⟨rfl, hb8⟩
  have HB8 := Lib.hid (HB7.out.trans (hb8.mono HB7.out.size))
  obtain ⟨hc8, hf8⟩ := bcell hb8
  have z8 : w.heap.size + 1 < w8.heap.size := by have := hb8.size; omega
  have z8' : w.heap.size < w8.heap.size := by omega
  have X8 := Lib.hid (show w4.heap.size + 1 < w8.heap.size by have := hb8.size; have := X7.out; omega)
  clear hb8
  go_wp2_with fail
  refine (R1.out _).mono ?_
  rintro e w9 ⟨rfl, hb9⟩
  have HB9 := Lib.hid (HB8.out.trans (hb9.mono HB8.out.size))
  obtain ⟨hc9, hf9⟩ := bcell hb9
  have x5 : w4.heap.size + 1 < w5.heap.size := X5.out
  have x6 : w4.heap.size + 1 < w6.heap.size := X6.out
  have x7 : w4.heap.size + 1 < w7.heap.size := X7.out
  have x8 : w4.heap.size + 1 < w8.heap.size := X8.out
  have x9 : w4.heap.size + 1 < w9.heap.size := by have := hb9.size; omega
  have x5' : w4.heap.size < w5.heap.size := by omega
  have x6' : w4.heap.size < w6.heap.size := by omega
  have x7' : w4.heap.size < w7.heap.size := by omega
  have x8' : w4.heap.size < w8.heap.size := by omega
  have x9' : w4.heap.size < w9.heap.size := by omega
  have z9 : w.heap.size + 1 < w9.heap.size := by omega
  have z9' : w.heap.size < w9.heap.size := by omega
  clear hb9
  go_wp2_with fail
  refine (HS.out _).mono ?_
  rintro e w10 ⟨rfl, hb10⟩
  have HB10 := Lib.hid (HB9.out.trans (hb10.mono HB9.out.size))
  obtain ⟨hc10, hf10⟩ := bcell hb10
  clear hb10
  go_wp2_with fail
  refine (HX.out _).mono ?_
  rintro e w11 ⟨rfl, hb11⟩
  have HB11 := Lib.hid (HB10.out.trans (hb11.mono HB10.out.size))
  clear hb11
  go_wp2_with fail
  go_ret
  exact ⟨rfl, HB11.out⟩
end Go.Proofs.YtcbknlbpdlheeaaDoor
