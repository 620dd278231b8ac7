/-
  The walk of AddrHas: called at any address, bits, address and choice it returns true and changes nothing that was in memory. Condition: the library's table of powers of ten lies as its text lays it.
-/
import Derived.Test.YtcbknlbpdlheeaaDoorAwake
namespace Go.Proofs.YtcbknlbpdlheeaaDoor
open Go.RowKit

theorem has_in {B b : Int} (h : okB B b = true) (x : Int) : hasB B b x = decide (B ≤ x ∧ x < B + p2 b) := by
  obtain ⟨_, _, hm⟩ := ok_out h
  have hp := p2_pos b
  simp only [hasB, h, Bool.true_and]
  rw [Bool.eq_iff_iff]
  simp only [decide_eq_true_eq]
  have e1 := Int.mul_ediv_add_emod x (p2 b)
  have e2 := Int.mul_ediv_add_emod B (p2 b)
  have m0 := Int.emod_nonneg x (Int.ne_of_gt hp)
  have m1 := Int.emod_lt_of_pos x hp
  rw [hm, Int.add_zero] at e2
  constructor
  · intro e; omega
  · intro ⟨g1, g2⟩
    have k1 : B / p2 b < x / p2 b + 1 := by
      refine Int.lt_of_mul_lt_mul_left (a := p2 b) ?_ (Int.le_of_lt hp)
      rw [Int.mul_add, Int.mul_one]; omega
    have k2 : x / p2 b < B / p2 b + 1 := by
      refine Int.lt_of_mul_lt_mul_left (a := p2 b) ?_ (Int.le_of_lt hp)
      rw [Int.mul_add, Int.mul_one]; omega
    have k3 : x / p2 b = B / p2 b := by omega
    rw [k3] at e1
    omega

set_option maxHeartbeats 1000000 in
theorem has_far (a n x : Int) (w : World) (ha0 : 0 ≤ a) (ha1 : a < 4294967296) (hn0 : 0 ≤ n) (hn1 : n < 256) (hx0 : 0 ≤ x) (hx1 : x < 4294967296) (ht : Tab w) :
    Calls Tryd.prog 6 #[.int .u32 a, .int .u8 n, .int .u32 x, .bool false] w fun e w' => e = .returned (.bool true) ∧ Below w.heap.size w w' := by
  have HT := Lib.hid ht
  have HK := Lib.hid fun W => block_any a n W ha0 ha1 hn0 hn1
  clear ht
  have hb0 : 0 ≤ 20 + n % 13 := by omega
  have hb1 : 20 + n % 13 ≤ 32 := by omega
  generalize 20 + n % 13 = b at *
  have hok := made_ok a b hb0 hb1
  obtain ⟨hl0, hl1⟩ := made_lo a b ha0
  generalize a - a % p2 b = B at *
  have hB1 : B < 4294967296 := by omega
  have hp0 := p2_pos b
  have hp1 := p2_le b hb0
  have hr := room hok hB1
  have hv := wrap_p2 b hb0
  have hsz : sizeOf B b = p2 b := by simp [sizeOf, hok]
  have HS := Lib.hid fun W => size_eq B b (p2 b) W hl0 hB1 hsz
  have hh := has_in hok x
  by_cases h1 : B ≤ x
  · by_cases h2 : x < B + p2 b
    · have HH := Lib.hid fun W => has_eq B b x true W hl0 hB1 hx0 hx1 (by rw [hh]; exact decide_eq_true ⟨h1, h2⟩)
      have HA := Lib.hid fun W => at_yes B b (x - B) W hl0 hB1 (by omega) (by omega)
      rw [show B + (x - B) = x by omega] at HA
      clear hh hsz hok
      go_enter Tryd.func6, Tryd.ntmps6
      go_wp2_with fail
      refine (awake_any _ HT.out).mono ?_
      rintro e w1 ⟨rfl, hb1⟩
      have HB1 := Lib.hid hb1
      clear hb1
      go_wp2_with fail
      refine (HK.out _).mono ?_
      rintro e w2 ⟨rfl, hb2⟩
      have HB2 := Lib.hid (HB1.out.trans (hb2.mono HB1.out.size))
      clear hb2
      go_wp2_with fail
      refine (HA.out _).mono ?_
      rintro e w3 ⟨rfl, hb3⟩
      have HB3 := Lib.hid ((HB2.out.alloc HB2.out.size _).trans (hb3.mono (by have := HB2.out.size; simp; omega)))
      have hz3 : w2.heap.size < w3.heap.size := by have := hb3.size; simp at this; omega
      obtain ⟨hc3, hf3⟩ := bcell hb3
      clear hb3
      go_wp2_with fail
      refine (HH.out _).mono ?_
      rintro e w4 ⟨rfl, hb4⟩
      have HB4 := Lib.hid (HB3.out.trans (hb4.mono HB3.out.size))
      obtain ⟨hc4, hf4⟩ := bcell hb4
      clear hb4
      go_wp2_with fail
      refine (HS.out _).mono ?_
      rintro e w5 ⟨rfl, hb5⟩
      have HB5 := Lib.hid (HB4.out.trans (hb5.mono HB4.out.size))
      clear hb5
      go_wp2_with fail
      go_ret
      exact ⟨rfl, HB5.out⟩
    · have HH := Lib.hid fun W => has_eq B b x false W hl0 hB1 hx0 hx1 (by rw [hh]; exact decide_eq_false (by omega))
      have HA := Lib.hid fun W => at_no B b (x - B) W hl0 hB1 (.inr (by omega))
      clear hh hsz hok
      go_enter Tryd.func6, Tryd.ntmps6
      go_wp2_with fail
      refine (awake_any _ HT.out).mono ?_
      rintro e w1 ⟨rfl, hb1⟩
      have HB1 := Lib.hid hb1
      clear hb1
      go_wp2_with fail
      refine (HK.out _).mono ?_
      rintro e w2 ⟨rfl, hb2⟩
      have HB2 := Lib.hid (HB1.out.trans (hb2.mono HB1.out.size))
      clear hb2
      go_wp2_with fail
      refine (HA.out _).mono ?_
      rintro e w3 ⟨rfl, hb3⟩
      have HB3 := Lib.hid ((HB2.out.alloc HB2.out.size _).trans (hb3.mono (by have := HB2.out.size; simp; omega)))
      have hz3 : w2.heap.size < w3.heap.size := by have := hb3.size; simp at this; omega
      obtain ⟨hc3, hf3⟩ := bcell hb3
      clear hb3
      go_wp2_with fail
      refine (HH.out _).mono ?_
      rintro e w4 ⟨rfl, hb4⟩
      have HB4 := Lib.hid (HB3.out.trans (hb4.mono HB3.out.size))
      obtain ⟨hc4, hf4⟩ := bcell hb4
      clear hb4
      go_wp2_with fail
      refine (HS.out _).mono ?_
      rintro e w5 ⟨rfl, hb5⟩
      have HB5 := Lib.hid (HB4.out.trans (hb5.mono HB4.out.size))
      clear hb5
      go_wp2_with fail
      go_ret
      exact ⟨rfl, HB5.out⟩
  · have HH := Lib.hid fun W => has_eq B b x false W hl0 hB1 hx0 hx1 (by rw [hh]; exact decide_eq_false (by omega))
    have HA := Lib.hid fun W => at_no B b (x - B) W hl0 hB1 (.inl (by omega))
    clear hh hsz hok
    go_enter Tryd.func6, Tryd.ntmps6
    go_wp2_with fail
    refine (awake_any _ HT.out).mono ?_
    rintro e w1 ⟨rfl, hb1⟩
    have HB1 := Lib.hid hb1
    clear hb1
    go_wp2_with fail
    refine (HK.out _).mono ?_
    rintro e w2 ⟨rfl, hb2⟩
    have HB2 := Lib.hid (HB1.out.trans (hb2.mono HB1.out.size))
    clear hb2
    go_wp2_with fail
    refine (HA.out _).mono ?_
    rintro e w3 ⟨rfl, hb3⟩
    have HB3 := Lib.hid ((HB2.out.alloc HB2.out.size _).trans (hb3.mono (by have := HB2.out.size; simp; omega)))
    have hz3 : w2.heap.size < w3.heap.size := by have := hb3.size; simp at this; omega
    obtain ⟨hc3, hf3⟩ := bcell hb3
    clear hb3
    go_wp2_with fail
    refine (HH.out _).mono ?_
    rintro e w4 ⟨rfl, hb4⟩
    have HB4 := Lib.hid (HB3.out.trans (hb4.mono HB3.out.size))
    obtain ⟨hc4, hf4⟩ := bcell hb4
    clear hb4
    go_wp2_with fail
    refine (HS.out _).mono ?_
    rintro e w5 ⟨rfl, hb5⟩
    have HB5 := Lib.hid (HB4.out.trans (hb5.mono HB4.out.size))
    clear hb5
    go_wp2_with fail
    go_ret
    exact ⟨rfl, HB5.out⟩
set_option maxHeartbeats 1000000 in
theorem has_near (a n c : Int) (w : World) (ha0 : 0 ≤ a) (ha1 : a < 4294967296) (hn0 : 0 ≤ n) (hn1 : n < 256) (hc0 : 0 ≤ c) (hc1 : c < 4294967296) (ht : Tab w) :
    Calls Tryd.prog 6 #[.int .u32 a, .int .u8 n, .int .u32 c, .bool true] w fun e w' => e = .returned (.bool true) ∧ Below w.heap.size w w' := by
  have HT := Lib.hid ht
  have HK := Lib.hid fun W => block_any a n W ha0 ha1 hn0 hn1
  clear ht
  have hb0 : 0 ≤ 20 + n % 13 := by omega
  have hb1 : 20 + n % 13 ≤ 32 := by omega
  generalize 20 + n % 13 = b at *
  have hok := made_ok a b hb0 hb1
  obtain ⟨hl0, hl1⟩ := made_lo a b ha0
  generalize a - a % p2 b = B at *
  have hB1 : B < 4294967296 := by omega
  have hp0 := p2_pos b
  have hp1 := p2_le b hb0
  have hr := room hok hB1
  have hv := wrap_p2 b hb0
  have hsz : sizeOf B b = p2 b := by simp [sizeOf, hok]
  have HS := Lib.hid fun W => size_eq B b (p2 b) W hl0 hB1 hsz
  by_cases hw : B + c % 8192 < 4294967296
  · have hx0 : 0 ≤ B + c % 8192 := by omega
    have hh := has_in hok (B + c % 8192)
    have h1 : B ≤ B + c % 8192 := by omega
    by_cases h2 : B + c % 8192 < B + p2 b
    · have HH := Lib.hid fun W => has_eq B b (B + c % 8192) true W hl0 hB1 hx0 hw (by rw [hh]; exact decide_eq_true ⟨h1, h2⟩)
      have HA := Lib.hid fun W => at_yes B b ((B + c % 8192) - B) W hl0 hB1 (by omega) (by omega)
      rw [show B + (B + c % 8192 - B) = B + c % 8192 by omega] at HA
      clear hh hsz hok
      go_enter Tryd.func6, Tryd.ntmps6
      go_wp2_with fail
      refine (awake_any _ HT.out).mono ?_
      rintro e w1 ⟨rfl, hb1⟩
      have HB1 := Lib.hid hb1
      clear hb1
      go_wp2_with fail
      refine (HK.out _).mono ?_
      rintro e w2 ⟨rfl, hb2⟩
      have HB2 := Lib.hid (HB1.out.trans (hb2.mono HB1.out.size))
      clear hb2
      go_wp2_with fail
      refine (HA.out _).mono ?_
      rintro e w3 ⟨rfl, hb3⟩
      have HB3 := Lib.hid ((HB2.out.alloc HB2.out.size _).trans (hb3.mono (by have := HB2.out.size; simp; omega)))
      have hz3 : w2.heap.size < w3.heap.size := by have := hb3.size; simp at this; omega
      obtain ⟨hc3, hf3⟩ := bcell hb3
      clear hb3
      go_wp2_with fail
      refine (HH.out _).mono ?_
      rintro e w4 ⟨rfl, hb4⟩
      have HB4 := Lib.hid (HB3.out.trans (hb4.mono HB3.out.size))
      obtain ⟨hc4, hf4⟩ := bcell hb4
      clear hb4
      go_wp2_with fail
      refine (HS.out _).mono ?_
      rintro e w5 ⟨rfl, hb5⟩
      have HB5 := Lib.hid (HB4.out.trans (hb5.mono HB4.out.size))
      clear hb5
      go_wp2_with fail
      go_ret
      exact ⟨rfl, HB5.out⟩
    · have HH := Lib.hid fun W => has_eq B b (B + c % 8192) false W hl0 hB1 hx0 hw (by rw [hh]; exact decide_eq_false (by omega))
      have HA := Lib.hid fun W => at_no B b ((B + c % 8192) - B) W hl0 hB1 (.inr (by omega))
      clear hh hsz hok
      go_enter Tryd.func6, Tryd.ntmps6
      go_wp2_with fail
      refine (awake_any _ HT.out).mono ?_
      rintro e w1 ⟨rfl, hb1⟩
      have HB1 := Lib.hid hb1
      clear hb1
      go_wp2_with fail
      refine (HK.out _).mono ?_
      rintro e w2 ⟨rfl, hb2⟩
      have HB2 := Lib.hid (HB1.out.trans (hb2.mono HB1.out.size))
      clear hb2
      go_wp2_with fail
      refine (HA.out _).mono ?_
      rintro e w3 ⟨rfl, hb3⟩
      have HB3 := Lib.hid ((HB2.out.alloc HB2.out.size _).trans (hb3.mono (by have := HB2.out.size; simp; omega)))
      have hz3 : w2.heap.size < w3.heap.size := by have := hb3.size; simp at this; omega
      obtain ⟨hc3, hf3⟩ := bcell hb3
      clear hb3
      go_wp2_with fail
      refine (HH.out _).mono ?_
      rintro e w4 ⟨rfl, hb4⟩
      have HB4 := Lib.hid (HB3.out.trans (hb4.mono HB3.out.size))
      obtain ⟨hc4, hf4⟩ := bcell hb4
      clear hb4
      go_wp2_with fail
      refine (HS.out _).mono ?_
      rintro e w5 ⟨rfl, hb5⟩
      have HB5 := Lib.hid (HB4.out.trans (hb5.mono HB4.out.size))
      clear hb5
      go_wp2_with fail
      go_ret
      exact ⟨rfl, HB5.out⟩
  · have hx0 : 0 ≤ (B + c % 8192) % 4294967296 := by omega
    have hx1 : (B + c % 8192) % 4294967296 < 4294967296 := by omega
    have h1 : ¬ B ≤ (B + c % 8192) % 4294967296 := by omega
    have hh := has_in hok ((B + c % 8192) % 4294967296)
    have HH := Lib.hid fun W => has_eq B b ((B + c % 8192) % 4294967296) false W hl0 hB1 hx0 hx1 (by rw [hh]; exact decide_eq_false (by omega))
    have HA := Lib.hid fun W => at_no B b (((B + c % 8192) % 4294967296) - B) W hl0 hB1 (.inl (by omega))
    clear hh hsz hok
    go_enter Tryd.func6, Tryd.ntmps6
    go_wp2_with fail
    refine (awake_any _ HT.out).mono ?_
    rintro e w1 ⟨rfl, hb1⟩
    have HB1 := Lib.hid hb1
    clear hb1
    go_wp2_with fail
    refine (HK.out _).mono ?_
    rintro e w2 ⟨rfl, hb2⟩
    have HB2 := Lib.hid (HB1.out.trans (hb2.mono HB1.out.size))
    clear hb2
    go_wp2_with fail
    refine (HA.out _).mono ?_
    rintro e w3 ⟨rfl, hb3⟩
    have HB3 := Lib.hid ((HB2.out.alloc HB2.out.size _).trans (hb3.mono (by have := HB2.out.size; simp; omega)))
    have hz3 : w2.heap.size < w3.heap.size := by have := hb3.size; simp at this; omega
    obtain ⟨hc3, hf3⟩ := bcell hb3
    clear hb3
    go_wp2_with fail
    refine (HH.out _).mono ?_
    rintro e w4 ⟨rfl, hb4⟩
    have HB4 := Lib.hid (HB3.out.trans (hb4.mono HB3.out.size))
    obtain ⟨hc4, hf4⟩ := bcell hb4
    clear hb4
    go_wp2_with fail
    refine (HS.out _).mono ?_
    rintro e w5 ⟨rfl, hb5⟩
    have HB5 := Lib.hid (HB4.out.trans (hb5.mono HB4.out.size))
    clear hb5
    go_wp2_with fail
    go_ret
    exact ⟨rfl, HB5.out⟩
end Go.Proofs.YtcbknlbpdlheeaaDoor
