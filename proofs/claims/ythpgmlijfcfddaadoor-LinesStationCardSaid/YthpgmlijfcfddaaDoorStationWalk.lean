/-
  The walk of LinesStation: called at any address, station and tick it returns true and changes nothing that was in memory. Conditions: bytes are bytes, numbers are of 32 bits, and the library's variables lie as their texts lay them (Env).
-/
import Derived.Test.YthpgmlijfcfddaaDoorLn
set_option linter.unusedSimpArgs false
set_option linter.unusedVariables false
namespace Go.Proofs.YthpgmlijfcfddaaDoor
open Go.RowKit

theorem digits_dig (n : Int) (w : World) (h0 : 0 ≤ n) (h1 : n ≤ 4294967295) :
    Calls Tryd.prog 13 #[.int .i64 n] w fun e w' => e = .returned (.string ⟨(Ad.dig n).toArray⟩) ∧ w' = w := by
  have h := digits_any n w (by omega) (by omega)
  rw [Ad.itoa_pos h0] at h
  exact h

set_option maxHeartbeats 8000000 in
theorem station_walk (a b0 b1 b2 b3 b4 b5 n : Int) (w : World) (h0 : 0 ≤ a) (h1 : a ≤ 4294967295) (six : Mc.Six b0 b1 b2 b3 b4 b5) (g0 : 0 ≤ n) (g1 : n ≤ 4294967295) (hE : Env w) :
    Calls Tryd.prog 4 #[.int .u32 a, .agg #[.int .u8 b0, .int .u8 b1, .int .u8 b2, .int .u8 b3, .int .u8 b4, .int .u8 b5], .int .u32 n] w fun e w' => e = .returned (.bool true) ∧ Below w.heap.size w w' := by
  have HAW := Lib.hid fun W (E : Env W) => awake_any W E
  have HTA := Lib.hid fun W (E : Env W) => Ad.text_any a W h0 (by omega) E.tab
  have HTM := Lib.hid fun W => Mc.text_six b0 b1 b2 b3 b4 b5 W six
  have HDG := Lib.hid fun W => digits_dig n W g0 g1
  have HNO := Lib.hid fun W => Mc.none_any b0 b1 b2 b3 b4 b5 W
  have HGR := Lib.hid fun W => Mc.group_any b0 b1 b2 b3 b4 b5 W six.h0 six.g0
  have HE := Lib.hid hE
  obtain ⟨BD, hBD⟩ : ∃ BD, bad6 b0 b1 b2 b3 b4 b5 = BD := ⟨_, rfl⟩
  have lt := textL_len a h0 (by omega)
  have ld := dig_len10 n g0 (by omega)
  have lm := mt_len b0 b1 b2 b3 b4 b5
  obtain ⟨M, hM⟩ : ∃ M, M = mt b0 b1 b2 b3 b4 b5 := ⟨_, rfl⟩
  have hM2 : M = ⟨M.data.toList.toArray⟩ := rfl
  have lm2 : M.size = 17 := by rw [hM, Lib.size_eq]; exact lm
  change Hid (∀ W, Calls Tryd.prog 11 #[.agg #[.int .u8 b0, .int .u8 b1, .int .u8 b2, .int .u8 b3, .int .u8 b4, .int .u8 b5]] W fun e w' => e = .returned (.string (mt b0 b1 b2 b3 b4 b5)) ∧ Below W.heap.size W w') at HTM
  rw [← hM] at HTM
  obtain ⟨TA, hTA⟩ : ∃ TA : ByteArray, TA = ⟨(Ad.textL a).toArray⟩ := ⟨_, rfl⟩
  obtain ⟨DG, hDG⟩ : ∃ DG : ByteArray, DG = ⟨(Ad.dig n).toArray⟩ := ⟨_, rfl⟩
  rw [← hTA] at HTA
  rw [← hDG] at HDG
  obtain ⟨X1, hX1⟩ : ∃ X : ByteArray, X = ⟨(Ad.textL a ++ [32]).toArray⟩ := ⟨_, rfl⟩
  obtain ⟨X2, hX2⟩ : ∃ X : ByteArray, X = ⟨((Ad.textL a ++ [32]) ++ [108, 108, 97, 100, 100, 114, 32]).toArray⟩ := ⟨_, rfl⟩
  obtain ⟨X3, hX3⟩ : ∃ X : ByteArray, X = ⟨(((Ad.textL a ++ [32]) ++ [108, 108, 97, 100, 100, 114, 32]) ++ M.data.toList).toArray⟩ := ⟨_, rfl⟩
  obtain ⟨X4, hX4⟩ : ∃ X : ByteArray, X = ⟨((((Ad.textL a ++ [32]) ++ [108, 108, 97, 100, 100, 114, 32]) ++ M.data.toList) ++ [32, 68, 69, 76, 65, 89]).toArray⟩ := ⟨_, rfl⟩
  obtain ⟨Y2, hY2⟩ : ∃ X : ByteArray, X = ⟨([108, 101, 97, 115, 101, 32] ++ (Ad.textL a ++ [32])).toArray⟩ := ⟨_, rfl⟩
  obtain ⟨Y3, hY3⟩ : ∃ X : ByteArray, X = ⟨(([108, 101, 97, 115, 101, 32] ++ (Ad.textL a ++ [32])) ++ M.data.toList).toArray⟩ := ⟨_, rfl⟩
  obtain ⟨Y4, hY4⟩ : ∃ X : ByteArray, X = ⟨((([108, 101, 97, 115, 101, 32] ++ (Ad.textL a ++ [32])) ++ M.data.toList) ++ [32]).toArray⟩ := ⟨_, rfl⟩
  obtain ⟨Y5, hY5⟩ : ∃ X : ByteArray, X = ⟨(((([108, 101, 97, 115, 101, 32] ++ (Ad.textL a ++ [32])) ++ M.data.toList) ++ [32]) ++ Ad.dig n).toArray⟩ := ⟨_, rfl⟩
  have s1 := fun W => sadd hTA (show (⟨#[32]⟩ : ByteArray) = ⟨[32].toArray⟩ from rfl) hX1 (by simp; omega) W
  have s2 := fun W => sadd hX1 (show (⟨#[108, 108, 97, 100, 100, 114, 32]⟩ : ByteArray) = ⟨[108, 108, 97, 100, 100, 114, 32].toArray⟩ from rfl) hX2 (by simp; omega) W
  have s3 := fun W => sadd hX2 hM2 hX3 (by simp; omega) W
  have s4 := fun W => sadd hX3 (show (⟨#[32, 68, 69, 76, 65, 89]⟩ : ByteArray) = ⟨[32, 68, 69, 76, 65, 89].toArray⟩ from rfl) hX4 (by simp; omega) W
  have s5 := fun W => sadd (show (⟨#[108, 101, 97, 115, 101, 32]⟩ : ByteArray) = ⟨[108, 101, 97, 115, 101, 32].toArray⟩ from rfl) hX1 hY2 (by simp; omega) W
  have s6 := fun W => sadd hY2 hM2 hY3 (by simp; omega) W
  have s7 := fun W => sadd hY3 (show (⟨#[32]⟩ : ByteArray) = ⟨[32].toArray⟩ from rfl) hY4 (by simp; omega) W
  have s8 := fun W => sadd hY4 hDG hY5 (by simp; omega) W
  have n4 := nb_line h0 (by omega) six X4 (by rw [hX4, hM]; congr 2; simp [lnN])
  have l5 := ls_line h0 (by omega) six g0 (by omega) Y5 (by rw [hY5, hM]; congr 2; simp [lnL])
  rw [hBD] at n4 l5
  have HNB := Lib.hid fun W => neighbour_any X4 W n4.1
  have HLS := Lib.hid fun W (E : Env W) => lease_any Y5 W l5.1 E
  rw [n4.2] at HNB
  rw [l5.2] at HLS
  unfold bad6 at hBD
  generalize Mc.eq6 b0 b1 b2 b3 b4 b5 0 0 0 0 0 0 = NN at *
  generalize (b0 % 2 == 1) = GG at *
  have HBD := Lib.hid hBD
  have e0 : wrap64 n = n := by unfold wrap64; omega
  clear hTA hDG hX1 hX2 hX3 hX4 hY2 hY3 hY4 hY5 hM hM2 n4 l5 lt ld lm lm2 hBD six hE
  have B0 := Lib.hid ((Below.refl w.heap.size w).alloc (Nat.le_refl _) (.cells #[.int .u8 b0, .int .u8 b1, .int .u8 b2, .int .u8 b3, .int .u8 b4, .int .u8 b5] 37))
  go_enter Tryd.func4, Tryd.ntmps4
  go_wp2_with fail
  refine (HAW.out _ (HE.out.keep B0.out)).mono ?_
  rintro e w1 ⟨rfl, hb⟩
  have B1 := Lib.hid (B0.out.trans (hb.mono B0.out.size))
  obtain ⟨hc1, hf1⟩ := bcell hb
  have z1m : w.heap.size < w1.heap.size := by have := hb.size; simp at this; omega
  clear hb
  go_wp2_with fail
  refine (HTA.out _ (HE.out.keep B1.out)).mono ?_
  rintro e w2 ⟨rfl, hb⟩
  have B2 := Lib.hid (B1.out.trans (hb.mono B1.out.size))
  obtain ⟨hc2, hf2⟩ := bcell hb
  have z2m : w.heap.size < w2.heap.size := by have := hb.size; omega
  clear hb
  go_wp2_with fail
  refine (HTM.out _).mono ?_
  rintro e w3 ⟨rfl, hb⟩
  have B3 := Lib.hid (B2.out.trans (hb.mono B2.out.size))
  obtain ⟨hc3, hf3⟩ := bcell hb
  have z3m : w.heap.size < w3.heap.size := by have := hb.size; omega
  clear hb
  go_wp2_with fail
  refine (HNB.out _).mono ?_
  rintro e w4 ⟨⟨ev1, rfl, hev1⟩, hb⟩
  have B4 := Lib.hid (B3.out.trans (hb.mono B3.out.size))
  obtain ⟨hc4, hf4⟩ := bcell hb
  have z4m : w.heap.size < w4.heap.size := by have := hb.size; omega
  clear hb
  cases BD
  · rcases hev1 with ⟨-, rfl⟩ | ⟨hq, -⟩
    rotate_left
    · exact absurd rfl hq
    simp only [rv, if_neg, Bool.false_eq_true, if_false]
    go_wp2_with fail
    refine (HTM.out _).mono ?_
    rintro e w5 ⟨rfl, hb⟩
    have B5 := Lib.hid ((B4.out.alloc B4.out.size _).trans (hb.mono (B4.out.alloc B4.out.size _).size))
    obtain ⟨hc5, hf5⟩ := bcell hb
    have z5m : w.heap.size < w5.heap.size := by have := hb.size; simp at this; omega
    have z5r : w4.heap.size < w5.heap.size := by have := hb.size; simp at this; omega
    clear hb
    go_wp2_with fail
    refine (HDG.out _).mono ?_
    rintro e w6a ⟨rfl, rfl⟩
    go_wp2_with fail
    refine (HLS.out _ (HE.out.keep B5.out)).mono ?_
    rintro e w6 ⟨⟨ev2, rfl, hev2⟩, hb⟩
    have B6 := Lib.hid (B5.out.trans (hb.mono B5.out.size))
    obtain ⟨hc6, hf6⟩ := bcell hb
    have z6m : w.heap.size < w6.heap.size := by have := hb.size; omega
    have z6r : w4.heap.size < w6.heap.size := by have := hb.size; omega
    clear hb
    rcases hev2 with ⟨-, rfl⟩ | ⟨hq, -⟩
    rotate_left
    · exact absurd rfl hq
    obtain rfl : NN = false := by have := HBD.out; cases NN <;> simp_all
    obtain rfl : GG = false := by have := HBD.out; cases GG <;> simp_all
    have q1 := fun W => run_eqlR ⟨a, b0, b1, b2, b3, b4, b5, 0⟩ W
    have q2 := fun W => run_eqlR ⟨a, b0, b1, b2, b3, b4, b5, n⟩ W
    have q3 := guardR
    simp only [rv] at q1 q2
    simp only [rv, if_neg, Bool.false_eq_true, if_false]
    go_wp2_with fail
    refine (HNO.out _).mono ?_
    rintro e w7 ⟨rfl, hb⟩
    have B7 := Lib.hid ((B6.out.alloc B6.out.size _).trans (hb.mono (B6.out.alloc B6.out.size _).size))
    obtain ⟨hc7, hf7⟩ := bcell hb
    have z7m : w.heap.size < w7.heap.size := by have := hb.size; simp at this; omega
    have z7r : w4.heap.size < w7.heap.size := by have := hb.size; simp at this; omega
    have z7q : w6.heap.size < w7.heap.size := by have := hb.size; simp at this; omega
    clear hb
    go_wp2_with fail
    refine (HGR.out _).mono ?_
    rintro e w8 ⟨rfl, hb⟩
    have B8 := Lib.hid (B7.out.trans (hb.mono B7.out.size))
    obtain ⟨hc8, hf8⟩ := bcell hb
    have z8m : w.heap.size < w8.heap.size := by have := hb.size; omega
    have z8r : w4.heap.size < w8.heap.size := by have := hb.size; omega
    have z8q : w6.heap.size < w8.heap.size := by have := hb.size; omega
    clear hb
    go_wp2_with fail
    go_ret
    exact ⟨rfl, B8.out⟩
  · rcases hev1 with ⟨hq, -⟩ | ⟨-, p1, rfl⟩
    · cases hq
    simp only [if_true, rv, zr, eW]
    go_wp2_with fail
    refine (HTM.out _).mono ?_
    rintro e w5 ⟨rfl, hb⟩
    have B5 := Lib.hid ((B4.out.alloc B4.out.size _).trans (hb.mono (B4.out.alloc B4.out.size _).size))
    obtain ⟨hc5, hf5⟩ := bcell hb
    have z5m : w.heap.size < w5.heap.size := by have := hb.size; simp at this; omega
    have z5r : w4.heap.size < w5.heap.size := by have := hb.size; simp at this; omega
    clear hb
    go_wp2_with fail
    refine (HDG.out _).mono ?_
    rintro e w6a ⟨rfl, rfl⟩
    go_wp2_with fail
    refine (HLS.out _ (HE.out.keep B5.out)).mono ?_
    rintro e w6 ⟨⟨ev2, rfl, hev2⟩, hb⟩
    have B6 := Lib.hid (B5.out.trans (hb.mono B5.out.size))
    obtain ⟨hc6, hf6⟩ := bcell hb
    have z6m : w.heap.size < w6.heap.size := by have := hb.size; omega
    have z6r : w4.heap.size < w6.heap.size := by have := hb.size; omega
    clear hb
    rcases hev2 with ⟨hq, -⟩ | ⟨-, p2, rfl⟩
    · cases hq
    have q1 := fun W => run_eqlR zr W
    have q3 := guardR
    simp only [rv, zr] at q1
    simp only [if_true, rv, zr, eW]
    go_wp2_with fail
    refine (HNO.out _).mono ?_
    rintro e w7 ⟨rfl, hb⟩
    have B7 := Lib.hid ((B6.out.alloc B6.out.size _).trans (hb.mono (B6.out.alloc B6.out.size _).size))
    obtain ⟨hc7, hf7⟩ := bcell hb
    have z7m : w.heap.size < w7.heap.size := by have := hb.size; simp at this; omega
    have z7r : w4.heap.size < w7.heap.size := by have := hb.size; simp at this; omega
    have z7q : w6.heap.size < w7.heap.size := by have := hb.size; simp at this; omega
    clear hb
    cases NN
    · obtain rfl : GG = true := by have := HBD.out; cases GG <;> simp_all
      go_wp2_with fail
      refine (HGR.out _).mono ?_
      rintro e w8 ⟨rfl, hb⟩
      have B8 := Lib.hid (B7.out.trans (hb.mono B7.out.size))
      obtain ⟨hc8, hf8⟩ := bcell hb
      have z8m : w.heap.size < w8.heap.size := by have := hb.size; omega
      have z8r : w4.heap.size < w8.heap.size := by have := hb.size; omega
      have z8q : w6.heap.size < w8.heap.size := by have := hb.size; omega
      clear hb
      go_wp2_with fail
      refine (told_any 3 3 (eW p1 3) _ (.inr ⟨by decide, 1, .wrong p1⟩) (HE.out.keep B8.out).et).mono ?_
      rintro e w9 ⟨rfl, hb⟩
      have B9 := Lib.hid (B8.out.trans (hb.mono B8.out.size))
      obtain ⟨hc9, hf9⟩ := bcell hb
      have z9m : w.heap.size < w9.heap.size := by have := hb.size; omega
      have z9r : w4.heap.size < w9.heap.size := by have := hb.size; omega
      have z9q : w6.heap.size < w9.heap.size := by have := hb.size; omega
      clear hb
      go_wp2_with fail
      refine (told_any 3 3 (eW p2 3) _ (.inr ⟨by decide, 1, .wrong p2⟩) (HE.out.keep B9.out).et).mono ?_
      rintro e w10 ⟨rfl, hb⟩
      have B10 := Lib.hid (B9.out.trans (hb.mono B9.out.size))
      obtain ⟨hc10, hf10⟩ := bcell hb
      have z10m : w.heap.size < w10.heap.size := by have := hb.size; omega
      have z10r : w4.heap.size < w10.heap.size := by have := hb.size; omega
      have z10q : w6.heap.size < w10.heap.size := by have := hb.size; omega
      clear hb
      go_wp2_with fail
      go_ret
      exact ⟨rfl, B10.out⟩
    · go_wp2_with fail
      refine (told_any 3 3 (eW p1 3) _ (.inr ⟨by decide, 1, .wrong p1⟩) (HE.out.keep B7.out).et).mono ?_
      rintro e w9 ⟨rfl, hb⟩
      have B9 := Lib.hid (B7.out.trans (hb.mono B7.out.size))
      obtain ⟨hc9, hf9⟩ := bcell hb
      have z9m : w.heap.size < w9.heap.size := by have := hb.size; omega
      have z9r : w4.heap.size < w9.heap.size := by have := hb.size; omega
      have z9q : w6.heap.size < w9.heap.size := by have := hb.size; omega
      clear hb
      go_wp2_with fail
      refine (told_any 3 3 (eW p2 3) _ (.inr ⟨by decide, 1, .wrong p2⟩) (HE.out.keep B9.out).et).mono ?_
      rintro e w10 ⟨rfl, hb⟩
      have B10 := Lib.hid (B9.out.trans (hb.mono B9.out.size))
      obtain ⟨hc10, hf10⟩ := bcell hb
      have z10m : w.heap.size < w10.heap.size := by have := hb.size; omega
      have z10r : w4.heap.size < w10.heap.size := by have := hb.size; omega
      have z10q : w6.heap.size < w10.heap.size := by have := hb.size; omega
      clear hb
      go_wp2_with fail
      go_ret
      exact ⟨rfl, B10.out⟩
end Go.Proofs.YthpgmlijfcfddaaDoor
