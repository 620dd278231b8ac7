/-
  The contract of the statements' own 'station': what lines.station gives, with a number for what is wrong. No condition but that texts are ones that a process can hold.
-/
import Derived.Test.YthpgmlijfcfddaaGreatDoorLs
set_option linter.unusedSimpArgs false
set_option linter.unusedVariables false
namespace Go.Proofs.YthpgmlijfcfddaaGreatDoor
open Go.RowKit

def LPost (w : World) (r : Rr) (n : Int) (e : Ending) (w' : World) : Prop := e = .returned (.tuple #[rv r, .int .i64 n]) ∧ Below w.heap.size w w'

set_option maxHeartbeats 2000000 in
theorem stl_any (x y : ByteArray) (w : World) (hx : x.size ≤ maxLen) :
    Calls Tryz.prog 23 #[.string x, .string y] w (LPost w (stO x y).1 (stO x y).2) := by
  have HA := Lib.hid fun W => Ad.parse_any x W hx
  cases hK : Mc.okB y
  · have HM := Lib.hid fun W => Mc.parse_no y W hK
    have hS : stO x y = (zr, 1) := by simp [stO, hK]; split <;> rfl
    rw [hS]
    cases hO : Ad.parseO x.data.toList
    all_goals
      rw [hO] at HA
      clear hS hO hK
      go_enter Tryz.func23, Tryz.ntmps23
      go_wp2_with fail
      refine (HA.out _).mono ?_
      rintro e w1 ⟨rfl, hb⟩
      simp only [Ad.parseV]
      have HB := Lib.hid (((Below.refl _ w).alloc (Nat.le_refl _) _).trans (hb.mono (by simp)))
      obtain ⟨hc1, hf1⟩ := bcell hb
      have hz1 : w.heap.size < w1.heap.size := by have := hb.size; simp at this; omega
      clear hb
      go_wp2_with fail
      refine (HM.out _).mono ?_
      rintro e w2 ⟨rfl, hb⟩
      have HB2 := Lib.hid (HB.out.trans (hb.mono HB.out.size))
      obtain ⟨hc2, hf2⟩ := bcell hb
      have hz2 : w.heap.size < w2.heap.size := by have := hb.size; omega
      clear hb
      have hz5 : w.heap.size < w2.heap.size + 1 := by omega
      go_wp2_with fail
      exact bodyPost_ret (v := .tuple #[rv zr, .int .i64 1]) (by simp [results, Tryz.results23, go_sem, hc1, hf1, hz1, hc2, hf2, hz2, hz5, Nat.ne_of_lt hz2, rv, zr]) rfl ⟨rfl, by first | (with_reducible exact set8 (HB2.out.alloc HB2.out.size _) (Nat.le_refl _) _ _ _ _ _ _ _ _) | (with_reducible exact (set8 HB2.out (Nat.le_refl _) _ _ _ _ _ _ _ _).alloc (by simp; exact HB2.out.size) _) | (with_reducible exact HB2.out.alloc HB2.out.size _)⟩
  · have HM := Lib.hid fun W => Mc.parse_yes y W hK
    cases hO : Ad.parseO x.data.toList with
    | none =>
      rw [hO] at HA
      have hS : stO x y = (zr, 1) := by simp [stO, hO]
      rw [hS]
      have hm := Mc.mb_bd y 0
      generalize Mc.mb y 0 = b0 at *
      generalize Mc.mb y 1 = b1 at *
      generalize Mc.mb y 2 = b2 at *
      generalize Mc.mb y 3 = b3 at *
      generalize Mc.mb y 4 = b4 at *
      generalize Mc.mb y 5 = b5 at *
      clear hS hO hK
      go_enter Tryz.func23, Tryz.ntmps23
      go_wp2_with fail
      refine (HA.out _).mono ?_
      rintro e w1 ⟨rfl, hb⟩
      simp only [Ad.parseV]
      have HB := Lib.hid (((Below.refl _ w).alloc (Nat.le_refl _) _).trans (hb.mono (by simp)))
      obtain ⟨hc1, hf1⟩ := bcell hb
      have hz1 : w.heap.size < w1.heap.size := by have := hb.size; simp at this; omega
      clear hb
      go_wp2_with fail
      refine (HM.out _).mono ?_
      rintro e w2 ⟨rfl, hb⟩
      have HB2 := Lib.hid (HB.out.trans (hb.mono HB.out.size))
      obtain ⟨hc2, hf2⟩ := bcell hb
      have hz2 : w.heap.size < w2.heap.size := by have := hb.size; omega
      clear hb
      have hz5 : w.heap.size < w2.heap.size + 1 := by omega
      go_wp2_with fail
      exact bodyPost_ret (v := .tuple #[rv zr, .int .i64 1]) (by simp [results, Tryz.results23, go_sem, hc1, hf1, hz1, hc2, hf2, hz2, hz5, Nat.ne_of_lt hz2, rv, zr]) rfl ⟨rfl, by first | (with_reducible exact set8 (HB2.out.alloc HB2.out.size _) (Nat.le_refl _) _ _ _ _ _ _ _ _) | (with_reducible exact (set8 HB2.out (Nat.le_refl _) _ _ _ _ _ _ _ _).alloc (by simp; exact HB2.out.size) _) | (with_reducible exact HB2.out.alloc HB2.out.size _)⟩
    | some a =>
      rw [hO] at HA
      obtain ⟨B, hB⟩ : ∃ B, badB y = B := ⟨_, rfl⟩
      have hS : stO x y = if B = true then (zr, 3) else (⟨a, Mc.mb y 0, Mc.mb y 1, Mc.mb y 2, Mc.mb y 3, Mc.mb y 4, Mc.mb y 5, 0⟩, 0) := by simp [stO, hO, hK, hB]
      obtain ⟨R, hR⟩ : ∃ R, stO x y = R := ⟨_, rfl⟩
      rw [hR] at hS ⊢
      unfold badB at hB
      have hm := Mc.mb_bd y 0
      have HN := Lib.hid fun W => Mc.none_any (Mc.mb y 0) (Mc.mb y 1) (Mc.mb y 2) (Mc.mb y 3) (Mc.mb y 4) (Mc.mb y 5) W
      have HG := Lib.hid fun W => Mc.group_any (Mc.mb y 0) (Mc.mb y 1) (Mc.mb y 2) (Mc.mb y 3) (Mc.mb y 4) (Mc.mb y 5) W hm.1 hm.2
      generalize Mc.eq6 (Mc.mb y 0) (Mc.mb y 1) (Mc.mb y 2) (Mc.mb y 3) (Mc.mb y 4) (Mc.mb y 5) 0 0 0 0 0 0 = N at *
      generalize (Mc.mb y 0 % 2 == 1) = G at *
      generalize Mc.mb y 0 = b0 at *
      generalize Mc.mb y 1 = b1 at *
      generalize Mc.mb y 2 = b2 at *
      generalize Mc.mb y 3 = b3 at *
      generalize Mc.mb y 4 = b4 at *
      generalize Mc.mb y 5 = b5 at *
      have HS := Lib.hid hS
      clear hS hR hO hK hm
      go_enter Tryz.func23, Tryz.ntmps23
      go_wp2_with fail
      refine (HA.out _).mono ?_
      rintro e w1 ⟨rfl, hb⟩
      simp only [Ad.parseV]
      have HB := Lib.hid (((Below.refl _ w).alloc (Nat.le_refl _) _).trans (hb.mono (by simp)))
      obtain ⟨hc1, hf1⟩ := bcell hb
      have hz1 : w.heap.size < w1.heap.size := by have := hb.size; simp at this; omega
      clear hb
      go_wp2_with fail
      refine (HM.out _).mono ?_
      rintro e w2 ⟨rfl, hb⟩
      have HB2 := Lib.hid (HB.out.trans (hb.mono HB.out.size))
      obtain ⟨hc2, hf2⟩ := bcell hb
      have hz2 : w.heap.size < w2.heap.size := by have := hb.size; omega
      clear hb
      have hz5 : w.heap.size < w2.heap.size + 1 := by omega
      go_wp2_with fail
      refine (HN.out _).mono ?_
      rintro e w3 ⟨rfl, hb⟩
      have HB3 := Lib.hid ((HB2.out.alloc HB2.out.size _).trans (hb.mono (by simp; have := HB2.out.size; omega)))
      obtain ⟨hc3, hf3⟩ := bcell hb
      have hz3 : w.heap.size < w3.heap.size := by have := hb.size; simp at this; omega
      have hz4 : w2.heap.size < w3.heap.size := by have := hb.size; simp at this; omega
      clear hb
      cases N
      · go_wp2_with fail
        refine (HG.out _).mono ?_
        rintro e w4 ⟨rfl, hb⟩
        have HB4 := Lib.hid (HB3.out.trans (hb.mono HB3.out.size))
        obtain ⟨hc4, hf4⟩ := bcell hb
        have hz6 : w.heap.size < w4.heap.size := by have := hb.size; omega
        have hz7 : w2.heap.size < w4.heap.size := by have := hb.size; omega
        clear hb
        cases G
        · obtain rfl : B = false := by simpa using hB.symm
          obtain rfl := HS.out.trans (if_neg (by decide))
          clear hB HS
          go_wp2_with fail
          exact bodyPost_ret (v := .tuple #[rv ⟨a, b0, b1, b2, b3, b4, b5, 0⟩, .int .i64 0]) (by simp [results, Tryz.results23, go_sem, hc1, hf1, hz1, hc2, hf2, hz2, hc3, hf3, hz3, hc4, hf4, hz4, hz5, hz6, hz7, Nat.ne_of_lt hz2, rv]) rfl ⟨rfl, set8 HB4.out (Nat.le_refl _) _ _ _ _ _ _ _ _⟩
        · obtain rfl : B = true := by simpa using hB.symm
          obtain rfl := HS.out.trans (if_pos rfl)
          clear hB HS
          go_wp2_with fail
          exact bodyPost_ret (v := .tuple #[rv zr, .int .i64 3]) (by simp [results, Tryz.results23, go_sem, hc1, hf1, hz1, hc2, hf2, hz2, hc3, hf3, hz3, hc4, hf4, hz4, hz5, hz6, hz7, Nat.ne_of_lt hz2, rv, zr]) rfl ⟨rfl, set8 HB4.out (Nat.le_refl _) _ _ _ _ _ _ _ _⟩
      · obtain rfl : B = true := by simpa using hB.symm
        obtain rfl := HS.out.trans (if_pos rfl)
        clear hB HS
        go_wp2_with fail
        exact bodyPost_ret (v := .tuple #[rv zr, .int .i64 3]) (by simp [results, Tryz.results23, go_sem, hc1, hf1, hz1, hc2, hf2, hz2, hc3, hf3, hz3, hz4, hz5, Nat.ne_of_lt hz2, rv, zr]) rfl ⟨rfl, set8 HB3.out (Nat.le_refl _) _ _ _ _ _ _ _ _⟩
end Go.Proofs.YthpgmlijfcfddaaGreatDoor
