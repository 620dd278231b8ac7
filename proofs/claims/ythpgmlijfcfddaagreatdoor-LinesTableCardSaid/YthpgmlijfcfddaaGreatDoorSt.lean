/-
  The contract of lines.station. No condition but that texts are ones that a process can hold.
-/
import Derived.Test.YthpgmlijfcfddaaGreatDoorWd
set_option linter.unusedSimpArgs false
set_option linter.unusedVariables false
namespace Go.Proofs.YthpgmlijfcfddaaGreatDoor
open Go.RowKit

theorem Mc.mb_bd (y : ByteArray) (k : Nat) : 0 ≤ Mc.mb y k ∧ Mc.mb y k < 256 := by
  unfold Mc.mb
  have h1 := Mc.digN_bd (Mc.at_ y (3 * k))
  have h2 := Mc.digN_bd (Mc.at_ y (3 * k + 1))
  omega
/-- A row of a table. -/
structure Rr where
  a : Int
  m0 : Int
  m1 : Int
  m2 : Int
  m3 : Int
  m4 : Int
  m5 : Int
  u : Int
  deriving DecidableEq
/-- A row as a value. -/
def rv (r : Rr) : Value := .agg #[.int .u32 r.a, .int .u8 r.m0, .int .u8 r.m1, .int .u8 r.m2, .int .u8 r.m3, .int .u8 r.m4, .int .u8 r.m5, .int .i64 r.u]
def zr : Rr := ⟨0, 0, 0, 0, 0, 0, 0, 0⟩
/-- A row's number of what is wrong, as an error. -/
def Ew (n : Int) (ev : Value) : Prop := (n = 0 ∧ ev = .nilIface) ∨ n ≠ 0 ∧ ∃ p, ev = eW p n
/-- Whether a number is no station's. -/
def badB (y : ByteArray) : Bool := Mc.eq6 (Mc.mb y 0) (Mc.mb y 1) (Mc.mb y 2) (Mc.mb y 3) (Mc.mb y 4) (Mc.mb y 5) 0 0 0 0 0 0 || (Mc.mb y 0 % 2 == 1)
/-- The station of two words. -/
def stO (x y : ByteArray) : Rr × Int :=
  match Ad.parseO x.data.toList with
  | none => (zr, 1)
  | some a => if Mc.okB y = true then (if badB y = true then (zr, 3) else (⟨a, Mc.mb y 0, Mc.mb y 1, Mc.mb y 2, Mc.mb y 3, Mc.mb y 4, Mc.mb y 5, 0⟩, 0)) else (zr, 1)

def SPost (w : World) (r : Rr) (n : Int) (e : Ending) (w' : World) : Prop := (∃ ev, e = .returned (.tuple #[rv r, ev]) ∧ Ew n ev) ∧ Below w.heap.size w w'

theorem set8 {w w1 : World} {b : Nat} (h : Below w.heap.size w w1) (hb : w.heap.size ≤ b) (v0 v1 v2 v3 v4 v5 v6 v7 : Value) :
    Below w.heap.size w ((((((((w1.setCell ⟨b, 0, none⟩ v0).setCell ⟨b, 1, none⟩ v1).setCell ⟨b, 2, none⟩ v2).setCell ⟨b, 3, none⟩ v3).setCell ⟨b, 4, none⟩ v4).setCell ⟨b, 5, none⟩ v5).setCell ⟨b, 6, none⟩ v6).setCell ⟨b, 7, none⟩ v7) :=
  (((((((h.setCell hb v0).setCell hb v1).setCell hb v2).setCell hb v3).setCell hb v4).setCell hb v5).setCell hb v6).setCell hb v7
theorem new8 (w : World) (T : TypeId) {w1 : World} (hb : Below (w.alloc (.cells #[.int .u32 0, .int .u8 0, .int .u8 0, .int .u8 0, .int .u8 0, .int .u8 0, .int .u8 0, .int .i64 0] T)).heap.size (w.alloc (.cells #[.int .u32 0, .int .u8 0, .int .u8 0, .int .u8 0, .int .u8 0, .int .u8 0, .int .u8 0, .int .i64 0] T)) w1) :
    Below w.heap.size w w1 ∧ w.heap.size < w1.heap.size ∧ (∀ k, k < 8 → (w1.cell? ⟨w.heap.size, k, none⟩).isSome = true) ∧ ∀ k, w1.frozen? ⟨w.heap.size, k, none⟩ = false := by
  refine ⟨((Below.refl _ w).alloc (Nat.le_refl _) _).trans (hb.mono (by simp)), by have := hb.size; simp at this; omega, fun k hk => ?_, fun k => ?_⟩
  · rw [hb.cell (p := ⟨w.heap.size, k, none⟩) (by simp)]
    rcases (show k = 0 ∨ k = 1 ∨ k = 2 ∨ k = 3 ∨ k = 4 ∨ k = 5 ∨ k = 6 ∨ k = 7 by omega) with rfl | rfl | rfl | rfl | rfl | rfl | rfl | rfl <;> simp
  · rw [hb.frozen (p := ⟨w.heap.size, k, none⟩) (by simp)]; simp

set_option maxHeartbeats 2000000 in
theorem station_any (x y : ByteArray) (w : World) (hx : x.size ≤ maxLen) :
    Calls Tryz.prog 21 #[.string x, .string y] w (SPost w (stO x y).1 (stO x y).2) := by
  have HA := Lib.hid fun W => Ad.parse_any x W hx
  cases hO : Ad.parseO x.data.toList with
  | none =>
    rw [hO] at HA
    have hS : stO x y = (zr, 1) := by simp [stO, hO]
    rw [hS]
    clear hS hO
    go_enter Tryz.func21, Tryz.ntmps21
    go_wp2_with fail
    refine (HA.out _).mono ?_
    rintro e w1 ⟨rfl, hb⟩
    simp only [Ad.parseV]
    have HB := Lib.hid (((Below.refl _ w).alloc (Nat.le_refl _) _).trans (hb.mono (by simp)))
    obtain ⟨hc1, hf1⟩ := bcell hb
    have hz1 : w.heap.size < w1.heap.size := by have := hb.size; simp at this; omega
    clear hb
    go_wp2_with fail
    exact bodyPost_ret (v := .tuple #[rv zr, eW ⟨#[97, 100, 100, 114, 101, 115, 115]⟩ 1]) (by simp [results, Tryz.results21, go_sem, hc1, hf1, hz1, rv, zr, eW]) rfl ⟨⟨_, rfl, .inr ⟨by decide, _, rfl⟩⟩, set8 HB.out (Nat.le_refl _) _ _ _ _ _ _ _ _⟩
  | some a =>
    rw [hO] at HA
    cases hK : Mc.okB y
    · have HM := Lib.hid fun W => Mc.parse_no y W hK
      have hS : stO x y = (zr, 1) := by simp [stO, hO, hK]
      rw [hS]
      clear hS hO hK
      go_enter Tryz.func21, Tryz.ntmps21
      go_wp2_with fail
      refine (HA.out _).mono ?_
      rintro e w1 ⟨rfl, hb⟩
      simp only [Ad.parseV]
      have HB := Lib.hid (((Below.refl _ w).alloc (Nat.le_refl _) _).trans (hb.mono (by simp)))
      obtain ⟨hc1, hf1⟩ := bcell hb
      have hz1 : w.heap.size < w1.heap.size := by have := hb.size; simp at this; omega
      clear hb
      go_wp2_with fail
      refine (HM.out _).mono ?_
      rintro e w2 ⟨rfl, hb⟩
      have HB2 := Lib.hid (HB.out.trans (hb.mono HB.out.size))
      obtain ⟨hc2, hf2⟩ := bcell hb
      have hz2 : w.heap.size < w2.heap.size := by have := hb.size; omega
      clear hb
      go_wp2_with fail
      exact bodyPost_ret (v := .tuple #[rv zr, eW ⟨#[115, 116, 97, 116, 105, 111, 110]⟩ 1]) (by simp [results, Tryz.results21, go_sem, hc1, hf1, hz1, hc2, hf2, hz2, Nat.ne_of_lt hz2, rv, zr, eW]) rfl ⟨⟨_, rfl, .inr ⟨by decide, _, rfl⟩⟩, by first | (with_reducible exact set8 (HB2.out.alloc HB2.out.size _) (Nat.le_refl _) _ _ _ _ _ _ _ _) | (with_reducible exact (set8 HB2.out (Nat.le_refl _) _ _ _ _ _ _ _ _).alloc (by simp; exact HB2.out.size) _)⟩
    · have HM := Lib.hid fun W => Mc.parse_yes y W hK
      obtain ⟨B, hB⟩ : ∃ B, badB y = B := ⟨_, rfl⟩
      have hS : stO x y = if B = true then (zr, 3) else (⟨a, Mc.mb y 0, Mc.mb y 1, Mc.mb y 2, Mc.mb y 3, Mc.mb y 4, Mc.mb y 5, 0⟩, 0) := by simp [stO, hO, hK, hB]
      obtain ⟨R, hR⟩ : ∃ R, stO x y = R := ⟨_, rfl⟩
      rw [hR] at hS ⊢
      unfold badB at hB
      have hm := Mc.mb_bd y 0
      have HN := Lib.hid fun W => Mc.none_any (Mc.mb y 0) (Mc.mb y 1) (Mc.mb y 2) (Mc.mb y 3) (Mc.mb y 4) (Mc.mb y 5) W
      have HG := Lib.hid fun W => Mc.group_any (Mc.mb y 0) (Mc.mb y 1) (Mc.mb y 2) (Mc.mb y 3) (Mc.mb y 4) (Mc.mb y 5) W hm.1 hm.2
      generalize Mc.eq6 (Mc.mb y 0) (Mc.mb y 1) (Mc.mb y 2) (Mc.mb y 3) (Mc.mb y 4) (Mc.mb y 5) 0 0 0 0 0 0 = N at *
      generalize (Mc.mb y 0 % 2 == 1) = G at *
      generalize Mc.mb y 0 = b0 at *
      generalize Mc.mb y 1 = b1 at *
      generalize Mc.mb y 2 = b2 at *
      generalize Mc.mb y 3 = b3 at *
      generalize Mc.mb y 4 = b4 at *
      generalize Mc.mb y 5 = b5 at *
      have HS := Lib.hid hS
      clear hS hR hO hK hm
      go_enter Tryz.func21, Tryz.ntmps21
      go_wp2_with fail
      refine (HA.out _).mono ?_
      rintro e w1 ⟨rfl, hb⟩
      simp only [Ad.parseV]
      have HB := Lib.hid (((Below.refl _ w).alloc (Nat.le_refl _) _).trans (hb.mono (by simp)))
      obtain ⟨hc1, hf1⟩ := bcell hb
      have hz1 : w.heap.size < w1.heap.size := by have := hb.size; simp at this; omega
      clear hb
      go_wp2_with fail
      refine (HM.out _).mono ?_
      rintro e w2 ⟨rfl, hb⟩
      have HB2 := Lib.hid (HB.out.trans (hb.mono HB.out.size))
      obtain ⟨hc2, hf2⟩ := bcell hb
      have hz2 : w.heap.size < w2.heap.size := by have := hb.size; omega
      clear hb
      go_wp2_with fail
      refine (HN.out _).mono ?_
      rintro e w3 ⟨rfl, hb⟩
      have HB3 := Lib.hid ((HB2.out.alloc HB2.out.size _).trans (hb.mono (by simp; have := HB2.out.size; omega)))
      obtain ⟨hc3, hf3⟩ := bcell hb
      have hz3 : w.heap.size < w3.heap.size := by have := hb.size; simp at this; omega
      have hz4 : w2.heap.size < w3.heap.size := by have := hb.size; simp at this; omega
      clear hb
      have hz5 : w.heap.size < w2.heap.size + 1 := by omega
      cases N
      · go_wp2_with fail
        refine (HG.out _).mono ?_
        rintro e w4 ⟨rfl, hb⟩
        have HB4 := Lib.hid (HB3.out.trans (hb.mono HB3.out.size))
        obtain ⟨hc4, hf4⟩ := bcell hb
        have hz6 : w.heap.size < w4.heap.size := by have := hb.size; omega
        have hz7 : w2.heap.size < w4.heap.size := by have := hb.size; omega
        clear hb
        cases G
        · obtain rfl : B = false := by simpa using hB.symm
          obtain rfl := HS.out.trans (if_neg (by decide))
          clear hB HS
          go_wp2_with fail
          exact bodyPost_ret (v := .tuple #[rv ⟨a, b0, b1, b2, b3, b4, b5, 0⟩, .nilIface]) (by simp [results, Tryz.results21, go_sem, hc1, hf1, hz1, hc2, hf2, hz2, hc3, hf3, hz3, hc4, hf4, hz4, hz5, hz6, hz7, Nat.ne_of_lt hz2, rv]) rfl ⟨⟨_, rfl, .inl ⟨rfl, rfl⟩⟩, set8 HB4.out (Nat.le_refl _) _ _ _ _ _ _ _ _⟩
        · obtain rfl : B = true := by simpa using hB.symm
          obtain rfl := HS.out.trans (if_pos rfl)
          clear hB HS
          go_wp2_with fail
          exact bodyPost_ret (v := .tuple #[rv zr, eW ⟨#[115, 116, 97, 116, 105, 111, 110]⟩ 3]) (by simp [results, Tryz.results21, go_sem, hc1, hf1, hz1, hc2, hf2, hz2, hc3, hf3, hz3, hc4, hf4, hz4, hz5, hz6, hz7, Nat.ne_of_lt hz2, rv, zr, eW]) rfl ⟨⟨_, rfl, .inr ⟨by decide, _, rfl⟩⟩, set8 HB4.out (Nat.le_refl _) _ _ _ _ _ _ _ _⟩
      · obtain rfl : B = true := by simpa using hB.symm
        obtain rfl := HS.out.trans (if_pos rfl)
        clear hB HS
        go_wp2_with fail
        exact bodyPost_ret (v := .tuple #[rv zr, eW ⟨#[115, 116, 97, 116, 105, 111, 110]⟩ 3]) (by simp [results, Tryz.results21, go_sem, hc1, hf1, hz1, hc2, hf2, hz2, hc3, hf3, hz3, hz4, hz5, Nat.ne_of_lt hz2, rv, zr, eW]) rfl ⟨⟨_, rfl, .inr ⟨by decide, _, rfl⟩⟩, set8 HB3.out (Nat.le_refl _) _ _ _ _ _ _ _ _⟩
end Go.Proofs.YthpgmlijfcfddaaGreatDoor
