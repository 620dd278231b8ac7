/-
  The walk of LinesNeighbour: called at any words and any text it returns true and changes nothing that was in memory. Conditions: numbers have their bits, texts are ones that a process can hold, and the library's variables lie as their texts lay them (Env).
-/
import Derived.Test.YthpgmlijfcfddaaGreatDoorFo
import Derived.Test.YthpgmlijfcfddaaGreatDoorNl
set_option linter.unusedSimpArgs false
set_option linter.unusedVariables false
namespace Go.Proofs.YthpgmlijfcfddaaGreatDoor
open Go.RowKit

/-- Two texts put together, of any length that a process can hold. -/
theorem sadd2 {s t u : ByteArray} (hu : u = s ++ t) (hl : s.size + t.size ≤ 9223372036854775807) (W : World) : (Op.stringOp .add s t).run Tryz.prog W = .ok (.string u) W := by
  subst hu
  exact run_string_add_sum (P := Tryz.prog) W _ _ hl
/-- One of three texts. -/
def s3 (A B C : ByteArray) (k : Nat) : ByteArray :=
  match k with
  | 0 => A
  | 1 => B
  | _ => C
/-- A row of three texts. -/
structure S3 (W : World) (b : Nat) (A B C : ByteArray) : Prop where
  at' : ∀ k, k < 3 → W.cell? ⟨b, k, none⟩ = some (.string (s3 A B C k))
theorem S3.keep {W W' : World} {b : Nat} {X Y Z : ByteArray} (h : S3 W b X Y Z) {B : Nat} (hb : Below B W W') (hl : b < B) : S3 W' b X Y Z :=
  ⟨fun k hk => by rw [hb.cell (by simpa using hl)]; exact h.at' k hk⟩
theorem s3_new (W : World) (X Y Z : ByteArray) : S3 (W.alloc (.cells #[.string X, .string Y, .string Z] 9)) W.heap.size X Y Z := ⟨fun k hk => by
  rcases (show k = 0 ∨ k = 1 ∨ k = 2 by omega) with rfl | rfl | rfl <;> simp [s3]⟩
theorem s3_len {A B C : ByteArray} {n : Nat} (a : A.size ≤ n) (b : B.size ≤ n) (c : C.size ≤ n) (k : Nat) : (s3 A B C k).size ≤ n := by
  unfold s3
  split <;> assumption
theorem er_w {n : Int} {ev : Value} (h : Ew n ev) (W : World) : Er W n ev := by
  rcases h with ⟨h1, h2⟩ | ⟨h1, p, h2⟩
  · exact .inl ⟨h1, h2⟩
  · exact .inr ⟨h1, 1, h2 ▸ .wrong p⟩

set_option maxRecDepth 100000 in
set_option maxHeartbeats 8000000 in
theorem neighbour_walk (a m0 m1 m2 m3 m4 m5 st un sp : Int) (T raw : ByteArray) (w : World) (h0 : 0 ≤ a) (h1 : a < 4294967296) (six : Mc.Six m0 m1 m2 m3 m4 m5) (hs0 : 0 ≤ st) (hs1 : st < 256) (hu0 : -9223372036854775808 ≤ un) (hu1 : un ≤ 9223372036854775807) (hp0 : 0 ≤ sp) (hp1 : sp < 256)
    (hT : T.size ≤ 140737488351232) (hr : raw.size ≤ 140737488351232) (hE : Env w) :
    Calls Tryz.prog 3 #[.agg #[.int .u32 a, .int .u8 m0, .int .u8 m1, .int .u8 m2, .int .u8 m3, .int .u8 m4, .int .u8 m5, .int .u8 st, .int .i64 un, .int .u8 sp, .string T], .string raw] w fun e w' =>
      e = .returned (.bool true) ∧ Below w.heap.size w w' := by
  have HAW := Lib.hid fun W (E : Env W) => awake_any W E
  have HFO := Lib.hid fun W (E : Env W) => four_any a m0 m1 m2 m3 m4 m5 st un sp T false W h0 h1 six hs0 hs1 hu0 hu1 hp0 hp1 E
  have HE := Lib.hid hE
  have B0 := Lib.hid ((Below.refl w.heap.size w).alloc (Nat.le_refl _) (.cells #[.int .u32 a, .int .u8 m0, .int .u8 m1, .int .u8 m2, .int .u8 m3, .int .u8 m4, .int .u8 m5, .int .u8 st, .int .i64 un, .int .u8 sp, .string T] 26))
  clear hE h0 h1 six hs0 hs1 hu0 hu1 hp0 hp1
  go_enter Tryz.func3, Tryz.ntmps3
  go_wp2_with fail
  refine (HAW.out _ (HE.out.keep B0.out)).mono ?_
  rintro e w1 ⟨rfl, hb⟩
  have B1 := Lib.hid (B0.out.trans (hb.mono B0.out.size))
  obtain ⟨hc1, hf1⟩ := bcell hb
  have z1m : w.heap.size < w1.heap.size := by have := hb.size; simp at this; omega
  clear hb
  go_wp2_with fail
  refine (HFO.out _ (HE.out.keep B1.out)).mono ?_
  rintro e w2 ⟨⟨X0, X1, X2, X3, rfl, z0, z1, z2, z3⟩, hb⟩
  have B2 := Lib.hid (B1.out.trans (hb.mono B1.out.size))
  have z2m : w.heap.size < w2.heap.size := by have := hb.size; omega
  clear hb hc1 hf1
  obtain ⟨Y1, e1⟩ : ∃ Y : ByteArray, Y = X0 ++ ⟨#[32]⟩ := ⟨_, rfl⟩
  obtain ⟨Y2, e2⟩ : ∃ Y : ByteArray, Y = Y1 ++ X1 := ⟨_, rfl⟩
  obtain ⟨Y3, e3⟩ : ∃ Y : ByteArray, Y = Y2 ++ ⟨#[32]⟩ := ⟨_, rfl⟩
  obtain ⟨Y4, e4⟩ : ∃ Y : ByteArray, Y = Y3 ++ X2 := ⟨_, rfl⟩
  obtain ⟨Y5, e5⟩ : ∃ Y : ByteArray, Y = Y4 ++ ⟨#[32]⟩ := ⟨_, rfl⟩
  obtain ⟨Y6, e6⟩ : ∃ Y : ByteArray, Y = Y5 ++ X3 := ⟨_, rfl⟩
  obtain ⟨Z1, f1⟩ : ∃ Y : ByteArray, Y = X0 ++ ⟨#[32, 108, 108, 97, 100, 100, 114, 32]⟩ := ⟨_, rfl⟩
  obtain ⟨Z2, f2⟩ : ∃ Y : ByteArray, Y = Z1 ++ X2 := ⟨_, rfl⟩
  obtain ⟨Z3, f3⟩ : ∃ Y : ByteArray, Y = Z2 ++ ⟨#[32, 83, 84, 65, 76, 69]⟩ := ⟨_, rfl⟩
  obtain ⟨Z4, f4⟩ : ∃ Y : ByteArray, Y = Z3 ++ raw := ⟨_, rfl⟩
  have n1 : Y1.size = X0.size + 1 := by rw [e1, ByteArray.size_append]; rfl
  have n2 : Y2.size = Y1.size + X1.size := by rw [e2, ByteArray.size_append]
  have n3 : Y3.size = Y2.size + 1 := by rw [e3, ByteArray.size_append]; rfl
  have n4 : Y4.size = Y3.size + X2.size := by rw [e4, ByteArray.size_append]
  have n5 : Y5.size = Y4.size + 1 := by rw [e5, ByteArray.size_append]; rfl
  have n6 : Y6.size = Y5.size + X3.size := by rw [e6, ByteArray.size_append]
  have p1 : Z1.size = X0.size + 8 := by rw [f1, ByteArray.size_append]; rfl
  have p2 : Z2.size = Z1.size + X2.size := by rw [f2, ByteArray.size_append]
  have p3 : Z3.size = Z2.size + 6 := by rw [f3, ByteArray.size_append]; rfl
  have p4 : Z4.size = Z3.size + raw.size := by rw [f4, ByteArray.size_append]
  have a1 := fun W => sadd2 e1 (by rw [show (⟨#[32]⟩ : ByteArray).size = 1 from rfl]; omega) W
  have a2 := fun W => sadd2 e2 (by omega) W
  have a3 := fun W => sadd2 e3 (by rw [show (⟨#[32]⟩ : ByteArray).size = 1 from rfl]; omega) W
  have a4 := fun W => sadd2 e4 (by omega) W
  have a5 := fun W => sadd2 e5 (by rw [show (⟨#[32]⟩ : ByteArray).size = 1 from rfl]; omega) W
  have a6 := fun W => sadd2 e6 (by omega) W
  have b1 := fun W => sadd2 f1 (by rw [show (⟨#[32, 108, 108, 97, 100, 100, 114, 32]⟩ : ByteArray).size = 8 from rfl]; omega) W
  have b2 := fun W => sadd2 f2 (by omega) W
  have b3 := fun W => sadd2 f3 (by rw [show (⟨#[32, 83, 84, 65, 76, 69]⟩ : ByteArray).size = 6 from rfl]; omega) W
  have b4 := fun W => sadd2 f4 (by omega) W
  have HSZ := Lib.hid (fun k => s3_len (n := maxLen) (A := Y6) (B := raw) (C := Z4) (by unfold maxLen; omega) (by unfold maxLen; omega) (by unfold maxLen; omega) k)
  clear e1 e2 e3 e4 e5 e6 f1 f2 f3 f4 n1 n2 n3 n4 n5 n6 p1 p2 p3 p4 hT hr z0 z1 z2 z3
  go_upto_region 4 with fail
  go_wp2_with fail
  have hS0 : S3 ((w2.alloc (.cells #[.string X0, .string X1, .string X2, .string X3] 28)).alloc (.cells #[.string Y6, .string raw, .string Z4] 9)) (w2.heap.size + 1) Y6 raw Z4 := by
    have := s3_new (w2.alloc (.cells #[.string X0, .string X1, .string X2, .string X3] 28)) Y6 raw Z4
    rwa [show (w2.alloc (.cells #[.string X0, .string X1, .string X2, .string X3] 28)).heap.size = w2.heap.size + 1 by simp] at this
  have D0 : Below w.heap.size w ((w2.alloc (.cells #[.string X0, .string X1, .string X2, .string X3] 28)).alloc (.cells #[.string Y6, .string raw, .string Z4] 9)) := (B2.out.alloc B2.out.size _).alloc (by have := B2.out.size; simp; omega) _
  have HS0 := Lib.hid hS0
  have HD0 := Lib.hid D0
  have hg0 : w2.heap.size + 1 < ((w2.alloc (.cells #[.string X0, .string X1, .string X2, .string X3] 28)).alloc (.cells #[.string Y6, .string raw, .string Z4] 9)).heap.size := by simp
  clear a1 a2 a3 a4 a5 a6 b1 b2 b3 b4 HFO HAW hS0 D0
  go_loopg [42] 3 (fun m i wr => ∃ k : Nat, k + m = 3 ∧ i = .int .i64 (k : Int) ∧ Hid (S3 wr (w2.heap.size + 1) Y6 raw Z4 ∧ Below w.heap.size w wr ∧ w2.heap.size + 1 < wr.heap.size))
  case atStart => exact ⟨0, by omega, rfl, Lib.hid ⟨HS0.out, HD0.out, hg0⟩⟩
  case round =>
    obtain ⟨k, hkm, rfl, HH⟩ := hrel
    match gk with
    | 0 =>
      obtain rfl : k = 3 := by omega
      go_wp2_with fail
      go_ret
      exact ⟨rfl, HH.out.2.1⟩
    | m + 1 =>
      have hk : k < 3 := by omega
      have cS := HH.out.1.at' k hk
      have HN := Lib.hid fun W => neighbour_any (s3 Y6 raw Z4 k) W (HSZ.out k)
      have HL := Lib.hid fun W => nbl_any (s3 Y6 raw Z4 k) W (HSZ.out k)
      generalize s3 Y6 raw Z4 k = S at cS HN HL
      generalize nbO S = R at HN HL
      obtain ⟨⟨ra, r0, r1, r2, r3, r4, r5, ru⟩, n⟩ := R
      have hk1 : ((k : Int) < 3) := by omega
      have hk2 : ¬ (3 ≤ (k : Int)) := by omega
      have q1 := fun W => run_neqR ⟨ra, r0, r1, r2, r3, r4, r5, ru⟩ W
      have q3 := guardR
      simp only [rv] at q1
      go_wp2_with fail
      refine (HN.out _).mono ?_
      rintro e w3 ⟨⟨ev, rfl, hev⟩, hb⟩
      have B3 := Lib.hid (HH.out.2.1.trans (hb.mono HH.out.2.1.size))
      have T3 := Lib.hid (HH.out.1.keep hb HH.out.2.2)
      have z3g : w2.heap.size + 1 < w3.heap.size := by have := hb.size; have := HH.out.2.2; omega
      have EV := Lib.hid hev
      clear hb hev cS
      simp only [rv]
      go_wp2_with fail
      refine (HL.out _).mono ?_
      rintro e w4 ⟨rfl, hb⟩
      have B4 := Lib.hid ((B3.out.alloc B3.out.size _).trans (hb.mono (B3.out.alloc B3.out.size _).size))
      obtain ⟨hc4, hf4⟩ := bcell hb
      have z4r : w3.heap.size < w4.heap.size := by have := hb.size; simp at this; omega
      have T4 := Lib.hid ((T3.out.keep ((Below.refl _ _).alloc (Nat.le_refl _) _) z3g).keep hb (by simp; omega))
      clear hb
      simp only [rv]
      go_wp2_with fail
      refine (told_any n n ev _ (er_w EV.out _) (HE.out.keep (B4.out.alloc B4.out.size _)).et).mono ?_
      rintro e w5 ⟨rfl, hb⟩
      have B5 := Lib.hid ((B4.out.alloc B4.out.size _).trans (hb.mono (B4.out.alloc B4.out.size _).size))
      have z4g : w2.heap.size + 1 < w4.heap.size := by omega
      have T5 := Lib.hid ((T4.out.keep ((Below.refl _ _).alloc (Nat.le_refl _) _) z4g).keep hb (by simp; omega))
      have z5g : w2.heap.size + 1 < w5.heap.size := by have := hb.size; simp at this; omega
      clear hb hc4 hf4
      simp only [beq_self_eq_true]
      go_wp2_with fail
      go_roundg m
      case measure => omega
      case rel => exact ⟨k + 1, by omega, by go_num, Lib.hid ⟨T5.out, B5.out, z5g⟩⟩
end Go.Proofs.YthpgmlijfcfddaaGreatDoor
