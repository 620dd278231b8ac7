/-
  The contract of the statements' own (Words).four: four texts, none longer than the drawn one or 100 bytes. Conditions: numbers have their bits, and the library's variables lie as their texts lay them (Env).
-/
import Derived.Test.YthpgmlijfcfddaaGreatDoorLn
import Derived.Test.YthpgmlijfcfddaaGreatDoorOt
import Derived.Deep.CutRange
set_option linter.unusedSimpArgs false
set_option linter.unusedVariables false
namespace Go.Proofs.YthpgmlijfcfddaaGreatDoor
open Go.RowKit

/-- The states' texts. -/
def sAt (k : Nat) : ByteArray :=
  match k with
  | 0 => ⟨#[82, 69, 65, 67, 72, 65, 66, 76, 69]⟩
  | 1 => ⟨#[83, 84, 65, 76, 69]⟩
  | 2 => ⟨#[68, 69, 76, 65, 89]⟩
  | 3 => ⟨#[70, 65, 73, 76, 69, 68]⟩
  | 4 => ⟨#[73, 78, 67, 79, 77, 80, 76, 69, 84, 69]⟩
  | 5 => ⟨#[114, 101, 97, 99, 104, 97, 98, 108, 101]⟩
  | _ => ⟨#[]⟩
theorem sAt_len (k : Nat) : (sAt k).size ≤ 20 := by
  unfold sAt
  split <;> decide
/-- A row of four texts that may be written. -/
structure T4 (W : World) (b : Nat) (X0 X1 X2 X3 : ByteArray) : Prop where
  c0 : W.cell? ⟨b, 0, none⟩ = some (.string X0)
  c1 : W.cell? ⟨b, 1, none⟩ = some (.string X1)
  c2 : W.cell? ⟨b, 2, none⟩ = some (.string X2)
  c3 : W.cell? ⟨b, 3, none⟩ = some (.string X3)
  f : ∀ k, W.frozen? ⟨b, k, none⟩ = false
theorem T4.keep {W W' : World} {b : Nat} {X0 X1 X2 X3 : ByteArray} (h : T4 W b X0 X1 X2 X3) {B : Nat} (hb : Below B W W') (hl : b < B) : T4 W' b X0 X1 X2 X3 :=
  ⟨by rw [hb.cell (by simpa using hl)]; exact h.c0, by rw [hb.cell (by simpa using hl)]; exact h.c1, by rw [hb.cell (by simpa using hl)]; exact h.c2, by rw [hb.cell (by simpa using hl)]; exact h.c3, fun k => by rw [hb.frozen (by simpa using hl)]; exact h.f k⟩
/-- A new row of four empty texts. -/
def Nw (B : Nat) : Value → World → Prop := fun v W => ∃ b, v = .pointer (some ⟨b, 0, none⟩) ∧ B ≤ b ∧ b < W.heap.size ∧ T4 W b ⟨#[]⟩ ⟨#[]⟩ ⟨#[]⟩ ⟨#[]⟩
theorem stable_nw (B : Nat) : Stable (Nw B) := by
  rintro v w w' ⟨b, rfl, h1, h2, h3⟩ hb
  exact ⟨b, rfl, h1, by have := hb.size; omega, h3.keep hb h2⟩

/-- The words by numbers, in memory. -/
structure Bx (W : World) (b : Nat) (a m0 m1 m2 m3 m4 m5 st un sp : Int) (T : ByteArray) : Prop where
  c0 : W.cell? ⟨b, 0, none⟩ = some (.int .u32 a)
  c1 : W.cell? ⟨b, 1, none⟩ = some (.int .u8 m0)
  c2 : W.cell? ⟨b, 2, none⟩ = some (.int .u8 m1)
  c3 : W.cell? ⟨b, 3, none⟩ = some (.int .u8 m2)
  c4 : W.cell? ⟨b, 4, none⟩ = some (.int .u8 m3)
  c5 : W.cell? ⟨b, 5, none⟩ = some (.int .u8 m4)
  c6 : W.cell? ⟨b, 6, none⟩ = some (.int .u8 m5)
  c7 : W.cell? ⟨b, 7, none⟩ = some (.int .u8 st)
  c8 : W.cell? ⟨b, 8, none⟩ = some (.int .i64 un)
  c9 : W.cell? ⟨b, 9, none⟩ = some (.int .u8 sp)
  c10 : W.cell? ⟨b, 10, none⟩ = some (.string T)
theorem Bx.keep {W W' : World} {b : Nat} {a m0 m1 m2 m3 m4 m5 st un sp : Int} {T : ByteArray} (h : Bx W b a m0 m1 m2 m3 m4 m5 st un sp T) {B : Nat} (hb : Below B W W') (hl : b < B) : Bx W' b a m0 m1 m2 m3 m4 m5 st un sp T :=
  ⟨by rw [hb.cell (by simpa using hl)]; exact h.c0, by rw [hb.cell (by simpa using hl)]; exact h.c1, by rw [hb.cell (by simpa using hl)]; exact h.c2, by rw [hb.cell (by simpa using hl)]; exact h.c3, by rw [hb.cell (by simpa using hl)]; exact h.c4, by rw [hb.cell (by simpa using hl)]; exact h.c5, by rw [hb.cell (by simpa using hl)]; exact h.c6, by rw [hb.cell (by simpa using hl)]; exact h.c7, by rw [hb.cell (by simpa using hl)]; exact h.c8, by rw [hb.cell (by simpa using hl)]; exact h.c9, by rw [hb.cell (by simpa using hl)]; exact h.c10⟩
/-- The states' texts, in memory. -/
structure Sx (W : World) (b : Nat) : Prop where
  at' : ∀ k, k < 7 → W.cell? ⟨b, k, none⟩ = some (.string (sAt k))
theorem Sx.keep {W W' : World} {b : Nat} (h : Sx W b) {B : Nat} (hb : Below B W W') (hl : b < B) (k : Nat) (hk : k < 7) : W'.cell? ⟨b, k, none⟩ = some (.string (sAt k)) := by
  rw [hb.cell (by simpa using hl)]; exact h.at' k hk
theorem calls_fx {f : FuncId} {args : Array Value} {W : World} {v : Value} {Φ : List (Value → World → Prop)} {i : Nat} (h : Calls Tryz.prog f args W fun e w' => e = .returned v ∧ Below W.heap.size W w') (hi : fAt Φ i = fx v) :
    Calls Tryz.prog f args W fun e w' => ∃ v, e = .returned v ∧ Below W.heap.size W w' ∧ fAt Φ i v w' := h.mono fun _ _ ⟨he, hb⟩ => ⟨v, he, hb, by rw [hi]; exact rfl⟩
theorem below4 {w1 W : World} {b : Nat} (h : Below w1.heap.size w1 W) (hb : w1.heap.size ≤ b) (v0 v1 v2 v3 : Value) : Below w1.heap.size w1 ((((W.setCell ⟨b, 0, none⟩ v0).setCell ⟨b, 1, none⟩ v1).setCell ⟨b, 2, none⟩ v2).setCell ⟨b, 3, none⟩ v3) :=
  (((h.setCell hb v0).setCell hb v1).setCell hb v2).setCell hb v3
/-- What stands behind the row of four texts. -/
def Fr4 (w1 : World) (n : Nat) (p : Value) (W : World) : Prop := ∃ b X0 X1 X2 X3, p = .pointer (some ⟨b, 0, none⟩) ∧ w1.heap.size ≤ b ∧ b < W.heap.size ∧ Below w1.heap.size w1 W ∧ T4 W b X0 X1 X2 X3 ∧ X0.size ≤ n ∧ X1.size ≤ n ∧ X2.size ≤ n ∧ X3.size ≤ n

theorem itoa_len (n : Int) (h0 : -9223372036854775808 ≤ n) (h1 : n ≤ 9223372036854775807) : (Lib.itoa n).length ≤ 30 := by
  by_cases hn : 0 ≤ n
  · rw [Ad.itoa_pos hn]
    have := dd_len 19 n.toNat (by omega)
    unfold Ad.dig
    omega
  · obtain ⟨u, hu⟩ := Int.eq_ofNat_of_zero_le (show 0 ≤ -n by omega)
    obtain rfl : n = -(u : Int) := by omega
    rw [itoa_neg' u (by omega)]
    have := dd_len 19 u (by omega)
    simp
    omega
theorem digits_below (n : Int) (W : World) (h0 : -9223372036854775808 ≤ n) (h1 : n ≤ 9223372036854775807) :
    Calls Tryz.prog 19 #[.int .i64 n] W fun e w' => e = .returned (.string ⟨(Lib.itoa n).toArray⟩) ∧ Below W.heap.size W w' :=
  (digits_any n W h0 h1).mono fun e w' ⟨he, hw⟩ => ⟨he, hw ▸ Below.refl _ _⟩
theorem sx_new (W : World) : Sx (W.alloc (.cells #[.string ⟨#[82, 69, 65, 67, 72, 65, 66, 76, 69]⟩, .string ⟨#[83, 84, 65, 76, 69]⟩, .string ⟨#[68, 69, 76, 65, 89]⟩, .string ⟨#[70, 65, 73, 76, 69, 68]⟩, .string ⟨#[73, 78, 67, 79, 77, 80, 76, 69, 84, 69]⟩, .string ⟨#[114, 101, 97, 99, 104, 97, 98, 108, 101]⟩, .string ⟨#[]⟩] 9)) W.heap.size := ⟨fun k hk => by
  rcases (show k = 0 ∨ k = 1 ∨ k = 2 ∨ k = 3 ∨ k = 4 ∨ k = 5 ∨ k = 6 by omega) with rfl | rfl | rfl | rfl | rfl | rfl | rfl <;> simp [sAt]⟩
theorem t4_new (W : World) : T4 (W.alloc (.cells #[.string ⟨#[]⟩, .string ⟨#[]⟩, .string ⟨#[]⟩, .string ⟨#[]⟩] 28)) W.heap.size ⟨#[]⟩ ⟨#[]⟩ ⟨#[]⟩ ⟨#[]⟩ := ⟨by simp, by simp, by simp, by simp, fun k => by simp⟩
theorem bx_new (w : World) (a m0 m1 m2 m3 m4 m5 st un sp : Int) (T : ByteArray) : Bx (w.alloc (.cells #[.int .u32 a, .int .u8 m0, .int .u8 m1, .int .u8 m2, .int .u8 m3, .int .u8 m4, .int .u8 m5, .int .u8 st, .int .i64 un, .int .u8 sp, .string T] 26)) w.heap.size a m0 m1 m2 m3 m4 m5 st un sp T := ⟨by simp, by simp, by simp, by simp, by simp, by simp, by simp, by simp, by simp, by simp, by simp⟩
theorem four_new (w : World) (a m0 m1 m2 m3 m4 m5 st un sp : Int) (T : ByteArray) (wA : World) (hA : wA = w.alloc (.cells #[.int .u32 a, .int .u8 m0, .int .u8 m1, .int .u8 m2, .int .u8 m3, .int .u8 m4, .int .u8 m5, .int .u8 st, .int .i64 un, .int .u8 sp, .string T] 26)) (wB : World) (hB : wB = wA.alloc (.cells #[.string ⟨#[]⟩, .string ⟨#[]⟩, .string ⟨#[]⟩, .string ⟨#[]⟩] 28)) (wC : World) (hC : wC = wB.alloc (.cells #[.string ⟨#[82, 69, 65, 67, 72, 65, 66, 76, 69]⟩, .string ⟨#[83, 84, 65, 76, 69]⟩, .string ⟨#[68, 69, 76, 65, 89]⟩, .string ⟨#[70, 65, 73, 76, 69, 68]⟩, .string ⟨#[73, 78, 67, 79, 77, 80, 76, 69, 84, 69]⟩, .string ⟨#[114, 101, 97, 99, 104, 97, 98, 108, 101]⟩, .string ⟨#[]⟩] 9)) :
    Bx wC w.heap.size a m0 m1 m2 m3 m4 m5 st un sp T ∧ Sx wC (w.heap.size + 1 + 1) ∧ T4 wC (w.heap.size + 1) ⟨#[]⟩ ⟨#[]⟩ ⟨#[]⟩ ⟨#[]⟩ ∧ Below w.heap.size w wC ∧ w.heap.size + 1 + 1 < wC.heap.size := by
  have zA : wA.heap.size = w.heap.size + 1 := by rw [hA]; simp
  have zB : wB.heap.size = w.heap.size + 1 + 1 := by rw [hB]; simp [zA]
  have zC : wC.heap.size = w.heap.size + 1 + 1 + 1 := by rw [hC]; simp [zB]
  have bA : Below w.heap.size w wA := hA ▸ (Below.refl _ w).alloc (Nat.le_refl _) _
  have bB : Below wA.heap.size wA wB := hB ▸ (Below.refl _ wA).alloc (Nat.le_refl _) _
  have bC : Below wB.heap.size wB wC := hC ▸ (Below.refl _ wB).alloc (Nat.le_refl _) _
  have pA : Bx wA w.heap.size a m0 m1 m2 m3 m4 m5 st un sp T := hA ▸ bx_new w a m0 m1 m2 m3 m4 m5 st un sp T
  have tB : T4 wB wA.heap.size ⟨#[]⟩ ⟨#[]⟩ ⟨#[]⟩ ⟨#[]⟩ := hB ▸ t4_new wA
  have sC : Sx wC wB.heap.size := hC ▸ sx_new wB
  rw [zB] at sC
  rw [zA] at tB
  exact ⟨(pA.keep bB (by omega)).keep bC (by omega), sC, tB.keep bC (by omega), (bA.trans (bB.mono (by omega))).trans (bC.mono (by omega)), by omega⟩
theorem t4_put {W : World} {b : Nat} {Y0 Y1 Y2 Y3 : ByteArray} (h : T4 W b Y0 Y1 Y2 Y3) (X0 X1 X2 X3 : ByteArray) : T4 ((((W.setCell ⟨b, 0, none⟩ (.string X0)).setCell ⟨b, 1, none⟩ (.string X1)).setCell ⟨b, 2, none⟩ (.string X2)).setCell ⟨b, 3, none⟩ (.string X3)) b X0 X1 X2 X3 :=
  ⟨by rw [sc_other _ _ 3 0 _ (by decide), sc_other _ _ 2 0 _ (by decide), sc_other _ _ 1 0 _ (by decide)]; exact sc_same _ _ 0 _ _ h.c0,
   by rw [sc_other _ _ 3 1 _ (by decide), sc_other _ _ 2 1 _ (by decide)]; exact sc_same _ _ 1 _ _ (by rw [sc_other _ _ 0 1 _ (by decide)]; exact h.c1),
   by rw [sc_other _ _ 3 2 _ (by decide)]; exact sc_same _ _ 2 _ _ (by rw [sc_other _ _ 1 2 _ (by decide), sc_other _ _ 0 2 _ (by decide)]; exact h.c2),
   by exact sc_same _ _ 3 _ _ (by rw [sc_other _ _ 2 3 _ (by decide), sc_other _ _ 1 3 _ (by decide), sc_other _ _ 0 3 _ (by decide)]; exact h.c3), fun k => by simp [h.f]⟩
theorem fr4_put {w1 W : World} {b : Nat} {Y0 Y1 Y2 Y3 : ByteArray} (h : T4 W b Y0 Y1 Y2 Y3) (hb : Below w1.heap.size w1 W) (h1 : w1.heap.size ≤ b) (h2 : b < W.heap.size) (n : Nat) (X0 X1 X2 X3 : ByteArray) (z0 : X0.size ≤ n) (z1 : X1.size ≤ n) (z2 : X2.size ≤ n) (z3 : X3.size ≤ n) :
    Fr4 w1 n (.pointer (some ⟨b, 0, none⟩)) ((((W.setCell ⟨b, 0, none⟩ (.string X0)).setCell ⟨b, 1, none⟩ (.string X1)).setCell ⟨b, 2, none⟩ (.string X2)).setCell ⟨b, 3, none⟩ (.string X3)) :=
  ⟨b, X0, X1, X2, X3, rfl, h1, by simpa using h2, below4 hb h1 _ _ _ _, t4_put h X0 X1 X2 X3, z0, z1, z2, z3⟩
/-- What stands behind the store into the row. -/
def F5 (wc : World) (b : Nat) (X0 X1 X2 X3 : ByteArray) (W : World) : Prop := T4 W b X0 X1 X2 X3 ∧ Below b wc W ∧ b < W.heap.size
theorem f5_put {wc W : World} {b : Nat} {Y0 Y1 Y2 Y3 : ByteArray} (h : T4 wc b Y0 Y1 Y2 Y3) (hb : Below wc.heap.size wc W) (h2 : b < wc.heap.size) (X0 X1 X2 X3 : ByteArray) :
    F5 wc b X0 X1 X2 X3 ((((W.setCell ⟨b, 0, none⟩ (.string X0)).setCell ⟨b, 1, none⟩ (.string X1)).setCell ⟨b, 2, none⟩ (.string X2)).setCell ⟨b, 3, none⟩ (.string X3)) :=
  ⟨t4_put (h.keep hb h2) X0 X1 X2 X3, (((((show Below b wc W from hb.mono (Nat.le_of_lt h2)).setCell (Nat.le_refl _) _).setCell (Nat.le_refl _) _).setCell (Nat.le_refl _) _).setCell (Nat.le_refl _) _), by have := hb.size; simp; omega⟩

set_option maxRecDepth 100000 in
set_option maxHeartbeats 4000000 in
theorem four_any (a m0 m1 m2 m3 m4 m5 st un sp : Int) (T : ByteArray) (le : Bool) (w : World) (h0 : 0 ≤ a) (h1 : a < 4294967296) (six : Mc.Six m0 m1 m2 m3 m4 m5) (hs0 : 0 ≤ st) (hs1 : st < 256) (hu0 : -9223372036854775808 ≤ un) (hu1 : un ≤ 9223372036854775807) (hp0 : 0 ≤ sp) (hp1 : sp < 256) (hE : Env w) :
    Calls Tryz.prog 7 #[.agg #[.int .u32 a, .int .u8 m0, .int .u8 m1, .int .u8 m2, .int .u8 m3, .int .u8 m4, .int .u8 m5, .int .u8 st, .int .i64 un, .int .u8 sp, .string T], .bool le] w fun e w' =>
      (∃ X0 X1 X2 X3 : ByteArray, e = .returned (.agg #[.string X0, .string X1, .string X2, .string X3]) ∧ (X0.size ≤ T.size + 100 ∧ X1.size ≤ T.size + 100 ∧ X2.size ≤ T.size + 100 ∧ X3.size ≤ T.size + 100)) ∧ Below w.heap.size w w' := by
  have lt := textL_len a h0 h1
  obtain ⟨TA, hTA⟩ : ∃ TA : ByteArray, TA = ⟨(Ad.textL a).toArray⟩ := ⟨_, rfl⟩
  have HTA := Lib.hid fun W (E : Env W) => Ad.text_any a W h0 h1 E.tab
  rw [← hTA] at HTA
  have lTA : TA.size ≤ 15 := by rw [hTA, Lib.size_eq]; exact lt
  have lm := mt_len m0 m1 m2 m3 m4 m5
  obtain ⟨TM, hTM⟩ : ∃ TM, TM = mt m0 m1 m2 m3 m4 m5 := ⟨_, rfl⟩
  have HTM := Lib.hid fun W => Mc.text_six m0 m1 m2 m3 m4 m5 W six
  change Hid (∀ W, Calls Tryz.prog 18 #[.agg #[.int .u8 m0, .int .u8 m1, .int .u8 m2, .int .u8 m3, .int .u8 m4, .int .u8 m5]] W fun e w' => e = .returned (.string (mt m0 m1 m2 m3 m4 m5)) ∧ Below W.heap.size W w') at HTM
  rw [← hTM] at HTM
  have lTM : TM.size ≤ 17 := by rw [hTM, Lib.size_eq, lm]; omega
  obtain ⟨DG, hDG⟩ : ∃ DG : ByteArray, DG = ⟨(Lib.itoa un).toArray⟩ := ⟨_, rfl⟩
  have lDG : DG.size ≤ 30 := by rw [hDG, Lib.size_eq]; exact itoa_len un hu0 hu1
  have HDG := Lib.hid fun W => digits_below un W hu0 hu1
  rw [← hDG] at HDG
  clear hDG
  obtain ⟨q, hq⟩ : ∃ q : Nat, q = (st % 7).toNat := ⟨_, rfl⟩
  have hq7 : q < 7 := by omega
  have HQ := Lib.hid (show st.tmod 7 = (q : Int) by rw [Int.tmod_eq_emod_of_nonneg hs0]; omega)
  clear hq lt hTA lm hTM
  go_enter Tryz.func7, Tryz.ntmps7
  go_upto_region 2 with fail
  obtain ⟨p0, st0, r0, d0, z0⟩ := four_new w a m0 m1 m2 m3 m4 m5 st un sp T _ rfl _ rfl _ rfl
  have P0 := Lib.hid p0
  have HST := Lib.hid st0
  have HR0 := Lib.hid r0
  have D0 := Lib.hid d0
  have HE := Lib.hid (hE.keep d0)
  clear p0 st0 r0 d0 hE
  generalize (((w.alloc (.cells #[.int .u32 a, .int .u8 m0, .int .u8 m1, .int .u8 m2, .int .u8 m3, .int .u8 m4, .int .u8 m5, .int .u8 st, .int .i64 un, .int .u8 sp, .string T] 26)).alloc (.cells #[.string ⟨#[]⟩, .string ⟨#[]⟩, .string ⟨#[]⟩, .string ⟨#[]⟩] 28)).alloc (.cells #[.string ⟨#[82, 69, 65, 67, 72, 65, 66, 76, 69]⟩, .string ⟨#[83, 84, 65, 76, 69]⟩, .string ⟨#[68, 69, 76, 65, 89]⟩, .string ⟨#[70, 65, 73, 76, 69, 68]⟩, .string ⟨#[73, 78, 67, 79, 77, 80, 76, 69, 84, 69]⟩, .string ⟨#[114, 101, 97, 99, 104, 97, 98, 108, 101]⟩, .string ⟨#[]⟩] 9)) = w1 at *
  have HL := Lib.hid (show w.heap.size < w1.heap.size by omega)
  have HL1 := Lib.hid (show w.heap.size + 1 < w1.heap.size by omega)
  have HL2 := Lib.hid z0
  clear z0
  generalize hB2 : w.heap.size + 1 + 1 = B2 at *
  go_cut [6] from 8 to 21 (fun p wc => Hid (Fr4 w1 (T.size + 100) p wc))
  case first =>
      refine wp_region_below_end (by simp) [fx (.pointer (some ⟨w.heap.size, 0, none⟩)), fx (.int .u32 a), fx (.string TA), fx (.pointer (some ⟨w.heap.size, 1, none⟩)), fx (.agg #[.int .u8 m0, .int .u8 m1, .int .u8 m2, .int .u8 m3, .int .u8 m4, .int .u8 m5]), fx (.string TM), fx (.slice (some ⟨B2, 0, none⟩) 7 7), fx (.pointer (some ⟨w.heap.size, 7, none⟩)), fx (.int .u8 st), fx (.int .u8 (q : Int)), fx (.pointer (some ⟨B2, q, none⟩)), fx (.string (sAt q)), fx (.agg #[.string TA, .string ⟨#[108, 108, 97, 100, 100, 114]⟩, .string TM, .string (sAt q)]), Nw w1.heap.size]
        (by kernel_rfl) (by kernel_rfl) (by kernel_rfl) (by kernel_rfl) ?_ ?_ ?_
      · simp only [List.mem_cons, List.not_mem_nil, or_false]
        rintro φ (rfl | rfl | rfl | rfl | rfl | rfl | rfl | rfl | rfl | rfl | rfl | rfl | rfl | rfl)
        all_goals first | exact stable_fx _ | exact stable_nw _
      · refine OgSteps.cons ?_ (OgSteps.cons ?_ (OgSteps.cons ?_ (OgSteps.cons ?_ (OgSteps.cons ?_ (OgSteps.cons ?_ (OgSteps.cons ?_ (OgSteps.cons ?_ (OgSteps.cons ?_ (OgSteps.cons ?_ (OgSteps.cons ?_ (OgSteps.cons ?_ (OgSteps.cons ?_ (OgSteps.cons ?_ (OgSteps.nil))))))))))))))
        · refine OgStep.pure ?_ ?_
          · rfl
          intro u W hS hp
          refine ⟨.pointer (some ⟨w.heap.size, 0, none⟩), ?_, rfl⟩
          simp only [ogMk, Act.put, List.setIfInBounds_toArray, List.set_cons_zero, List.set_cons_succ, Nat.zero_add, Nat.reduceAdd]
          simp [execOp, Act.eval, go_sem]
        · refine OgStep.pure ?_ ?_
          · rfl
          intro u W hS hp
          have h0 : u 0 = .pointer (some ⟨w.heap.size, 0, none⟩) := hp ⟨0, .data⟩ (by simp) rfl
          have X := P0.out.keep hS HL.out
          have R := X.c0
          refine ⟨.int .u32 a, ?_, rfl⟩
          simp only [ogMk, Act.put, List.setIfInBounds_toArray, List.set_cons_zero, List.set_cons_succ, Nat.zero_add, Nat.reduceAdd]
          simp [execOp, Act.eval, go_sem, h0, R]
        · refine OgStep.calls ?_ ?_
          · rfl
          intro u W hS hp
          have h1 : u 1 = .int .u32 a := hp ⟨1, .data⟩ (by simp) rfl
          refine ⟨17, #[.int .u32 a], ?_, calls_fx (HTA.out W (HE.out.keep hS)) rfl⟩
          simp only [ogMk, Act.put, List.setIfInBounds_toArray, List.set_cons_zero, List.set_cons_succ, Nat.zero_add, Nat.reduceAdd]
          simp [execOp, Act.eval, go_sem, h1]
        · refine OgStep.pure ?_ ?_
          · rfl
          intro u W hS hp
          refine ⟨.pointer (some ⟨w.heap.size, 1, none⟩), ?_, rfl⟩
          simp only [ogMk, Act.put, List.setIfInBounds_toArray, List.set_cons_zero, List.set_cons_succ, Nat.zero_add, Nat.reduceAdd]
          simp [execOp, Act.eval, go_sem]
        · refine OgStep.pure ?_ ?_
          · rfl
          intro u W hS hp
          have h3 : u 3 = .pointer (some ⟨w.heap.size, 1, none⟩) := hp ⟨3, .data⟩ (by simp) rfl
          have X := P0.out.keep hS HL.out
          have R1 := X.c1
          have R2 := X.c2
          have R3 := X.c3
          have R4 := X.c4
          have R5 := X.c5
          have R6 := X.c6
          refine ⟨.agg #[.int .u8 m0, .int .u8 m1, .int .u8 m2, .int .u8 m3, .int .u8 m4, .int .u8 m5], ?_, rfl⟩
          simp only [ogMk, Act.put, List.setIfInBounds_toArray, List.set_cons_zero, List.set_cons_succ, Nat.zero_add, Nat.reduceAdd]
          simp [execOp, Act.eval, go_sem, h3, R1, R2, R3, R4, R5, R6]
        · refine OgStep.calls ?_ ?_
          · rfl
          intro u W hS hp
          have h4 : u 4 = .agg #[.int .u8 m0, .int .u8 m1, .int .u8 m2, .int .u8 m3, .int .u8 m4, .int .u8 m5] := hp ⟨4, .data⟩ (by simp) rfl
          refine ⟨18, #[.agg #[.int .u8 m0, .int .u8 m1, .int .u8 m2, .int .u8 m3, .int .u8 m4, .int .u8 m5]], ?_, calls_fx (HTM.out W) rfl⟩
          simp only [ogMk, Act.put, List.setIfInBounds_toArray, List.set_cons_zero, List.set_cons_succ, Nat.zero_add, Nat.reduceAdd]
          simp [execOp, Act.eval, go_sem, h4]
        · refine OgStep.pure ?_ ?_
          · rfl
          intro u W hS hp
          refine ⟨.slice (some ⟨B2, 0, none⟩) 7 7, ?_, rfl⟩
          simp only [ogMk, Act.put, List.setIfInBounds_toArray, List.set_cons_zero, List.set_cons_succ, Nat.zero_add, Nat.reduceAdd]
          simp [execOp, Act.eval, go_sem]
        · refine OgStep.pure ?_ ?_
          · rfl
          intro u W hS hp
          refine ⟨.pointer (some ⟨w.heap.size, 7, none⟩), ?_, rfl⟩
          simp only [ogMk, Act.put, List.setIfInBounds_toArray, List.set_cons_zero, List.set_cons_succ, Nat.zero_add, Nat.reduceAdd]
          simp [execOp, Act.eval, go_sem]
        · refine OgStep.pure ?_ ?_
          · rfl
          intro u W hS hp
          have h7 : u 7 = .pointer (some ⟨w.heap.size, 7, none⟩) := hp ⟨7, .data⟩ (by simp) rfl
          have X := P0.out.keep hS HL.out
          have R := X.c7
          refine ⟨.int .u8 st, ?_, rfl⟩
          simp only [ogMk, Act.put, List.setIfInBounds_toArray, List.set_cons_zero, List.set_cons_succ, Nat.zero_add, Nat.reduceAdd]
          simp [execOp, Act.eval, go_sem, h7, R]
        · refine OgStep.pure ?_ ?_
          · rfl
          intro u W hS hp
          have h8 : u 8 = .int .u8 st := hp ⟨8, .data⟩ (by simp) rfl
          have R := HQ.out
          refine ⟨.int .u8 (q : Int), ?_, rfl⟩
          simp only [ogMk, Act.put, List.setIfInBounds_toArray, List.set_cons_zero, List.set_cons_succ, Nat.zero_add, Nat.reduceAdd]
          simp [execOp, Act.eval, go_sem, h8, R]
        · refine OgStep.pure ?_ ?_
          · rfl
          intro u W hS hp
          have h6 : u 6 = .slice (some ⟨B2, 0, none⟩) 7 7 := hp ⟨6, .data⟩ (by simp) rfl
          have h9 : u 9 = .int .u8 (q : Int) := hp ⟨9, .data⟩ (by simp) rfl
          have R : ¬ (7 ≤ (q : Int)) := by omega
          refine ⟨.pointer (some ⟨B2, q, none⟩), ?_, rfl⟩
          simp only [ogMk, Act.put, List.setIfInBounds_toArray, List.set_cons_zero, List.set_cons_succ, Nat.zero_add, Nat.reduceAdd]
          simp [execOp, Act.eval, go_sem, h6, h9, R]
        · refine OgStep.pure ?_ ?_
          · rfl
          intro u W hS hp
          have h10 : u 10 = .pointer (some ⟨B2, q, none⟩) := hp ⟨10, .data⟩ (by simp) rfl
          have R := (HST.out.keep hS HL2.out) q hq7
          refine ⟨.string (sAt q), ?_, rfl⟩
          simp only [ogMk, Act.put, List.setIfInBounds_toArray, List.set_cons_zero, List.set_cons_succ, Nat.zero_add, Nat.reduceAdd]
          simp [execOp, Act.eval, go_sem, h10, R]
        · refine OgStep.pure ?_ ?_
          · rfl
          intro u W hS hp
          have h2 : u 2 = .string TA := hp ⟨2, .data⟩ (by simp) rfl
          have h5 : u 5 = .string TM := hp ⟨5, .data⟩ (by simp) rfl
          have h11 : u 11 = .string (sAt q) := hp ⟨11, .data⟩ (by simp) rfl
          refine ⟨.agg #[.string TA, .string ⟨#[108, 108, 97, 100, 100, 114]⟩, .string TM, .string (sAt q)], ?_, rfl⟩
          simp only [ogMk, Act.put, List.setIfInBounds_toArray, List.set_cons_zero, List.set_cons_succ, Nat.zero_add, Nat.reduceAdd]
          simp [execOp, Act.eval, go_sem, h2, h5, h11]
        · refine OgStep.made ?_ ?_
          · rfl
          intro u W hS hp
          refine ⟨.pointer (some ⟨W.heap.size, 0, none⟩), _, ?_, (Below.refl _ W).alloc (Nat.le_refl _) _, show Nw w1.heap.size _ _ from ⟨W.heap.size, rfl, hS.size, by simp, t4_new W⟩⟩
          simp only [ogMk, Act.put, List.setIfInBounds_toArray, List.set_cons_zero, List.set_cons_succ, Nat.zero_add, Nat.reduceAdd]
          simp [execOp, Act.eval, go_sem]
      · intro u W hS hF
        have hF' := hF
        have e0 : u 0 = .pointer (some ⟨w.heap.size, 0, none⟩) := hF 0 (by decide)
        have e1 : u 1 = .int .u32 a := hF 1 (by decide)
        have e2 : u 2 = .string TA := hF 2 (by decide)
        have e3 : u 3 = .pointer (some ⟨w.heap.size, 1, none⟩) := hF 3 (by decide)
        have e4 : u 4 = .agg #[.int .u8 m0, .int .u8 m1, .int .u8 m2, .int .u8 m3, .int .u8 m4, .int .u8 m5] := hF 4 (by decide)
        have e5 : u 5 = .string TM := hF 5 (by decide)
        have e6 : u 6 = .slice (some ⟨B2, 0, none⟩) 7 7 := hF 6 (by decide)
        have e7 : u 7 = .pointer (some ⟨w.heap.size, 7, none⟩) := hF 7 (by decide)
        have e8 : u 8 = .int .u8 st := hF 8 (by decide)
        have e9 : u 9 = .int .u8 (q : Int) := hF 9 (by decide)
        have e10 : u 10 = .pointer (some ⟨B2, q, none⟩) := hF 10 (by decide)
        have e11 : u 11 = .string (sAt q) := hF 11 (by decide)
        have e12 : u 12 = .agg #[.string TA, .string ⟨#[108, 108, 97, 100, 100, 114]⟩, .string TM, .string (sAt q)] := hF 12 (by decide)
        simp only [ogMk, Act.put, List.setIfInBounds_toArray, List.set_cons_zero, List.set_cons_succ, Nat.zero_add, Nat.reduceAdd]
        rw [e0, e1, e2, e3, e4, e5, e6, e7, e8, e9, e10, e11, e12]
        clear e0 e1 e2 e3 e4 e5 e6 e7 e8 e9 e10 e11 e12 hF
        obtain ⟨b, e13, hb1, hb2, hb3⟩ : Nw w1.heap.size (u 13) W := hF' 13 (by decide)
        rw [e13]
        clear hF' e13
        have d0 := hb3.c0
        have d1 := hb3.c1
        have d2 := hb3.c2
        have d3 := hb3.c3
        have df := hb3.f
        have HT := Lib.hid hb3
        have HB := Lib.hid hS
        have hl := sAt_len q
        clear hb3 hS
        go_wp2_with fail
        go_meet
        exact Lib.hid (fr4_put HT.out HB.out hb1 hb2 _ _ _ _ _ (by omega) (by rw [show (⟨#[108, 108, 97, 100, 100, 114]⟩ : ByteArray).size = 6 from rfl]; omega) (by omega) (by omega))
  case rest =>
    obtain ⟨b, X0, X1, X2, X3, rfl, hb1, hb2, hB, hT, z0, z1, z2, z3⟩ := hcut.out
    have HBX := Lib.hid (P0.out.keep hB HL.out)
    have HR := Lib.hid (HR0.out.keep hB HL1.out)
    have HEW := Lib.hid (HE.out.keep hB)
    have HW := Lib.hid (D0.out.trans (hB.mono (by have := D0.out.size; omega)))
    have hb0 : w.heap.size + 1 < b := by have := HL1.out; omega
    have HLW := Lib.hid (show w.heap.size < wc.heap.size by omega)
    have HT := Lib.hid hT
    have HSZ := Lib.hid (show X0.size ≤ T.size + 100 ∧ X1.size ≤ T.size + 100 ∧ X2.size ≤ T.size + 100 ∧ X3.size ≤ T.size + 100 from ⟨z0, z1, z2, z3⟩)
    have HTZ := Lib.hid (show T.size ≤ T.size + 100 by omega)
    clear hcut hB hT z0 z1 z2 z3 P0 HST HR0 HE D0
    cases le
    · skip
      obtain ⟨d0, d1, d2, d3, df⟩ := HT.out
      obtain ⟨r0, r1, r2, r3, rf⟩ := HR.out
      have b9 := HBX.out.c9
      have b10 := HBX.out.c10
      have hne : b ≠ w.heap.size + 1 := by omega
      have hne1 : b ≠ w.heap.size := by omega
      have HQ1 := Lib.hid (show w.heap.size ≤ b by omega)
      have HQ2 := Lib.hid (show w.heap.size ≤ w.heap.size + 1 by omega)
      rcases (show sp = 0 ∨ sp = 1 ∨ sp = 2 ∨ sp = 3 ∨ 4 ≤ sp by omega) with rfl | rfl | rfl | rfl | h4
      · clear HT HR HBX
        go_wp2_with fail
        exact bodyPost_ret (v := .agg #[.string T, .string X1, .string X2, .string X3]) (by simp [results, Tryz.results7, go_sem, d0, d1, d2, d3, r0, r1, r2, r3, hne, hne.symm]) rfl ⟨⟨_, _, _, _, rfl, by (have := HSZ.out; have := HTZ.out; omega)⟩, by with_reducible exact below4 (HW.out.setCell HQ1.out _) HQ2.out _ _ _ _⟩
      · clear HT HR HBX
        go_wp2_with fail
        exact bodyPost_ret (v := .agg #[.string X0, .string T, .string X2, .string X3]) (by simp [results, Tryz.results7, go_sem, d0, d1, d2, d3, r0, r1, r2, r3, hne, hne.symm]) rfl ⟨⟨_, _, _, _, rfl, by (have := HSZ.out; have := HTZ.out; omega)⟩, by with_reducible exact below4 (HW.out.setCell HQ1.out _) HQ2.out _ _ _ _⟩
      · clear HT HR HBX
        go_wp2_with fail
        exact bodyPost_ret (v := .agg #[.string X0, .string X1, .string T, .string X3]) (by simp [results, Tryz.results7, go_sem, d0, d1, d2, d3, r0, r1, r2, r3, hne, hne.symm]) rfl ⟨⟨_, _, _, _, rfl, by (have := HSZ.out; have := HTZ.out; omega)⟩, by with_reducible exact below4 (HW.out.setCell HQ1.out _) HQ2.out _ _ _ _⟩
      · clear HT HR HBX
        go_wp2_with fail
        exact bodyPost_ret (v := .agg #[.string X0, .string X1, .string X2, .string T]) (by simp [results, Tryz.results7, go_sem, d0, d1, d2, d3, r0, r1, r2, r3, hne, hne.symm]) rfl ⟨⟨_, _, _, _, rfl, by (have := HSZ.out; have := HTZ.out; omega)⟩, by with_reducible exact below4 (HW.out.setCell HQ1.out _) HQ2.out _ _ _ _⟩
      · clear HT HR HBX
        go_wp2_with fail
        exact bodyPost_ret (v := .agg #[.string X0, .string X1, .string X2, .string X3]) (by simp [results, Tryz.results7, go_sem, d0, d1, d2, d3, r0, r1, r2, r3, hne, hne.symm]) rfl ⟨⟨_, _, _, _, rfl, by (have := HSZ.out; have := HTZ.out; omega)⟩, by with_reducible exact below4 HW.out HQ2.out _ _ _ _⟩
    · go_upto_region 4 with fail
      go_cut [] from 22 to 32 (fun wq => Hid (F5 wc b ⟨#[108, 101, 97, 115, 101]⟩ TA TM DG wq))
      case first =>
        refine wp_region_below_end (by simp) [fx (.pointer (some ⟨w.heap.size, 0, none⟩)), fx (.int .u32 a), fx (.string TA), fx (.pointer (some ⟨w.heap.size, 1, none⟩)), fx (.agg #[.int .u8 m0, .int .u8 m1, .int .u8 m2, .int .u8 m3, .int .u8 m4, .int .u8 m5]), fx (.string TM), fx (.pointer (some ⟨w.heap.size, 8, none⟩)), fx (.int .i64 un), fx (.string DG), fx (.agg #[.string ⟨#[108, 101, 97, 115, 101]⟩, .string TA, .string TM, .string DG])]
          (by kernel_rfl) (by kernel_rfl) (by kernel_rfl) (by kernel_rfl) ?_ ?_ ?_
        · simp only [List.mem_cons, List.not_mem_nil, or_false]
          rintro φ (rfl | rfl | rfl | rfl | rfl | rfl | rfl | rfl | rfl | rfl)
          all_goals first | exact stable_fx _ | exact stable_nw _
        · refine OgSteps.cons ?_ (OgSteps.cons ?_ (OgSteps.cons ?_ (OgSteps.cons ?_ (OgSteps.cons ?_ (OgSteps.cons ?_ (OgSteps.cons ?_ (OgSteps.cons ?_ (OgSteps.cons ?_ (OgSteps.cons ?_ (OgSteps.nil))))))))))
          · refine OgStep.pure ?_ ?_
            · rfl
            intro u W hS hp
            refine ⟨.pointer (some ⟨w.heap.size, 0, none⟩), ?_, rfl⟩
            simp only [ogMk, Act.put, List.setIfInBounds_toArray, List.set_cons_zero, List.set_cons_succ, Nat.zero_add, Nat.reduceAdd]
            simp [execOp, Act.eval, go_sem]
          · refine OgStep.pure ?_ ?_
            · rfl
            intro u W hS hp
            have h0 : u 0 = .pointer (some ⟨w.heap.size, 0, none⟩) := hp ⟨0, .data⟩ (by simp) rfl
            have X := HBX.out.keep hS HLW.out
            have R := X.c0
            refine ⟨.int .u32 a, ?_, rfl⟩
            simp only [ogMk, Act.put, List.setIfInBounds_toArray, List.set_cons_zero, List.set_cons_succ, Nat.zero_add, Nat.reduceAdd]
            simp [execOp, Act.eval, go_sem, h0, R]
          · refine OgStep.calls ?_ ?_
            · rfl
            intro u W hS hp
            have h1 : u 1 = .int .u32 a := hp ⟨1, .data⟩ (by simp) rfl
            refine ⟨17, #[.int .u32 a], ?_, calls_fx (HTA.out W (HEW.out.keep hS)) rfl⟩
            simp only [ogMk, Act.put, List.setIfInBounds_toArray, List.set_cons_zero, List.set_cons_succ, Nat.zero_add, Nat.reduceAdd]
            simp [execOp, Act.eval, go_sem, h1]
          · refine OgStep.pure ?_ ?_
            · rfl
            intro u W hS hp
            refine ⟨.pointer (some ⟨w.heap.size, 1, none⟩), ?_, rfl⟩
            simp only [ogMk, Act.put, List.setIfInBounds_toArray, List.set_cons_zero, List.set_cons_succ, Nat.zero_add, Nat.reduceAdd]
            simp [execOp, Act.eval, go_sem]
          · refine OgStep.pure ?_ ?_
            · rfl
            intro u W hS hp
            have h3 : u 3 = .pointer (some ⟨w.heap.size, 1, none⟩) := hp ⟨3, .data⟩ (by simp) rfl
            have X := HBX.out.keep hS HLW.out
            have R1 := X.c1
            have R2 := X.c2
            have R3 := X.c3
            have R4 := X.c4
            have R5 := X.c5
            have R6 := X.c6
            refine ⟨.agg #[.int .u8 m0, .int .u8 m1, .int .u8 m2, .int .u8 m3, .int .u8 m4, .int .u8 m5], ?_, rfl⟩
            simp only [ogMk, Act.put, List.setIfInBounds_toArray, List.set_cons_zero, List.set_cons_succ, Nat.zero_add, Nat.reduceAdd]
            simp [execOp, Act.eval, go_sem, h3, R1, R2, R3, R4, R5, R6]
          · refine OgStep.calls ?_ ?_
            · rfl
            intro u W hS hp
            have h4 : u 4 = .agg #[.int .u8 m0, .int .u8 m1, .int .u8 m2, .int .u8 m3, .int .u8 m4, .int .u8 m5] := hp ⟨4, .data⟩ (by simp) rfl
            refine ⟨18, #[.agg #[.int .u8 m0, .int .u8 m1, .int .u8 m2, .int .u8 m3, .int .u8 m4, .int .u8 m5]], ?_, calls_fx (HTM.out W) rfl⟩
            simp only [ogMk, Act.put, List.setIfInBounds_toArray, List.set_cons_zero, List.set_cons_succ, Nat.zero_add, Nat.reduceAdd]
            simp [execOp, Act.eval, go_sem, h4]
          · refine OgStep.pure ?_ ?_
            · rfl
            intro u W hS hp
            refine ⟨.pointer (some ⟨w.heap.size, 8, none⟩), ?_, rfl⟩
            simp only [ogMk, Act.put, List.setIfInBounds_toArray, List.set_cons_zero, List.set_cons_succ, Nat.zero_add, Nat.reduceAdd]
            simp [execOp, Act.eval, go_sem]
          · refine OgStep.pure ?_ ?_
            · rfl
            intro u W hS hp
            have h6 : u 6 = .pointer (some ⟨w.heap.size, 8, none⟩) := hp ⟨6, .data⟩ (by simp) rfl
            have X := HBX.out.keep hS HLW.out
            have R := X.c8
            refine ⟨.int .i64 un, ?_, rfl⟩
            simp only [ogMk, Act.put, List.setIfInBounds_toArray, List.set_cons_zero, List.set_cons_succ, Nat.zero_add, Nat.reduceAdd]
            simp [execOp, Act.eval, go_sem, h6, R]
          · refine OgStep.calls ?_ ?_
            · rfl
            intro u W hS hp
            have h7 : u 7 = .int .i64 un := hp ⟨7, .data⟩ (by simp) rfl
            refine ⟨19, #[.int .i64 un], ?_, calls_fx (HDG.out W) rfl⟩
            simp only [ogMk, Act.put, List.setIfInBounds_toArray, List.set_cons_zero, List.set_cons_succ, Nat.zero_add, Nat.reduceAdd]
            simp [execOp, Act.eval, go_sem, h7]
          · refine OgStep.pure ?_ ?_
            · rfl
            intro u W hS hp
            have h2 : u 2 = .string TA := hp ⟨2, .data⟩ (by simp) rfl
            have h5 : u 5 = .string TM := hp ⟨5, .data⟩ (by simp) rfl
            have h8 : u 8 = .string DG := hp ⟨8, .data⟩ (by simp) rfl
            refine ⟨.agg #[.string ⟨#[108, 101, 97, 115, 101]⟩, .string TA, .string TM, .string DG], ?_, rfl⟩
            simp only [ogMk, Act.put, List.setIfInBounds_toArray, List.set_cons_zero, List.set_cons_succ, Nat.zero_add, Nat.reduceAdd]
            simp [execOp, Act.eval, go_sem, h2, h5, h8]
        · intro u W hS hF
          have hF' := hF
          have e0 : u 0 = .pointer (some ⟨w.heap.size, 0, none⟩) := hF 0 (by decide)
          have e1 : u 1 = .int .u32 a := hF 1 (by decide)
          have e2 : u 2 = .string TA := hF 2 (by decide)
          have e3 : u 3 = .pointer (some ⟨w.heap.size, 1, none⟩) := hF 3 (by decide)
          have e4 : u 4 = .agg #[.int .u8 m0, .int .u8 m1, .int .u8 m2, .int .u8 m3, .int .u8 m4, .int .u8 m5] := hF 4 (by decide)
          have e5 : u 5 = .string TM := hF 5 (by decide)
          have e6 : u 6 = .pointer (some ⟨w.heap.size, 8, none⟩) := hF 6 (by decide)
          have e7 : u 7 = .int .i64 un := hF 7 (by decide)
          have e8 : u 8 = .string DG := hF 8 (by decide)
          have e9 : u 9 = .agg #[.string ⟨#[108, 101, 97, 115, 101]⟩, .string TA, .string TM, .string DG] := hF 9 (by decide)
          simp only [ogMk, Act.put, List.setIfInBounds_toArray, List.set_cons_zero, List.set_cons_succ, Nat.zero_add, Nat.reduceAdd]
          rw [e0, e1, e2, e3, e4, e5, e6, e7, e8, e9]
          clear e0 e1 e2 e3 e4 e5 e6 e7 e8 e9 hF
          have d0 := (HT.out.keep hS hb2).c0
          have d1 := (HT.out.keep hS hb2).c1
          have d2 := (HT.out.keep hS hb2).c2
          have d3 := (HT.out.keep hS hb2).c3
          have df := (HT.out.keep hS hb2).f
          have HS := Lib.hid hS
          clear hF' hS
          go_wp2_with fail
          go_meet
          exact Lib.hid (f5_put HT.out HS.out hb2 _ _ _ _)
      case rest =>
        obtain ⟨hT, hB, hb2'⟩ := hcut.out
        replace HBX := Lib.hid (HBX.out.keep hB (by omega))
        replace HR := Lib.hid (HR.out.keep hB (by omega))
        replace HW := Lib.hid (HW.out.trans (hB.mono (by omega)))
        replace HT := Lib.hid hT
        replace HSZ := Lib.hid (show (⟨#[108, 101, 97, 115, 101]⟩ : ByteArray).size ≤ T.size + 100 ∧ TA.size ≤ T.size + 100 ∧ TM.size ≤ T.size + 100 ∧ DG.size ≤ T.size + 100 from ⟨by rw [show (⟨#[108, 101, 97, 115, 101]⟩ : ByteArray).size = 5 from rfl]; omega, by omega, by omega, by omega⟩)
        clear hcut hB hT HEW
        obtain ⟨d0, d1, d2, d3, df⟩ := HT.out
        obtain ⟨r0, r1, r2, r3, rf⟩ := HR.out
        have b9 := HBX.out.c9
        have b10 := HBX.out.c10
        have hne : b ≠ w.heap.size + 1 := by omega
        have hne1 : b ≠ w.heap.size := by omega
        have HQ1 := Lib.hid (show w.heap.size ≤ b by omega)
        have HQ2 := Lib.hid (show w.heap.size ≤ w.heap.size + 1 by omega)
        rcases (show sp = 0 ∨ sp = 1 ∨ sp = 2 ∨ sp = 3 ∨ 4 ≤ sp by omega) with rfl | rfl | rfl | rfl | h4
        · clear HT HR HBX
          go_wp2_with fail
          exact bodyPost_ret (v := .agg #[.string T, .string TA, .string TM, .string DG]) (by simp [results, Tryz.results7, go_sem, d0, d1, d2, d3, r0, r1, r2, r3, hne, hne.symm]) rfl ⟨⟨_, _, _, _, rfl, by (have := HSZ.out; have := HTZ.out; omega)⟩, by with_reducible exact below4 (HW.out.setCell HQ1.out _) HQ2.out _ _ _ _⟩
        · clear HT HR HBX
          go_wp2_with fail
          exact bodyPost_ret (v := .agg #[.string (⟨#[108, 101, 97, 115, 101]⟩), .string T, .string TM, .string DG]) (by simp [results, Tryz.results7, go_sem, d0, d1, d2, d3, r0, r1, r2, r3, hne, hne.symm]) rfl ⟨⟨_, _, _, _, rfl, by (have := HSZ.out; have := HTZ.out; omega)⟩, by with_reducible exact below4 (HW.out.setCell HQ1.out _) HQ2.out _ _ _ _⟩
        · clear HT HR HBX
          go_wp2_with fail
          exact bodyPost_ret (v := .agg #[.string (⟨#[108, 101, 97, 115, 101]⟩), .string TA, .string T, .string DG]) (by simp [results, Tryz.results7, go_sem, d0, d1, d2, d3, r0, r1, r2, r3, hne, hne.symm]) rfl ⟨⟨_, _, _, _, rfl, by (have := HSZ.out; have := HTZ.out; omega)⟩, by with_reducible exact below4 (HW.out.setCell HQ1.out _) HQ2.out _ _ _ _⟩
        · clear HT HR HBX
          go_wp2_with fail
          exact bodyPost_ret (v := .agg #[.string (⟨#[108, 101, 97, 115, 101]⟩), .string TA, .string TM, .string T]) (by simp [results, Tryz.results7, go_sem, d0, d1, d2, d3, r0, r1, r2, r3, hne, hne.symm]) rfl ⟨⟨_, _, _, _, rfl, by (have := HSZ.out; have := HTZ.out; omega)⟩, by with_reducible exact below4 (HW.out.setCell HQ1.out _) HQ2.out _ _ _ _⟩
        · clear HT HR HBX
          go_wp2_with fail
          exact bodyPost_ret (v := .agg #[.string (⟨#[108, 101, 97, 115, 101]⟩), .string TA, .string TM, .string DG]) (by simp [results, Tryz.results7, go_sem, d0, d1, d2, d3, r0, r1, r2, r3, hne, hne.symm]) rfl ⟨⟨_, _, _, _, rfl, by (have := HSZ.out; have := HTZ.out; omega)⟩, by with_reducible exact below4 HW.out HQ2.out _ _ _ _⟩
end Go.Proofs.YthpgmlijfcfddaaGreatDoor
