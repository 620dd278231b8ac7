/-
  Contracts of the prefixes' texts (addr.Right, ParseBlock, BlockText, the statements' own Block), carried from layer 1. Conditions: numbers of 32 bits; Bits from 0 to 32; the library's table of powers of ten lies as its text lays it.
-/
import Derived.Test.YtegbdagmnibfmaaDoorAdAll
namespace Go.Proofs.YtegbdagmnibfmaaDoor.Ad
open Go.RowKit

/-- How many addresses a prefix of b bits has. -/
def p2 (b : Int) : Int := 2 ^ (32 - b).toNat

theorem p2_pos (b : Int) : 0 < p2 b := Int.pow_pos (by decide)

theorem p2_nat (b : Int) : p2 b = ((2 ^ (32 - b).toNat : Nat) : Int) := by unfold p2; rw [Int.natCast_pow]; rfl

theorem p2_le (b : Int) (h : 0 ≤ b) : p2 b ≤ 4294967296 := by
  rw [p2_nat]
  have : 2 ^ (32 - b).toNat ≤ 2 ^ 32 := Nat.pow_le_pow_right (by decide) (by omega)
  omega

theorem p2_succ (b : Int) (h : b < 32) : p2 b = 2 * p2 (b + 1) := by
  unfold p2
  have e : (32 - b).toNat = (32 - (b + 1)).toNat + 1 := by omega
  rw [e, Int.pow_succ, Int.mul_comm]

theorem p2_dvd {a b : Int} (h : a ≤ b) : p2 b ∣ p2 a := by
  rw [p2_nat, p2_nat]
  exact Int.natCast_dvd_natCast.2 (Nat.pow_dvd_pow 2 (by omega))

theorem p2_32 : p2 32 = 1 := by decide
theorem p2_0 : p2 0 = 4294967296 := by decide

theorem mask_val (b : Int) (h : 0 ≤ b) : 4294967295 * 2 ^ (32 - b).toNat % 4294967296 = 4294967296 - p2 b := by
  have h1 := p2_pos b
  have h2 := p2_le b h
  show 4294967295 * p2 b % 4294967296 = 4294967296 - p2 b
  omega

theorem and_hi (n a : Nat) (hn : n ≤ 32) (ha : a < 2 ^ 32) : a &&& (2 ^ 32 - 2 ^ n) = a - a % 2 ^ n := by
  have e1 : 2 ^ 32 - 2 ^ n = (2 ^ (32 - n) - 1) <<< n := by
    rw [Nat.shiftLeft_eq, Nat.sub_mul, Nat.one_mul, ← Nat.pow_add]
    congr 2; omega
  have e2 : a - a % 2 ^ n = (a >>> n) <<< n := by
    rw [Nat.shiftLeft_eq, Nat.shiftRight_eq_div_pow]
    have := Nat.div_add_mod a (2 ^ n)
    rw [Nat.mul_comm] at this
    omega
  rw [e1, e2]
  apply Nat.eq_of_testBit_eq
  intro i
  rw [Nat.testBit_and, Nat.testBit_shiftLeft, Nat.testBit_shiftLeft, Nat.testBit_two_pow_sub_one, Nat.testBit_shiftRight]
  by_cases hi : n ≤ i
  · have e : n + (i - n) = i := by omega
    rw [e]
    by_cases h32 : i < 32
    · have : i - n < 32 - n := by omega
      simp [hi, this]
    · have : a.testBit i = false := Nat.testBit_lt_two_pow (Nat.lt_of_lt_of_le ha (Nat.pow_le_pow_right (by decide) (by omega)))
      simp [this]
  · simp [hi]

theorem and_mask (a b : Int) (h0 : 0 ≤ a) (h1 : a < 4294967296) (hb0 : 0 ≤ b) (hb1 : b ≤ 32) : bits .and .u32 a (4294967296 - p2 b) = a - a % p2 b := by
  have q1 := p2_pos b
  have q2 := p2_le b hb0
  rw [u32_and a _ h0 h1 (by omega) (by omega)]
  obtain ⟨n, rfl⟩ := Int.eq_ofNat_of_zero_le h0
  rw [p2_nat] at q2 ⊢
  generalize hk : (32 - b).toNat = k at *
  have e : (4294967296 - ((2 ^ k : Nat) : Int)).toNat = 2 ^ 32 - 2 ^ k := by omega
  rw [e, Int.toNat_natCast, and_hi k n (by omega) (by omega)]
  have := Nat.mod_le n (2 ^ k)
  omega

theorem andNot_mask (a b : Int) (h0 : 0 ≤ a) (h1 : a < 4294967296) (hb0 : 0 ≤ b) : bits .andNot .u32 a (4294967296 - p2 b) = a % p2 b := by
  have q1 := p2_pos b
  have q2 := p2_le b hb0
  rw [u32_andNot a _ h0 h1 (by omega) (by omega)]
  obtain ⟨n, rfl⟩ := Int.eq_ofNat_of_zero_le h0
  rw [p2_nat] at q1 q2 ⊢
  generalize hk : (32 - b).toNat = k at *
  have e : 4294967295 - (4294967296 - ((2 ^ k : Nat) : Int)).toNat = 2 ^ k - 1 := by omega
  rw [e, Int.toNat_natCast, Nat.and_two_pow_sub_one_eq_mod]
  omega

theorem or_half (a b : Int) (h0 : 0 ≤ a) (h1 : a < 4294967296) (hb0 : 0 ≤ b) (hb1 : b < 32) (hd : a % p2 b = 0) : bits .or .u32 a (p2 (b + 1)) = a + p2 (b + 1) := by
  have q1 := p2_pos (b + 1)
  have q2 := p2_le (b + 1) (by omega)
  have q3 := p2_le b hb0
  have q4 := p2_succ b hb1
  rw [u32_or a _ h0 h1 (by omega) (by omega)]
  obtain ⟨n, rfl⟩ := Int.eq_ofNat_of_zero_le h0
  have e2 : (32 - b).toNat = (32 - (b + 1)).toNat + 1 := by omega
  rw [p2_nat] at hd
  rw [e2] at hd
  rw [p2_nat]
  rw [Int.toNat_natCast, Int.toNat_natCast, nat_join ((32 - (b + 1)).toNat + 1) n _ (by omega) (Nat.pow_lt_pow_right (by decide) (by omega))]
  rfl

/-- Whether a prefix is one. -/
def okB (base b : Int) : Bool := decide (0 ≤ b ∧ b ≤ 32 ∧ base % p2 b = 0)

theorem ok_iff {base b : Int} : okB base b = true ↔ 0 ≤ b ∧ b ≤ 32 ∧ base % p2 b = 0 := by simp [okB]
theorem ok_out {base b : Int} (h : okB base b = true) : 0 ≤ b ∧ b ≤ 32 ∧ base % p2 b = 0 := ok_iff.1 h
theorem ok_not {base b : Int} (h : okB base b = false) (h0 : 0 ≤ b) (h1 : b ≤ 32) : base % p2 b ≠ 0 := fun e => by
  have := ok_iff.2 ⟨h0, h1, e⟩
  rw [h] at this; cases this
theorem ret_bool {a b : Bool} (h : a = b) : Ending.returned (.bool a) = .returned (.bool b) := by rw [h]
theorem ret_int {k : IntKind} {a b : Int} (h : a = b) : Ending.returned (.int k a) = .returned (.int k b) := by rw [h]
theorem bdrewN {B : Nat} {a w : World} (h : Below B a w) (n : Nat) : Below B a (w.drewN n) := h.trans ⟨rfl, rfl, rfl, Nat.le_refl _, fun _ _ => rfl⟩
theorem mask_any (b : Int) (w : World) (h0 : 0 ≤ b) (_h1 : b ≤ 32) :
    Calls Tryd.prog 57 #[.int .i64 b] w fun e w' => e = .returned (.int .u32 (4294967296 - p2 b)) ∧ w' = w := by
  have H := Lib.hid (mask_val b h0)
  go_enter Tryd.func57, Tryd.ntmps57
  go_wp2
  go_ret
  exact ⟨by rw [← H.out]; rfl, rfl⟩
theorem rightBits_yes (b : Int) (w : World) (h0 : 0 ≤ b) (h1 : b ≤ 32) : Calls Tryd.prog 56 #[.int .i64 b] w fun e w' => e = .returned (.bool true) ∧ w' = w := by
  go_enter Tryd.func56, Tryd.ntmps56
  go_wp2
  go_ret
  exact ⟨by simp, rfl⟩
theorem rightBits_no (b : Int) (w : World) (h : ¬ (0 ≤ b ∧ b ≤ 32)) : Calls Tryd.prog 56 #[.int .i64 b] w fun e w' => e = .returned (.bool false) ∧ w' = w := by
  by_cases h0 : 0 ≤ b
  · have h1 : 32 < b := by omega
    clear h
    go_enter Tryd.func56, Tryd.ntmps56
    go_wp2
    go_ret
    exact ⟨by simp; omega, rfl⟩
  · clear h
    go_enter Tryd.func56, Tryd.ntmps56
    go_wp2
    go_ret
    exact ⟨rfl, rfl⟩
theorem right_any (a b : Int) (w : World) (ha0 : 0 ≤ a) (ha1 : a < 4294967296) :
    Calls Tryd.prog 43 #[.agg #[.int .u32 a, .int .i64 b]] w fun e w' => e = .returned (.bool (okB a b)) ∧ Below w.heap.size w w' := by
  by_cases h : 0 ≤ b ∧ b ≤ 32
  · obtain ⟨h0, h1⟩ := h
    have H := Lib.hid (andNot_mask a b ha0 ha1 h0)
    go_enter Tryd.func43, Tryd.ntmps43
    go_wp2
    go_quiet (first | (go_at_call 56; exact Calls.quiet_of_same (rightBits_yes _ _ h0 h1)) | (go_at_call 57; exact Calls.quiet_of_same (mask_any _ _ h0 h1)))
    go_wp2
    go_ret
    refine ⟨ret_bool ?_, bdrewN ((Below.refl _ w).alloc (Nat.le_refl _) _) nq⟩
    rw [H.out, Bool.eq_iff_iff, ok_iff]
    simp [h0, h1]
  · have e : okB a b = false := by
      cases e : okB a b
      · rfl
      · exact absurd ⟨(ok_out e).1, (ok_out e).2.1⟩ h
    rw [e]
    clear e
    go_enter Tryd.func43, Tryd.ntmps43
    go_wp2
    go_quiet ((go_at_call 56; exact Calls.quiet_of_same (rightBits_no _ _ h)))
    go_wp2
    go_ret
    exact ⟨rfl, bdrewN ((Below.refl _ w).alloc (Nat.le_refl _) _) nq⟩
theorem right_yes (a b : Int) (w : World) (ha0 : 0 ≤ a) (ha1 : a < 4294967296) (h : okB a b = true) :
    Calls Tryd.prog 43 #[.agg #[.int .u32 a, .int .i64 b]] w fun e w' => e = .returned (.bool true) ∧ Below w.heap.size w w' := by
  have := right_any a b w ha0 ha1; rwa [h] at this
theorem right_no (a b : Int) (w : World) (ha0 : 0 ≤ a) (ha1 : a < 4294967296) (h : okB a b = false) :
    Calls Tryd.prog 43 #[.agg #[.int .u32 a, .int .i64 b]] w fun e w' => e = .returned (.bool false) ∧ Below w.heap.size w w' := by
  have := right_any a b w ha0 ha1; rwa [h] at this

theorem boxed (a b : Int) (w : World) : (w.alloc (.cells #[.int .u32 a, .int .i64 b] 36)).cell? ⟨w.heap.size, 0, none⟩ = some (.int .u32 a) ∧ (w.alloc (.cells #[.int .u32 a, .int .i64 b] 36)).cell? ⟨w.heap.size, 1, none⟩ = some (.int .i64 b) := ⟨by go_simp, by go_simp⟩

theorem below_box (a b : Int) (w : World) (dq : Nat) (osq : Array Obj) : Below w.heap.size w (Sort.grow (redrawn (w.alloc (.cells #[.int .u32 a, .int .i64 b] 36)) dq) osq) :=
  (((Below.refl _ w).alloc (Nat.le_refl _) _)).trans ((below_regrown _ dq osq).mono (by simp))

theorem block_val (a n : Int) (ha0 : 0 ≤ a) (ha1 : a < 4294967296) : a / 2 ^ (32 - (20 + n % 13)).toNat * 2 ^ (32 - (20 + n % 13)).toNat % 4294967296 = a - a % p2 (20 + n % 13) := by
  show a / p2 (20 + n % 13) * p2 (20 + n % 13) % 4294967296 = a - a % p2 (20 + n % 13)
  have h1 := Int.mul_ediv_add_emod a (p2 (20 + n % 13))
  have h2 := Int.emod_nonneg a (Int.ne_of_gt (p2_pos (20 + n % 13)))
  have h3 : 0 ≤ p2 (20 + n % 13) * (a / p2 (20 + n % 13)) := Int.mul_nonneg (Int.le_of_lt (p2_pos _)) (Int.ediv_nonneg ha0 (Int.le_of_lt (p2_pos _)))
  rw [Int.mul_comm]
  omega
theorem block_any (a n : Int) (w : World) (ha0 : 0 ≤ a) (ha1 : a < 4294967296) (h0 : 0 ≤ n) (h1 : n < 256) :
    Calls Tryd.prog 35 #[.int .u32 a, .int .u8 n] w fun e w' => e = .returned (.agg #[.int .u32 (a - a % p2 (20 + n % 13)), .int .i64 (20 + n % 13)]) ∧ Below w.heap.size w w' := by
  have HV := Lib.hid (block_val a n ha0 ha1)
  go_enter Tryd.func35, Tryd.ntmps35
  go_wp2_with fail
  rw [HV.out]
  exact bodyPost_ret (v := .agg #[.int .u32 (a - a % p2 (20 + n % 13)), .int .i64 (20 + n % 13)]) (by simp [results, Tryd.results35, go_sem]) rfl ⟨rfl, (Below.refl _ _).alloc (Nat.le_refl _) _⟩
theorem set2 {B k : Nat} {w w1 : World} (h : Below B w w1) (hk : B ≤ k) (v0 v1 : Value) : Below B w ((w1.setCell ⟨k, 0, none⟩ v0).setCell ⟨k, 1, none⟩ v1) :=
  (h.setCell (p := ⟨k, 0, none⟩) hk v0).setCell (p := ⟨k, 1, none⟩) hk v1

/-- What ParseBlock returns. -/
def pblO (l : List UInt8) : Option (Int × Int) :=
  match parseO (cutL 47 l).1 with
  | none => none
  | some a =>
    match numO 32 (cutL 47 l).2.1 with
    | none => none
    | some b => if okB a b = true then some (a, b) else none
def pblV : Option (Int × Int) → Value
  | some (a, b) => .tuple #[.agg #[.int .u32 a, .int .i64 b], .bool true]
  | none => .tuple #[.agg #[.int .u32 0, .int .i64 0], .bool false]

set_option maxHeartbeats 1000000 in
theorem parseBlock_any (s : ByteArray) (w : World) (hs : s.size ≤ maxLen) :
    Calls Tryd.prog 28 #[.string s] w fun e w' => e = .returned (pblV (pblO s.data.toList)) ∧ Below w.heap.size w w' := by
  obtain ⟨x, y, t, hx, hy, hL, HC⟩ : ∃ (x y : ByteArray) (t : Bool), x.size ≤ maxLen ∧ y.size ≤ maxLen ∧ cutL 47 s.data.toList = (x.data.toList, y.data.toList, t) ∧ ∀ W, Calls Tryd.prog 41 #[.string s, .string ⟨#[47]⟩] W fun e w' => e = .returned (.tuple #[.string x, .string y, .bool t]) ∧ Below W.heap.size W w' := by
    rcases cut_cases s 47 with ⟨hx, hL⟩ | ⟨i, hx, hi, hL⟩
    · exact ⟨s, ⟨#[]⟩, false, hs, Nat.zero_le _, hL, fun W => cut_miss s 47 W hx⟩
    · exact ⟨_, _, true, by rw [ByteArray.size_extract]; omega, by rw [ByteArray.size_extract]; omega, hL, fun W => cut_hit s 47 i W hx hi hs⟩
  have HC := Lib.hid HC
  have HP := Lib.hid fun W => parse_any x W hx
  cases hO : parseO x.data.toList with
  | none =>
    have HR := Lib.hid (show pblO s.data.toList = none by simp only [pblO, hL, hO])
    rw [hO] at HP
    clear hO hL
    go_enter Tryd.func28, Tryd.ntmps28
    go_wp2_with fail
    refine (HC.out _).mono ?_
    rintro e w1 ⟨rfl, hb1⟩
    have HB1 := Lib.hid (((Below.refl _ w).alloc (Nat.le_refl _) _).trans (hb1.mono (by simp)))
    obtain ⟨hc1, hf1⟩ := bcell hb1
    have hz1 : w.heap.size < w1.heap.size := by have := hb1.size; simp at this; omega
    clear hb1
    go_wp2_with fail
    refine (HP.out _).mono ?_
    rintro e w2 ⟨rfl, hb2⟩
    simp only [parseV]
    have HB2 := Lib.hid (HB1.out.trans (hb2.mono HB1.out.size))
    obtain ⟨hc2, hf2⟩ := bcell hb2
    have hz2 : w.heap.size < w2.heap.size := by have := hb2.size; omega
    clear hb2
    go_wp2_with fail
    exact bodyPost_ret (v := .tuple #[.agg #[.int .u32 0, .int .i64 0], .bool false]) (by simp [results, Tryd.results28, go_sem, hc1, hc2, hz1]) rfl ⟨by rw [HR.out]; rfl, set2 HB2.out (Nat.le_refl _) _ _⟩
  | some a =>
    obtain ⟨ha0, ha1⟩ := parseO_bd hO
    rw [hO] at HP
    have HN := Lib.hid fun W => number_any y 32 W hy (by decide) (by decide)
    cases hN : numO 32 y.data.toList with
    | none =>
      have HR := Lib.hid (show pblO s.data.toList = none by simp only [pblO, hL, hO, hN])
      rw [hN] at HN
      clear hO hL hN
      go_enter Tryd.func28, Tryd.ntmps28
      go_wp2_with fail
      refine (HC.out _).mono ?_
      rintro e w1 ⟨rfl, hb1⟩
      have HB1 := Lib.hid (((Below.refl _ w).alloc (Nat.le_refl _) _).trans (hb1.mono (by simp)))
      obtain ⟨hc1, hf1⟩ := bcell hb1
      have hz1 : w.heap.size < w1.heap.size := by have := hb1.size; simp at this; omega
      clear hb1
      go_wp2_with fail
      refine (HP.out _).mono ?_
      rintro e w2 ⟨rfl, hb2⟩
      simp only [parseV]
      have HB2 := Lib.hid (HB1.out.trans (hb2.mono HB1.out.size))
      obtain ⟨hc2, hf2⟩ := bcell hb2
      have hz2 : w.heap.size < w2.heap.size := by have := hb2.size; omega
      clear hb2
      go_wp2_with fail
      refine (HN.out _).mono ?_
      rintro e w3 ⟨rfl, rfl⟩
      simp only [numV]
      go_wp2_with fail
      exact bodyPost_ret (v := .tuple #[.agg #[.int .u32 0, .int .i64 0], .bool false]) (by simp [results, Tryd.results28, go_sem, hc1, hc2, hz1]) rfl ⟨by rw [HR.out]; rfl, set2 HB2.out (Nat.le_refl _) _ _⟩
    | some b =>
      rw [hN] at HN
      cases hK : okB a b
      · have HR := Lib.hid (show pblO s.data.toList = none by simp [pblO, hL, hO, hN, hK])
        have HK := Lib.hid fun W => right_no a b W ha0 ha1 hK
        clear hO hL hN hK
        go_enter Tryd.func28, Tryd.ntmps28
        go_wp2_with fail
        refine (HC.out _).mono ?_
        rintro e w1 ⟨rfl, hb1⟩
        have HB1 := Lib.hid (((Below.refl _ w).alloc (Nat.le_refl _) _).trans (hb1.mono (by simp)))
        obtain ⟨hc1, hf1⟩ := bcell hb1
        have hz1 : w.heap.size < w1.heap.size := by have := hb1.size; simp at this; omega
        clear hb1
        go_wp2_with fail
        refine (HP.out _).mono ?_
        rintro e w2 ⟨rfl, hb2⟩
        simp only [parseV]
        have HB2 := Lib.hid (HB1.out.trans (hb2.mono HB1.out.size))
        obtain ⟨hc2, hf2⟩ := bcell hb2
        have hz2 : w.heap.size < w2.heap.size := by have := hb2.size; omega
        clear hb2
        go_wp2_with fail
        refine (HN.out _).mono ?_
        rintro e w3 ⟨rfl, rfl⟩
        simp only [numV]
        go_wp2_with fail
        have hz4 : w.heap.size < w3.heap.size + 1 := by omega
        refine (HK.out _).mono ?_
        rintro e w4 ⟨rfl, hb4⟩
        have HB4 := Lib.hid ((HB2.out.alloc HB2.out.size _).trans (hb4.mono (by have := HB2.out.size; simp; omega)))
        obtain ⟨hc4, hf4⟩ := bcell hb4
        clear hb4
        go_wp2_with fail
        exact bodyPost_ret (v := .tuple #[.agg #[.int .u32 0, .int .i64 0], .bool false]) (by simp [results, Tryd.results28, go_sem, hc1, hc2, hc4, hz1, hz2, hz4]) rfl ⟨by rw [HR.out]; rfl, set2 HB4.out (Nat.le_refl _) _ _⟩
      · have HR := Lib.hid (show pblO s.data.toList = some (a, b) by simp [pblO, hL, hO, hN, hK])
        have HK := Lib.hid fun W => right_yes a b W ha0 ha1 hK
        clear hO hL hN hK
        go_enter Tryd.func28, Tryd.ntmps28
        go_wp2_with fail
        refine (HC.out _).mono ?_
        rintro e w1 ⟨rfl, hb1⟩
        have HB1 := Lib.hid (((Below.refl _ w).alloc (Nat.le_refl _) _).trans (hb1.mono (by simp)))
        obtain ⟨hc1, hf1⟩ := bcell hb1
        have hz1 : w.heap.size < w1.heap.size := by have := hb1.size; simp at this; omega
        clear hb1
        go_wp2_with fail
        refine (HP.out _).mono ?_
        rintro e w2 ⟨rfl, hb2⟩
        simp only [parseV]
        have HB2 := Lib.hid (HB1.out.trans (hb2.mono HB1.out.size))
        obtain ⟨hc2, hf2⟩ := bcell hb2
        have hz2 : w.heap.size < w2.heap.size := by have := hb2.size; omega
        clear hb2
        go_wp2_with fail
        refine (HN.out _).mono ?_
        rintro e w3 ⟨rfl, rfl⟩
        simp only [numV]
        go_wp2_with fail
        have hz4 : w.heap.size < w3.heap.size + 1 := by omega
        refine (HK.out _).mono ?_
        rintro e w4 ⟨rfl, hb4⟩
        have HB4 := Lib.hid ((HB2.out.alloc HB2.out.size _).trans (hb4.mono (by have := HB2.out.size; simp; omega)))
        obtain ⟨hc4, hf4⟩ := bcell hb4
        clear hb4
        go_wp2_with fail
        exact bodyPost_ret (v := .tuple #[.agg #[.int .u32 a, .int .i64 b], .bool true]) (by simp [results, Tryd.results28, go_sem, hc1, hc2, hc4, hz1, hz2, hz4]) rfl ⟨by rw [HR.out]; rfl, set2 HB4.out (Nat.le_refl _) _ _⟩
theorem textL_len (a : Int) (h1 : a < 4294967296) : (textL a).length ≤ 15 := by
  have d1 := dig_len (n := a / 16777216) (by omega)
  have d2 := dig_len (n := a / 65536 % 256) (by omega)
  have d3 := dig_len (n := a / 256 % 256) (by omega)
  have d4 := dig_len (n := a % 256) (by omega)
  unfold textL
  simp
  omega

set_option maxHeartbeats 1000000 in
theorem blockText_any (a b : Int) (w : World) (h0 : 0 ≤ a) (h1 : a < 4294967296) (h2 : 0 ≤ b) (h3 : b ≤ 32) (ht : Tab w) :
    Calls Tryd.prog 17 #[.agg #[.int .u32 a, .int .i64 b]] w fun e w' => e = .returned (.string ⟨(textL a ++ 47 :: dig b).toArray⟩) ∧ Below w.heap.size w w' := by
  have k0 := cell_regrown (boxed a b w).1
  have k1 := cell_regrown (boxed a b w).2
  have HT1 := ht.below ((Below.refl _ w).alloc (Nat.le_refl _) (.cells #[.int .u32 a, .int .i64 b] 36))
  have CT := Lib.hid fun (d : Nat) (os : Array Obj) => Calls.regrown_of (text_any a (Sort.grow (redrawn (w.alloc (.cells #[.int .u32 a, .int .i64 b] 36)) d) os) h0 h1 (HT1.below (below_regrown _ d os)))
  have CI := Lib.hid fun (d : Nat) (os : Array Obj) => Calls.regrown_of (itoa_any b (Sort.grow (redrawn (w.alloc (.cells #[.int .u32 a, .int .i64 b] 36)) d) os) h2 (by omega) (HT1.below (below_regrown _ d os)))
  have d1 := textL_len a h1
  have d2 := dig_len (n := b) (by omega)
  generalize textL a = l1 at *
  generalize dig b = l2 at *
  have n1 : ¬ 9223372036854775807 < l1.length + 1 := by omega
  have n2 : ¬ 9223372036854775807 < l1.length + 1 + l2.length := by omega
  clear ht HT1
  go_enter Tryd.func17, Tryd.ntmps17
  go_wp2
  refine wp_region_quiet_below (by kernel_rfl) (by kernel_rfl) ?_
  repeat (go_big_quiet_step (first | (go_at_call 16; exact CT.out _ _) | (go_at_call 39; exact CI.out _ _)))
  refine wpQuiet_nil ?_
  intro _ hw'
  obtain ⟨⟨dq, osq⟩, hw''⟩ := hw'
  subst hw''
  go_wp2
  go_ret
  refine ⟨?_, below_box a b w dq osq⟩
  exact ret_str (by rw [show (⟨#[47]⟩ : ByteArray) = ⟨[47].toArray⟩ from rfl]; simp only [cat]; simp)
end Go.Proofs.YtegbdagmnibfmaaDoor.Ad
