/-
  Plain arithmetic of addresses and prefixes: the powers of two by which a prefix masks an address, and what 'and', 'and not', 'or' and the shifts of 32 bits come to at them. No condition but the bounds that each theorem names.
-/
import Derived.Laws.BitsAllLaws
namespace Go.Proofs.Ytenolbgadlehpaa

/-- How many addresses a prefix of b bits has. -/
def p2 (b : Int) : Int := 2 ^ (32 - b).toNat

theorem p2_pos (b : Int) : 0 < p2 b := Int.pow_pos (by decide)

theorem p2_nat (b : Int) : p2 b = ((2 ^ (32 - b).toNat : Nat) : Int) := by unfold p2; rw [Int.natCast_pow]; rfl

theorem p2_le (b : Int) (h : 0 ≤ b) : p2 b ≤ 4294967296 := by
  rw [p2_nat]
  have : 2 ^ (32 - b).toNat ≤ 2 ^ 32 := Nat.pow_le_pow_right (by decide) (by omega)
  omega

theorem p2_succ (b : Int) (h : b < 32) : p2 b = 2 * p2 (b + 1) := by
  unfold p2
  have e : (32 - b).toNat = (32 - (b + 1)).toNat + 1 := by omega
  rw [e, Int.pow_succ, Int.mul_comm]

theorem p2_dvd {a b : Int} (h : a ≤ b) : p2 b ∣ p2 a := by
  rw [p2_nat, p2_nat]
  exact Int.natCast_dvd_natCast.2 (Nat.pow_dvd_pow 2 (by omega))

theorem p2_32 : p2 32 = 1 := by decide
theorem p2_0 : p2 0 = 4294967296 := by decide

theorem mask_val (b : Int) (h : 0 ≤ b) : 4294967295 * 2 ^ (32 - b).toNat % 4294967296 = 4294967296 - p2 b := by
  have h1 := p2_pos b
  have h2 := p2_le b h
  show 4294967295 * p2 b % 4294967296 = 4294967296 - p2 b
  omega

theorem and_hi (n a : Nat) (hn : n ≤ 32) (ha : a < 2 ^ 32) : a &&& (2 ^ 32 - 2 ^ n) = a - a % 2 ^ n := by
  have e1 : 2 ^ 32 - 2 ^ n = (2 ^ (32 - n) - 1) <<< n := by
    rw [Nat.shiftLeft_eq, Nat.sub_mul, Nat.one_mul, ← Nat.pow_add]
    congr 2; omega
  have e2 : a - a % 2 ^ n = (a >>> n) <<< n := by
    rw [Nat.shiftLeft_eq, Nat.shiftRight_eq_div_pow]
    have := Nat.div_add_mod a (2 ^ n)
    rw [Nat.mul_comm] at this
    omega
  rw [e1, e2]
  apply Nat.eq_of_testBit_eq
  intro i
  rw [Nat.testBit_and, Nat.testBit_shiftLeft, Nat.testBit_shiftLeft, Nat.testBit_two_pow_sub_one, Nat.testBit_shiftRight]
  by_cases hi : n ≤ i
  · have e : n + (i - n) = i := by omega
    rw [e]
    by_cases h32 : i < 32
    · have : i - n < 32 - n := by omega
      simp [hi, this]
    · have : a.testBit i = false := Nat.testBit_lt_two_pow (Nat.lt_of_lt_of_le ha (Nat.pow_le_pow_right (by decide) (by omega)))
      simp [this]
  · simp [hi]

theorem and_mask (a b : Int) (h0 : 0 ≤ a) (h1 : a < 4294967296) (hb0 : 0 ≤ b) (hb1 : b ≤ 32) : bits .and .u32 a (4294967296 - p2 b) = a - a % p2 b := by
  have q1 := p2_pos b
  have q2 := p2_le b hb0
  rw [u32_and a _ h0 h1 (by omega) (by omega)]
  obtain ⟨n, rfl⟩ := Int.eq_ofNat_of_zero_le h0
  rw [p2_nat] at q2 ⊢
  generalize hk : (32 - b).toNat = k at *
  have e : (4294967296 - ((2 ^ k : Nat) : Int)).toNat = 2 ^ 32 - 2 ^ k := by omega
  rw [e, Int.toNat_natCast, and_hi k n (by omega) (by omega)]
  have := Nat.mod_le n (2 ^ k)
  omega

theorem andNot_mask (a b : Int) (h0 : 0 ≤ a) (h1 : a < 4294967296) (hb0 : 0 ≤ b) : bits .andNot .u32 a (4294967296 - p2 b) = a % p2 b := by
  have q1 := p2_pos b
  have q2 := p2_le b hb0
  rw [u32_andNot a _ h0 h1 (by omega) (by omega)]
  obtain ⟨n, rfl⟩ := Int.eq_ofNat_of_zero_le h0
  rw [p2_nat] at q1 q2 ⊢
  generalize hk : (32 - b).toNat = k at *
  have e : 4294967295 - (4294967296 - ((2 ^ k : Nat) : Int)).toNat = 2 ^ k - 1 := by omega
  rw [e, Int.toNat_natCast, Nat.and_two_pow_sub_one_eq_mod]
  omega

theorem or_half (a b : Int) (h0 : 0 ≤ a) (h1 : a < 4294967296) (hb0 : 0 ≤ b) (hb1 : b < 32) (hd : a % p2 b = 0) : bits .or .u32 a (p2 (b + 1)) = a + p2 (b + 1) := by
  have q1 := p2_pos (b + 1)
  have q2 := p2_le (b + 1) (by omega)
  have q3 := p2_le b hb0
  have q4 := p2_succ b hb1
  rw [u32_or a _ h0 h1 (by omega) (by omega)]
  obtain ⟨n, rfl⟩ := Int.eq_ofNat_of_zero_le h0
  have e2 : (32 - b).toNat = (32 - (b + 1)).toNat + 1 := by omega
  rw [p2_nat] at hd
  rw [e2] at hd
  rw [p2_nat]
  rw [Int.toNat_natCast, Int.toNat_natCast, nat_join ((32 - (b + 1)).toNat + 1) n _ (by omega) (Nat.pow_lt_pow_right (by decide) (by omega))]
  rfl

/-- Whether a prefix is one. -/
def okB (base b : Int) : Bool := decide (0 ≤ b ∧ b ≤ 32 ∧ base % p2 b = 0)

theorem ok_iff {base b : Int} : okB base b = true ↔ 0 ≤ b ∧ b ≤ 32 ∧ base % p2 b = 0 := by simp [okB]
theorem ok_out {base b : Int} (h : okB base b = true) : 0 ≤ b ∧ b ≤ 32 ∧ base % p2 b = 0 := ok_iff.1 h
theorem ok_not {base b : Int} (h : okB base b = false) (h0 : 0 ≤ b) (h1 : b ≤ 32) : base % p2 b ≠ 0 := fun e => by
  have := ok_iff.2 ⟨h0, h1, e⟩
  rw [h] at this; cases this
end Go.Proofs.Ytenolbgadlehpaa
