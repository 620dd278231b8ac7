/-
  The plain numbers of layer 4: the sum of words (tot, can) and the register of 32 bits (st, sts, reg), over lists of bytes. No condition but those that each lemma says.
-/
import Derived.Laws.BitsAllLaws
namespace Go.Proofs.Ytjkfgdeiciligaa

/-! ### the register -/
/-- One bit shifted out. -/
def st (r : Nat) : Nat := if r % 2 = 1 then (r / 2) ^^^ 2197175160 else r / 2
/-- k bits shifted out. -/
def sts : Nat → Nat → Nat
  | 0, r => r
  | k + 1, r => st (sts k r)

theorem xor_half (a b : Nat) : (a ^^^ b) / 2 = (a / 2) ^^^ (b / 2) := by
  apply Nat.eq_of_testBit_eq
  intro i
  rw [Nat.testBit_xor, Nat.testBit_div_two, Nat.testBit_div_two, Nat.testBit_div_two, Nat.testBit_xor]
theorem xor_odd (a b : Nat) : (a ^^^ b) % 2 = (a % 2 + b % 2) % 2 := by
  have h : (a ^^^ b) % 2 = (a % 2) ^^^ (b % 2) := Nat.xor_mod_two_pow (n := 1)
  rw [h]
  rcases Nat.mod_two_eq_zero_or_one a with ha | ha <;> rcases Nat.mod_two_eq_zero_or_one b with hb | hb <;> rw [ha, hb] <;> rfl

theorem xor4 (a b c d : Nat) : (a ^^^ b) ^^^ (c ^^^ d) = (a ^^^ c) ^^^ (b ^^^ d) := by
  rw [Nat.xor_assoc, ← Nat.xor_assoc b, Nat.xor_comm b c, Nat.xor_assoc c, ← Nat.xor_assoc]
theorem st_lt {r : Nat} (h : r < 4294967296) : st r < 4294967296 := by
  unfold st
  split
  · exact Nat.xor_lt_two_pow (n := 32) (by omega) (by omega)
  · omega
theorem st_xor (a b : Nat) : st (a ^^^ b) = st a ^^^ st b := by
  unfold st
  rw [xor_half, xor_odd]
  rcases Nat.mod_two_eq_zero_or_one a with ha | ha <;> rcases Nat.mod_two_eq_zero_or_one b with hb | hb <;> rw [ha, hb]
  · simp
  · simp [Nat.xor_assoc]
  · simp only [Nat.add_zero, Nat.reduceMod, if_true, Nat.zero_ne_one, if_false]
    rw [Nat.xor_assoc, Nat.xor_comm (b / 2), Nat.xor_assoc]
  · simp only [Nat.reduceAdd, Nat.reduceMod, if_true, Nat.zero_ne_one, if_false]
    rw [xor4, Nat.xor_self, Nat.xor_zero]
theorem st_zero {x : Nat} (h : x < 4294967296) (e : st x = 0) : x = 0 := by
  unfold st at e
  split at e
  · have : x / 2 = 2197175160 := by
      have k := congrArg (· ^^^ 2197175160) e
      simpa [Nat.xor_assoc, Nat.xor_self] using k
    omega
  · omega
theorem sts_lt : ∀ (k : Nat) {r : Nat}, r < 4294967296 → sts k r < 4294967296
  | 0, _, h => h
  | k + 1, _, h => st_lt (sts_lt k h)
theorem sts_xor : ∀ (k a b : Nat), sts k (a ^^^ b) = sts k a ^^^ sts k b
  | 0, _, _ => rfl
  | k + 1, a, b => by rw [sts, sts_xor k, st_xor]; rfl
theorem sts_zero : ∀ (k : Nat) {x : Nat}, x < 4294967296 → sts k x = 0 → x = 0
  | 0, _, _, e => e
  | k + 1, _, h, e => sts_zero k h (st_zero (sts_lt k h) e)
theorem sts_succ (k r : Nat) : sts (k + 1) r = sts k (st r) := by
  induction k with
  | zero => rfl
  | succ k ih => rw [sts, ih]; rfl
theorem st_even (y : Nat) : st (2 * y) = y := by
  unfold st
  rw [if_neg (by omega)]
  omega
theorem sts_even : ∀ (k y : Nat), sts k (2 ^ k * y) = y
  | 0, y => by rw [sts]; omega
  | k + 1, y => by rw [sts_succ, show 2 ^ (k + 1) * y = 2 * (2 ^ k * y) by rw [Nat.pow_succ]; rw [Nat.mul_comm (2 ^ k) 2, Nat.mul_assoc], st_even, sts_even k y]
theorem parts (x : Nat) : x = (x % 256) ^^^ (2 ^ 8 * (x / 256)) := by
  have h := nat_join 8 (2 ^ 8 * (x / 256)) (x % 256) (Nat.mul_mod_right _ _) (Nat.mod_lt _ (by omega))
  have e : (x % 256) ^^^ (2 ^ 8 * (x / 256)) = 2 ^ 8 * (x / 256) ||| x % 256 := by
    apply Nat.eq_of_testBit_eq
    intro i
    rw [Nat.testBit_xor, Nat.testBit_or, show (256 : Nat) = 2 ^ 8 from rfl, Nat.testBit_mod_two_pow, Nat.testBit_two_pow_mul]
    by_cases hi : i < 8
    · simp [hi, show ¬ 8 ≤ i by omega]
    · simp [hi]
  rw [e, h]
  omega
theorem sts_eight (x : Nat) : sts 8 x = sts 8 (x % 256) ^^^ (x / 256) := by
  conv => lhs; rw [parts x]
  rw [sts_xor, sts_even]
theorem xor_high (n c : Nat) (h : c < 256) : (n ^^^ c) / 256 = n / 256 := by
  have e : (n ^^^ c) / 2 ^ 8 = (n / 2 ^ 8) ^^^ (c / 2 ^ 8) := by
    apply Nat.eq_of_testBit_eq
    intro i
    rw [Nat.testBit_xor, Nat.testBit_div_two_pow, Nat.testBit_div_two_pow, Nat.testBit_div_two_pow, Nat.testBit_xor]
  have z : c / 2 ^ 8 = 0 := by omega
  rw [z, Nat.xor_zero] at e
  exact e

/-- The register behind the first k bytes. -/
def reg (zs : List Nat) : Nat → Nat
  | 0 => 4294967295
  | k + 1 => sts 8 (reg zs k ^^^ zs.getD k 0)
/-- The sum of 32 bits. -/
def chk (zs : List Nat) : Nat := reg zs zs.length ^^^ 4294967295
/-- They are bytes. -/
def Bs (zs : List Nat) : Prop := ∀ i, zs.getD i 0 < 256

theorem xor_lt {a b : Nat} (ha : a < 4294967296) (hb : b < 4294967296) : a ^^^ b < 4294967296 := Nat.xor_lt_two_pow (n := 32) ha hb
theorem reg_lt {zs : List Nat} (h : Bs zs) : ∀ k, reg zs k < 4294967296
  | 0 => by rw [reg]; omega
  | k + 1 => sts_lt 8 (xor_lt (reg_lt h k) (by have := h k; omega))
theorem chk_lt {zs : List Nat} (h : Bs zs) : chk zs < 4294967296 := xor_lt (reg_lt h _) (by omega)
theorem reg_same {zs ys : List Nat} : ∀ k, (∀ i, i < k → zs.getD i 0 = ys.getD i 0) → reg zs k = reg ys k
  | 0, _ => rfl
  | k + 1, h => by rw [reg, reg, reg_same k (fun i hi => h i (by omega)), h k (by omega)]
theorem xor_right {a b c : Nat} (h : a ^^^ c = b ^^^ c) : a = b := by
  have := congrArg (· ^^^ c) h
  simpa [Nat.xor_assoc, Nat.xor_self] using this
theorem xor_zero_eq {a b : Nat} (h : a ^^^ b = 0) : a = b := by
  have := congrArg (· ^^^ b) h
  simpa [Nat.xor_assoc, Nat.xor_self] using this
theorem sts_inj {a b : Nat} (ha : a < 4294967296) (hb : b < 4294967296) (h : sts 8 a = sts 8 b) : a = b := by
  apply xor_zero_eq
  apply sts_zero 8 (xor_lt ha hb)
  rw [sts_xor, h, Nat.xor_self]
/-- Rows of which one byte is other have other registers from there on. -/
theorem reg_other {zs ys : List Nat} (hz : Bs zs) (hy : Bs ys) {j : Nat} (hs : ∀ i, i ≠ j → zs.getD i 0 = ys.getD i 0) (hj : zs.getD j 0 ≠ ys.getD j 0) : ∀ k, j < k → reg zs k ≠ reg ys k
  | 0, h => by omega
  | k + 1, h => by
    intro e
    rw [reg, reg] at e
    have e := sts_inj (xor_lt (reg_lt hz k) (by have := hz k; omega)) (xor_lt (reg_lt hy k) (by have := hy k; omega)) e
    rcases Nat.lt_or_ge j k with hlt | hge
    · rw [hs k (by omega)] at e
      exact reg_other hz hy hs hj k hlt (xor_right e)
    · obtain rfl : k = j := by omega
      rw [reg_same k (fun i hi => hs i (by omega)), Nat.xor_comm, Nat.xor_comm (reg ys k)] at e
      exact hj (xor_right e)
theorem reg_three {xs ys zs ws : List Nat} : ∀ k, (∀ i, i < k → ws.getD i 0 = xs.getD i 0 ^^^ ys.getD i 0 ^^^ zs.getD i 0) → reg ws k = reg xs k ^^^ reg ys k ^^^ reg zs k
  | 0, _ => by show 4294967295 = 4294967295 ^^^ 4294967295 ^^^ 4294967295; decide
  | k + 1, h => by
    rw [reg, reg, reg, reg, reg_three k (fun i hi => h i (by omega)), h k (by omega), ← sts_xor, ← sts_xor, xor4 (reg xs k ^^^ reg ys k), xor4 (reg xs k)]

/-! ### the words -/
/-- What a byte counts for. -/
def vl (k z : Nat) : Nat := if k % 2 = 0 then 256 * z else z
/-- What the first k bytes come to. -/
def tot (zs : List Nat) : Nat → Nat
  | 0 => 0
  | k + 1 => tot zs k + vl k (zs.getD k 0)
/-- A sum carried round. -/
def can (t : Nat) : Nat := if t = 0 then 0 else (t - 1) % 65535 + 1
/-- The sum of words, not turned. -/
def wd (zs : List Nat) : Nat := can (tot zs zs.length)

theorem can_le (t : Nat) : can t ≤ 65535 := by unfold can; split <;> omega
theorem can_add (t v : Nat) (h : v ≤ 65535) : can (t + v) = if can t + v ≤ 65535 then can t + v else can t + v - 65535 := by
  unfold can
  split <;> split <;> split <;> omega
theorem vl_le {k z : Nat} (h : z < 256) : vl k z ≤ 65280 := by unfold vl; split <;> omega
theorem tot_same {zs ys : List Nat} : ∀ k, (∀ i, i < k → zs.getD i 0 = ys.getD i 0) → tot zs k = tot ys k
  | 0, _ => rfl
  | k + 1, h => by rw [tot, tot, tot_same k (fun i hi => h i (by omega)), h k (by omega)]
/-- One byte other: the sum is other by that. -/
theorem tot_other {zs ys : List Nat} {j : Nat} (hs : ∀ i, i ≠ j → zs.getD i 0 = ys.getD i 0) : ∀ k, j < k → tot zs k + vl j (ys.getD j 0) = tot ys k + vl j (zs.getD j 0)
  | 0, h => by omega
  | k + 1, h => by
    rw [tot, tot]
    rcases Nat.lt_or_ge j k with hlt | hge
    · have := tot_other hs k hlt
      rw [hs k (by omega)]
      omega
    · obtain rfl : k = j := by omega
      rw [tot_same k (fun i hi => hs i (by omega))]
      omega
theorem tot_first {zs : List Nat} (h : 0 < zs.getD 0 0) : ∀ k, 0 < k → 0 < tot zs k
  | 0, h => by omega
  | 1, _ => by simp only [tot, vl, Nat.zero_mod, if_true]; omega
  | k + 2, _ => by
    have := tot_first h (k + 1) (by omega)
    rw [tot]
    omega
/-- Where the sum itself is added the sum is whole. -/
theorem can_seal {t : Nat} (h : 0 < t) : can (t + (65535 - can t)) = 65535 := by
  unfold can
  rw [if_neg (by omega), if_neg (by omega)]
  omega
theorem can_full {t : Nat} : can t = 65535 ↔ 0 < t ∧ t % 65535 = 0 := by
  unfold can
  split <;> omega
/-- One byte other: whole no more. -/
theorem can_other {t u j a b : Nat} (ht : can t = 65535) (e : u + vl j a = t + vl j b) (ha : a < 256) (hb : b < 256) (hne : a ≠ b) : can u ≠ 65535 := by
  rw [Ne, can_full]
  rw [can_full] at ht
  unfold vl at e
  split at e <;> omega
end Go.Proofs.Ytjkfgdeiciligaa
