/-
  The nodes of a trie as plain data; the prefixes that they lead to, in order; what is found by bits; what a prefix more, or less, makes of them; which of them overlap a prefix. No condition.
-/
import Derived.Test.YtbfkpapankgndaaMath
namespace Go.Proofs.Ytbfkpapankgndaa

/-- Nodes: the number of its block, whether its prefix is kept, its children. -/
inductive Tr where
  | e
  | nd (b : Nat) (k : Bool) (l r : Tr)
def Tr.blocks : Tr → List Nat
  | .e => []
  | .nd b _ l r => b :: (l.blocks ++ r.blocks)

/-- No node lies deeper than 32 bits. -/
def Wf : Nat → Tr → Prop
  | _, .e => True
  | 0, .nd _ _ l r => l = .e ∧ r = .e
  | n + 1, .nd _ _ l r => Wf n l ∧ Wf n r
theorem wf_e (n : Nat) : Wf n .e := by cases n <;> trivial

/-- The prefixes of a node of 32 - n bits at a, in order. -/
def ent : Nat → Int → Tr → List (Int × Int)
  | _, _, .e => []
  | 0, a, .nd _ k _ _ => if k = true then [(a, 32)] else []
  | n + 1, a, .nd _ k l r => (if k = true then [(a, 31 - (n : Int))] else []) ++ (ent n a l ++ ent n (a + 2 ^ n) r)
theorem ent_e (n : Nat) (a : Int) : ent n a .e = [] := by cases n <;> rfl

theorem two_pos (n : Nat) : (0 : Int) < 2 ^ n := Int.pow_pos (by decide)
theorem two_succ (n : Nat) : (2 : Int) ^ (n + 1) = 2 ^ n + 2 ^ n := by rw [Int.pow_succ]; omega
theorem two_dvd {m n : Nat} (h : m ≤ n) : (2 : Int) ^ m ∣ 2 ^ n := ⟨2 ^ (n - m), by rw [← Int.pow_add]; congr 1; omega⟩
theorem two_le {m n : Nat} (h : m ≤ n) : (2 : Int) ^ m ≤ 2 ^ n := Int.le_of_dvd (two_pos n) (two_dvd h)
theorem p2_two {b : Int} {m : Nat} (h : b = 32 - (m : Int)) : p2 b = 2 ^ m := by unfold p2; rw [show (32 - b).toNat = m by omega]

/-- Where the prefixes of a node lie. -/
theorem ent_range : ∀ (n : Nat) (a : Int) (T : Tr), n ≤ 32 → a % 2 ^ n = 0 → ∀ y ∈ ent n a T, a ≤ y.1 ∧ y.1 < a + 2 ^ n ∧ 32 - (n : Int) ≤ y.2 ∧ y.2 ≤ 32 ∧ y.1 % p2 y.2 = 0
  | _, _, .e, _, _ => fun y h => by rw [ent_e] at h; cases h
  | 0, a, .nd _ k _ _, _, ha => fun y h => by
    cases k with
    | false => simp [ent] at h
    | true =>
      obtain rfl : y = (a, 32) := by simpa [ent] using h
      have : p2 32 = 1 := p2_32
      simp [this]; omega
  | n + 1, a, .nd _ k l r, hn, ha => fun y h => by
    have hp := two_pos n
    have h2 := two_succ n
    have hal : a % 2 ^ n = 0 := Int.emod_eq_zero_of_dvd (Int.dvd_trans (two_dvd (Nat.le_succ n)) (Int.dvd_of_emod_eq_zero ha))
    have har : (a + 2 ^ n) % 2 ^ n = 0 := by rw [Int.add_emod_right]; exact hal
    simp only [ent, List.mem_append] at h
    rcases h with h | h | h
    · cases k with
      | false => simp at h
      | true =>
        obtain rfl : y = (a, 31 - (n : Int)) := by simpa using h
        have : p2 (31 - (n : Int)) = 2 ^ (n + 1) := p2_two (by omega)
        simp only [this]
        refine ⟨by omega, by omega, by omega, by omega, ha⟩
    · have := ent_range n a l (by omega) hal y h
      omega
    · have := ent_range n (a + 2 ^ n) r (by omega) har y h
      omega
theorem ent_ok {n : Nat} {a : Int} {T : Tr} (hn : n ≤ 32) (ha : a % 2 ^ n = 0) {y : Int × Int} (hy : y ∈ ent n a T) : okB y.1 y.2 = true := by
  have := ent_range n a T hn ha y hy
  exact ok_iff.2 ⟨by omega, by omega, this.2.2.2.2⟩

def Ahead (x y : Int × Int) : Prop := x.1 < y.1 ∨ (x.1 = y.1 ∧ x.2 < y.2)
theorem ent_sorted : ∀ (n : Nat) (a : Int) (T : Tr), n ≤ 32 → a % 2 ^ n = 0 → (ent n a T).Pairwise Ahead
  | _, _, .e, _, _ => by rw [ent_e]; exact .nil
  | 0, a, .nd _ k _ _, _, _ => by cases k <;> simp [ent]
  | n + 1, a, .nd _ k l r, hn, ha => by
    have hp := two_pos n
    have hal : a % 2 ^ n = 0 := Int.emod_eq_zero_of_dvd (Int.dvd_trans (two_dvd (Nat.le_succ n)) (Int.dvd_of_emod_eq_zero ha))
    have har : (a + 2 ^ n) % 2 ^ n = 0 := by rw [Int.add_emod_right]; exact hal
    have hL := ent_range n a l (by omega) hal
    have hR := ent_range n (a + 2 ^ n) r (by omega) har
    simp only [ent]
    refine List.pairwise_append.2 ⟨by cases k <;> simp, List.pairwise_append.2 ⟨ent_sorted n a l (by omega) hal, ent_sorted n _ r (by omega) har, fun x hx y hy => ?_⟩, fun x hx y hy => ?_⟩
    · have h1 := hL x hx; have h2 := hR y hy
      exact .inl (by omega)
    · cases k with
      | false => simp at hx
      | true =>
        obtain rfl : x = (a, 31 - (n : Int)) := by simpa using hx
        rcases List.mem_append.1 hy with hy | hy
        · have h1 := hL y hy
          rcases Int.lt_or_eq_of_le h1.1 with h | h
          · exact .inl h
          · exact .inr ⟨h, by show 31 - (n : Int) < y.2; omega⟩
        · have h1 := hR y hy
          exact .inl (by show a < y.1; omega)
theorem nodup_of_sorted {l : List (Int × Int)} (h : l.Pairwise Ahead) : l.Nodup := h.imp fun {a b} h e => by subst e; rcases h with h | h <;> omega

/-- What is found by s bits more. -/
def kept : Nat → Nat → Int → Tr → Bool
  | _, _, _, .e => false
  | 0, _, _, .nd _ k _ _ => k
  | s + 1, n, x, .nd _ _ l r => if x / 2 ^ (n - 1) % 2 = 0 then kept s (n - 1) x l else kept s (n - 1) x r
theorem kept_e (s n : Nat) (x : Int) : kept s n x .e = false := by cases s <;> rfl

theorem side {a x : Int} {n : Nat} (ha : a % 2 ^ (n + 1) = 0) (h0 : a ≤ x) (h1 : x < a + 2 ^ (n + 1)) : (x / 2 ^ n % 2 = 0 ↔ x < a + 2 ^ n) := by
  have hp := two_pos n
  have h2 := two_succ n
  obtain ⟨c, hc⟩ := Int.dvd_of_emod_eq_zero ha
  have e : x = (x - a) + 2 ^ n * (c * 2) := by
    have : a = 2 ^ n * (c * 2) := by rw [hc, Int.pow_succ, Int.mul_assoc, Int.mul_comm 2 c]
    omega
  have hx : x / 2 ^ n = (x - a) / 2 ^ n + c * 2 := by
    conv => lhs; rw [e]
    exact Int.add_mul_ediv_left _ _ (by omega)
  rw [hx]
  constructor
  · intro h
    rcases Int.lt_or_le x (a + 2 ^ n) with h' | h'
    · exact h'
    · have : (x - a) / 2 ^ n = 1 := by
        apply Int.le_antisymm
        · have := Int.ediv_lt_of_lt_mul hp (show x - a < 2 * 2 ^ n by omega); omega
        · exact Int.le_ediv_of_mul_le hp (by omega)
      omega
  · intro h
    have : (x - a) / 2 ^ n = 0 := Int.ediv_eq_zero_of_lt (by omega) (by omega)
    omega

theorem kept_iff : ∀ (n s : Nat) (a x : Int) (T : Tr), n ≤ 32 → s ≤ n → a % 2 ^ n = 0 → a ≤ x → x < a + 2 ^ n → x % 2 ^ (n - s) = 0 → (kept s n x T = true ↔ (x, 32 - (n : Int) + s) ∈ ent n a T)
  | _, _, _, _, .e, _, _, _, _, _, _ => by rw [kept_e, ent_e]; simp
  | 0, s, a, x, .nd _ k l r, _, hs, ha, h0, h1, _ => by
    obtain rfl : s = 0 := by omega
    obtain rfl : x = a := by simp at h1; omega
    cases k <;> simp [kept, ent]
  | n + 1, 0, a, x, .nd _ k l r, hn, _, ha, h0, h1, hx => by
    have hp := two_pos n
    have h2 := two_succ n
    have hxa : x = a := by
      simp only [Nat.sub_zero] at hx
      obtain ⟨c, hc⟩ := Int.dvd_of_emod_eq_zero ha
      obtain ⟨d, hd⟩ := Int.dvd_of_emod_eq_zero hx
      have hpp := two_pos (n + 1)
      have h3 : d < c + 1 := by
        apply Int.lt_of_mul_lt_mul_left (a := 2 ^ (n + 1)) _ (by omega)
        rw [Int.mul_add, ← hc, ← hd]; omega
      have h4 : c < d + 1 := by
        apply Int.lt_of_mul_lt_mul_left (a := 2 ^ (n + 1)) _ (by omega)
        rw [Int.mul_add, ← hc, ← hd]; omega
      rw [hc, hd, show d = c by omega]
    subst hxa
    have hal : x % 2 ^ n = 0 := Int.emod_eq_zero_of_dvd (Int.dvd_trans (two_dvd (Nat.le_succ n)) (Int.dvd_of_emod_eq_zero ha))
    have har : (x + 2 ^ n) % 2 ^ n = 0 := by rw [Int.add_emod_right]; exact hal
    have hL := ent_range n x l (by omega) hal
    have hR := ent_range n (x + 2 ^ n) r (by omega) har
    simp only [kept, ent, List.mem_append]
    constructor
    · intro h; subst h; left; simp; omega
    · rintro (h | h | h)
      · cases k with
        | false => simp at h
        | true => rfl
      · have := hL _ h; dsimp only at this; omega
      · have := hR _ h; dsimp only at this; omega
  | n + 1, s + 1, a, x, .nd _ k l r, hn, hs, ha, h0, h1, hx => by
    have hp := two_pos n
    have h2 := two_succ n
    have hal : a % 2 ^ n = 0 := Int.emod_eq_zero_of_dvd (Int.dvd_trans (two_dvd (Nat.le_succ n)) (Int.dvd_of_emod_eq_zero ha))
    have har : (a + 2 ^ n) % 2 ^ n = 0 := by rw [Int.add_emod_right]; exact hal
    have hL := ent_range n a l (by omega) hal
    have hR := ent_range n (a + 2 ^ n) r (by omega) har
    have hx' : x % 2 ^ (n - s) = 0 := by rw [show n - s = n + 1 - (s + 1) by omega]; exact hx
    have hb : (32 : Int) - ((n + 1 : Nat) : Int) + ((s + 1 : Nat) : Int) = 32 - (n : Int) + s := by omega
    have hk : ¬ (x, 32 - (n : Int) + s) ∈ (if k = true then [(a, 31 - (n : Int))] else []) := by
      cases k with
      | false => simp
      | true => simp; intro _; omega
    simp only [kept, ent, List.mem_append, Nat.add_sub_cancel, hb, hk, false_or]
    have hsd := side ha h0 h1
    split
    · rename_i h
      have hlt := hsd.1 h
      rw [kept_iff n s a x l (by omega) (by omega) hal h0 hlt hx']
      constructor
      · exact .inl
      · rintro (h | h)
        · exact h
        · have := hR _ h; dsimp only at this; omega
    · rename_i h
      have hge : ¬ x < a + 2 ^ n := fun h' => h (hsd.2 h')
      rw [kept_iff n s (a + 2 ^ n) x r (by omega) (by omega) har (by omega) (by omega) hx']
      constructor
      · exact .inr
      · rintro (h | h)
        · have := hL _ h; dsimp only at this; omega
        · exact h

/-- The same prefixes but for one, which is there now, or is not. -/
def Upd (x b : Int) (kv : Bool) (es es' : List (Int × Int)) : Prop := ∀ y, y ∈ es' ↔ if y = (x, b) then kv = true else y ∈ es

theorem upd_top {n : Nat} {a : Int} {bk bk' : Nat} {k kv : Bool} {l r : Tr} (hn : n ≤ 32) (ha : a % 2 ^ n = 0) : Upd a (32 - (n : Int)) kv (ent n a (.nd bk k l r)) (ent n a (.nd bk' kv l r)) := by
  intro y
  cases n with
  | zero =>
    cases k <;> cases kv <;> simp [ent]
  | succ n =>
    have hal : a % 2 ^ n = 0 := Int.emod_eq_zero_of_dvd (Int.dvd_trans (two_dvd (Nat.le_succ n)) (Int.dvd_of_emod_eq_zero ha))
    have har : (a + 2 ^ n) % 2 ^ n = 0 := by rw [Int.add_emod_right]; exact hal
    have hp := two_pos n
    have hL := ent_range n a l (by omega) hal
    have hR := ent_range n (a + 2 ^ n) r (by omega) har
    have hb : (32 : Int) - ((n + 1 : Nat) : Int) = 31 - n := by omega
    rw [hb]
    simp only [ent, List.mem_append]
    by_cases hy : y = (a, 31 - (n : Int))
    · subst hy
      rw [if_pos rfl]
      constructor
      · rintro (h | h | h)
        · cases kv <;> simp at h ⊢
        · have := hL _ h; dsimp only at this; omega
        · have := hR _ h; dsimp only at this; omega
      · intro h; subst h; left; simp
    · rw [if_neg hy]
      constructor
      · rintro (h | h | h)
        · cases kv <;> simp [hy] at h
        · exact .inr (.inl h)
        · exact .inr (.inr h)
      · rintro (h | h | h)
        · cases k <;> simp [hy] at h
        · exact .inr (.inl h)
        · exact .inr (.inr h)
theorem upd_left {n : Nat} {a x b : Int} {bk bk' : Nat} {k kv : Bool} {l l' r : Tr} (hn : n + 1 ≤ 32) (ha : a % 2 ^ (n + 1) = 0) (hx : x < a + 2 ^ n) (hb : 31 - (n : Int) < b) (h : Upd x b kv (ent n a l) (ent n a l')) :
    Upd x b kv (ent (n + 1) a (.nd bk k l r)) (ent (n + 1) a (.nd bk' k l' r)) := by
  intro y
  have hal : a % 2 ^ n = 0 := Int.emod_eq_zero_of_dvd (Int.dvd_trans (two_dvd (Nat.le_succ n)) (Int.dvd_of_emod_eq_zero ha))
  have har : (a + 2 ^ n) % 2 ^ n = 0 := by rw [Int.add_emod_right]; exact hal
  have hR := ent_range n (a + 2 ^ n) r (by omega) har
  have := h y
  simp only [ent, List.mem_append, this]
  by_cases hy : y = (x, b)
  · subst hy
    rw [if_pos rfl, if_pos rfl]
    constructor
    · rintro (h | h | h)
      · cases k <;> simp at h; omega
      · exact h
      · have := hR _ h; dsimp only at this; omega
    · exact fun h => .inr (.inl h)
  · rw [if_neg hy, if_neg hy]
theorem upd_right {n : Nat} {a x b : Int} {bk bk' : Nat} {k kv : Bool} {l r r' : Tr} (hn : n + 1 ≤ 32) (ha : a % 2 ^ (n + 1) = 0) (hx : a + 2 ^ n ≤ x) (hb : 31 - (n : Int) < b) (h : Upd x b kv (ent n (a + 2 ^ n) r) (ent n (a + 2 ^ n) r')) :
    Upd x b kv (ent (n + 1) a (.nd bk k l r)) (ent (n + 1) a (.nd bk' k l r')) := by
  intro y
  have hal : a % 2 ^ n = 0 := Int.emod_eq_zero_of_dvd (Int.dvd_trans (two_dvd (Nat.le_succ n)) (Int.dvd_of_emod_eq_zero ha))
  have hL := ent_range n a l (by omega) hal
  have := h y
  simp only [ent, List.mem_append, this]
  by_cases hy : y = (x, b)
  · subst hy
    rw [if_pos rfl, if_pos rfl]
    constructor
    · rintro (h | h | h)
      · cases k <;> simp at h; omega
      · have := hL _ h; dsimp only at this; omega
      · exact h
    · exact fun h => .inr (.inr h)
  · rw [if_neg hy, if_neg hy]
theorem ent_none {n : Nat} {a : Int} {bk : Nat} : ent n a (.nd bk false .e .e) = [] := by cases n <;> simp [ent, ent_e]
theorem upd_nothing {n : Nat} {a x b : Int} {bk : Nat} {kv : Bool} {es : List (Int × Int)} (h : Upd x b kv es (ent n a (.nd bk false .e .e))) : Upd x b kv es (ent n a .e) := by
  rw [ent_none] at h; rwa [ent_e]

/-! ### Which overlap -/
theorem floor_floor {y P M : Int} (hP : P ∣ M) (hp : 0 < P) (hm : 0 < M) : (y - y % P) - (y - y % P) % M = y - y % M := by
  obtain ⟨c, rfl⟩ := hP
  have hc : 0 < c := by
    rcases Int.lt_or_le 0 c with h | h
    · exact h
    · exfalso
      have := Int.mul_le_mul_of_nonneg_left h (Int.le_of_lt hp)
      omega
  have h1 : y - y % P = P * (y / P) := by have := Int.mul_ediv_add_emod y P; omega
  have e1 : ∀ z : Int, z - z % (P * c) = P * c * (z / (P * c)) := fun z => by have := Int.mul_ediv_add_emod z (P * c); omega
  rw [h1, e1, e1]
  congr 1
  rw [← Int.ediv_ediv_of_nonneg (Int.le_of_lt hp), ← Int.ediv_ediv_of_nonneg (Int.le_of_lt hp), Int.mul_ediv_cancel_left _ (by omega)]
end Go.Proofs.Ytbfkpapankgndaa
