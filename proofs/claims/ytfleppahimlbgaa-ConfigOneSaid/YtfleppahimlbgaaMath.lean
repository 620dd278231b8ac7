/-
  The numbers of a choice: which may be, the nearest one that may be, and the first that is wrong. No condition.
-/
namespace Go.Proofs.Ytfleppahimlbgaa

/-- A choice as numbers. -/
structure Cf where
  (a b c d e f g h i : Int)
def Cf.l (x : Cf) : List Int := [x.a, x.b, x.c, x.d, x.e, x.f, x.g, x.h, x.i]
def Cf.at (x : Cf) (k : Nat) : Int := x.l.getD k 0
def ne (n l h : Int) : Int := min (max n l) h
/-- The nearest one. -/
def ft (x : Cf) : Cf := ⟨ne x.a 1 1000, ne x.b (ne x.a 1 1000) 10000, ne x.c 1 6, ne x.d 1 1000, ne x.e 1 64, ne x.f 1 100, ne x.g 0 8, ne x.h 1 1000, ne x.i 0 1000⟩
/-- The least and the greatest of place k. -/
def lw (x : Cf) (k : Nat) : Int := [1, x.a, 1, 1, 1, 1, 0, 1, 0].getD k 0
def hw (k : Nat) : Int := [1000, 10000, 6, 1000, 64, 100, 8, 1000, 1000].getD k (0 : Int)
/-- The first place, from k on, of n, that is so. -/
def ff (p : Nat → Bool) : Nat → Nat → Int
  | _, 0 => -1
  | k, n + 1 => if p k = true then (k : Int) else ff p (k + 1) n
/-- Place k is wrong. -/
def bad (x : Cf) (k : Nat) : Bool := decide (x.at k < lw x k) || decide (hw k < x.at k)
def df (x : Cf) (k : Nat) : Bool := x.at k != (ft x).at k
/-- What Right tells. -/
def rt (x : Cf) : Int := ff (df x) 0 9
structure Ok (x : Cf) : Prop where
  a : 1 ≤ x.a ∧ x.a ≤ 1000
  b : x.a ≤ x.b ∧ x.b ≤ 10000
  c : 1 ≤ x.c ∧ x.c ≤ 6
  d : 1 ≤ x.d ∧ x.d ≤ 1000
  e : 1 ≤ x.e ∧ x.e ≤ 64
  f : 1 ≤ x.f ∧ x.f ≤ 100
  g : 0 ≤ x.g ∧ x.g ≤ 8
  h : 1 ≤ x.h ∧ x.h ≤ 1000
  i : 0 ≤ x.i ∧ x.i ≤ 1000

theorem nine {k : Nat} (h : k < 9) : k = 0 ∨ k = 1 ∨ k = 2 ∨ k = 3 ∨ k = 4 ∨ k = 5 ∨ k = 6 ∨ k = 7 ∨ k = 8 := by omega
theorem ff_le (p : Nat → Bool) : ∀ n k, -1 ≤ ff p k n ∧ ff p k n < (k : Int) + n
  | 0, k => by unfold ff; omega
  | n + 1, k => by
    have := ff_le p n (k + 1)
    unfold ff
    split <;> omega
theorem ff_none {p : Nat → Bool} : ∀ n k, ff p k n = -1 ↔ ∀ j, k ≤ j → j < k + n → p j = false
  | 0, k => by
    unfold ff
    exact ⟨fun _ j h1 h2 => by omega, fun _ => rfl⟩
  | n + 1, k => by
    have ih := ff_none (p := p) n (k + 1)
    unfold ff
    split
    · rename_i h
      refine ⟨fun e => by omega, fun e => ?_⟩
      have := e k (by omega) (by omega)
      rw [h] at this
      cases this
    · rename_i h
      rw [ih]
      refine ⟨fun e j h1 h2 => ?_, fun e j h1 h2 => e j (by omega) (by omega)⟩
      by_cases hj : j = k
      · subst hj; simpa using h
      · exact e j (by omega) (by omega)
theorem ff_congr {p q : Nat → Bool} : ∀ n k, (∀ j, k ≤ j → j < k + n → p j = q j) → ff p k n = ff q k n
  | 0, _, _ => rfl
  | n + 1, k, h => by
    unfold ff
    rw [h k (by omega) (by omega), ff_congr n (k + 1) fun j h1 h2 => h j (by omega) (by omega)]
/-- One place alone. -/
theorem ff_one {p : Nat → Bool} : ∀ n k m, k ≤ m → m < k + n → p m = true → (∀ j, k ≤ j → j < m → p j = false) → ff p k n = m
  | 0, k, m, h1, h2, _, _ => by omega
  | n + 1, k, m, h1, h2, h3, h4 => by
    unfold ff
    by_cases hk : k = m
    · subst hk; rw [if_pos h3]
    · rw [if_neg (by rw [h4 k (by omega) (by omega)]; simp)]
      exact ff_one n (k + 1) m (by omega) (by omega) h3 fun j h5 h6 => h4 j (by omega) h6
theorem ne_in {n l h : Int} (a : l ≤ n) (b : n ≤ h) : ne n l h = n := by unfold ne; omega
theorem ne_iff {n l h : Int} (hl : l ≤ h) : (n != ne n l h) = (decide (n < l) || decide (h < n)) := by
  rw [Bool.eq_iff_iff]
  simp [ne]
  omega
theorem ne_le {n l h : Int} (hl : l ≤ h) : l ≤ ne n l h ∧ ne n l h ≤ h := by unfold ne; omega
theorem ft_ok (x : Cf) : Ok (ft x) := by
  have := ne_le (n := x.a) (l := 1) (h := 1000) (by omega)
  constructor
  · exact this
  · exact ne_le (Int.le_trans this.2 (by omega))
  all_goals exact ne_le (by omega)
theorem ok_ft {x : Cf} (h : Ok x) : ft x = x := by
  obtain ⟨a, b, c, d, e, f, g, h, i⟩ := h
  obtain ⟨xa, xb, xc, xd, xe, xf, xg, xh, xi⟩ := x
  simp only at *
  simp only [ft, ne_in a.1 a.2, ne_in b.1 b.2, ne_in c.1 c.2, ne_in d.1 d.2, ne_in e.1 e.2, ne_in f.1 f.2, ne_in g.1 g.2, ne_in h.1 h.2, ne_in i.1 i.2]
theorem df_bad {x : Cf} {k : Nat} (hk : k < 9) (h : k = 0 ∨ (1 ≤ x.a ∧ x.a ≤ 1000)) : df x k = bad x k := by
  unfold df bad
  rcases nine hk with rfl | rfl | rfl | rfl | rfl | rfl | rfl | rfl | rfl
  · exact ne_iff (by omega)
  · have h := h.resolve_left (by omega)
    show (x.b != ne x.b (ne x.a 1 1000) 10000) = _
    rw [ne_in h.1 h.2]
    exact ne_iff (by omega)
  all_goals exact ne_iff (by omega)
theorem rt_bad (x : Cf) : rt x = ff (bad x) 0 9 := by
  unfold rt
  by_cases h : 1 ≤ x.a ∧ x.a ≤ 1000
  · exact ff_congr 9 0 fun j _ hj => df_bad (by omega) (.inr h)
  · have h0 : bad x 0 = true := by simp [bad, Cf.at, Cf.l, lw, hw]; omega
    have h1 : df x 0 = true := by rw [df_bad (by omega) (.inl rfl)]; exact h0
    unfold ff
    rw [if_pos h0, if_pos h1]
theorem ok_iff (x : Cf) : Ok x ↔ ∀ k, k < 9 → bad x k = false := by
  constructor
  · rintro ⟨a, b, c, d, e, f, g, h, i⟩ k hk
    rcases nine hk with rfl | rfl | rfl | rfl | rfl | rfl | rfl | rfl | rfl <;> simp [bad, Cf.at, Cf.l, lw, hw] <;> omega
  · intro h
    have b (k : Nat) (hk : k < 9) : lw x k ≤ x.at k ∧ x.at k ≤ hw k := by
      have := h k hk
      simp [bad] at this
      exact this
    exact ⟨b 0 (by omega), b 1 (by omega), b 2 (by omega), b 3 (by omega), b 4 (by omega), b 5 (by omega), b 6 (by omega), b 7 (by omega), b 8 (by omega)⟩
theorem rt_iff (x : Cf) : rt x = -1 ↔ Ok x := by
  rw [rt_bad, ff_none, ok_iff]
  exact ⟨fun h k hk => h k (by omega) (by omega), fun h k _ hk => h k (by omega)⟩
theorem rt_ok {x : Cf} (h : Ok x) : rt x = -1 := (rt_iff x).2 h
/-- Whether two choices are the same. -/
def eqc (x y : Cf) : Bool := x.a == y.a && (x.b == y.b && (x.c == y.c && (x.d == y.d && (x.e == y.e && (x.f == y.f && (x.g == y.g && (x.h == y.h && x.i == y.i)))))))
theorem eqc_refl (x : Cf) : eqc x x = true := by simp [eqc]
theorem eqc_iff (x y : Cf) : eqc x y = true ↔ x = y := by
  obtain ⟨a, b, c, d, e, f, g, h, i⟩ := x
  obtain ⟨a', b', c', d', e', f', g', h', i'⟩ := y
  simp [eqc]
/-- It is the nearest one just if it may be. -/
theorem eqc_ft (x : Cf) : eqc (ft x) x = (rt x == -1) := by
  rw [Bool.eq_iff_iff, eqc_iff, beq_iff_eq, rt_iff]
  exact ⟨fun h => h ▸ ft_ok x, ok_ft⟩
/-- What a field's nearest value is, said the other way round. -/
theorem ft_at {x : Cf} {k : Nat} (hk : k < 9) : (ft x).at k = max (if k = 1 then (ft x).a else lw x k) (min (x.at k) (hw k)) := by
  have h := (ft_ok x).a
  rcases nine hk with rfl | rfl | rfl | rfl | rfl | rfl | rfl | rfl | rfl
  · show ne x.a 1 1000 = max 1 (min x.a 1000)
    unfold ne; omega
  · show ne x.b (ft x).a 10000 = max (ft x).a (min x.b 10000)
    unfold ne; omega
  · show ne x.c 1 6 = max 1 (min x.c 6)
    unfold ne; omega
  · show ne x.d 1 1000 = max 1 (min x.d 1000)
    unfold ne; omega
  · show ne x.e 1 64 = max 1 (min x.e 64)
    unfold ne; omega
  · show ne x.f 1 100 = max 1 (min x.f 100)
    unfold ne; omega
  · show ne x.g 0 8 = max 0 (min x.g 8)
    unfold ne; omega
  · show ne x.h 1 1000 = max 1 (min x.h 1000)
    unfold ne; omega
  · show ne x.i 0 1000 = max 0 (min x.i 1000)
    unfold ne; omega

/-- Nine bytes. -/
structure Hc where
  (a b c d e f g h i : Int)
structure Hc.Ok (y : Hc) : Prop where
  a : 0 ≤ y.a ∧ y.a < 256
  b : 0 ≤ y.b ∧ y.b < 256
  c : 0 ≤ y.c ∧ y.c < 256
  d : 0 ≤ y.d ∧ y.d < 256
  e : 0 ≤ y.e ∧ y.e < 256
  f : 0 ≤ y.f ∧ y.f < 256
  g : 0 ≤ y.g ∧ y.g < 256
  h : 0 ≤ y.h ∧ y.h < 256
  i : 0 ≤ y.i ∧ y.i < 256
/-- The choice of nine bytes. -/
def ch (y : Hc) : Cf := ⟨1 + y.a % 30, 1 + y.a % 30 + y.b % 60, 1 + y.c % 6, 1 + y.d % 20, 1 + y.e % 9, 1 + y.f % 6, y.g % 4, 1 + y.h % 40, y.i % 50⟩
theorem ch_ok (y : Hc) : Ok (ch y) := by
  constructor <;> simp only [ch] <;> omega
/-- The greater one of each. -/
def mx (x y : Cf) : Cf := ⟨max x.a y.a, max x.b y.b, max x.c y.c, max x.d y.d, max x.e y.e, max x.f y.f, max x.g y.g, max x.h y.h, max x.i y.i⟩
theorem mx_ok {x y : Cf} (h : Ok x) (g : Ok y) : Ok (mx x y) := by
  obtain ⟨a, b, c, d, e, f, g', h', i⟩ := h
  obtain ⟨a2, b2, c2, d2, e2, f2, g2, h2, i2⟩ := g
  constructor <;> simp only [mx] <;> omega
/-- One of them is another. -/
def st (x : Cf) (k : Nat) (n : Int) : Cf := ⟨if k = 0 then n else x.a, if k = 1 then n else x.b, if k = 2 then n else x.c, if k = 3 then n else x.d, if k = 4 then n else x.e, if k = 5 then n else x.f, if k = 6 then n else x.g, if k = 7 then n else x.h, if k = 8 then n else x.i⟩
/-- What Right tells then. -/
theorem rt_st {x : Cf} (h : Ok x) {k : Nat} (hk : k < 9) (n : Int) : (bad (st x k n) k = true → rt (st x k n) = k) ∧ (bad (st x k n) k = false → k = 0 → (st x k n).b < (st x k n).a → rt (st x k n) = 1) ∧
    (bad (st x k n) k = false → (k = 0 → (st x k n).a ≤ (st x k n).b) → rt (st x k n) = -1) := by
  obtain ⟨a, b, c, d, e, f, g, h, i⟩ := h
  have key : ∀ j, j < 9 → j ≠ k → (j = 1 → k = 0 → (st x k n).a ≤ (st x k n).b) → bad (st x k n) j = false := by
    intro j hj hjk hh
    rcases nine hk with rfl | rfl | rfl | rfl | rfl | rfl | rfl | rfl | rfl <;> rcases nine hj with rfl | rfl | rfl | rfl | rfl | rfl | rfl | rfl | rfl <;> simp [bad, Cf.at, Cf.l, lw, hw, st] at hjk hh ⊢ <;> omega
  rw [rt_bad]
  refine ⟨fun hb => ff_one 9 0 k (by omega) (by omega) hb fun j _ hj => key j (by omega) (by omega) (by omega), fun hb h0 hlt => ?_, fun hb hh => ?_⟩
  · subst h0
    refine ff_one 9 0 1 (by omega) (by omega) ?_ fun j _ hj => ?_
    · simp [bad, Cf.at, Cf.l, lw]; exact .inl hlt
    · obtain rfl : j = 0 := by omega
      exact hb
  · rw [ff_none]
    intro j _ hj
    by_cases hjk : j = k
    · subst hjk; exact hb
    · exact key j (by omega) hjk fun _ h0 => hh h0
end Go.Proofs.Ytfleppahimlbgaa
