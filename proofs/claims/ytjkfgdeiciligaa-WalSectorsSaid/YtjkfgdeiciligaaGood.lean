/-
  What stands on a disk that has a log: heads, records, regions; and what stays of it where sectors are written in part. Plain data. Conditions: as each lemma says.
-/
import Derived.Test.YtjkfgdeiciligaaPhase
namespace Go.Proofs.Ytjkfgdeiciligaa

/-- The same bytes. -/
def Sm (a b : Nat → Nat) : Prop := ∀ j, j < 64 → a j = b j
theorem eq64_iff {a b : Nat → Nat} : eq64 a b = true ↔ Sm a b := by
  constructor
  · intro h j hj
    unfold eq64 at h
    rw [List.all_eq_true] at h
    simpa using h j (List.mem_range.2 hj)
  · exact eq64_true

theorem num_two (s : Nat → Nat) : num s 0 2 = s 0 * 256 + s 1 := by simp [num, sl, bek, List.range, List.range.loop]
theorem num_four (s : Nat → Nat) : num s 2 4 = ((s 2 * 256 + s 3) * 256 + s 4) * 256 + s 5 := by simp [num, sl, bek, List.range, List.range.loop]
theorem hd_mark (kind number : Nat) (zs : List Nat) : hd kind number zs 11 = 197 := by simp [hd]
theorem hd_past (kind number : Nat) (zs : List Nat) {j : Nat} (h : 12 ≤ j) : hd kind number zs j = 0 := by
  unfold hd
  rw [if_neg (by omega), if_neg (by omega), if_neg (by omega), if_neg (by omega), if_neg (by omega)]
theorem hd_lt (kind number : Nat) (zs : List Nat) (hk : kind < 256) (j : Nat) : hd kind number zs j < 256 := by
  unfold hd
  split
  · omega
  · split
    · omega
    · split
      · omega
      · split
        · exact hk
        · split <;> omega
theorem hd_len {s : Nat → Nat} {kind number : Nat} {zs : List Nat} (h : Sm s (hd kind number zs)) (hl : zs.length < 65536) : num s 0 2 = zs.length := by
  rw [num_two, h 0 (by omega), h 1 (by omega)]
  simp [hd]
  omega
theorem hd_num {s : Nat → Nat} {kind number : Nat} {zs : List Nat} (h : Sm s (hd kind number zs)) (hl : number < 4294967296) : num s 2 4 = number := by
  rw [num_four, h 2 (by omega), h 3 (by omega), h 4 (by omega), h 5 (by omega)]
  simp [hd]
  omega

theorem rin_iff {R : Nat → Nat → Nat} {n a k : Nat} {b : List Nat} : rin R n a k = some b ↔ (a < n ∧ b.length ≤ 16384 ∧ a + sct b.length ≤ n ∧ Sm (R a) (hd 2 k b) ∧ b = jn (fun i => R (a + 1 + i)) b.length) := by
  constructor
  · intro h
    unfold rin at h
    split at h
    · cases h
    split at h
    · cases h
    split at h
    · cases h
    split at h
    · injection h with h
      subst h
      rw [jn_length]
      exact ⟨by omega, by omega, by omega, eq64_iff.1 ‹_›, rfl⟩
    · cases h
  · rintro ⟨h1, h2, h3, h4, h5⟩
    have hm := hd_len h4 (by omega)
    unfold rin
    rw [hm, if_neg (by omega), if_neg (by omega), if_neg (by omega), ← h5, if_pos (eq64_iff.2 h4)]
theorem rin_none {R : Nat → Nat → Nat} {n a k : Nat} (h : R a 11 ≠ 197) : rin R n a k = none := by
  cases hr : rin R n a k with
  | none => rfl
  | some b =>
    obtain ⟨_, _, _, h4, _⟩ := rin_iff.1 hr
    exact (h ((h4 11 (by omega)).trans (hd_mark _ _ _))).elim
theorem rin_past {R : Nat → Nat → Nat} {n a k : Nat} (h : n ≤ a) : rin R n a k = none := by unfold rin; rw [if_pos h]
theorem sct_pos (n : Nat) : 1 ≤ sct n := by unfold sct; omega

/-- The same bytes in sectors from a up to e. -/
def Ag (R R' : Nat → Nat → Nat) (a e : Nat) : Prop := ∀ i, a ≤ i → i < e → Sm (R i) (R' i)
theorem jn_congr {T T' : Nat → Nat → Nat} {m : Nat} (h : ∀ i, i * 64 < m → Sm (T i) (T' i)) : jn T m = jn T' m := by
  unfold jn
  refine List.map_congr_left fun i hi => ?_
  have := List.mem_range.1 hi
  exact h (i / 64) (by omega) (i % 64) (by omega)
theorem rin_agree {R R' : Nat → Nat → Nat} {n a k : Nat} {b : List Nat} (h : rin R n a k = some b) (hg : Ag R R' a (a + sct b.length)) : rin R' n a k = some b := by
  obtain ⟨h1, h2, h3, h4, h5⟩ := rin_iff.1 h
  refine rin_iff.2 ⟨h1, h2, h3, fun j hj => ?_, ?_⟩
  · rw [← hg a (Nat.le_refl _) (by have := sct_pos b.length; omega) j hj]
    exact h4 j hj
  · refine h5.trans (jn_congr fun i hi => hg _ (by omega) ?_)
    unfold sct
    omega
theorem rcf_adv (R : Nat → Nat → Nat) (n : Nat) : ∀ f a k, a + (rcf R n f a k).1.length ≤ (rcf R n f a k).2
  | 0, a, k => by simp [rcf]
  | f + 1, a, k => by
    rw [rcf]
    cases hr : rin R n a k with
    | none => simp
    | some b =>
      have := rcf_adv R n f (a + sct b.length) (k + 1)
      have := sct_pos b.length
      simp only [List.length_cons]
      omega
theorem rcf_stable {R R' : Nat → Nat → Nat} {n : Nat} : ∀ (f a k : Nat) (rs : List (List Nat)) (e : Nat), rcf R n f a k = (rs, e) → Ag R R' a e → rin R' n e (k + rs.length) = none → rcf R' n f a k = (rs, e)
  | 0, a, k, rs, e, h, _, _ => h
  | f + 1, a, k, rs, e, h, hg, hn => by
    rw [rcf] at h ⊢
    cases hr : rin R n a k with
    | none =>
      rw [hr] at h
      injection h with h1 h2
      subst h1 h2
      rw [show rin R' n a k = none from hn]
    | some b =>
      rw [hr] at h
      injection h with h1 h2
      have hadv := rcf_adv R n f (a + sct b.length) (k + 1)
      have hb : rin R' n a k = some b := rin_agree hr (fun i h3 h4 => hg i h3 (by omega))
      have ih := rcf_stable (R := R) (R' := R') (n := n) f (a + sct b.length) (k + 1) _ _ rfl (fun i h3 h4 => hg i (by omega) (by omega)) (by rw [← h1, List.length_cons] at hn; rw [h2]; rw [show k + 1 + (rcf R n f (a + sct b.length) (k + 1)).1.length = k + ((rcf R n f (a + sct b.length) (k + 1)).1.length + 1) by omega]; exact hn)
      rw [hb]
      simp only
      rw [ih, ← h1, ← h2]
theorem rcf_stop {R : Nat → Nat → Nat} {n : Nat} (f a k : Nat) (h : rin R n a k = none) : rcf R n f a k = ([], a) := by
  cases f with
  | zero => rfl
  | succ f => rw [rcf, h]
theorem rcf_snoc {R R' : Nat → Nat → Nat} {n : Nat} {b : List Nat} : ∀ (f a k : Nat) (rs : List (List Nat)) (e : Nat), rcf R n f a k = (rs, e) → Ag R R' a e → rs.length < f → rin R' n e (k + rs.length) = some b → rin R' n (e + sct b.length) (k + rs.length + 1) = none → rcf R' n f a k = (rs ++ [b], e + sct b.length)
  | 0, a, k, rs, e, h, _, hl, _, _ => by omega
  | f + 1, a, k, rs, e, h, hg, hl, hb, hn => by
    rw [rcf] at h ⊢
    cases hr : rin R n a k with
    | none =>
      rw [hr] at h
      injection h with h1 h2
      subst h1 h2
      rw [show rin R' n a k = some b from hb]
      simp only
      rw [rcf_stop f _ _ (show rin R' n (a + sct b.length) (k + 1) = none from hn)]
      rfl
    | some b0 =>
      rw [hr] at h
      injection h with h1 h2
      have hadv := rcf_adv R n f (a + sct b0.length) (k + 1)
      have hb0 : rin R' n a k = some b0 := rin_agree hr (fun i h3 h4 => hg i h3 (by omega))
      have hl1 : rs.length = (rcf R n f (a + sct b0.length) (k + 1)).1.length + 1 := by rw [← h1]; rfl
      have ih := rcf_snoc (R := R) (R' := R') (n := n) (b := b) f (a + sct b0.length) (k + 1) _ _ rfl (fun i h3 h4 => hg i (by omega) (by omega)) (by omega) (by rw [h2, show k + 1 + (rcf R n f (a + sct b0.length) (k + 1)).1.length = k + rs.length by omega]; exact hb) (by rw [h2, show k + 1 + (rcf R n f (a + sct b0.length) (k + 1)).1.length + 1 = k + rs.length + 1 by omega]; exact hn)
      rw [hb0]
      simp only
      rw [ih, ← h1, ← h2]
      rfl

theorem tin_head {s : Nat → Nat} {t : Nat} (h : Sm s (hd 1 t [])) (ht : t < 4294967296) : tin s = t := by
  unfold tin
  rw [hd_num h ht, if_pos (eq64_iff.2 h)]
theorem tin_other {s : Nat → Nat} {t : Nat} (ht : 1 ≤ t) (h : s 11 ≠ 197 ∨ num s 2 4 < t) : tin s < t := by
  unfold tin
  split
  · rcases h with h | h
    · have := eq64_iff.1 ‹_› 11 (by omega)
      rw [hd_mark] at this
      exact (h this).elim
    · exact h
  · omega

/-! ### sectors written, in part or whole -/
theorem kpa_other {am : Nat → Nat} {l : List Wr} {K : Nat → Nat → Nat} {i : Nat} (h : ∀ x ∈ l, x.1 ≠ i) : ∀ n, kpa am l K n i = K i
  | 0 => rfl
  | n + 1 => by
    rw [kpa]
    cases hl : l[n]? with
    | none => exact kpa_other h n
    | some x =>
      funext j
      simp only [ov]
      rw [if_neg (fun e => h x (List.mem_of_getElem? hl) e.1.symm)]
      rw [kpa_other h n]
theorem kpa_zero {am : Nat → Nat} {l : List Wr} {K : Nat → Nat → Nat} (h : ∀ x ∈ l, x.2 = zer) (i : Nat) : ∀ n, ∃ m, ∀ j, kpa am l K n i j = if j < m then 0 else K i j
  | 0 => ⟨0, fun j => by simp [kpa]⟩
  | n + 1 => by
    obtain ⟨m, hm⟩ := kpa_zero (am := am) (K := K) h i n
    rw [kpa]
    cases hl : l[n]? with
    | none => exact ⟨m, hm⟩
    | some x =>
      by_cases hx : i = x.1
      · refine ⟨max m (am n), fun j => ?_⟩
        simp only [ov]
        rw [h x (List.mem_of_getElem? hl)]
        by_cases h1 : j < am n
        · rw [if_pos ⟨hx, h1⟩, if_pos (by omega)]; rfl
        · rw [if_neg (fun e => h1 e.2), hm j]
          by_cases h2 : j < m
          · rw [if_pos h2, if_pos (by omega)]
          · rw [if_neg h2, if_neg (by omega)]
      · refine ⟨m, fun j => ?_⟩
        simp only [ov]
        rw [if_neg (fun e => hx e.1)]
        exact hm j

/-- A row of writes, one sector behind the other. -/
def ml (a c : Nat) (f : Nat → Nat → Nat) : List Wr := (List.range c).map fun i => (a + i, f i)
theorem ml_mem {a c : Nat} {f : Nat → Nat → Nat} {x : Wr} (h : x ∈ ml a c f) : a ≤ x.1 ∧ x.1 < a + c ∧ x.2 = f (x.1 - a) := by
  obtain ⟨i, hi, rfl⟩ := List.mem_map.1 h
  have := List.mem_range.1 hi
  exact ⟨by simp, by simp; omega, by simp⟩
theorem app_ml (a c : Nat) (f : Nat → Nat → Nat) (K : Nat → Nat → Nat) (i j : Nat) : app (ml a c f) K i j = if a ≤ i ∧ i < a + c ∧ j < 64 then f (i - a) j else K i j := by
  have key : ∀ n, n ≤ c → kpa (fun _ => 64) (ml a c f) K n i j = if a ≤ i ∧ i < a + n ∧ j < 64 then f (i - a) j else K i j := by
    intro n
    induction n with
    | zero => intro _; rw [if_neg (by omega)]; rfl
    | succ n ih =>
      intro hn
      have hl : (ml a c f)[n]? = some (a + n, f n) := by simp [ml, show n < c by omega]
      rw [kpa, hl]
      simp only [ov]
      by_cases h1 : i = a + n ∧ j < 64
      · rw [if_pos h1, if_pos (by omega), show i - a = n by omega]
      · rw [if_neg h1, ih (by omega)]
        by_cases h2 : a ≤ i ∧ i < a + n ∧ j < 64
        · rw [if_pos h2, if_pos (by omega)]
        · rw [if_neg h2, if_neg (by omega)]
  have hlen : (ml a c f).length = c := by simp [ml]
  unfold app
  rw [hlen]
  exact key c (Nat.le_refl _)
theorem app_one (a : Nat) (s : Nat → Nat) (K : Nat → Nat → Nat) : app [(a, s)] K = ov K a 64 s := rfl
theorem kpa_one (am : Nat → Nat) (a : Nat) (s : Nat → Nat) (K : Nat → Nat → Nat) : kpa am [(a, s)] K 1 = ov K a (am 0) s := rfl

theorem dops_ml (a c : Nat) (f : Nat → Nat → Nat) : dops (ml a c f) = (List.range c).map fun i => Dop.wr (a + i) (f i) := by
  unfold dops ml
  rw [List.map_map]
  rfl
theorem zop_phs (fr n : Nat) : zop fr n = phs [ml fr n (fun _ => zer)] := by
  rw [phs_cons, dops_ml]
  rfl
theorem fop_phs (a kind number : Nat) (zs : List Nat) : fop a kind number zs = phs [ml (a + 1) ((zs.length + 63) / 64) (bk zs), [(a, hd kind number zs)]] := by
  rw [phs_cons, dops_ml]
  rfl
theorem phs_append (P Q : List (List Wr)) : phs (P ++ Q) = phs P ++ phs Q := by simp [phs]
theorem rop_phs (first size turn : Nat) (zs : List Nat) : rop first size turn zs = phs [ml first size (fun _ => zer), ml (first + 1 + 1) ((zs.length + 63) / 64) (bk zs), [(first + 1, hd 2 0 zs)], [], [(first, hd 1 turn [])]] := by
  unfold rop
  rw [zop_phs, fop_phs, fop_phs, ← phs_append, ← phs_append]
  rfl
end Go.Proofs.Ytjkfgdeiciligaa
