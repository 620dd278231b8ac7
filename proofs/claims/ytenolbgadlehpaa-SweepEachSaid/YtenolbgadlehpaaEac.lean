/-
  What a prefix that is swept alone asks, tick by tick, in closed form. No condition but those that each theorem names.
-/
import Derived.Test.YtenolbgadlehpaaSem
set_option linter.unusedSimpArgs false
set_option linter.unusedVariables false
namespace Go.Proofs.Ytenolbgadlehpaa
open Go.RowKit

theorem one_due {x : Sw} {t : Int} (h : x.d ≤ t) (every room : Int) : planO [x] every t room = ([stp x every room], asl x (tk x room)) := by
  have hd : du [x] 0 = x.d := rfl
  simp [planO, planL, ord, pl, List.range_succ, hd, h, insO, plan1]
theorem one_not {x : Sw} {t : Int} (h : ¬ x.d ≤ t) (every room : Int) : planO [x] every t room = ([x], []) := by
  have hd : du [x] 0 = x.d := rfl
  simp [planO, planL, ord, pl, List.range_succ, hd, h]
theorem ad_small {d n : Int} (h0 : 0 ≤ d) (h1 : d ≤ 1000000) (g0 : 0 ≤ n) (g1 : n ≤ 1000000) : ad d n = d + n := by
  rw [← ad_eq n h0 (by omega)]
  omega
/-- The numbers of a sweep alone: how many addresses, how many a tick, how many ticks a turn takes, and how often there is one. -/
structure En (P r need E : Nat) : Prop where
  r0 : 1 ≤ r
  r1 : r ≤ 16
  p0 : 1 ≤ P
  p1 : P ≤ 64
  lo : (need - 1) * r < P
  hi : P ≤ need * r
  n0 : 1 ≤ need
  n1 : need ≤ 64
  e0 : need ≤ E
  e1 : E ≤ 93
theorem few_mul {P r : Nat} (r0 : 1 ≤ r) (p0 : 1 ≤ P) : P + r - 1 ≤ r * P := by
  obtain ⟨r', rfl⟩ : ∃ r', r = r' + 1 := ⟨r - 1, by omega⟩
  obtain ⟨P', rfl⟩ : ∃ P', P = P' + 1 := ⟨P - 1, by omega⟩
  simp only [Nat.add_mul, Nat.mul_add, Nat.one_mul, Nat.mul_one]
  omega
theorem en_of {P r E k : Nat} (r0 : 1 ≤ r) (r1 : r ≤ 16) (p0 : 1 ≤ P) (p1 : P ≤ 64) (hk : k < 30) : En P r ((P + r - 1) / r) ((P + r - 1) / r + k) := by
  have h := Nat.div_add_mod (P + r - 1) r
  have hm := Nat.mod_lt (P + r - 1) (show 0 < r by omega)
  generalize hq : (P + r - 1) / r = need at *
  have hc : r * need = need * r := Nat.mul_comm _ _
  have n0 : 1 ≤ need := by
    rcases Nat.eq_zero_or_pos need with h0 | h0
    · subst h0; rw [Nat.mul_zero] at h; omega
    · exact h0
  have e : (need - 1) * r = need * r - r := by rw [Nat.sub_mul, Nat.one_mul]
  have n1 : need ≤ 64 := by
    have : need ≤ P := by
      rw [← hq]
      exact Nat.div_le_of_le_mul (few_mul r0 p0)
    omega
  exact ⟨r0, r1, p0, p1, by omega, by omega, n0, n1, by omega, by omega⟩
/-- How the sweep stands ahead of the tick 1 + c * E + o. -/
def eS (A B : Int) (E r need c o : Nat) : Sw := if o < need then ⟨A, B, ((1 + c * E : Nat) : Int), ((o * r : Nat) : Int)⟩ else ⟨A, B, ((1 + (c + 1) * E : Nat) : Int), 0⟩
/-- How many addresses that tick asks. -/
def eK (P r need o : Nat) : Nat := if o < need then min r (P - o * r) else 0
theorem En.below {P r need E : Nat} (h : En P r need E) {o : Nat} (ho : o < need) : o * r < P :=
  Nat.lt_of_le_of_lt (Nat.mul_le_mul_right r (show o ≤ need - 1 by omega)) h.lo
theorem eS_ab (A B : Int) (E r need c o : Nat) : (eS A B E r need c o).a = A ∧ (eS A B E r need c o).b = B := by unfold eS; split <;> exact ⟨rfl, rfl⟩
theorem eS_sv {A B : Int} {P r need E : Nat} (h : En P r need E) (a0 : 0 ≤ A) (a1 : A < 4294967296) (hok : okB A B = true) (hP : p2 B = (P : Int)) (c o : Nat) : Sv (eS A B E r need c o) := by
  have := h.p1
  have := h.p0
  unfold eS
  split
  · rename_i ho
    have := h.below ho
    exact ⟨a0, a1, hok, by show p2 B ≤ 256; omega, by show (0 : Int) ≤ ((o * r : Nat) : Int); omega, by show ((o * r : Nat) : Int) < p2 B; omega⟩
  · exact ⟨a0, a1, hok, by show p2 B ≤ 256; omega, Int.le_refl _, by show (0 : Int) < p2 B; omega⟩
/-- The next tick's count. -/
def nx (E c o : Nat) : Nat × Nat := if o + 1 < E then (c, o + 1) else (c + 1, 0)
theorem nx_at {E c o : Nat} (h : o < E) : 1 + (nx E c o).1 * E + (nx E c o).2 = 1 + c * E + o + 1 ∧ (nx E c o).2 < E := by
  unfold nx
  split
  · exact ⟨by simp only []; omega, by simpa⟩
  · refine ⟨?_, by show 0 < E; omega⟩
    show 1 + (c + 1) * E + 0 = _
    rw [Nat.add_mul, Nat.one_mul]
    omega
theorem each_step {A B : Int} {P r need E : Nat} (h : En P r need E) (hP : p2 B = (P : Int)) {c o : Nat} (ho : o < E) (hc : c * E ≤ 900000) :
    planO [eS A B E r need c o] (E : Int) ((1 + c * E + o : Nat) : Int) (r : Int) = ([eS A B E r need (nx E c o).1 (nx E c o).2], (List.range (eK P r need o)).map fun (j : Nat) => A + (((o * r : Nat) : Int) + (j : Int))) := by
  have r0 := h.r0
  have e1 := h.e1
  have e0 := h.e0
  have n0 := h.n0
  by_cases hn : o < need
  · have hb := h.below hn
    have es : eS A B E r need c o = ⟨A, B, ((1 + c * E : Nat) : Int), ((o * r : Nat) : Int)⟩ := if_pos hn
    have ek : eK P r need o = min r (P - o * r) := if_pos hn
    have htk : tk ⟨A, B, ((1 + c * E : Nat) : Int), ((o * r : Nat) : Int)⟩ (r : Int) = min r (P - o * r) := by
      unfold tk
      dsimp only
      rw [hP]
      omega
    rw [es, one_due (by dsimp only; omega), ek]
    have hasl : asl ⟨A, B, ((1 + c * E : Nat) : Int), ((o * r : Nat) : Int)⟩ (tk ⟨A, B, ((1 + c * E : Nat) : Int), ((o * r : Nat) : Int)⟩ (r : Int)) = (List.range (min r (P - o * r))).map fun (j : Nat) => A + (((o * r : Nat) : Int) + (j : Int)) := by rw [htk]; rfl
    rw [hasl]
    refine congrArg (fun s => ([s], _)) ?_
    unfold stp
    rw [htk]
    dsimp only
    rw [hP]
    have hs : (o + 1) * r = o * r + r := by rw [Nat.add_mul, Nat.one_mul]
    by_cases hl : o + 1 < need
    · have hb2 := h.below hl
      rw [if_neg (by omega)]
      have hx : nx E c o = (c, o + 1) := if_pos (by omega)
      rw [hx]
      dsimp only
      unfold eS
      rw [if_pos hl]
      congr 1
      omega
    · have hP2 : P ≤ (o + 1) * r := by
        have : need = o + 1 := by omega
        rw [← this]; exact h.hi
      rw [if_pos (by omega), ad_small (by omega) (by omega) (by omega) (by omega)]
      have hE : (c + 1) * E = c * E + E := by rw [Nat.add_mul, Nat.one_mul]
      unfold nx
      split
      · unfold eS
        dsimp only
        rw [if_neg hl]
        congr 1
        omega
      · unfold eS
        dsimp only
        rw [if_pos (by omega)]
        congr 1
        · omega
        · rw [Nat.zero_mul]; rfl
  · have es : eS A B E r need c o = ⟨A, B, ((1 + (c + 1) * E : Nat) : Int), 0⟩ := if_neg hn
    have ek : eK P r need o = 0 := if_neg hn
    have hE : (c + 1) * E = c * E + E := by rw [Nat.add_mul, Nat.one_mul]
    rw [es, one_not (by dsimp only; omega), ek]
    refine congrArg (fun s => ([s], _)) ?_
    unfold nx
    split
    · unfold eS
      dsimp only
      rw [if_neg (by omega)]
    · unfold eS
      dsimp only
      rw [if_pos (by omega), Nat.zero_mul]
      rfl
/-- What the account says ahead of a tick: each address's last tick is no earlier than any that has asked it. -/
def Lst (P r E t : Nat) (ls : List Nat) : Prop := ls.length = P ∧ ∀ k, k < P → ∀ c, 1 + c * E + k / r < t → ∃ v, ls[k]? = some v ∧ 1 + c * E + k / r ≤ v
theorem lst_zero {P r E : Nat} : Lst P r E 1 (List.replicate P 0) := ⟨by simp, fun k hk c h => by have := Nat.zero_le (k / r); have := Nat.zero_le (c * E); omega⟩
/-- The account in a tick, behind j of its addresses. -/
def Mid (n t j : Nat) (ls ms : List Nat) : Prop := ms.length = ls.length ∧ (∀ k, n ≤ k → k < n + j → ms[k]? = some t) ∧ ∀ k, ¬ (n ≤ k ∧ k < n + j) → ms[k]? = ls[k]?
theorem mid_zero (n t : Nat) (ls : List Nat) : Mid n t 0 ls ls := ⟨rfl, fun k h g => by omega, fun k _ => rfl⟩
theorem mid_next {n t j : Nat} {ls ms : List Nat} (h : Mid n t j ls ms) (hl : n + j < ls.length) : Mid n t (j + 1) ls (ms.set (n + j) t) := by
  obtain ⟨h1, h2, h3⟩ := h
  refine ⟨by rw [List.length_set]; exact h1, fun k g1 g2 => ?_, fun k g => ?_⟩
  · rw [List.getElem?_set]
    by_cases e : n + j = k
    · rw [if_pos e, if_pos (by omega)]
    · rw [if_neg e]; exact h2 k g1 (by omega)
  · rw [List.getElem?_set_ne (by omega)]
    exact h3 k (by omega)
theorem lst_next {P r need E c o : Nat} {ls ms : List Nat} (h : En P r need E) (ho : o < E) (hL : Lst P r E (1 + c * E + o) ls) (hM : Mid (o * r) (1 + c * E + o) (eK P r need o) ls ms) : Lst P r E (1 + c * E + o + 1) ms := by
  obtain ⟨l1, l2⟩ := hL
  obtain ⟨m1, m2, m3⟩ := hM
  have r0 := h.r0
  refine ⟨by omega, fun k hk c' ht => ?_⟩
  by_cases hin : o * r ≤ k ∧ k < o * r + eK P r need o
  · exact ⟨_, m2 k hin.1 hin.2, by omega⟩
  · rw [m3 k hin]
    refine l2 k hk c' ?_
    rcases Nat.lt_or_ge (1 + c' * E + k / r) (1 + c * E + o) with hlt | hge
    · exact hlt
    · exfalso
      have hk0 := Nat.zero_le (k / r)
      have heq : c' * E + k / r = c * E + o := by omega
      have hkd := Nat.div_add_mod k r
      have hkm := Nat.mod_lt k (show 0 < r by omega)
      have hcm : r * (k / r) = k / r * r := Nat.mul_comm _ _
      have hq : k / r < need := by
        rcases Nat.lt_or_ge (k / r) need with g | g
        · exact g
        · have := Nat.mul_le_mul_right r g
          have := h.hi
          omega
      have e0 := h.e0
      have hcc : c' = c := by
        rcases Nat.lt_trichotomy c' c with g | g | g
        · exfalso
          have := Nat.mul_le_mul_right E (show c' + 1 ≤ c from g)
          rw [Nat.add_mul, Nat.one_mul] at this
          omega
        · exact g
        · exfalso
          have := Nat.mul_le_mul_right E (show c + 1 ≤ c' from g)
          rw [Nat.add_mul, Nat.one_mul] at this
          omega
      subst hcc
      have ho' : o = k / r := by omega
      subst ho'
      apply hin
      have ek : eK P r need (k / r) = min r (P - k / r * r) := if_pos hq
      rw [ek]
      omega
theorem each_end {P r need E s : Nat} {ls : List Nat} (h : En P r need E) (hs : 1 ≤ s) (hL : Lst P r E (s + E + need) ls) {k : Nat} (hk : k < P) : ∃ v, ls[k]? = some v ∧ s ≤ v := by
  obtain ⟨l1, l2⟩ := hL
  have r0 := h.r0
  have e0 := h.e0
  have n0 := h.n0
  have hkd := Nat.div_add_mod k r
  have hcm : r * (k / r) = k / r * r := Nat.mul_comm _ _
  have hq : k / r < need := by
    rcases Nat.lt_or_ge (k / r) need with g | g
    · exact g
    · have := Nat.mul_le_mul_right r g
      have := h.hi
      omega
  -- the first turn that does not lie ahead of s
  have hE : 0 < E := by omega
  have hd := Nat.div_add_mod (s - 1 - k / r + (E - 1)) E
  have hm := Nat.mod_lt (s - 1 - k / r + (E - 1)) hE
  have hc2 : E * ((s - 1 - k / r + (E - 1)) / E) = (s - 1 - k / r + (E - 1)) / E * E := Nat.mul_comm _ _
  generalize (s - 1 - k / r + (E - 1)) / E = c at *
  obtain ⟨v, hv, hle⟩ := l2 k hk c (by omega)
  exact ⟨v, hv, by omega⟩
end Go.Proofs.Ytenolbgadlehpaa
