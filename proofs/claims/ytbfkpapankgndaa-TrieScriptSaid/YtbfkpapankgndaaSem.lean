/-
  What a trie's prefixes are, and tell, in plain words: those that are there, in order; the smallest one that has an address. No condition.
-/
import Derived.Test.YtbfkpapankgndaaLongest
namespace Go.Proofs.Ytbfkpapankgndaa
open Go.RowKit

theorem ent_pairwise (T : Tr) : (ent 32 0 T).Pairwise Ahead := ent_sorted 32 0 T (by omega) (by simp)
theorem sorted_eq : ∀ {l m : List (Int × Int)}, l.Pairwise Ahead → m.Pairwise Ahead → (∀ y, y ∈ l ↔ y ∈ m) → l = m
  | [], [], _, _, _ => rfl
  | [], z :: m, _, _, h => by have := (h z).2 (by simp); simp at this
  | y :: l, [], _, _, h => by have := (h y).1 (by simp); simp at this
  | y :: l, z :: m, hl, hm, h => by
    have hl' := List.pairwise_cons.1 hl
    have hm' := List.pairwise_cons.1 hm
    have irr : ∀ {a : Int × Int}, ¬ Ahead a a := fun h => by rcases h with h | h <;> omega
    have asy : ∀ {a b : Int × Int}, Ahead a b → Ahead b a → False := fun h k => by rcases h with h | h <;> rcases k with k | k <;> omega
    have hyz : y = z := by
      rcases List.mem_cons.1 ((h y).1 (by simp)) with e | e
      · exact e
      · rcases List.mem_cons.1 ((h z).2 (by simp)) with e2 | e2
        · exact e2.symm
        · exact (asy (hm'.1 y e) (hl'.1 z e2)).elim
    subst hyz
    congr 1
    refine sorted_eq hl'.2 hm'.2 fun c => ?_
    constructor
    · intro hc
      rcases List.mem_cons.1 ((h c).1 (by simp [hc])) with e | e
      · subst e; exact (irr (hl'.1 c hc)).elim
      · exact e
    · intro hc
      rcases List.mem_cons.1 ((h c).2 (by simp [hc])) with e | e
      · subst e; exact (irr (hm'.1 c hc)).elim
      · exact e
theorem ent_eq {T : Tr} {l : List (Int × Int)} (h : (ent 32 0 T).Perm l) (hl : l.Pairwise Ahead) : ent 32 0 T = l := sorted_eq (ent_pairwise T) hl fun _ => h.mem_iff
theorem isIn_perm {T : Tr} {l : List (Int × Int)} (h : (ent 32 0 T).Perm l) (x b : Int) : isIn T x b = decide ((x, b) ∈ l) := by
  unfold isIn
  rw [decide_eq_decide]
  exact h.mem_iff
theorem ent_32 {T : Tr} {y : Int × Int} (hy : y ∈ ent 32 0 T) : okB y.1 y.2 = true ∧ 0 ≤ y.1 ∧ y.1 < 4294967296 := by
  have := ent_range 32 0 T (by omega) (by simp) y hy
  exact ⟨ent_ok (by omega) (by simp) hy, this.1, by have := this.2.1; simpa using this⟩

/-- A prefix has an address just if it overlaps that address's own. -/
theorem over_has {a b x : Int} (hok : okB a b = true) : overB a b x 32 = hasB a b x := by
  have h32 : okB x 32 = true := ok_iff.2 ⟨by omega, by omega, by rw [p2_32]; simp⟩
  rw [Bool.eq_iff_iff, over_iff, within_iff, within_iff]
  simp only [hasB, Bool.and_eq_true, decide_eq_true_eq]
  constructor
  · rintro (⟨_, _, h3, h4⟩ | ⟨_, _, h3, _⟩)
    · have := (ok_out hok).2.1
      obtain rfl : b = 32 := by omega
      rw [p2_32] at h3 ⊢
      refine ⟨hok, ?_⟩
      simp at h3 ⊢
      exact h3.symm
    · exact ⟨hok, h3⟩
  · rintro ⟨_, h⟩
    exact .inr ⟨h32, hok, h, (ok_out hok).2.1⟩

/-- Of prefixes that have an address the one behind is the smaller one. -/
theorem has_order {x : Int} {y z : Int × Int} (hy : hasB y.1 y.2 x = true) (hz : hasB z.1 z.2 x = true) (h : Ahead y z) : y.2 < z.2 := by
  simp only [hasB, Bool.and_eq_true, decide_eq_true_eq] at hy hz
  rcases Int.lt_or_le y.2 z.2 with h' | h'
  · exact h'
  · exfalso
    have hd := p2_dvd h'
    have hf := floor_floor (y := x) hd (p2_pos y.2) (p2_pos z.2)
    have hm := Int.emod_nonneg (x - x % p2 y.2) (by have := p2_pos z.2; omega : p2 z.2 ≠ 0)
    rcases h with h | h <;> omega

theorem mem_ovl {T : Tr} {x b : Int} {y : Int × Int} : y ∈ ovl x b 32 0 T ↔ y ∈ ent 32 0 T ∧ overB y.1 y.2 x b = true := by simp [ovl]
theorem lst_mem {l : List (Int × Int)} (h : l ≠ []) : lst l ∈ l := by
  unfold lst
  rw [List.getLast?_eq_some_getLast h]
  exact List.getLast_mem h
theorem lst_last {l : List (Int × Int)} (hp : l.Pairwise Ahead) {y : Int × Int} (hy : y ∈ l) : y = lst l ∨ Ahead y (lst l) := by
  have hne : l ≠ [] := fun e => by subst e; cases hy
  unfold lst
  rw [List.getLast?_eq_some_getLast hne]
  simp only [Option.getD_some]
  have e := List.dropLast_concat_getLast hne
  rw [← e] at hp hy
  rcases List.mem_append.1 hy with h | h
  · exact .inr ((List.pairwise_append.1 hp).2.2 y h _ (by simp))
  · exact .inl (by simpa using h)
/-- What Longest tells: one that is there, and has the address, and has the most bits. -/
theorem longest_best {T : Tr} {x : Int} (h : anyOv T x 32 = true) : lst (ovl x 32 32 0 T) ∈ ent 32 0 T ∧ hasB (lst (ovl x 32 32 0 T)).1 (lst (ovl x 32 32 0 T)).2 x = true ∧
    ∀ y ∈ ent 32 0 T, hasB y.1 y.2 x = true → y = lst (ovl x 32 32 0 T) ∨ y.2 < (lst (ovl x 32 32 0 T)).2 := by
  have hne : ovl x 32 32 0 T ≠ [] := by
    intro e
    unfold anyOv at h
    rw [e] at h
    cases h
  have hm := mem_ovl.1 (lst_mem hne)
  have hh := hm.2
  rw [over_has (ent_32 hm.1).1] at hh
  refine ⟨hm.1, hh, fun y hy hyx => ?_⟩
  have hyo : y ∈ ovl x 32 32 0 T := mem_ovl.2 ⟨hy, by rw [over_has (ent_32 hy).1]; exact hyx⟩
  have hp : (ovl x 32 32 0 T).Pairwise Ahead := (ent_pairwise T).filter _
  exact (lst_last hp hyo).imp_right (has_order hyx hh)
theorem any_iff {T : Tr} {x b : Int} : anyOv T x b = true ↔ ∃ y ∈ ent 32 0 T, overB y.1 y.2 x b = true := by
  unfold anyOv
  rw [Bool.not_eq_true', List.isEmpty_eq_false_iff_exists_mem]
  simp only [mem_ovl]
theorem any_has {T : Tr} {x : Int} : anyOv T x 32 = true ↔ ∃ y ∈ ent 32 0 T, hasB y.1 y.2 x = true := by
  rw [any_iff]
  constructor
  · rintro ⟨y, hy, h⟩
    rw [over_has (ent_32 hy).1] at h
    exact ⟨y, hy, h⟩
  · rintro ⟨y, hy, h⟩
    exact ⟨y, hy, by rw [over_has (ent_32 hy).1]; exact h⟩
theorem longest_none {T : Tr} {x b : Int} (h : anyOv T x b = false) : lst (ovl x b 32 0 T) = (0, 0) := by
  unfold anyOv at h
  have : ovl x b 32 0 T = [] := by simpa using h
  rw [this]
  rfl
end Go.Proofs.Ytbfkpapankgndaa
