/-
  In which order sweeps ask: the order by when they are due, and by their places; that a stable insertion sort of the places makes it. Plain theorems; no condition but those that each one names.
-/
import Derived.Test.YtenolbgadlehpaaClk
import Derived.Sort.LotA
import Derived.Sort.WalkA
set_option linter.unusedSimpArgs false
set_option linter.unusedVariables false
namespace Go.Proofs.Ytenolbgadlehpaa
open Go.Sort

section
variable {α : Type} [Inhabited α] {lt1 lt2 : α → α → Bool} {r : α → α → Prop}
theorem ins_eq (hlt : ∀ x y, r y x → lt1 x y = lt2 x y) (a : Nat) : ∀ (j : Nat) (d : Array α), j < d.size → (∀ k, k < j → r d[k]! d[j]!) → insInner lt1 a j d = insInner lt2 a j d
  | 0, d, _, _ => rfl
  | j + 1, d, hj, hr => by
    have h1 := hlt _ _ (hr j (by omega))
    simp only [insInner, h1]
    split
    · refine ins_eq hlt a j (swp d (j + 1) j) (by rw [size_swp]; omega) fun k hk => ?_
      rw [swp_right d (j + 1) j (by omega), swp_other d (j + 1) j k (by omega) (by omega)]
      exact hr k (by omega)
    · rfl
theorem ins_from (a : Nat) : ∀ (j : Nat) (d : Array α), j < d.size → (insInner lt1 a j d).size = d.size ∧ (∀ p, j < p → (insInner lt1 a j d)[p]! = d[p]!) ∧ (∀ p, p ≤ j → ∃ q, q ≤ j ∧ (insInner lt1 a j d)[p]! = d[q]!)
  | 0, d, _ => ⟨rfl, fun _ _ => rfl, fun p hp => ⟨p, hp, rfl⟩⟩
  | j + 1, d, hj => by
    simp only [insInner]
    split
    · obtain ⟨i1, i2, i3⟩ := ins_from a j (swp d (j + 1) j) (by rw [size_swp]; omega)
      refine ⟨by rw [i1, size_swp], fun p hp => ?_, fun p hp => ?_⟩
      · rw [i2 p (by omega), swp_other d (j + 1) j p (by omega) (by omega)]
      · by_cases he : p = j + 1
        · subst he
          rw [i2 (j + 1) (by omega), swp_left d (j + 1) j (by omega) (by omega)]
          exact ⟨j, by omega, rfl⟩
        · obtain ⟨q, hq, e⟩ := i3 p (by omega)
          rw [e]
          by_cases hqj : q = j
          · subst hqj
            rw [swp_right d (q + 1) q (by omega)]
            exact ⟨q + 1, by omega, rfl⟩
          · rw [swp_other d (j + 1) j q (by omega) hqj]
            exact ⟨q, by omega, rfl⟩
    · exact ⟨rfl, fun _ _ => rfl, fun p hp => ⟨p, hp, rfl⟩⟩
theorem out_eq (hlt : ∀ x y, r y x → lt1 x y = lt2 x y) (a b : Nat) : ∀ (n i : Nat) (d : Array α), b - i = n → b ≤ d.size → (∀ p q, p < q → q < b → i ≤ q → r d[p]! d[q]!) → insOuter lt1 a b i d = insOuter lt2 a b i d
  | 0, i, d, hn, _, _ => by rw [insOuter_stop _ _ _ _ _ (by omega), insOuter_stop _ _ _ _ _ (by omega)]
  | n + 1, i, d, hn, hb, hr => by
    have hib : i < b := by omega
    obtain ⟨s1, s2, s3⟩ := ins_from (lt1 := lt2) a i d (by omega)
    rw [insOuter_go _ _ _ _ _ hib, insOuter_go _ _ _ _ _ hib, ins_eq hlt a i d (by omega) (fun k hk => hr k i hk hib (Nat.le_refl _))]
    refine out_eq hlt a b n (i + 1) _ (by omega) (by rw [s1]; exact hb) fun p q hpq hq hiq => ?_
    rw [s2 q (by omega)]
    by_cases hp : p ≤ i
    · obtain ⟨p', hp', e⟩ := s3 p hp
      rw [e]
      exact hr p' q (by omega) hq (by omega)
    · rw [s2 p (by omega)]
      exact hr p q hpq hq (by omega)
theorem sort_eq (hlt : ∀ x y, r y x → lt1 x y = lt2 x y) (d : Array α) (hr : ∀ p q, p < q → q < d.size → r d[p]! d[q]!) : insertionSort lt1 d 0 d.size = insertionSort lt2 d 0 d.size :=
  out_eq hlt 0 d.size _ 1 d rfl (Nat.le_refl _) fun p q hpq hq _ => hr p q hpq hq
end

/-- When a sweep of a row is due. -/
def du (xs : List Sw) (i : Nat) : Int := (xs[i]?.getD zw).d
theorem du_at {xs : List Sw} {i : Nat} {x : Sw} (h : xs[i]? = some x) : du xs i = x.d := by unfold du; rw [h]; rfl
/-- Which of two sweeps asks first. -/
def lx (xs : List Sw) (i j : Nat) : Bool := decide (du xs i < du xs j) || (decide (du xs i = du xs j) && decide (i < j))
theorem lx_iff {xs : List Sw} {i j : Nat} : lx xs i j = true ↔ du xs i < du xs j ∨ (du xs i = du xs j ∧ i < j) := by simp [lx]
theorem lx_trans {xs : List Sw} {i j k : Nat} (h : lx xs i j = true) (g : lx xs j k = true) : lx xs i k = true := by rw [lx_iff] at *; omega
theorem lx_irr (xs : List Sw) (i : Nat) : lx xs i i = false := by simp [lx]
theorem lx_tot {xs : List Sw} {i j : Nat} (h : lx xs i j = false) (hne : i ≠ j) : lx xs j i = true := by
  rw [lx_iff]
  have : ¬ lx xs i j = true := by rw [h]; simp
  rw [lx_iff] at this
  omega
theorem lx_asym {xs : List Sw} {i j : Nat} (h : lx xs i j = true) : lx xs j i = false := by
  rw [Bool.eq_false_iff]
  intro g
  have := lx_trans h g
  rw [lx_irr] at this; cases this
/-- The places of the sweeps that are due, in the order in which they ask. -/
structure IsO (xs : List Sw) (now : Int) (ys : List Nat) : Prop where
  pw : ys.Pairwise fun i j => lx xs i j = true
  mem : ∀ i, i ∈ ys ↔ i < xs.length ∧ du xs i ≤ now
theorem pw_unique {xs : List Sw} : ∀ {ys zs : List Nat}, ys.Pairwise (fun i j => lx xs i j = true) → zs.Pairwise (fun i j => lx xs i j = true) → (∀ i, i ∈ ys ↔ i ∈ zs) → ys = zs
  | [], [], _, _, _ => rfl
  | [], z :: zs, _, _, h => by have := (h z).2 (by simp); simp at this
  | y :: ys, [], _, _, h => by have := (h y).1 (by simp); simp at this
  | y :: ys, z :: zs, hy, hz, h => by
    rw [List.pairwise_cons] at hy hz
    have e : y = z := by
      rcases List.mem_cons.1 ((h y).1 (by simp)) with e | e
      · exact e
      · rcases List.mem_cons.1 ((h z).2 (by simp)) with e' | e'
        · exact e'.symm
        · have a := hz.1 y e
          have b := lx_asym (hy.1 z e')
          rw [a] at b; cases b
    subst e
    refine congrArg (y :: ·) (pw_unique hy.2 hz.2 fun i => ⟨fun hi => ?_, fun hi => ?_⟩)
    · rcases List.mem_cons.1 ((h i).1 (List.mem_cons_of_mem _ hi)) with e | e
      · subst e
        have := hy.1 i hi
        rw [lx_irr] at this; cases this
      · exact e
    · rcases List.mem_cons.1 ((h i).2 (List.mem_cons_of_mem _ hi)) with e | e
      · subst e
        have := hz.1 i hi
        rw [lx_irr] at this; cases this
      · exact e
theorem IsO.unique {xs : List Sw} {now : Int} {ys zs : List Nat} (h : IsO xs now ys) (g : IsO xs now zs) : ys = zs :=
  pw_unique h.pw g.pw fun i => by rw [h.mem, g.mem]
def insO (xs : List Sw) (i : Nat) : List Nat → List Nat
  | [] => [i]
  | j :: r => if lx xs i j = true then i :: j :: r else j :: insO xs i r
theorem mem_insO (xs : List Sw) (i k : Nat) : ∀ l, k ∈ insO xs i l ↔ k = i ∨ k ∈ l
  | [] => by simp [insO]
  | j :: r => by
    unfold insO
    split
    · simp
    · rw [List.mem_cons, mem_insO xs i k r, List.mem_cons]
      constructor <;> rintro (h | h | h) <;> simp [h]
theorem pw_insO (xs : List Sw) (i : Nat) : ∀ l : List Nat, l.Pairwise (fun a b => lx xs a b = true) → i ∉ l → (insO xs i l).Pairwise (fun a b => lx xs a b = true)
  | [], _, _ => by simp [insO]
  | j :: r, h, hn => by
    unfold insO
    split
    · rename_i hij
      rw [List.pairwise_cons] at h ⊢
      refine ⟨fun k hk => ?_, by rw [List.pairwise_cons]; exact h⟩
      rcases List.mem_cons.1 hk with rfl | hk
      · exact hij
      · exact lx_trans hij (h.1 k hk)
    · rename_i hij
      rw [List.pairwise_cons] at h ⊢
      refine ⟨fun k hk => ?_, pw_insO xs i r h.2 fun hi => hn (List.mem_cons_of_mem _ hi)⟩
      rcases (mem_insO xs i k r).1 hk with rfl | hk
      · exact lx_tot (by simpa using hij) fun e => hn (by rw [e]; simp)
      · exact h.1 k hk
/-- The due places of the first k, in their own order. -/
def pl (xs : List Sw) (now : Int) (k : Nat) : List Nat := (List.range k).filter fun i => decide (du xs i ≤ now)
theorem pl_succ (xs : List Sw) (now : Int) (k : Nat) : pl xs now (k + 1) = pl xs now k ++ if du xs k ≤ now then [k] else [] := by
  unfold pl
  rw [List.range_succ, List.filter_append]
  congr 1
  by_cases h : du xs k ≤ now <;> simp [h]
theorem pl_mem {xs : List Sw} {now : Int} {k i : Nat} : i ∈ pl xs now k ↔ i < k ∧ du xs i ≤ now := by simp [pl]
theorem pl_len (xs : List Sw) (now : Int) (k : Nat) : (pl xs now k).length ≤ k := by
  have := List.length_filter_le (fun i => decide (du xs i ≤ now)) (List.range k)
  rw [List.length_range] at this
  exact this
theorem pl_pw (xs : List Sw) (now : Int) (k : Nat) : (pl xs now k).Pairwise (· < ·) := List.Pairwise.filter _ List.pairwise_lt_range
def ord (xs : List Sw) (now : Int) : List Nat := (pl xs now xs.length).foldr (insO xs) []
theorem fold_ord (xs : List Sw) : ∀ l : List Nat, l.Pairwise (· < ·) → (l.foldr (insO xs) []).Pairwise (fun a b => lx xs a b = true) ∧ ∀ i, i ∈ l.foldr (insO xs) [] ↔ i ∈ l
  | [], _ => by simp
  | x :: r, h => by
    rw [List.pairwise_cons] at h
    obtain ⟨p, m⟩ := fold_ord xs r h.2
    refine ⟨pw_insO xs x _ p fun hx => ?_, fun i => ?_⟩
    · have := h.1 x ((m x).1 hx)
      omega
    · rw [List.foldr_cons, mem_insO, m, List.mem_cons]
theorem ord_is (xs : List Sw) (now : Int) : IsO xs now (ord xs now) := by
  obtain ⟨p, m⟩ := fold_ord xs (pl xs now xs.length) (pl_pw _ _ _)
  exact ⟨p, fun i => by rw [ord, m, pl_mem]⟩

/-- A place, as one of finitely many. -/
def encF (m : Nat) (i : Fin (m + 1)) : Value := .int .i64 (i.val : Int)
theorem sorted_is {m : Nat} (xs : List Sw) (now : Int) (hm : xs.length = m + 1) (d : Array (Fin (m + 1))) (hd : d.toList.map (·.val) = pl xs now xs.length) :
    (insertionSort (fun x y : Fin (m + 1) => decide (cmpI (du xs x.val) (du xs y.val) < 0)) d 0 d.size).toList.map (·.val) = ord xs now := by
  let lt2 : Fin (m + 1) → Fin (m + 1) → Bool := fun x y => lx xs x.val y.val
  have hget : ∀ p, p < d.size → d[p]!.val = (pl xs now xs.length)[p]?.getD 0 := by
    intro p hp
    rw [← hd, getElem!_pos d p hp, List.getElem?_map, Array.getElem?_toList, Array.getElem?_eq_getElem hp]
    rfl
  have hsz : (pl xs now xs.length).length = d.size := by rw [← hd]; simp
  have hrise : ∀ p q, p < q → q < d.size → (d[p]!).val < (d[q]!).val := by
    intro p q hpq hq
    rw [hget p (by omega), hget q hq]
    have := List.pairwise_iff_getElem.1 (pl_pw xs now xs.length) p q (by omega) (by omega) hpq
    rw [List.getElem?_eq_getElem (by omega), List.getElem?_eq_getElem (by omega)]
    exact this
  have heq : insertionSort (fun x y : Fin (m + 1) => decide (cmpI (du xs x.val) (du xs y.val) < 0)) d 0 d.size = insertionSort lt2 d 0 d.size := by
    refine sort_eq (r := fun x y => x.val < y.val) (fun x y hyx => ?_) d hrise
    show decide (cmpI (du xs x.val) (du xs y.val) < 0) = lx xs x.val y.val
    rw [Bool.eq_iff_iff, lx_iff, decide_eq_true_iff]
    unfold cmpI
    constructor
    · intro h
      split at h
      · left; assumption
      · split at h <;> omega
    · rintro (h | ⟨-, h⟩)
      · rw [if_pos h]; decide
      · omega
  rw [heq]
  have hS : SWO lt2 := ⟨fun x => lx_irr _ _, fun x y z h g => lx_trans h g, fun x y z h g => by
    show lx xs x.val z.val = false
    rw [Bool.eq_false_iff]
    intro hc
    have h1 : ¬ lx xs x.val y.val = true := by rw [show lx xs x.val y.val = false from h]; simp
    have h2 : ¬ lx xs y.val z.val = true := by rw [show lx xs y.val z.val = false from g]; simp
    rw [lx_iff] at hc h1 h2
    omega⟩
  obtain ⟨⟨z1, -, z3⟩, z4⟩ := insertionSort_holds hS d 0 d.size (Nat.zero_le _) (Nat.le_refl _)
  generalize insertionSort lt2 d 0 d.size = s at *
  have hperm : s.toList.Perm d.toList := by
    have e1 : s.extract 0 d.size = s := by rw [← z1]; exact Array.extract_size
    have e2 : d.extract 0 d.size = d := Array.extract_size
    rw [e1, e2] at z3
    exact z3
  have hpv : (s.toList.map (·.val)).Perm (pl xs now xs.length) := by rw [← hd]; exact hperm.map _
  have hnd : (s.toList.map (·.val)).Nodup := hpv.nodup_iff.2 ((pl_pw xs now xs.length).imp fun h => Nat.ne_of_lt h)
  refine pw_unique ?_ (ord_is xs now).pw fun i => ?_
  · rw [List.pairwise_iff_getElem]
    intro i j hi hj hij
    simp only [List.length_map, Array.length_toList] at hi hj
    have := z4 i j (Nat.zero_le _) hij (by rw [← z1]; exact hj)
    rw [getElem!_pos s i hi, getElem!_pos s j hj] at this
    simp only [List.getElem_map, Array.getElem_toList]
    refine lx_tot this fun e => ?_
    have hne := List.pairwise_iff_getElem.1 hnd i j (by simpa using hi) (by simpa using hj) hij
    simp only [List.getElem_map, Array.getElem_toList] at hne
    exact hne e.symm
  · rw [hpv.mem_iff, (ord_is xs now).mem, pl_mem]
end Go.Proofs.Ytenolbgadlehpaa
